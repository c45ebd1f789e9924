/- MatchStays: trees are not changed; the same question has the same answer. The package variables that the row lists read as the program's own text lays them (the card ties them); no other condition. -/
import Derived.Test.YtmepekognmlblaaGreatDoorS49
import Derived.Test.YtmepekognmlblaaGreatDoorTie
import Derived.Test.YtmepekognmlblaaGreatDoorCards
import Derived.Lay
import Derived.SevenTiedAt
import Derived.ChangeOld
import Derived.Carry
import Derived.ShutString
open Go.Proofs.Tryz
namespace Go.Proofs.YtmepekognmlblaaGreatDoor.matchStays
open Go.ChangeShapes Go.WideShapes Go.ChangeAt Go.RowKit
open Go.ChangeMaps (open_string shut_string)
set_option linter.unusedVariables false
theorem own:ownKnob prog.godebug=none:=by kernel_rfl
theorem laidOut:laidOutB prog=true:=by kernel_rfl
set_option maxRecDepth 100000 in
theorem lifted(os:Os)(started:os.Started)(H:Type)(enc:TypeId×Value→H) :
 ReturnsInHanded {} Tryz.checked os 7 .any (fun w args=>(Rows.matchStaysSpec.pre enc prog Tryz.f7 [] false w args∧laidMetH prog Match.Gp w)∧sizedMet enc prog Tryz.f7 (OpenSpec.ofChange Rows.matchStaysSpec) false w args)
  (Rows.matchStaysSpec.post enc prog Tryz.f7 false true false false):=by
 refine returnsInHanded_of_change_and (C:=Tryz.checked) (X:=fun w _=>laidMetH prog Match.Gp w) (fun _ _ _ hh h=>h.of_heap hh) own started χ func7
  (ChangeSpec.witness_shaped (enc:=enc) (C:=Tryz.checked) (os:=os) (X:=fun w _=>laidMetH prog Match.Gp w) false (World.laidAll prog os Match.Gp) #[.agg #[.int .i64 0,.string ByteArray.empty,.string ByteArray.empty,.slice none 0 0],.agg #[.int .i64 0,.string ByteArray.empty,.string ByteArray.empty,.slice none 0 0]] 8 (World.laidAll_os _ _ _)
   (World.shaped_of_ZipB χ χ) χ χ χ
   (by rw[MakeChecks.laidMetH_plain _ _ _ χ];exact laidMet_laidAll _ χ χ)) ?_
 intro W base args ds gs before RG hW _ _ hL _;have hT:=Match.Q1v (by rw[MakeChecks.laidMetH_plain _ _ _ χ]at hL;exact hL);have hval:∀(j:Nat) t v,Tryz.f7.params[j]?=some t→args[j]?=some v→Value.okWide prog W .any base t v:=RG;have hW':=hW;obtain⟨p,q,WZ,hV,rfl,hfz,hnd⟩:=hW;have hA:DataW.TrodAll enc prog W 0 (fun _=>true) true Tryz.f7.params.toList args.toList ds p:=WZ;rw[params7]at hA hval;obtain⟨v0,vs0,d0,ds0,p0,q0,hargs,rfl,rfl,h0,r0⟩:=trodAll_cons hA;obtain⟨v1,vs1,d1,ds1,p1,q1,rfl,rfl,rfl,h1,r1⟩:=trodAll_cons r0;obtain⟨rfl,rfl,rfl⟩:=trodAll_nil r1;obtain rfl:args=#[v0,v1]:=by cases args;simp_all
 obtain⟨rfl,rfl⟩:=trodVars_none hV;have k0:=h0;have lt0:∀x∈p0,x.block<W.heap.size:=by obtain⟨m,hm⟩:=k0;exact DataW.trod_lt m _ _ _ hm
 obtain⟨a0,s0,t0,A0,n0,C0,c0,rfl,EK,hs0,ht0,ZW⟩:=Shape.è (okWide_struct underlying24 (hval 0 24 v0 rfl rfl)) h0;have k1:=h1;have lt1:∀x∈p1,x.block<W.heap.size:=by obtain⟨m,hm⟩:=k1;exact DataW.trod_lt m _ _ _ hm
 obtain⟨a1,s1,t1,A1,n1,C1,c1,rfl,Pe,hs1,ht1,hk1⟩:=Shape.è (okWide_struct underlying24 (hval 1 24 v1 rfl rfl)) h1;clear WZ RG;refine(Match.iF a0 s0 t0 A0 n0 C0 c0 a1 s1 t1 A1 n1 C1 c1 W EK Pe hT.1 hT.2 ZW hk1).mono fun e W' ⟨he,QF⟩=>?_
 subst he;exact⟨_,rfl,_,_,_,[],_,[],hW',trodAll_mk1 (shut_bool underlying4 _),(trodAll_cons_mk (Below.trod laidOut χ (of_decide_eq_true χ) k0 QF lt0) (trodAll_cons_mk (Below.trod laidOut χ (of_decide_eq_true χ) k1 QF lt1) trodAll_mk0)),rfl,QF.frame _,fun h=>by cases h⟩
theorem over:Rows.matchStaysRow.holds Tryz.pinned (OpenSpec.ofChange Rows.matchStaysSpec) :=
 OpenClaim.holds_of_wide 7 Tryz.f7 rfl rfl rfl rfl rfl rfl rfl ⟨rfl,rfl,rfl,rfl,rfl⟩ rfl rfl rfl rfl rfl χ func7 (by kernel_rfl)
  (of_decide_eq_true (by kernel_rfl)) (by unfold Func.isWrapper;first|(rw[if_pos (by decide +kernel)];kernel_rfl)|(rw[if_neg (by decide +kernel)];exact⟨rfl,rfl⟩))
  (fun os started H enc _=>lifted os started H enc)
theorem proved:Rows.MatchStaysCardSaid :=
 Claim7.holds_tied_plain_at .later [] [.data,.data,.data,.data,.data,.pinned] true (true, "437e2602ebd5c37b7f2adaeac45aee46e9984766e608eb1240a5f2b4aac8b1c5") false
  over (fun _ h=>by cases h) (by kernel_rfl) (fun _ h=>by cases h) matchStays_row_tie rfl ⟨rfl,rfl⟩ (by kernel_rfl) rfl
  (fun f fn hf hfn=>by
   obtain rfl:f=7:=Option.some.inj ((show prog.funcNamed "scarf/scarflaw11.MatchStays" = some 7 by kernel_rfl).symm.trans hf) |>.symm
   obtain rfl:fn=Tryz.f7:=(Option.some.inj (func7.symm.trans hfn)).symm
   exact⟨by kernel_rfl,fun j t ht=>by
    rw[params7]at ht;have hm:t∈[24,24]:=by simpa using Array.mem_of_getElem? ht
    have hall:([24,24].all fun u=>!prog.wantsStandIn u)=true:=by kernel_rfl
    exact(show prog.wantsStandIn t=false by simpa using List.all_eq_true.1 hall t hm)⟩)
  (by kernel_rfl)
#print axioms proved
