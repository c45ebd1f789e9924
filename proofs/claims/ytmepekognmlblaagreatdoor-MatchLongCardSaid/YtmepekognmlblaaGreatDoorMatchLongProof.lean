/- MatchLong (scarf/scarflaw11): trees of more nodes than there may be are refused. The package variables that the row lists read as the program's own text lays them (the card ties them); no other condition. The walk lies in YtmepekognmlblaaGreatDoorG47. -/
import Derived.Test.YtmepekognmlblaaGreatDoorG47
import Derived.Test.YtmepekognmlblaaGreatDoorG48
import Derived.Test.YtmepekognmlblaaGreatDoorTie
import Derived.Test.YtmepekognmlblaaGreatDoorCards
import Derived.Lay
import Derived.SevenTiedAt
import Derived.ChangeOld
import Derived.Carry
import Derived.ShutString
open Go.Proofs.Tryz
namespace Go.Proofs.YtmepekognmlblaaGreatDoor.matchLong
open Go.ChangeShapes Go.WideShapes Go.ChangeAt Go.RowKit
open Go.ChangeMaps (open_string shut_string)
set_option linter.unusedVariables false
theorem own:ownKnob prog.godebug=none:=by kernel_rfl
theorem laidOut:laidOutB prog=true:=by kernel_rfl
set_option maxRecDepth 100000 in
theorem lifted(os:Os)(started:os.Started)(H:Type)(enc:TypeId×Value→H) :
 ReturnsInHanded {} Tryz.checked os 8 .any (fun w args=>(Rows.matchLongSpec.pre enc prog Tryz.f8 [] false w args∧laidMetH prog Match.Gp w)∧sizedMet enc prog Tryz.f8 (OpenSpec.ofChange Rows.matchLongSpec) false w args)
  (Rows.matchLongSpec.post enc prog Tryz.f8 false true false false):=by
 refine returnsInHanded_of_change_and (C:=Tryz.checked) (X:=fun w _=>laidMetH prog Match.Gp w) (fun _ _ _ hh h=>h.of_heap hh) own started (by kernel_rfl) func8
  (ChangeSpec.witness_shaped (enc:=enc) (C:=Tryz.checked) (os:=os) (X:=fun w _=>laidMetH prog Match.Gp w) false (World.laidAll prog os Match.Gp) #[.int .i64 0,.bool false] 8 (World.laidAll_os _ _ _)
   (World.shaped_of_ZipB (by kernel_rfl) (by kernel_rfl)) (by kernel_rfl) (by kernel_rfl) (by kernel_rfl)
   (by rw[MakeChecks.laidMetH_plain _ _ _ (by kernel_rfl)];exact laidMet_laidAll _ (by kernel_rfl) (by kernel_rfl))) ?_
 intro W base args ds gs before RG hW _ _ hL _;have hT:=Match.Q1v (by rw[MakeChecks.laidMetH_plain _ _ _ (by kernel_rfl)]at hL;exact hL);have hval:∀(j:Nat) t v,Tryz.f8.params[j]?=some t→args[j]?=some v→Value.okWide prog W .any base t v:=RG;have hW':=hW;obtain⟨p,q,WZ,hV,rfl,hfz,hnd⟩:=hW;have hA:DataW.TrodAll enc prog W 0 (fun _=>true) true Tryz.f8.params.toList args.toList ds p:=WZ;rw[params8]at hA hval;obtain⟨v0,vs0,d0,ds0,p0,q0,hargs,rfl,rfl,h0,r0⟩:=trodAll_cons hA;obtain⟨v1,vs1,d1,ds1,p1,q1,rfl,rfl,rfl,h1,r1⟩:=trodAll_cons r0;obtain⟨rfl,rfl,rfl⟩:=trodAll_nil r1;obtain rfl:args=#[v0,v1]:=by cases args;simp_all
 obtain⟨rfl,rfl⟩:=trodVars_none hV;obtain⟨a0,rfl,rfl,rfl,w0⟩:=open_int underlying3 (hval 0 3 v0 rfl rfl) h0;obtain⟨a1,rfl,rfl,rfl,w1⟩:=open_bool underlying4 (hval 1 4 v1 rfl rfl) h1;clear WZ RG;refine(Go.Proofs.YtmepekognmlblaaGreatDoor.Match.Qdw  a0 a1 W  hT.1 hT.2).mono fun e W' ⟨he,QF⟩=>?_
 subst he;exact⟨_,rfl,_,_,_,[],_,[],hW',trodAll_mk1 (shut_bool underlying4 _),(trodAll_cons_mk (shut_int underlying3 w0) (trodAll_cons_mk (shut_bool underlying4 _) trodAll_mk0)),rfl,QF.frame _,fun h=>by cases h⟩
theorem over:Rows.matchLongRow.holds Tryz.pinned (OpenSpec.ofChange Rows.matchLongSpec) :=
 OpenClaim.holds_of_wide 8 Tryz.f8 rfl rfl rfl rfl rfl rfl rfl ⟨rfl,rfl,rfl,rfl,rfl⟩ rfl rfl rfl rfl rfl (by kernel_rfl) func8 (by kernel_rfl)
  (of_decide_eq_true (by kernel_rfl)) (by unfold Func.isWrapper;first|(rw[if_pos (by decide +kernel)];kernel_rfl)|(rw[if_neg (by decide +kernel)];exact⟨rfl,rfl⟩))
  (fun os started H enc _=>lifted os started H enc)
theorem proved:Rows.MatchLongCardSaid :=
 Claim7.holds_tied_plain_at .later [] [.data,.data,.data,.data,.data,.pinned] true (true, "437e2602ebd5c37b7f2adaeac45aee46e9984766e608eb1240a5f2b4aac8b1c5") false
  over (fun _ h=>by cases h) (by kernel_rfl) (fun _ h=>by cases h) matchLong_row_tie rfl ⟨rfl,rfl⟩ (by kernel_rfl) rfl
  (fun f fn hf hfn=>by
   obtain rfl:f=8:=Option.some.inj ((show prog.funcNamed "scarf/scarflaw11.MatchLong" = some 8 by kernel_rfl).symm.trans hf) |>.symm
   obtain rfl:fn=Tryz.f8:=(Option.some.inj (func8.symm.trans hfn)).symm
   exact⟨by kernel_rfl,fun j t ht=>by
    rw[params8]at ht;have hm:t∈[3,4]:=by simpa using Array.mem_of_getElem? ht
    have hall:([3,4].all fun u=>!prog.wantsStandIn u)=true:=by kernel_rfl
    exact(show prog.wantsStandIn t=false by simpa using List.all_eq_true.1 hall t hm)⟩)
  (by kernel_rfl)
#print axioms proved
