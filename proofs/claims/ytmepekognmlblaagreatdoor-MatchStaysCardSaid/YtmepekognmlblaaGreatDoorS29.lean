import Derived.Test.YtmepekognmlblaaGreatDoorS28
set_option maxHeartbeats 32000000
set_option maxRecDepth 100000
set_option linter.unusedVariables false
open Go.Proofs.Tryz Go.ChangeShapes Go.WideShapes Go.ChangeAt Go.RowKit
open Go.Lib renaming hid→QA
open _root_.List renaming getElem?_map→VP,length_take→JS,length_append→ZU,getElem?_eq_getElem→QN,getD_eq_getElem?_getD→QX,getElem?_eq_none→YP
open _root_.Nat renaming le_refl→QI,lt_of_lt_of_le→VE
open Go.World renaming block_lt_of_cell?→VJ
open Go.Value renaming int→ι,slice→ς,pointer→π,bool→τ,agg→ξ
open Go.IntKind renaming i64→γ
open Go.Obj renaming cells→θ
open Go.Ending renaming returned→ρ
namespace Go.Proofs.YtmepekognmlblaaGreatDoor
namespace Match
open Mem Tree Shape
section
variable {w w':World}{S:Nat→Prop}{gA gB:Nat}{v:Value}{l:List Nat}
theorem Qu.turn(h:Qu w S v l)(hs:∀k,S k→k<w.heap.size∧k≠gA∧k≠gB)(ht:QB gA gB w w'):Qu w' S v l:=by
 obtain⟨A,C,h1,h2,h3,h4⟩:=h;exact⟨A,C,h1,h2,h3,h4.keep fun k hk=>ht.block k (hs k hk).1 (hs k hk).2.1 (hs k hk).2.2⟩
theorem Qu.slice(h:Qu w S v l):∃A C,v=ς A l.length C∧l.length≤C∧C≤9223372036854775807:=by
 obtain⟨A,C,h1,h2,h3,_⟩:=h;unfold maxLen at h3;exact⟨A,C,h1,h2,ω⟩
theorem ou{A:Option Addr}{C lo hi:Nat}(h:Vx w S A ((ints l).map iv))(h1:lo≤hi)(h2:hi≤l.length)(h3:l.length≤C):Vx w S (if C=lo then A else A.map (·.add (lo*1))) ((ints ((l.take hi).drop lo)).map iv):=by
 by_cases he:lo=hi
 ·left
  have:(l.take hi).drop lo=[]:=by rw[List.drop_eq_nil_iff,JS];omega
  rw[this];rfl
 ·rw[if_neg ω];rcases h with h|⟨b,off,rfl,hS,hc⟩
  ·have:l.length=0:=by
    have:=congrArg List.length h;simpa[ints]using this
   omega
  ·right
   refine⟨b,off+lo,?_,hS,fun i u hu=>?_⟩
   ·simp only[Option.map_some,Nat.mul_one];unfold Addr.add;split <;> simp_all
   ·rw[Nat.add_assoc];refine hc (lo+i) u ?_;unfold ints at hu⊢;rw[VP,VP,List.getElem?_drop,List.getElem?_take]at hu;rw[VP,VP];by_cases hi':lo+i<hi
    ·rw[if_pos hi']at hu;exact hu
    ·rw[if_neg hi']at hu;cases hu
theorem œ(W:World):(sizeOf (prog.elem 32)).run prog W=.ok 1 W:=χ
theorem Qu.fromV{A:Option Addr}{n C lo:Nat}(h:Qu w S (ς A n C) l)(hn:l.length=n)(h1:lo≤n):Qu w S (sliced A lo n C 1) (l.drop lo):=by
 obtain⟨A',C',e,q1,q2,q3⟩:=h;injection e with e1 e2 e3;subst e1;subst e3;subst hn;have:=ou (lo:=lo) (hi:=l.length) q3 h1 (Nat.le_refl _) q1;rw[List.take_length]at this;refine⟨_,C-lo,?_,?_,ω,this⟩
 ·unfold sliced;rw[List.length_drop]
 ·rw[List.length_drop];omega
theorem Qbm(b o lo hi C:Nat):sliced (some ⟨b,o,none⟩) lo hi C 1=ς (if C=lo then some ⟨b,o,none⟩else some ⟨b,o+lo,none⟩) (hi-lo) (C-lo):=by
 unfold sliced
 congr 1
 by_cases h:C=lo
 ·rw[if_pos h,if_pos h]
 ·rw[if_neg h,if_neg h];simp only[Option.map_some,Nat.mul_one]
  congr 1
  unfold Addr.add;split <;> simp_all
theorem Qu.TA{A:Option Addr}{n C hi:Nat}(h:Qu w S (ς A n C) l)(hn:l.length=n)(h1:hi≤n):Qu w S (ς A hi C) (l.take hi):=by
 obtain⟨A',C',e,q1,q2,q3⟩:=h;injection e with e1 e2 e3;subst e1;subst e3;subst hn;refine⟨A,C,by rw[JS,Nat.min_eq_left h1],by rw[JS];omega,q2,?_⟩;rcases q3 with q3|⟨b,off,e,hS,hc⟩
 ·left
  have:l=[]:=by unfold ints at q3;simpa using q3
  rw[this];simp[ints]
 ·right
  refine⟨b,off,e,hS,fun i u hu=>hc i u ?_⟩;unfold ints at hu⊢;rw[VP,VP,List.getElem?_take]at hu;rw[VP,VP];by_cases hi':i<hi
  ·rw[if_pos hi']at hu;exact hu
  ·rw[if_neg hi']at hu;cases hu
theorem Qu.sub(h:Qu w S v l){lo hi:Nat}(h1:lo≤hi)(h2:hi≤l.length):∃v',(∀W,(Instr.slice 32 v (some (ι γ (lo:Int))) (some (ι γ (hi:Int))) none).run prog W=.ok v' W)∧Qu w S v' ((l.take hi).drop lo):=by
 obtain⟨A,C,rfl,q1,q2,q3⟩:=h;refine⟨sliced A lo hi C 1,fun W=>?_,_,C-lo,?_,?_,ω,ou q3 h1 h2 q1⟩
 ·rw[run_slice_lh (P:=prog) W 32 A l.length C χ γ γ (lo:Int) (hi:Int) ω ω ω,œ];simp only[Result.andThen_ok,Int.toNat_natCast]
 ·unfold sliced;rw[List.length_drop,JS,Nat.min_eq_left h2]
 ·rw[List.length_drop,JS];omega
theorem Qu.from(h:Qu w S v l){lo:Nat}(h1:lo≤l.length):∃v',(∀W,(Instr.slice 32 v (some (ι γ (lo:Int))) none none).run prog W=.ok v' W)∧Qu w S v' (l.drop lo):=by
 obtain⟨A,C,rfl,q1,q2,q3⟩:=h;have:=ou (lo:=lo) (hi:=l.length) q3 h1 (Nat.le_refl _) q1;rw[List.take_length]at this;refine⟨sliced A lo l.length C 1,fun W=>?_,_,C-lo,?_,?_,ω,this⟩
 ·rw[run_slice_l (P:=prog) W 32 A l.length C χ γ (lo:Int) ω ω,œ];simp only[Result.andThen_ok,Int.toNat_natCast]
 ·unfold sliced;rw[List.length_drop]
 ·rw[List.length_drop];omega
end
def vF:Value→Nat
 | ς _ n _=>n
 |_=>0
variable {w:World}{S:Nat→Prop}{g gA gB:Nat}{a b:Sd}{M:St}
structure RI(w0 wr:World)(S:Nat→Prop)(g gA gB:Nat)(a b:Sd)(M':St)(vx vy:Value)(xs ys:List Nat):Prop where
 ms:MS wr S g gA gB a b M'
 tn:QB gA gB w0 wr
 rx:Qu wr S vx xs
 ry:Qu wr S vy ys
 hx:∀x∈xs,x<a.n
 hy:∀y∈ys,y<b.n
 lx:xs.length≤20000
 ly:ys.length≤20000
theorem RI.drewN{w0 wr:World}{M':St}{vx vy:Value}{xs ys:List Nat}(h:RI w0 wr S g gA gB a b M' vx vy xs ys)(q:Nat):RI w0 (wr.drewN q) S g gA gB a b M' vx vy xs ys :=
 ⟨h.ms.drewN q,h.tn.trans (QB.drewN wr q),h.rx,h.ry,h.hx,h.hy,h.lx,h.ly⟩
theorem RI.later{w0 wr w':World}{M':St}{vx vy:Value}{xs ys:List Nat}(h:RI w0 wr S g gA gB a b M' vx vy xs ys)(hb:Below wr.heap.size wr w'):RI w0 w' S g gA gB a b M' vx vy xs ys :=
 ⟨h.ms.later hb,h.tn.trans (QB.of_below hb),h.rx.turn h.ms.safe (QB.of_below hb),h.ry.turn h.ms.safe (QB.of_below hb),h.hx,h.hy,h.lx,h.ly⟩
theorem RI.turn{w0 wr w':World}{M' DK:St}{vx vy:Value}{xs ys:List Nat}(h:RI w0 wr S g gA gB a b M' vx vy xs ys)(ht:QB gA gB wr w')(hm:MS w' S g gA gB a b DK):RI w0 w' S g gA gB a b DK vx vy xs ys :=
 ⟨hm,h.tn.trans ht,h.rx.turn h.ms.safe ht,h.ry.turn h.ms.safe ht,h.hx,h.hy,h.lx,h.ly⟩
theorem RI.parts{w0 wr:World}{M':St}{vx vy T8 T7:Value}{xs ys xs' ys':List Nat}(h:RI w0 wr S g gA gB a b M' vx vy xs ys)(rx:Qu wr S T8 xs')(ry:Qu wr S T7 ys')(s1:xs'.Sublist xs)(s2:ys'.Sublist ys):RI w0 wr S g gA gB a b M' T8 T7 xs' ys' :=
 ⟨h.ms,h.tn,rx,ry,fun x hx=>h.hx x (s1.subset hx),fun y hy=>h.hy y (s2.subset hy),Nat.le_trans s1.length_le h.lx,Nat.le_trans s2.length_le h.ly⟩
theorem Qlr(M:St)(xs ys:List Nat)(h:xs.length=0∨ys.length=0∨near a b M (xs.getD 0 0) (ys.getD 0 0)≠16):front a b M xs ys=(M,xs,ys):=by
 cases xs with
 |nil=>unfold front;rfl
 |cons x xs =>
  cases ys with
  |nil=>unfold front;rfl
  |cons y ys=>unfold front;rw[if_neg (by rcases h with h|h|h;exact absurd h ψ;exact absurd h ψ;exact h)]
theorem Qls(M:St)(xs ys:List Nat)(h1:0<xs.length)(h2:0<ys.length)(h:near a b M (xs.getD 0 0) (ys.getD 0 0)=16):front a b M xs ys=front a b (QK a b M (xs.getD 0 0) (ys.getD 0 0)) (xs.drop 1) (ys.drop 1):=by
 cases xs with
 |nil=>simp at h1
 |cons x xs =>
  cases ys with
  |nil=>simp at h2
  |cons y ys=>have h':near a b M x y=16:=h;rw[front,if_pos h'];rfl
theorem Qpu(M:St)(xs ys:List Nat)(h:¬(0<xs.length∧0<ys.length∧near a b M (xs.getD (xs.length-1) 0) (ys.getD (ys.length-1) 0)=16)):back a b xs.length M xs ys=(M,xs,ys):=by
 cases hn:xs.length with
 |zero=>rfl
 |succ f=>unfold back;rw[if_neg h]
theorem Qpv(M:St)(xs ys:List Nat)(h:0<xs.length∧0<ys.length∧near a b M (xs.getD (xs.length-1) 0) (ys.getD (ys.length-1) 0)=16) :
 back a b xs.length M xs ys=back a b (xs.take (xs.length-1)).length (QK a b M (xs.getD (xs.length-1) 0) (ys.getD (ys.length-1) 0)) (xs.take (xs.length-1)) (ys.take (ys.length-1)):=by
 obtain⟨f,hf⟩:∃f,xs.length=f+1:=⟨xs.length-1,ω⟩;have e:(xs.take (xs.length-1)).length=f:=by rw[JS];omega
 rw[e];conv=>lhs;rw[hf]
 unfold back;rw[if_pos h];cases f <;> rfl
theorem Qbu(M:St)(f:Nat)(xs ys:List Nat)(h:¬(0<xs.length∧0<ys.length)):pieces a b f M xs ys=M:=by
 cases f with
 |zero=>rfl
 |succ f=>unfold pieces;rw[if_neg h]
theorem Qig(M:St)(f:Nat)(xs ys:List Nat)(h:0<xs.length∧0<ys.length)(hf:xs.length≤f) :
 pieces a b f M xs ys=pieces a b (f-1) (piece a b M (xs.take (min 256 xs.length)) (ys.take (min 256 ys.length))) (xs.drop (min 256 xs.length)) (ys.drop (min 256 ys.length)):=by
 obtain⟨f',rfl⟩:∃f',f=f'+1:=⟨f-1,ω⟩;rw[pieces,if_pos h,Nat.add_sub_cancel]
theorem G5(h:MS w S g gA gB a b M)(hf:Fit a b)(xs ys:List Nat)(vx vy:Value)(hx:∀x∈xs,x<a.n)(hy:∀y∈ys,y<b.n)(rx:Qu w S vx xs)(ry:Qu w S vy ys)(hp:xs.length≤20000)(hq:ys.length≤20000) :
 Calls prog 66 #[π (some ⟨g,0,none⟩),vx,vy] w (Js S g gA gB a b w (YV a b M xs ys)):=by
 have HI:=QA (RI.mk (w0:=w) h (QB.refl gA gB w) rx ry hx hy hp hq);have HF:=QA hf;obtain⟨FR,dB⟩:=Mem.QD (front a b M xs ys);have Hk:=QA dB;have sj:Hid (YV a b M xs ys=(pieces a b (back a b FR.2.1.length FR.1 FR.2.1 FR.2.2).2.1.length (back a b FR.2.1.length FR.1 FR.2.1 FR.2.2).1 (back a b FR.2.1.length FR.1 FR.2.1 FR.2.2).2.1 (back a b FR.2.1.length FR.1 FR.2.1 FR.2.2).2.2)):=by show _=_;rw[←dB];rfl
 generalize YV a b M xs ys=MR at *;clear h hf hx hy rx ry hp hq dB;go_enter func66,ntmps66;go_wp2
 go_loopw [1,2] (fun s1 s2 wr=>∃(M':St)(xs' ys':List Nat),Hid (RI w wr S g gA gB a b M' s1 s2 xs' ys'∧FR=front a b M' xs' ys')) (fun s1 _ _=>vF s1)
 case atStart=>exact⟨M,xs,ys,HI.out,Hk.out.symm⟩
 case round =>
  clear HI Hk;obtain⟨M1,Ls,Hp,H⟩:=hrel;obtain⟨A1,C1,rfl,c1,m1⟩:=H.out.1.rx.slice;obtain⟨A2,C2,rfl,c2,m2⟩:=H.out.1.ry.slice;have hlx:=H.out.1.lx;have SY:=H.out.1.ly;obtain⟨p,hp⟩:=Mem.QD (Ls.length);obtain⟨q,hq⟩:=Mem.QD (Hp.length);have HP:=QA hp;have HQ:=QA hq;rw[hp]at H c1 hlx⊢;rw[hq]at H c2 SY⊢;obtain⟨PU,hcnd⟩:∃PU:Bool,PU=decide (0<p∧0<q∧near a b M1 (Ls.getD 0 0) (Hp.getD 0 0)=16):=⟨_,rfl⟩;have HC:=QA hcnd;have HR:=QA H.out.1;have HE:=QA H.out.2;clear hcnd H hp hq
  go_upto_region 0 with(fail)
  go_cut [26]from 8 to 25 (fun tE W=>tE=τ PU∧Hid (RI w W S g gA gB a b M1 (ς A1 p C1) (ς A2 q C2) Ls Hp))
  case first =>
   by_cases hp0:0<p
   ·by_cases hq0:0<q
    ·obtain⟨gx,ox,Cx,ex,_,_,_,kx⟩:=HR.out.rx.cells (by rw[HP.out];exact hp0);obtain⟨gy,oy,Cy,ey,_,_,_,ky⟩:=HR.out.ry.cells (by rw[HQ.out];exact hq0);injection ex with ex DD DC;injection ey with ey DB DA;subst ex;subst ey;subst DC;subst DA;clear DD DB;have d1:=kx 0 (by rw[HP.out];exact hp0);have d2:=ky 0 (by rw[HQ.out];exact hq0);rw[Nat.add_zero]at d1 d2;have HD:Hid (RI w wr.drew S g gA gB a b M1 (ς (some ⟨gx,ox,none⟩) p C1) (ς (some ⟨gy,oy,none⟩) q C2) Ls Hp):=HR.out.later (Q8 wr);have HN:=QA (fV HD.out.ms HF.out (Ls.getD 0 0) (Hp.getD 0 0) (HR.out.hx _ (QJ (by rw[HP.out];exact hp0))) (HR.out.hy _ (QJ (by rw[HQ.out];exact hq0))));have UO:Hid (PU=((near a b M1 (Ls.getD 0 0) (Hp.getD 0 0):Nat)==16)):=by
      show _=_;rw[HC.out];by_cases e:near a b M1 (Ls.getD 0 0) (Hp.getD 0 0)=16
      ·rw[e,beq_self_eq_true,decide_eq_true_eq];exact⟨hp0,hq0,rfl⟩
      ·rw[beq_eq_false_iff_ne.2 e,decide_eq_false_iff_not];exact fun h=>e h.2.2
     generalize near a b M1 (Ls.getD 0 0) (Hp.getD 0 0)=r at *;generalize Ls.getD 0 0=x at *;generalize Hp.getD 0 0=y at *;clear kx ky HR
     go_still_tail 16,χ
     change wpList _ _ _ _ _ wr.drew;clear d1 d2;generalize wr.drew=wd at *;go_wp2_with fail;refine c₁ HN.out fun w6 VH=>?_;have UF:=QA (HD.out.later VH);clear VH HN HD;by_cases hr:r=16
     ·have hr':((r:Int)==16)=true:=by rw[hr];rfl
      have Tx:Hid (PU=true):=by show _=_;rw[UO.out,hr];rfl
      clear hr;go_wp2
      go_meet
      case rel=>exact⟨by rw[Tx.out],UF⟩
     ·have hr':((r:Int)==16)=false:=by rw[beq_eq_false_iff_ne];omega
      have Tx:Hid (PU=false):=by show _=_;rw[UO.out,beq_eq_false_iff_ne.2 hr]
      clear hr;go_wp2
      go_meet
      case rel=>exact⟨by rw[Tx.out],UF⟩
    ·have hq1:decide (0<q)=false:=decide_eq_false hq0;have Tx:Hid (PU=false):=by show _=_;rw[HC.out,decide_eq_false_iff_not];exact fun h=>hq0 h.2.1
     have Q2a:=hq0;clear hq0
     go_quiet (fail)
     go_wp2
     go_meet
     case rel=>exact c117
   ·have hp1:decide (0<p)=false:=decide_eq_false hp0;have Tx:Hid (PU=false):=by show _=_;rw[HC.out,decide_eq_false_iff_not];exact fun h=>hp0 h.1
    clear hp0
    go_quiet (fail)
    go_wp2
    go_meet
    case rel=>exact c117
  case rest =>
   obtain⟨rfl,XQ⟩:=hcut;obtain⟨w1,rfl⟩:∃w1,w1=wc:=⟨_,rfl⟩;clear HR;cases PU with
   |true =>
    have hc:=HC.out;rw[eq_comm,decide_eq_true_eq]at hc;obtain⟨hp0,hq0,Wj⟩:=hc;obtain⟨gx,ox,Cx,ex,_,_,_,kx⟩:=XQ.out.rx.cells (by rw[HP.out];exact hp0);obtain⟨gy,oy,Cy,ey,_,_,_,ky⟩:=XQ.out.ry.cells (by rw[HQ.out];exact hq0);injection ex with ex DD DC;injection ey with ey DB DA;subst ex;subst ey;subst DC;subst DA;clear DD DB;have d1:=kx 0 (by rw[HP.out];omega);have d2:=ky 0 (by rw[HQ.out];omega);rw[Nat.add_zero]at d1 d2;have HD:Hid (RI w w1.drew S g gA gB a b M1 (ς (some ⟨gx,ox,none⟩) p C1) (ς (some ⟨gy,oy,none⟩) q C2) Ls Hp):=XQ.out.later (Q8 w1);have EO:=QA (J9 HD.out.ms HF.out (Ls.getD 0 0) (Hp.getD 0 0) (XQ.out.hx _ (QJ (by rw[HP.out];omega))) (XQ.out.hy _ (QJ (by rw[HQ.out];omega))));have BJ:=QA (HE.out.trans (Qls M1 Ls Hp (by rw[HP.out];exact hp0) (by rw[HQ.out];exact hq0) Wj));have Sj:Hid (∀W,QB gA gB w1 W→Qu W S (sliced (some ⟨gx,ox,none⟩) 1 p C1 1) (Ls.drop 1)∧Qu W S (sliced (some ⟨gy,oy,none⟩) 1 q C2 1) (Hp.drop 1)):=fun W hW=>⟨(XQ.out.rx.fromV HP.out hp0).turn XQ.out.ms.safe hW,(XQ.out.ry.fromV HQ.out hq0).turn XQ.out.ms.safe hW⟩
    have EB:=QA hp0;generalize Ls.getD 0 0=x at *;generalize Hp.getD 0 0=y at *;have hp1:(0:Int)<(p:Int):=ω
    have hq1:(0:Int)<(q:Int):=ω
    clear kx ky HC HE Wj;go_wp2
    go_still_tail 7,χ
    change wpList _ _ _ _ _ w1.drew;clear d1 d2;generalize hwd:w1.drew=wd at *;have DS:Hid (QB gA gB w1 wd):=by rw[←hwd];exact QB.of_below (Q8 w1)
    clear hwd;go_wp2_with fail;refine EO.out.mono ?_;rintro e w6 ⟨rfl,Sv,TH⟩;have UF:=QA (HD.out.turn Sv TH);have LG:=QA (DS.out.trans Sv);clear Sv TH EO HD DS;go_wp2
    go_quiet (fail)
    go_wp2
    go_roundw
    case rel=>exact⟨_,Ls.drop 1,Hp.drop 1,(UF.out.drewN _).parts (Sj.out _ (LG.out.trans (QB.drewN _ _))).1 (Sj.out _ (LG.out.trans (QB.drewN _ _))).2 (List.drop_sublist _ _) (List.drop_sublist _ _),BJ.out⟩
    case measure=>have:=EB.out;show p-1<p;omega
   |false =>
    have VX:FR=(M1,Ls,Hp):=HE.out.trans (Qlr M1 Ls Hp (by
     have hc:=HC.out;rw[eq_comm,decide_eq_false_iff_not]at hc;rw[HP.out,HQ.out];by_cases h1:p=0
     ·exact .inl h1
     ·by_cases h2:q=0
      ·exact .inr (.inl h2)
      ·exact .inr (.inr fun e=>hc ⟨ω,ω,e⟩)))
    subst VX;obtain⟨BR,dF⟩:=Mem.QD (back a b Ls.length M1 Ls Hp);have uZ:Hid (BR=back a b Ls.length M1 Ls Hp):=dF.symm;have sA:Hid (MR=pieces a b BR.2.1.length BR.1 BR.2.1 BR.2.2):=by show _=_;rw[sj.out,←dF]
    clear HC HE sj dF;go_wp2
    go_loopw [1,2] (fun s1 s2 wr=>∃(M':St)(xs' ys':List Nat),Hid (RI w wr S g gA gB a b M' s1 s2 xs' ys'∧BR=back a b xs'.length M' xs' ys')) (fun s1 _ _=>vF s1)
    case atStart=>exact⟨M1,Ls,Hp,XQ.out,uZ.out⟩
    case round =>
     clear XQ uZ HP HQ hlx SY c1 c2 m1 m2;obtain⟨M2,UR,Lr,H⟩:=hrel;obtain⟨A3,C3,rfl,c1,m1⟩:=H.out.1.rx.slice;obtain⟨A4,C4,rfl,c2,m2⟩:=H.out.1.ry.slice;have hlx:=H.out.1.lx;have SY:=H.out.1.ly;obtain⟨p,hp⟩:=Mem.QD (UR.length);obtain⟨q,hq⟩:=Mem.QD (Lr.length);have HP:=QA hp;have HQ:=QA hq;rw[hp]at c1 hlx⊢;rw[hq]at c2 SY⊢;have HE:=QA H.out.2;have HR:Hid (RI w wr S g gA gB a b M2 (ς A3 p C3) (ς A4 q C4) UR Lr):=by rw[←hp,←hq];exact H.out.1
     obtain⟨t0,ht0⟩:∃t,p-1=t:=⟨_,rfl⟩;obtain⟨t1,ht1⟩:∃t,q-1=t:=⟨_,rfl⟩;have YB:=QA ht0;have GF:=QA ht1;obtain⟨PU,hcnd⟩:∃PU:Bool,PU=decide (0<p∧0<q∧near a b M2 (UR.getD t0 0) (Lr.getD t1 0)=16):=⟨_,rfl⟩;have HC:=QA hcnd;clear hcnd H hp hq ht0 ht1
     go_upto_region 3 with(fail)
     go_cut [63]from 39 to 62 (fun ju W=>ju=τ PU∧Hid (RI w W S g gA gB a b M2 (ς A3 p C3) (ς A4 q C4) UR Lr))
     case first =>
      by_cases hp0:0<p
      ·by_cases hq0:0<q
       ·obtain⟨gx,ox,Cx,ex,_,_,_,kx⟩:=HR.out.rx.cells (by rw[HP.out];exact hp0);obtain⟨gy,oy,Cy,ey,_,_,_,ky⟩:=HR.out.ry.cells (by rw[HQ.out];exact hq0);injection ex with ex DD DC;injection ey with ey DB DA;subst ex;subst ey;subst DC;subst DA;clear DD DB;have d1:=kx t0 (by have:=YB.out;rw[HP.out];omega);have d2:=ky t1 (by have:=GF.out;rw[HQ.out];omega);have w0:IntKind.i64.wrap ((p:Int)-1)=(t0:Int):=by have:=YB.out;rw[IntKind.wrap_i64];omega
        have w1:IntKind.i64.wrap ((q:Int)-1)=(t1:Int):=by have:=GF.out;rw[IntKind.wrap_i64];omega
        have i0:(0:Int)≤(t0:Int):=ω
        have i1:(0:Int)≤(t1:Int):=ω
        have j0:(t0:Int)<(p:Int):=by have:=YB.out;omega
        have j1:(t1:Int)<(q:Int):=by have:=GF.out;omega
        have HD:Hid (RI w wr.drew S g gA gB a b M2 (ς (some ⟨gx,ox,none⟩) p C3) (ς (some ⟨gy,oy,none⟩) q C4) UR Lr):=HR.out.later (Q8 wr);have HN:=QA (fV HD.out.ms HF.out (UR.getD t0 0) (Lr.getD t1 0) (HR.out.hx _ (QJ (by have:=YB.out;rw[HP.out];omega))) (HR.out.hy _ (QJ (by have:=GF.out;rw[HQ.out];omega))));have UO:Hid (PU=((near a b M2 (UR.getD t0 0) (Lr.getD t1 0):Nat)==16)):=by
         show _=_;rw[HC.out];by_cases e:near a b M2 (UR.getD t0 0) (Lr.getD t1 0)=16
         ·rw[e,beq_self_eq_true,decide_eq_true_eq];exact⟨hp0,hq0,rfl⟩
         ·rw[beq_eq_false_iff_ne.2 e,decide_eq_false_iff_not];exact fun h=>e h.2.2
        generalize near a b M2 (UR.getD t0 0) (Lr.getD t1 0)=r at *;generalize UR.getD t0 0=x at *;generalize Lr.getD t1 0=y at *;clear kx ky HR
        go_still_tail 22,χ
        change wpList _ _ _ _ _ wr.drew;clear d1 d2;generalize wr.drew=wd at *;go_wp2_with fail;refine c₁ HN.out fun w6 VH=>?_;have UF:=QA (HD.out.later VH);clear VH HN HD;by_cases hr:r=16
        ·have hr':((r:Int)==16)=true:=by rw[hr];rfl
         have Tx:Hid (PU=true):=by show _=_;rw[UO.out,hr];rfl
         clear hr;go_wp2
         go_meet
         case rel=>exact⟨by rw[Tx.out],UF⟩
        ·have hr':((r:Int)==16)=false:=by rw[beq_eq_false_iff_ne];omega
         have Tx:Hid (PU=false):=by show _=_;rw[UO.out,beq_eq_false_iff_ne.2 hr]
         clear hr;go_wp2
         go_meet
         case rel=>exact⟨by rw[Tx.out],UF⟩
       ·have hq1:decide (0<q)=false:=decide_eq_false hq0;have Tx:Hid (PU=false):=by show _=_;rw[HC.out,decide_eq_false_iff_not];exact fun h=>hq0 h.2.1
        clear hq0
        go_quiet (fail)
        go_wp2
        go_meet
        case rel=>exact c117
      ·have hp1:decide (0<p)=false:=decide_eq_false hp0;have Tx:Hid (PU=false):=by show _=_;rw[HC.out,decide_eq_false_iff_not];exact fun h=>hp0 h.1
       clear hp0
       go_quiet (fail)
       go_wp2
       go_meet
       case rel=>exact c117
     case rest =>
      obtain⟨rfl,XQ⟩:=hcut;obtain⟨w1,rfl⟩:∃w1,w1=wc:=⟨_,rfl⟩;clear HR;cases PU with
      |true =>
       have hc:=HC.out;rw[eq_comm,decide_eq_true_eq]at hc;obtain⟨hp0,hq0,Wj⟩:=hc;obtain⟨gx,ox,Cx,ex,_,_,_,kx⟩:=XQ.out.rx.cells (by rw[HP.out];exact hp0);obtain⟨gy,oy,Cy,ey,_,_,_,ky⟩:=XQ.out.ry.cells (by rw[HQ.out];exact hq0);injection ex with ex DD DC;injection ey with ey DB DA;subst ex;subst ey;subst DC;subst DA;clear DD DB;have d1:=kx t0 (by have:=YB.out;rw[HP.out];omega);have d2:=ky t1 (by have:=GF.out;rw[HQ.out];omega);have w0:IntKind.i64.wrap ((p:Int)-1)=(t0:Int):=by have:=YB.out;rw[IntKind.wrap_i64];omega
       have w1':IntKind.i64.wrap ((q:Int)-1)=(t1:Int):=by have:=GF.out;rw[IntKind.wrap_i64];omega
       have i0:(0:Int)≤(t0:Int):=ω
       have i1:(0:Int)≤(t1:Int):=ω
       have j0:(t0:Int)<(p:Int):=by have:=YB.out;omega
       have j1:(t1:Int)<(q:Int):=by have:=GF.out;omega
       have l0:(t0:Int)≤(C3:Int):=ω
       have l1:(t1:Int)≤(C4:Int):=ω
       have HD:Hid (RI w w1.drew S g gA gB a b M2 (ς (some ⟨gx,ox,none⟩) p C3) (ς (some ⟨gy,oy,none⟩) q C4) UR Lr):=XQ.out.later (Q8 w1);have EO:=QA (J9 HD.out.ms HF.out (UR.getD t0 0) (Lr.getD t1 0) (XQ.out.hx _ (QJ (by have:=YB.out;rw[HP.out];omega))) (XQ.out.hy _ (QJ (by have:=GF.out;rw[HQ.out];omega))));have BJ:Hid (BR=back a b (UR.take t0).length (QK a b M2 (UR.getD t0 0) (Lr.getD t1 0)) (UR.take t0) (Lr.take t1)):=by have:=Qpv (a:=a) (b:=b) M2 UR Lr (by rw[HP.out,HQ.out,YB.out,GF.out];exact⟨hp0,hq0,Wj⟩);rw[HP.out,HQ.out,YB.out,GF.out]at this;have h2:=HE.out;rw[HP.out]at h2;exact h2.trans this
       have Sj:Hid (∀W,QB gA gB w1 W→Qu W S (ς (some ⟨gx,ox,none⟩) t0 C3) (UR.take t0)∧Qu W S (ς (some ⟨gy,oy,none⟩) t1 C4) (Lr.take t1)):=fun W hW=>⟨(XQ.out.rx.TA HP.out (by have:=YB.out;omega)).turn XQ.out.ms.safe hW,(XQ.out.ry.TA HQ.out (by have:=GF.out;omega)).turn XQ.out.ms.safe hW⟩
       have EB:=QA hp0;generalize UR.getD t0 0=x at *;generalize Lr.getD t1 0=y at *;clear kx ky HC HE Wj;go_wp2
       go_still_tail 13,χ
       change wpList _ _ _ _ _ w1.drew;clear d1 d2;generalize hwd:w1.drew=wd at *;have DS:Hid (QB gA gB w1 wd):=by rw[←hwd];exact QB.of_below (Q8 w1)
       clear hwd;go_wp2_with fail;refine EO.out.mono ?_;rintro e w6 ⟨rfl,Sv,TH⟩;have UF:=QA (HD.out.turn Sv TH);have LG:=QA (DS.out.trans Sv);clear Sv TH EO HD DS;go_wp2
       go_quiet (fail)
       go_wp2
       go_roundw
       case rel=>exact⟨_,UR.take t0,Lr.take t1,(UF.out.drewN _).parts (Sj.out _ (LG.out.trans (QB.drewN _ _))).1 (Sj.out _ (LG.out.trans (QB.drewN _ _))).2 (List.take_sublist _ _) (List.take_sublist _ _),BJ.out⟩
       case measure=>have:=EB.out;have:=YB.out;show t0<p;omega
      |false =>
       have VX:BR=(M2,UR,Lr):=HE.out.trans (Qpu M2 UR Lr (by have hc:=HC.out;rw[eq_comm,decide_eq_false_iff_not]at hc;rw[HP.out,HQ.out,YB.out,GF.out];exact hc))
       subst VX;have SC:Hid (MR=pieces a b UR.length M2 UR Lr):=sA.out;clear HC HE sA;go_wp2
       go_loopw [1,2] (fun s1 s2 wr=>∃(M':St)(xs' ys':List Nat)(f:Nat),Hid (RI w wr S g gA gB a b M' s1 s2 xs' ys'∧MR=pieces a b f M' xs' ys'∧xs'.length≤f)) (fun s1 _ _=>vF s1)
       case atStart=>exact⟨M2,UR,Lr,UR.length,XQ.out,SC.out,Nat.le_refl _⟩
       case round =>
        clear XQ SC HP HQ hlx SY c1 c2 m1 m2 YB GF;obtain⟨M3,Me,MN,f,H⟩:=hrel;obtain⟨A5,C5,rfl,c1,m1⟩:=H.out.1.rx.slice;obtain⟨A6,C6,rfl,c2,m2⟩:=H.out.1.ry.slice;have hlx:=H.out.1.lx;have SY:=H.out.1.ly;obtain⟨p,hp⟩:=Mem.QD (Me.length);obtain⟨q,hq⟩:=Mem.QD (MN.length);have HP:=QA hp;have HQ:=QA hq;rw[hp]at c1 hlx⊢;rw[hq]at c2 SY⊢;have HE:=QA H.out.2;have HR:Hid (RI w wr S g gA gB a b M3 (ς A5 p C5) (ς A6 q C6) Me MN):=by rw[←hp,←hq];exact H.out.1
        clear H hp hq;by_cases hp0:0<p
        ·by_cases hq0:0<q
         ·obtain⟨gx,ox,Cx,ex,_,_,_,kx⟩:=HR.out.rx.cells (by rw[HP.out];exact hp0);obtain⟨gy,oy,Cy,ey,_,_,_,ky⟩:=HR.out.ry.cells (by rw[HQ.out];exact hq0);injection ex with ex DD DC;injection ey with ey DB DA;subst ex;subst ey;subst DC;subst DA;clear DD DB kx ky;obtain⟨n,hn⟩:=Mem.QD (min 256 p);obtain⟨m,hm⟩:=Mem.QD (min 256 q);have HN:=QA hn;have HM:=QA hm
          have mn:∀W:World,(Builtin.min_ #[3,3] 3 #[ι γ 256,ι γ (p:Int)]).run prog W = .ok (ι γ (n:Int)) W:=fun W=>by
           rw[run_min_int2];congr 2;split <;> omega
          have mm:∀W:World,(Builtin.min_ #[3,3] 3 #[ι γ 256,ι γ (q:Int)]).run prog W = .ok (ι γ (m:Int)) W:=fun W=>by
           rw[run_min_int2];congr 2;split <;> omega
          have e1:(if(p:Int)<256 then(p:Int)else 256)=(n:Int):=by split <;> omega
          have e2:(if(q:Int)<256 then(q:Int)else 256)=(m:Int):=by split <;> omega
          have n0:(0:Int)≤(n:Int):=ω
          have m0:(0:Int)≤(m:Int):=ω
          have n1:(n:Int)≤(C5:Int):=ω
          have m1':(m:Int)≤(C6:Int):=ω
          have n2:(n:Int)≤(p:Int):=ω
          have m2':(m:Int)≤(q:Int):=ω
          have EB:=QA hp0;have ue:=QA hq0;clear hn hm
          go_upto_region 8 with(fail)
          clear mn mm e1 e2;have HD:Hid (RI w wr.drew S g gA gB a b M3 (ς (some ⟨gx,ox,none⟩) p C5) (ς (some ⟨gy,oy,none⟩) q C6) Me MN):=HR.out.later (Q8 wr)
          have HPC:=QA (Qoh HD.out.ms HF.out (Me.take n) (MN.take m) (ς (some ⟨gx,ox,none⟩) n C5) (ς (some ⟨gy,oy,none⟩) m C6) (fun x hx=>HR.out.hx x (List.mem_of_mem_take hx)) (fun y hy=>HR.out.hy y (List.mem_of_mem_take hy)) (HD.out.rx.TA HP.out (by have:=HN.out;omega)) (HD.out.ry.TA HQ.out (by have:=HM.out;omega))
           (by rw[JS,HP.out];have:=HN.out;have:=EB.out;omega) (by rw[JS,HQ.out];have:=HM.out;have:=ue.out;omega) (by rw[JS,HP.out];have:=HN.out;omega) (by rw[JS,HQ.out];have:=HM.out;omega))
          have BJ:Hid (MR=pieces a b (f-1) (piece a b M3 (Me.take n) (MN.take m)) (Me.drop n) (MN.drop m)):=by have:=Qig (a:=a) (b:=b) M3 f Me MN (by rw[HP.out,HQ.out];exact⟨EB.out,ue.out⟩) HE.out.2;rw[HP.out,HQ.out,HN.out,HM.out]at this;exact HE.out.1.trans this
          have HFL:Hid ((Me.drop n).length≤f-1):=by show _≤_;have h1:=HE.out.2;rw[List.length_drop,HP.out];rw[HP.out]at h1;have:=HN.out;have:=EB.out;omega
          have Sj:Hid (∀W,QB gA gB wr W→Qu W S (ς (if C5=n then some ⟨gx,ox,none⟩else some ⟨gx,ox+n,none⟩) (p-n) (C5-n)) (Me.drop n)∧Qu W S (ς (if C6=m then some ⟨gy,oy,none⟩else some ⟨gy,oy+m,none⟩) (q-m) (C6-m)) (MN.drop m)):=fun W hW=>by
           rw[←Qbm,←Qbm];exact⟨(HR.out.rx.fromV HP.out (by have:=HN.out;omega)).turn HR.out.ms.safe hW,(HR.out.ry.fromV HQ.out (by have:=HM.out;omega)).turn HR.out.ms.safe hW⟩
          go_still_tail 7,χ
          change wpList _ _ _ _ _ wr.drew;generalize hwd:wr.drew=wd at *;have DS:Hid (QB gA gB wr wd):=by rw[←hwd];exact QB.of_below (Q8 wr)
          clear hwd HE;go_wp2_with fail;refine HPC.out.mono ?_;rintro e w6 ⟨rfl,Sv,TH⟩;have UF:=QA (HD.out.turn Sv TH);have LG:=QA (DS.out.trans Sv);clear Sv TH HPC HD DS;go_wp2
          go_quiet (fail)
          go_wp2
          go_roundw
          case rel=>exact⟨_,Me.drop n,MN.drop m,f-1,(UF.out.drewN _).parts (Sj.out _ (LG.out.trans (QB.drewN _ _))).1 (Sj.out _ (LG.out.trans (QB.drewN _ _))).2 (List.drop_sublist _ _) (List.drop_sublist _ _),BJ.out,HFL.out⟩
          case measure=>have:=EB.out;have:=HN.out;show p-n<p;omega
         ·have hq1:decide (0<q)=false:=decide_eq_false hq0;have HS:Hid (MR=M3):=HE.out.1.trans (Qbu M3 f Me MN (by rw[HQ.out];exact fun h=>hq0 h.2));clear hq0;go_wp2
          go_end0
          exact⟨rfl,HR.out.tn,by rw[HS.out];exact HR.out.ms⟩
        ·have hp1:decide (0<p)=false:=decide_eq_false hp0;have HS:Hid (MR=M3):=HE.out.1.trans (Qbu M3 f Me MN (by rw[HP.out];exact fun h=>hp0 h.1));clear hp0;go_wp2
         go_end0
         exact⟨rfl,HR.out.tn,by rw[HS.out];exact HR.out.ms⟩
end Match
namespace Match
open Mem Tree Shape
theorem Qwv{P:Program}{T E:TypeId}{i0:TypeInfo}{z:Value}{sz Hd:Nat}{w1:World}{B:Nat}{R:List QC}{i n g c:Nat}{v:Value}{xs cs:List Value}{ops:Array Oper}{rest:List Oper}{o:Oper}{a:Act}{Q:Exit→Act→World→Prop}(hF:QH w1 B R)(hi:R[i]?=some (Qb E sz v n xs))(hgd:o.guard=none)(s x:Operand)
 (ho:o.op=.call { callee:=.builtin .append,args:=#[s,x],argTypes:=#[T,T] }) (hT:P.underlying T=some (.slice E)) (hi0:P.info? E=some i0) (hz0:i0.zero=some z) (hz1:i0.size=sz) (hz2:i0.bytes=Hd) (Np:z.cells.size=sz) (hsz:0<sz) (hby:Hd≤1000)
 (hl:cs.length=sz) (hc:∀j u,cs[j]?=some u→w1.cell? ⟨g,j,none⟩=some u) (h1:∀u∈cs,u.oneCell'=true) (hn:n≤10000000) (hs:a.eval s=v) (hx:a.eval x=ς (some ⟨g,0,none⟩) 1 c)
 (h:∀A C w',QH w' B (R.set i (Qb E sz (ς A (n+1) C) (n+1) (xs++cs)))→Below B w1 w'→w1.grownBy w' v.ownBlock→wpList P ops Q rest (a.put o.dst (ς A (n+1) C)) w'):wpList P ops Q (o::rest) a w1:=by
 obtain⟨v',w',hr,hf,hb',hg,_⟩:=hF.VT (P:=P) (T:=T) (g:=g) (c:=c) (cs:=cs) hi o.type hT hi0 hz0 hz1 hz2 Np hsz hby hl hc h1 hn;have hlt:i<R.length:=(List.getElem?_eq_some_iff.1 hi).1;obtain⟨A,C,rfl,_,_⟩:=hf.slice (i:=i) (List.getElem?_set_self hlt);exact Y8 hgd s x ho hs hx hr (h A C w' hf hb' hg)
theorem oh:(prog.info? 40).map (fun i=>(i.zero,i.size,i.bytes))=some (some (ξ #[ι γ 0,ι γ 0]),2,16):=χ
def toP(l:List NP):List P2:=l.map fun p=>(((p.1:Nat):Int),((p.2:Nat):Int))
theorem Uk(l:List NP):(toP l).length=l.length:=by simp[toP]
theorem yC{l:List NP}{i:Nat}(h:i<l.length):(toP l)[i]?=some (((l.getD i (0,0)).1:Int),((l.getD i (0,0)).2:Int)):=by
 unfold toP;rw[VP,QX,QN h];rfl
def K9(n:Nat):Array Value:=(List.replicate (n*2) (ι γ 0)).toArray
theorem Qlf(n:Nat)(hn:n≤1000000)(w:World):(Instr.makeSlice 27 (ι γ (n:Int)) (ι γ (n:Int))).run prog w=.ok (ς (some ⟨w.heap.size,0,none⟩) n n) (w.alloc (θ (K9 n) 40)):=by
 obtain⟨i0,hi0,hz0,hz1,hz2⟩:=info_parts oh;have h:=run_make (P:=prog) w 27 40 i0 (ξ #[ι γ 0,ι γ 0]) underlying27 hi0 hz0 γ γ n n ω (Int.le_refl _) (by rw[hz2];omega) ω;rw[h];simp only[Int.toNat_natCast]
 congr 2
 have:madeCells (ξ #[ι γ 0,ι γ 0]).cells (n*i0.size)=K9 n:=by
  rw[hz1];unfold K9;apply Array.ext
  ·simp[madeCells]
  ·intro i h1 h2;have h3:i%2=0∨i%2=1:=ω
   rcases h3 with h3|h3 <;> simp[madeCells,Value.cells,h3]
 rw[this]
def Lu(l:List NP):List Value:=l.flatMap fun p=>[ι γ ((p.1:Nat):Int),ι γ ((p.2:Nat):Int)]
theorem ü:∀l:List NP,(Lu l).length=l.length*2
 |[]=>rfl
 |p::r=>by unfold Lu;rw[List.flatMap_cons,ZU];have:=ü r;unfold Lu at this;rw[this];simp;omega
theorem fC:∀l:List NP,Lu l=(toP l).flatMap Fb
 |[]=>rfl
 |p::r=>by
  have:=fC r;unfold Lu toP at this⊢;rw[List.flatMap_cons,List.map_cons,List.flatMap_cons,this];rfl
theorem Qr3(k:Nat)(out:List NP)(p:NP):((Lu (List.replicate (k+1) (0,0)++out)).set (k*2) (ι γ ((p.1:Nat):Int))).set (k*2+1) (ι γ ((p.2:Nat):Int))=Lu (List.replicate k (0,0)++p::out):=by
 have e:Lu (List.replicate (k+1) (0,0)++out)=Lu (List.replicate k (0,0))++(ι γ 0::ι γ 0::Lu out):=by rw[List.replicate_succ',List.append_assoc];unfold Lu;rw[List.flatMap_append];rfl
 have e2:Lu (List.replicate k (0,0)++p::out)=Lu (List.replicate k (0,0))++(ι γ ((p.1:Nat):Int)::ι γ ((p.2:Nat):Int)::Lu out):=by unfold Lu;rw[List.flatMap_append];rfl
 have hl:(Lu (List.replicate k ((0,0):NP))).length=k*2:=by rw[ü,List.length_replicate]
 rw[e,e2,List.set_append_right _ _ ω,hl,Nat.sub_self,List.set_cons_zero,List.set_append_right _ _ ω,hl,Nat.add_sub_cancel_left];rfl
theorem Qnq(n:Nat):(K9 n).toList=Lu (List.replicate n (0,0)):=by
 unfold K9 Lu
 induction n with
 |zero=>rfl
 |succ n ih=>rw[List.replicate_succ (n:=n),List.flatMap_cons,←ih,show(n+1)*2=n*2+1+1 by omega,List.replicate_succ,List.replicate_succ];rfl
variable {w:World}
theorem Qwt(g1 g2 g6:Nat)(A:Option Addr)(n C:Nat)(l:List NP)(ends:List Nat)(ge:Nat)(Ce:Nat)(y0 y:Nat)(W:World)(hl:Qm W (fun b=>True) (ς A n C) (toP l))(hn:l.length=n)
 (c1:W.cell? ⟨g1,0,none⟩=some (ς A n C)) (c2:W.cell? ⟨g2,0,none⟩=some (ς (some ⟨ge,0,none⟩) ends.length Ce)) (c6:W.cell? ⟨g6,1,none⟩=some (ι γ (y:Int)))
 (he:∀k,k<ends.length→W.cell? ⟨ge,k,none⟩=some (ι γ ((ends.getD k 0:Nat):Int))) (hlt:∀k,k<ends.length→ends.getD k 0<n) (k:Nat) (hk:k<ends.length) :
 Calls prog 95 #[ι γ (k:Int),π (some ⟨g1,0,none⟩),π (some ⟨g2,0,none⟩),π (some ⟨g6,0,none⟩)] W fun e w'=>e=ρ (τ (decide (y<sn l (ends.getD k 0))))∧∃q,w'=W.drewN q:=by
 have d1:=he k hk;have hlk:=hlt k hk;obtain⟨bp,op,rfl,_,d2,d3⟩:=hl.at_ (yC (by omega:ends.getD k 0<l.length));have HV:Hid (sn l (ends.getD k 0)=(l.getD (ends.getD k 0) (0,0)).2):=rfl;simp only at d2 d3;generalize sn l (ends.getD k 0)=z at *;generalize(l.getD (ends.getD k 0) (0,0)).2=z' at *;obtain rfl:z=z':=HV.out;generalize(l.getD (ends.getD k 0) (0,0)).1=z1 at *;generalize ends.getD k 0=e at *;generalize ends.length=m at *;have k0:(0:Int)≤(k:Int):=ω
 have k1:(k:Int)<(m:Int):=ω
 have e0:(0:Int)≤(e:Int):=ω
 have e1:(e:Int)<(n:Int):=ω
 clear he hlt hl HV hn;go_enter func95,ntmps95;go_wp2
 go_quiet (fail)
 go_wp2;go_ret;exact⟨by first|rfl|(congr 2;rw[decide_eq_decide];omega),_,rfl⟩
theorem Qkb(l:List NP)(ends:List Nat)(y:Nat):(List.range ends.length).countP (fun k => !decide (y<sn l (ends.getD k 0)))=NH l ends y:=by
 have h:ends=(List.range ends.length).map fun k=>ends.getD k 0:=by
  apply List.ext_getElem?;intro i;by_cases hi:i<ends.length
  ·rw[VP,List.getElem?_range hi];show _=some (ends.getD i 0);rw[QX,QN hi];rfl
  ·rw[YP ω,YP (by simp;omega)]
 unfold NH;conv=>rhs;rw[h]
 rw[List.countP_map]
 congr 1
 funext k
 show(!decide (y<sn l (ends.getD k 0)))=decide (sn l (ends.getD k 0)≤y);generalize sn l (ends.getD k 0)=q;by_cases h2:y<q
 ·rw[decide_eq_true h2,decide_eq_false ω];rfl
 ·rw[decide_eq_false h2,decide_eq_true ω];rfl
open Go.Sort in
theorem Qkn(g1 g2 g6 B:Nat)(A Ae:Option Addr)(n C Ce:Nat)(l:List NP)(ends:List Nat)(y0 y:Nat)(W:World)(hl:Qm W (Lo B) (ς A n C) (toP l))(hB:B≤W.heap.size)(hn:l.length=n)
 (c1:W.cell? ⟨g1,0,none⟩=some (ς A n C)) (c2:W.cell? ⟨g2,0,none⟩=some (ς Ae ends.length Ce)) (c6:W.cell? ⟨g6,1,none⟩=some (ι γ (y:Int)))
 (he:0<ends.length→∃ge,Ae=some ⟨ge,0,none⟩∧(∀k,k<ends.length→W.cell? ⟨ge,k,none⟩=some (ι γ ((ends.getD k 0:Nat):Int))∧W.frozen? ⟨ge,k,none⟩=false)) (hlt:∀e∈ends,e<n) (hup:ends.Pairwise fun p q=>sn l p<sn l q) (hsz:ends.length≤20000) :
 Calls prog 94 #[ι γ (ends.length:Int),.func (.func 95) #[] #[π (some ⟨g1,0,none⟩),π (some ⟨g2,0,none⟩),π (some ⟨g6,0,none⟩)]] W fun e w'=>e=ρ (ι γ ((NH l ends y:Nat):Int))∧Below W.heap.size W w':=by
 refine(Tryz.YT 95 #[π (some ⟨g1,0,none⟩),π (some ⟨g2,0,none⟩),π (some ⟨g6,0,none⟩)] ends.length (fun k=>decide (y<sn l (ends.getD k 0))) W (enters_of func95 χ rfl) ω ?_ ?_).mono ?_
 ·intro m os i hi;have hb:=below_grown_sl W.heap.size W m os (QI _);obtain⟨ge,rfl,hc⟩:=he ω;have hp:Qm (grow (W.drewN m) os) (fun _=>True) (ς A n C) (toP l):=(hl.keep fun b hb'=>hb.block b (VE hb' hB)).more fun _ _=>trivial
  refine(Qwt g1 g2 g6 A n C l ends ge Ce y0 y (grow (W.drewN m) os) hp hn ((hb.cell (VJ _ _ c1)).trans c1) ((hb.cell (VJ _ _ c2)).trans c2) ((hb.cell (VJ _ _ c6)).trans c6) (fun k hk=>(hb.cell (VJ _ _ (hc k hk).1)).trans (hc k hk).1) (fun k hk=>?_) i hi).mono ?_
  ·rw[QX,QN hk];exact hlt _ (List.getElem_mem hk)
  ·rintro e w' ⟨rfl,q,rfl⟩;exact⟨rfl,q,#[],by rw[grow_empty]⟩
 ·intro p q PJ hq h;rw[decide_eq_true_eq]at h⊢;rcases Nat.lt_or_eq_of_le PJ with h1|rfl
  ·have h2:=List.pairwise_iff_getElem.1 hup p q ω hq h1;rw[QX,QN (by omega:p<ends.length)]at h;rw[QX,QN hq];exact Nat.lt_trans h h2
  ·exact h
 ·rintro e w' ⟨rfl,q,os,rfl⟩;exact⟨by rw[Qkb],below_grown_sl W.heap.size W q os (QI _)⟩
def LR(g1 g2 g3 n:Nat)(vl ve:Value)(ends before:List Nat):List QC :=
 [Kf 27 g1 [vl],Kf 32 g2 [ve],Qb 3 1 ve ends.length (ends.map nv),Qb 3 1 (ς (some ⟨g3,0,none⟩) n n) n (before.map nv)]
structure LM(w W:World)(g1 g2 g3 n:Nat)(vl:Value)(s:List Nat×List Nat):Prop where
 all:∃ve,QH W w.heap.size (LR g1 g2 g3 n vl ve s.1 s.2)
 QF:Below w.heap.size w W
section
variable {W W':World}{g1 g2 g3 n:Nat}{vl:Value}{s:List Nat×List Nat}
theorem LM.later(h:LM w W g1 g2 g3 n vl s)(hb:Below W.heap.size W W'):LM w W' g1 g2 g3 n vl s:=by
 obtain⟨ve,hF⟩:=h.all;exact⟨⟨ve,hF.later hb⟩,h.QF.trans (hb.mono h.QF.size)⟩
theorem bL{l:List Nat}{k:Nat}(h:k<l.length):(l.map nv)[k]?=some (ι γ ((l.getD k 0:Nat):Int)):=by
 rw[VP,QX,QN h];rfl
theorem LM.rd(h:LM w W g1 g2 g3 n vl s):W.cell? ⟨g1,0,none⟩=some vl∧∃A C,W.cell? ⟨g2,0,none⟩=some (ς A s.1.length C)∧W.frozen? ⟨g2,0,none⟩=false∧(0<s.1.length→∃ge,A=some ⟨ge,0,none⟩∧(∀k,k<s.1.length→W.cell? ⟨ge,k,none⟩=some (ι γ ((s.1.getD k 0:Nat):Int))∧W.frozen? ⟨ge,k,none⟩=false))∧
 (∀k,k<s.2.length→W.cell? ⟨g3,k,none⟩=some (ι γ ((s.2.getD k 0:Nat):Int))∧W.frozen? ⟨g3,k,none⟩=false):=by
 obtain⟨ve,hF⟩:=h.all;obtain⟨A,C,rfl,_,_⟩:=hF.slice (i:=2) rfl;refine⟨hF.cell (i:=0) rfl (j:=0) rfl,A,C,hF.cell (i:=1) rfl (j:=0) rfl,hF.JO (i:=1) rfl 0,fun h0=>?_,fun k hk=>⟨hF.cell (i:=3) rfl (bL hk),hF.JO (i:=3) rfl k⟩⟩;obtain⟨ge,C',e,_,_⟩:=hF.sliceAt (i:=2) rfl h0;injection e with e1 e2 e3;subst e1;subst e3;exact⟨ge,rfl,fun k hk=>⟨hF.cell (i:=2) rfl (bL hk),hF.JO (i:=2) rfl k⟩⟩
theorem LM.tO(h:LM w W g1 g2 g3 n vl s)(i z:Nat):LM w (W.setCell ⟨g3,i,none⟩ (ι γ ((z:Nat):Int))) g1 g2 g3 n vl (s.1,s.2.set i z):=by
 obtain⟨ve,hF⟩:=h.all;obtain⟨h1,h2⟩:=hF.store (i:=3) rfl i (ι γ ((z:Nat):Int));refine⟨⟨ve,?_⟩,h.QF.trans h2⟩;unfold LR;rw[List.map_set];exact h1
theorem LM.tM(h:LM w W g1 g2 g3 n vl s){ge C:Nat}(hc:W.cell? ⟨g2,0,none⟩=some (ς (some ⟨ge,0,none⟩) s.1.length C))(i z:Nat):LM w (W.setCell ⟨ge,i,none⟩ (ι γ ((z:Nat):Int))) g1 g2 g3 n vl (s.1.set i z,s.2):=by
 obtain⟨ve,hF⟩:=h.all;have nU:ve=ς (some ⟨ge,0,none⟩) s.1.length C:=by have:=hF.cell (i:=1) rfl (j:=0) (u:=ve) rfl;rw[hc]at this;exact(Option.some.inj this).symm
 subst nU;obtain⟨h1,h2⟩:=hF.store (i:=2) rfl i (ι γ ((z:Nat):Int));refine⟨⟨ς (some ⟨ge,0,none⟩) s.1.length C,?_⟩,h.QF.trans h2⟩;unfold LR;rw[List.map_set,List.length_set];exact h1
theorem LM.grow{w1:World}{A:Option Addr}{C z:Nat}{ve:Value}(hF:QH w1 w.heap.size ((LR g1 g2 g3 n vl ve s.1 s.2).set 2 (Qb 3 1 (ς A (s.1.length+1) C) (s.1.length+1) (s.1.map nv++[ι γ ((z:Nat):Int)]))))(hb:Below w.heap.size w w1) :
 w1.frozen? ⟨g2,0,none⟩=false∧(∃u,w1.cell? ⟨g2,0,none⟩=some u)∧LM w (w1.setCell ⟨g2,0,none⟩ (ς A (s.1.length+1) C)) g1 g2 g3 n vl (s.1++[z],s.2):=by
 obtain⟨h1,h2⟩:=hF.store (i:=1) (g:=g2) (n:=1) (c:=1) (xs:=[ve]) (e:=32) (sz:=1) rfl 0 (ς A (s.1.length+1) C);refine⟨hF.JO (i:=1) (g:=g2) (n:=1) (c:=1) (xs:=[ve]) (e:=32) (sz:=1) rfl 0,⟨_,hF.cell (i:=1) (g:=g2) (n:=1) (c:=1) (xs:=[ve]) (e:=32) (sz:=1) rfl (j:=0) rfl⟩,⟨⟨ς A (s.1.length+1) C,?_⟩,hb.trans h2⟩⟩;unfold LR;rw[List.map_append,ZU];exact h1
structure LW(w W:World)(g1 g3 gR n m:Nat)(vl:Value)(bf:List Nat)(row:List NP):Prop where
 all:QH W w.heap.size [Kf 27 g1 [vl],Qb 3 1 (ς (some ⟨g3,0,none⟩) n n) n (bf.map nv),Qb 40 2 (ς (some ⟨gR,0,none⟩) m m) m (Lu row)]
 QF:Below w.heap.size w W
theorem ß{row:List NP}{k:Nat}(h:k<row.length):(Lu row)[k*2]?=some (ι γ (((row.getD k (0,0)).1:Nat):Int))∧(Lu row)[k*2+1]?=some (ι γ (((row.getD k (0,0)).2:Nat):Int)):=by
 rw[fC];exact fk (toP row) k _ (yC h)
theorem LW.start(h:LM w W g1 g2 g3 n vl s)(m:Nat)(hm:m≤1000000):LW w (W.alloc (θ (K9 m) 40)) g1 g3 W.heap.size n m vl s.2 (List.replicate m (0,0)):=by
 obtain⟨ve,hF⟩:=h.all;have h1:QH W w.heap.size [Kf 27 g1 [vl],Qb 3 1 (ς (some ⟨g3,0,none⟩) n n) n (s.2.map nv)] :=
  hF.sub (.cons_cons _ (.cons _ (.cons _ (.cons_cons _ .slnil))))
 have h2:=h1.box (e:=40) (sz:=2) (K9 m) m (by unfold maxLen;omega) (by unfold K9;simp);rw[Qnq]at h2;exact⟨h2,h.QF.trans ((Qz W _).mono h.QF.size)⟩
theorem LW.rd{gR m:Nat}{bf:List Nat}{row:List NP}(h:LW w W g1 g3 gR n m vl bf row):W.cell? ⟨g1,0,none⟩=some vl∧(∀k,k<bf.length→W.cell? ⟨g3,k,none⟩=some (ι γ ((bf.getD k 0:Nat):Int)))∧
 (∀k,k<row.length→W.cell? ⟨gR,k*2,none⟩=some (ι γ (((row.getD k (0,0)).1:Nat):Int))∧W.cell? ⟨gR,k*2+1,none⟩=some (ι γ (((row.getD k (0,0)).2:Nat):Int))∧W.frozen? ⟨gR,k*2,none⟩=false∧W.frozen? ⟨gR,k*2+1,none⟩=false) :=
 ⟨h.all.cell (i:=0) rfl (j:=0) rfl,fun k hk=>h.all.cell (i:=1) rfl (bL hk),fun k hk=>⟨h.all.cell (i:=2) rfl (ß hk).1,h.all.cell (i:=2) rfl (ß hk).2,h.all.JO (i:=2) rfl _,h.all.JO (i:=2) rfl _⟩⟩
theorem LW.put{gR m k:Nat}{bf:List Nat}{out:List NP}(h:LW w W g1 g3 gR n m vl bf (List.replicate (k+1) (0,0)++out))(p:NP) :
 LW w ((W.setCell ⟨gR,k*2,none⟩ (ι γ ((p.1:Nat):Int))).setCell ⟨gR,k*2+1,none⟩ (ι γ ((p.2:Nat):Int))) g1 g3 gR n m vl bf (List.replicate k (0,0)++p::out):=by
 obtain⟨h1,b1⟩:=h.all.store (i:=2) rfl (k*2) (ι γ ((p.1:Nat):Int));obtain⟨h2,b2⟩:=h1.store (i:=2) rfl (k*2+1) (ι γ ((p.2:Nat):Int));refine⟨?_,(h.QF.trans b1).trans b2⟩;rw[←Qr3];exact h2
theorem LW.fin{gR m:Nat}{bf:List Nat}{out:List NP}(h:LW w W g1 g3 gR n m vl bf out)(hm:out.length=m):Qm W (In w.heap.size W.heap.size) (ς (some ⟨gR,0,none⟩) m m) (toP out):=by
 obtain⟨A,C,e,q1,q2⟩:=h.all.slice (i:=2) rfl;injection e with e1 e2 e3;subst e3;have hlt:=h.all.lt (t:=Qb 40 2 (ς (some ⟨gR,0,none⟩) m m) m (Lu out)) ψ (k:=gR) rfl;refine⟨_,_,by rw[Uk,hm],by rw[Uk,hm];exact QI _,q2,.inr ⟨gR,0,rfl,hlt,fun i u hu=>?_⟩⟩;rw[Nat.zero_add];rw[←fC]at hu;exact h.all.cell (i:=2) rfl hu
end
theorem Qiz(l:List NP)(A:Option Addr)(n C:Nat)(w:World)(hl:Qm w (Lo w.heap.size) (ς A n C) (toP l))(hn:l.length=n)(hb:n≤20000)(hd:∀p q,p<q→q<l.length→sn l p≠sn l q) :
 Calls prog 64 #[ς A n C] w fun e w'=>Below w.heap.size w w'∧∃v,e=ρ v∧Qm w' (In w.heap.size w'.heap.size) v (toP (Vo l)):=by
 have HL:=QA hl;have HN:=QA hn;have HLI:Hid (∀i,i≤n→LI l i (Q7 l i)):=fun i hi=>pL hd i ω
 have mk:=Jg n ω ((w.alloc (θ #[ς A n C] 27)).alloc (θ #[ς none 0 0] 32));have b1:=Qz w (θ #[ς A n C] 27);have hst:LM w (((w.alloc (θ #[ς A n C] 27)).alloc (θ #[ς none 0 0] 32)).alloc (θ (iV (List.replicate n 0)).toArray 3)) w.heap.size (w.heap.size+1) (w.heap.size+1+1) n (ς A n C) (Q7 l 0):=by
  have h1:=(QH.nil w).box (e:=27) (sz:=1) #[ς A n C] 1 (by unfold maxLen;omega) rfl;have h2:=h1.box (e:=32) (sz:=1) #[ς none 0 0] 1 (by unfold maxLen;omega) rfl;have h3:=h2.box (e:=3) (sz:=1) (iV (List.replicate n 0)).toArray n (by unfold maxLen;omega) (by simp[Xh]);have h4:=h3.VQ (e:=3) (sz:=1);have hz1:(w.alloc (θ #[ς A n C] 27)).heap.size=w.heap.size+1:=ψ
  have hz2:((w.alloc (θ #[ς A n C] 27)).alloc (θ #[ς none 0 0] 32)).heap.size=w.heap.size+1+1:=ψ
  rw[hz1,hz2]at h4;refine⟨⟨ς none 0 0,h4.perm ?_⟩,((b1.trans ((Qz _ _).mono b1.size))).trans ((Qz _ _).mono (by simp;omega))⟩;unfold LR Q7;simp only[List.nil_append,List.cons_append,List.map_nil,List.length_nil];have e:((List.replicate l.length 0).map nv)=(iV (List.replicate n 0)).toArray.toList:=by rw[hn];unfold iV;rw[List.map_replicate,List.map_replicate];rfl
  rw[e];exact(List.Perm.swap _ _ []).cons _|>.cons _
 have HST:=QA hst;clear hl hn hd hst b1;have hz:((w.alloc (θ #[ς A n C] 27)).alloc (θ #[ς none 0 0] 32)).heap.size=w.heap.size+1+1:=ψ
 rw[hz]at mk;clear hz;go_enter func64,ntmps64
 go_upto_region 3 with(fail)
 have wC:=QA (HST.out);generalize hW:(((w.alloc (θ #[ς A n C] 27)).alloc (θ #[ς none 0 0] 32)).alloc (θ (iV (List.replicate n 0)).toArray 3))=w3 at *;clear hW mk HST;obtain⟨c1,_⟩:=wC.out.rd;go_wp2;clear c1
 go_loopw [16] (fun ED wr=>∃i:Nat,ED=ι γ (i:Int)∧i≤n∧Hid (LM w wr w.heap.size (w.heap.size+1) (w.heap.size+1+1) n (ς A n C) (Q7 l i))) (fun s _=>n-(intOf s).toNat)
 case atStart=>exact⟨0,rfl,Nat.zero_le _,wC⟩
 case round =>
  clear wC;obtain⟨i,rfl,hi,HM⟩:=hrel;by_cases hlt:i<n
  ·have hi0:(0:Int)≤(i:Int):=ω
   have hi1:(i:Int)<(n:Int):=ω
   have hp:Qm wr (Lo w.heap.size) (ς A n C) (toP l):=HL.out.keep fun b hb'=>HM.out.QF.block b hb'
   obtain⟨bp,op,rfl,hbp,d2,d3⟩:=hp.at_ (yC (by rw[HN.out];exact hlt:i<l.length));have HP:Hid (Qm wr (Lo w.heap.size) (ς (some ⟨bp,op,none⟩) n C) (toP l)):=hp;clear hp;simp only at d2 d3;obtain⟨x,hx⟩:=Mem.QD ((l.getD i (0,0)).1);obtain⟨y,hy⟩:=Mem.QD ((l.getD i (0,0)).2);rw[hx]at d2;rw[hy]at d3;have oH:=QA hy;clear hx hy;obtain⟨c1,Ae,Ce,c2,f2,hA,hB⟩:=HM.out.rd;have HA:=QA hA;have HB:=QA hB;clear hA hB
   go_upto_region 6 with(fail)
   have Z':=QA (Qz wr (θ #[ι γ (x:Int),ι γ (y:Int)] 40));have MF:=QA (HM.out.later Z'.out);have uq:Hid (Qm (wr.alloc (θ #[ι γ (x:Int),ι γ (y:Int)] 40)) (Lo w.heap.size) (ς (some ⟨bp,op,none⟩) n C) (toP l)):=HP.out.keep fun b hb'=>Z'.out.block b (VE hb' HM.out.QF.size)
   have c6:(wr.alloc (θ #[ι γ (x:Int),ι γ (y:Int)] 40)).cell? ⟨wr.heap.size,1,none⟩=some (ι γ (y:Int)):=((QH.nil wr).box (e:=40) (sz:=2) #[ι γ (x:Int),ι γ (y:Int)] 1 (by unfold maxLen;omega) rfl).cell (i:=0) rfl (j:=1) rfl;generalize hW1:wr.alloc (θ #[ι γ (x:Int),ι γ (y:Int)] 40)=W1 at *;generalize wr.heap.size=g6 at *;clear hW1 Z' HM HP c1 c2 f2 HA HB d2 d3;clear Ae Ce;obtain⟨c1,Ae,Ce,c2,f2,hA,hB⟩:=MF.out.rd;have Dy:=HLI.out i hi;have Bc:=QA Dy;have HS:=QA (Qkn w.heap.size (w.heap.size+1) g6 w.heap.size (some ⟨bp,op,none⟩) Ae n C Ce l (Q7 l i).1 0 y W1 uq.out MF.out.QF.size HN.out c1 c2 c6 hA (fun e he=>Nat.lt_trans (Dy.lt e he) hlt) Dy.up (Nat.le_trans Dy.le ω));have HA:=QA hA;have HB:=QA hB;have F7:∀(fn:Fn)(first cap:Array Value)(w:World),(Instr.makeFunc fn first cap).run prog w=.ok (.func fn first cap) w:=fun _ _ _ _=>rfl
   clear hA hB Dy;obtain⟨m,hm⟩:=Mem.QD ((Q7 l i).1.length);have TV:=QA hm;have Wp:m≤i:=by rw[←hm];exact Bc.out.le
   rw[hm]at c2;have HS':Hid (Calls prog 94 #[ι γ (m:Int),.func (.func 95) #[] #[π (some ⟨w.heap.size,0,none⟩),π (some ⟨w.heap.size+1,0,none⟩),π (some ⟨g6,0,none⟩)]] W1 fun e w'=>e=ρ (ι γ ((NH l (Q7 l i).1 y:Nat):Int))∧Below W1.heap.size W1 w'):=by rw[←hm];exact HS.out
   have hk:NH l (Q7 l i).1 y≤m:=by rw[←hm];exact List.countP_le_length
   have HK:Hid (Q7 l (i+1)=Y7 l (Q7 l i) i):=rfl;have SF:Hid (NH l (Q7 l i).1 (l.getD i (0,0)).2=NH l (Q7 l i).1 y):=by show _=_;rw[oH.out]
   generalize NH l (Q7 l i).1 y=k at *;clear HS hm;go_wp2_with fail;refine c₁ HS'.out fun w6 VH=>?_;have qZ:=QA (MF.out.later VH);clear VH HS' HA HB c1 c2 f2 c6 MF uq F7
   go_upto_if 26 with(fail)
   go_cut [16]from 16 to 47 (fun ED W=>ED=ι γ (i:Int)∧Hid (LM w W w.heap.size (w.heap.size+1) (w.heap.size+1+1) n (ς (some ⟨bp,op,none⟩) n C) ((Q7 l i).1,if 0<k then(Q7 l i).2.set i ((Q7 l i).1.getD (k-1) 0)else(Q7 l i).2)))
   case first =>
    obtain⟨c1,Ae,Ce,c2,f2,hA,hB⟩:=qZ.out.rd;by_cases ZW:0<k
    ·obtain⟨k',rfl⟩:∃k',k=k'+1:=⟨k-1,ω⟩;obtain⟨ge,rfl,Dz⟩:=hA (by rw[TV.out];omega);obtain⟨d1,_⟩:=Dz k' (by rw[TV.out];omega);obtain⟨d2,d3⟩:=hB i (by rw[Bc.out.lb,HN.out];exact hlt);rw[TV.out]at c2;obtain⟨z,hz⟩:=Mem.QD ((Q7 l i).1.getD k' 0);have HZ:=QA hz;have HG:=QA (qZ.out.tO i z);rw[hz]at d1;clear hA Dz hB ZW hz;generalize(Q7 l i).2.getD i 0=z2 at *;go_wp2
     go_meet
     case rel=>exact⟨rfl,by rw[if_pos (Nat.succ_pos _),Nat.add_sub_cancel,HZ.out];exact HG⟩
    ·obtain rfl:k=0:=ω
     clear hA hB;go_wp2
     go_meet
     case rel=>exact⟨rfl,qZ⟩
   case rest =>
    obtain⟨rfl,Iw⟩:=hcut;obtain⟨bf,LZ⟩:=Mem.QD ((if 0<k then(Q7 l i).2.set i ((Q7 l i).1.getD (k-1) 0)else(Q7 l i).2));rw[LZ]at Iw;have TY:=QA LZ;clear LZ qZ;obtain⟨_,sX,sW,c2,f2,hA,_⟩:=Iw.out.rd;have HA:=QA hA;rw[TV.out]at c2;clear hA;simp only at c2 f2 HA
    go_upto_if 38 with(fail)
    go_cut [16]from 16 to 47 (fun ED W=>ED=ι γ (i:Int)∧Hid (LM w W w.heap.size (w.heap.size+1) (w.heap.size+1+1) n (ς (some ⟨bp,op,none⟩) n C) (if k=m then(Q7 l i).1++[i]else(Q7 l i).1,bf)))
    case first =>
     by_cases Dd:k=m
     ·subst Dd;obtain⟨ve,hF⟩:=Iw.out.all;have nU:ve=ς sX k sW:=by
       have:=hF.cell (i:=1) rfl (j:=0) (u:=ve) rfl;rw[c2]at this;exact(Option.some.inj this).symm
      subst nU;have HF:=QA hF;clear hF;obtain⟨i0,hi0,hz0,hz1,hz2⟩:=info_parts Zq;clear HA f2
      go_upto_region 10 with(fail)
      have zq:Hid (QH wc w.heap.size (LR w.heap.size (w.heap.size+1) (w.heap.size+1+1) n (ς (some ⟨bp,op,none⟩) n C) (ς sX k sW) (Q7 l i).1 bf)):=HF.out;have hk2:(LR w.heap.size (w.heap.size+1) (w.heap.size+1+1) n (ς (some ⟨bp,op,none⟩) n C) (ς sX k sW) (Q7 l i).1 bf)[2]?=some (Qb 3 1 (ς sX k sW) k ((Q7 l i).1.map nv)):=by rw[←TV.out];rfl
      clear HF;go_wp2_with (at_builtin;refine K7 (i:=2) zq.out hk2 rfl _ _ rfl underlying32 hi0 hz0 hz1 hz2 rfl δ rfl _ 1 ψ rfl rfl ω ?_);intro v7 w7 Om VL;obtain⟨A7,C7,rfl,_,_⟩:=Om.slice (i:=2) (List.getElem?_set_self (by show 2<4;omega));obtain⟨f7,⟨u7,hu7⟩,hG⟩:=LM.grow (w:=w) (w1:=w7) (s:=((Q7 l i).1,bf)) (A:=A7) (C:=C7) (z:=i) (by rw[TV.out];exact Om) (Iw.out.QF.trans VL);rw[TV.out]at hG;have HG:=QA hG;clear Om VL hG;go_wp2
      go_meet
      case rel=>exact⟨rfl,by rw[if_pos trivial];exact HG⟩
     ·have Q2v:((k:Int)==(m:Int))=false:=by rw[beq_eq_false_iff_ne];omega
      go_wp2
      go_meet
      case rel=>exact⟨rfl,by rw[if_neg Dd];exact Iw⟩
    case rest =>
     obtain⟨rfl,uC⟩:=hcut;clear Iw HA c2 f2;obtain⟨_,Ae2,Ce2,c2,f2,hA,_⟩:=uC.out.rd;simp only at c2 hA;obtain⟨es,hes⟩:=Mem.QD ((if k=m then(Q7 l i).1++[i]else(Q7 l i).1));have hel:k<es.length:=by
      rw[←hes];split
      ·rw[ZU,TV.out,List.length_singleton];omega
      ·rw[TV.out];omega
     rw[hes]at c2 hA uC;have HES:Hid (Q7 l (i+1)=(es.set k i,bf)):=by show Q7 l (i+1)=_;rw[HK.out];unfold Y7;simp only;rw[SF.out,←TY.out,←hes,TV.out]
     obtain⟨ge,rfl,Dz⟩:=hA ω;obtain⟨d1,d2⟩:=Dz k hel;obtain⟨p,hp⟩:=Mem.QD (es.length);have HG:=QA (uC.out.tM (s:=(es,bf)) c2 k i);rw[hp]at c2 hel;generalize es.getD k 0=z at *;clear hA Dz hes hp;go_wp2
     go_roundw
     case rel=>exact⟨i+1,by go_num,ω,by rw[HES.out];exact HG⟩
     case measure=>simp[intOf];omega
  ·obtain rfl:n=i:=ω
   have hlt':¬(n:Int)<(n:Int):=ω
   clear hlt;obtain⟨c1,Ae,Ce,c2,_,hA,_⟩:=HM.out.rd;have Dy:=HLI.out n (QI _);obtain⟨m,hm⟩:=Mem.QD ((Q7 l n).1.length);rw[hm]at c2 hA;have HR:Hid (Vo l=Yo l (Q7 l n).2 m ((Q7 l n).1.getD (m-1) 0) []):=by show _=_;rw[←hm];unfold Vo;rw[HN.out]
   by_cases hm0:m=0
   ·subst hm0;have P':Hid (Vo l=[]):=by show _=_;rw[HR.out];rfl
    clear hA hm Dy HR;go_wp2;go_ret;exact⟨HM.out.QF,_,rfl,by rw[P'.out];exact⟨none,0,rfl,QI _,by unfold maxLen;omega,.inl rfl⟩⟩
   ·obtain⟨m',rfl⟩:∃m',m=m'+1:=⟨m-1,ω⟩;rw[Nat.add_sub_cancel]at HR;obtain⟨ge,rfl,Dz⟩:=hA ω;obtain⟨d1,_⟩:=Dz m' ω;have lu:m'+1≤n:=by rw[←hm];exact Dy.le
    have hch:Gz l (Q7 l n).2 m' ((Q7 l n).1.getD m' 0):=Dy.ch m' _ (by rw[QX,QN ω];rfl);have zt:=QA hch;have mk:(Instr.makeSlice 27 (ι γ ((m':Int)+1)) (ι γ ((m':Int)+1))).run prog wr=.ok (ς (some ⟨wr.heap.size,0,none⟩) (m'+1) (m'+1)) (wr.alloc (θ (K9 (m'+1)) 40)):=Qlf (m'+1) ω wr;have yR:=QA (LW.start HM.out (m'+1) ω);have II:=QA Dy.lb;generalize(Q7 l n).1.getD m' 0=e at *;have YJ:=Qz wr (θ (K9 (m'+1)) 40);have Tf:=(YJ.cell (VJ _ _ d1)).trans d1;have Lj:=(YJ.cell (VJ _ _ c2)).trans c2;generalize wr.alloc (θ (K9 (m'+1)) 40)=w8 at *;generalize wr.heap.size=gR at *;generalize(Q7 l n).2=bf at *;clear hch Dy hA Dz hm hm0 YJ
    go_upto_region 18 with(fail)
    clear c1 c2 Lj d1 Tf mk HM
    go_loopw [9,10] (fun s9 JQ W=>∃(k e':Nat)(z:Int)(out:List NP),k≤m'+1∧z=(k:Int)-1∧s9=ι γ (e':Int)∧JQ=ι γ z∧out.length=m'+1-k∧Hid (0<k→Gz l bf (k-1) e')∧Hid (Vo l=Yo l bf k e' out)∧Hid (LW w W w.heap.size (w.heap.size+1+1) gR n (m'+1) (ς A n C) bf (List.replicate k (0,0)++out))) (fun _ s _=>(intOf s+1).toNat)
    case atStart=>exact⟨m'+1,e,m',[],QI _,ω,rfl,rfl,ψ,(show _ from fun _=>zt.out),HR,(by show LW _ _ _ _ _ _ _ _ _ _;rw[List.append_nil];exact yR.out)⟩
    case round =>
     clear HR yR zt;obtain⟨k,e',z,out,hk,hz,rfl,rfl,hol,zt,HR,HW⟩:=hrel;by_cases ZW:0<k
     ·obtain⟨k',rfl⟩:∃k',k=k'+1:=⟨k-1,ω⟩;obtain rfl:z=(k':Int):=ω
      have hc:=zt.out ZW;rw[Nat.add_sub_cancel]at hc;have hen:e'<n:=by rw[←HN.out];exact hc.lt
      have UO:Hid (0<k'→Gz l bf (k'-1) (bf.getD e' 0)):=by show _→_;intro h0;obtain⟨k'',rfl⟩:∃k'',k'=k''+1:=⟨k'-1,ω⟩;exact hc.2.2.2
      have hp:Qm wr (Lo w.heap.size) (ς A n C) (toP l):=HL.out.keep fun b hb'=>HW.out.QF.block b hb'
      obtain⟨bp,op,rfl,_,d2,d3⟩:=hp.at_ (yC (by rw[HN.out];exact hen:e'<l.length));simp only at d2 d3;obtain⟨c1,hB,hR⟩:=HW.out.rd;obtain⟨q1,q2,q3,q4⟩:=hR k' (by rw[ZU,List.length_replicate];omega);have q0:=hB e' (by rw[II.out,HN.out];exact hen);have HG:=QA (HW.out.put (l.getD e' (0,0)));have eV:=HG.out.rd.2.1 e' (by rw[II.out,HN.out];exact hen);have YQ:Hid (Vo l=Yo l bf k' (bf.getD e' 0) (l.getD e' (0,0)::out)):=HR;have e0:(0:Int)≤(e':Int):=ω
      have e1:(e':Int)<(n:Int):=ω
      have k1:(k':Int)<((m'+1:Nat):Int):=ω
      obtain⟨p,Hz⟩:=Mem.QD (l.getD e' (0,0));rw[Hz]at d2 d3 HG YQ eV;generalize bf.getD e' 0=e2 at *;generalize(List.replicate (k'+1) (0,0)++out).getD k' (0,0)=pz at *;obtain⟨x,y⟩:=p;simp only at d2 d3 eV;clear Hz hp hc hB hR ZW hz;go_wp2
      go_roundw
      case rel=>exact⟨k',e2,(k':Int)-1,(x,y)::out,ω,rfl,rfl,rfl,by rw[List.length_cons,hol];omega,UO,YQ,HG⟩
      case measure=>simp[intOf]
     ·obtain rfl:k=0:=ω
      have hz':¬(0:Int)≤z:=ω
      clear hz;have NQ:Hid (Vo l=out):=HR;have hfin:=HW.out.fin (by rw[List.replicate_zero,List.nil_append,hol,Nat.sub_zero]);rw[List.replicate_zero,List.nil_append,←NQ.out]at hfin;have Pr:=QA hfin;have ER:=QA HW.out.QF;clear hfin zt HR HW;go_wp2;go_ret;exact⟨ER.out,_,rfl,Pr.out⟩
