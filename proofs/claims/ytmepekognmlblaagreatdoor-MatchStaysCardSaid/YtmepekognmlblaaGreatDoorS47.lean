import Derived.Test.YtmepekognmlblaaGreatDoorS46
set_option maxHeartbeats 32000000
set_option maxRecDepth 100000
set_option linter.unusedVariables false
open Go.ChangeShapes Go.WideShapes Go.ChangeAt Go.RowKit
open Go.Lib renaming hid→QA
open _root_.List renaming setIfInBounds_toArray→ZC,set_cons_succ→ZA,set_cons_zero→QZ
open _root_.Nat renaming zero_add→ZL,lt_of_lt_of_le→VE
open Go.Value renaming string→σ,int→ι,slice→ς,pointer→π,bool→τ,agg→ξ
open Go.IntKind renaming i64→γ
open Go.Obj renaming cells→θ
open Go.Ending renaming returned→ρ
namespace Go.Proofs.YtmepekognmlblaaGreatDoor
namespace Match
open Mem Tree Shape
def NZ:F→Prop
 | .nil=>True
 | .cons k x y c r=>k≠0∧NZ c∧NZ r
theorem Fs.off{w:World}{S:Nat→Prop}{g:Nat}{T:TypeId}(hg:w.heap[g]? = some (θ #[ι γ 0,σ ⟨#[]⟩,σ ⟨#[]⟩,ς none 0 0] T (0,0))):∀{f:F}{v:Value},Fs w S v f→NZ f→Fs w (fun b=>S b∧b≠g) v f
 | .nil,v,h,_=>h
 | .cons k x y c r,v,⟨b,off,n,C,s,e,h1,h2,h3,hS,c0,c1,c2,c3,hk,hr⟩,⟨z0,z1,z2⟩ =>
   ⟨b,off,n,C,s,e,h1,h2,h3,⟨hS,fun q=>by
    subst q;have h:=c0;simp only[World.cell?,hg]at h;rcases off with _|_|_|_|off <;> simp at h
    exact z0 h.symm⟩,c0,c1,c2,c3,Fs.off hg hk z1,fun A' hA=>Fs.off hg (hr A' hA) z2⟩
def Oy(s1 s2:ByteArray)(c1 c2:F):F:=.cons 4 s1 ⟨#[]⟩ c1 (.cons 4 s2 ⟨#[]⟩ c2 .nil)
structure FV(w0:World)(u0 u2:Value)(s1 s2:ByteArray)(c1 c2:F)(L:Nat→Bool)(x:Nat→Value)(W:World):Prop where
 QF:Below w0.heap.size w0 W
 e0:L 0=true→x 0=u0
 e1:L 1=true→L 7=false→Xp W (x 1) 4 s1 c1
 e2:L 2=true→x 2=u2
 e3:L 3=true→L 7=false→Xp W (x 3) 4 s2 c2
 e4:L 4=true→L 7=false→∃g,x 4=ς (some ⟨g,0,none⟩) 2 2∧Fs W (Lo W.heap.size) (ς (some ⟨g,0,none⟩) 2 2) (Oy s1 s2 c1 c2)
 e5:L 5=true→L 7=false→Xp W (x 5) 1 ⟨#[]⟩ (.cons 2 ⟨#[112]⟩ ⟨#[]⟩ .nil (Oy s1 s2 c1 c2))
 e6:L 6=true→L 7=false→∃g,x 6=π (some ⟨g,0,none⟩)∧w0.heap.size≤g∧W.heap[g]?=some (θ #[ι γ 0,σ ⟨#[]⟩,σ ⟨#[]⟩,ς none 0 0] 24 (0,0))
 e7:L 7=true→∃g A n C,x 6=π (some ⟨g,0,none⟩)∧w0.heap.size≤g∧W.heap[g]?=some (θ #[ι γ 1,σ ⟨#[]⟩,σ ⟨#[]⟩,ς A n C] 24 (0,0))∧Fs W (Lo W.heap.size) (ς A n C) (.cons 2 ⟨#[112]⟩ ⟨#[]⟩ .nil (Oy s1 s2 c1 c2))
section
variable {w0 W W':World}{u0 u2:Value}{s1 s2:ByteArray}{c1 c2:F}{L:Nat→Bool}{x:Nat→Value}
theorem FV.start:FV w0 u0 u2 s1 s2 c1 c2 (fun _=>false) x w0.drew :=
 ⟨⟨rfl,rfl,rfl,Nat.le_refl _,fun _ _=>rfl⟩,fun h=>(by cases h),fun h=>(by cases h),fun h=>(by cases h),fun h=>(by cases h),fun h=>(by cases h),fun h=>(by cases h),fun h=>(by cases h),fun h=>(by cases h)⟩
theorem FV.later(h:FV w0 u0 u2 s1 s2 c1 c2 L x W)(hb:Below W.heap.size W W'):FV w0 u0 u2 s1 s2 c1 c2 L x W':=by
 have hk:∀(k:Nat)(o:Obj),W.heap[k]?=some o→W'.heap[k]?=some o:=fun k o e=>(hb.block k (Array.getElem?_eq_some_iff.1 e).1).trans e
 refine⟨h.QF.trans (hb.mono h.QF.size),h.e0,fun q p=>(h.e1 q p).later hb,h.e2,fun q p=>(h.e3 q p).later hb,fun q p=>?_,fun q p=>(h.e5 q p).later hb,fun q p=>?_,fun q=>?_⟩
 ·obtain⟨g,q1,q2⟩:=h.e4 q p;exact⟨g,q1,q2.later hb⟩
 ·obtain⟨g,q1,q2,q3⟩:=h.e6 q p;exact⟨g,q1,q2,hk _ _ q3⟩
 ·obtain⟨g,A,n,C,q1,q2,q3,q4⟩:=h.e7 q;exact⟨g,A,n,C,q1,q2,hk _ _ q3,q4.later hb⟩
theorem FV.Fa(h:FV w0 u0 u2 s1 s2 c1 c2 L x W)(h7:L 7=false):FV w0 u0 u2 s1 s2 c1 c2 (Zh L 0) (Qq x 0 u0) W:=by
 refine⟨h.QF,?_,?_,?_,?_,?_,?_,?_,?_⟩ <;> simp only[Zh,Qq] <;> intro q
 ·exact rfl
 ·exact h.e1 q
 ·exact h.e2 q
 ·exact h.e3 q
 ·exact h.e4 q
 ·exact h.e5 q
 ·exact h.e6 q
 ·simp[h7]at q
theorem FV.EW{v:Value}(h:FV w0 u0 u2 s1 s2 c1 c2 L x W)(h7:L 7=false)(hv:Xp W v 4 s1 c1):FV w0 u0 u2 s1 s2 c1 c2 (Zh L 1) (Qq x 1 v) W:=by
 refine⟨h.QF,?_,?_,?_,?_,?_,?_,?_,?_⟩ <;> simp only[Zh,Qq] <;> intro q
 ·exact h.e0 q
 ·exact fun _=>hv
 ·exact h.e2 q
 ·exact h.e3 q
 ·exact h.e4 q
 ·exact h.e5 q
 ·exact h.e6 q
 ·simp[h7]at q
theorem FV.Nc(h:FV w0 u0 u2 s1 s2 c1 c2 L x W)(h7:L 7=false):FV w0 u0 u2 s1 s2 c1 c2 (Zh L 2) (Qq x 2 u2) W:=by
 refine⟨h.QF,?_,?_,?_,?_,?_,?_,?_,?_⟩ <;> simp only[Zh,Qq] <;> intro q
 ·exact h.e0 q
 ·exact h.e1 q
 ·exact rfl
 ·exact h.e3 q
 ·exact h.e4 q
 ·exact h.e5 q
 ·exact h.e6 q
 ·simp[h7]at q
theorem FV.BZ{v:Value}(h:FV w0 u0 u2 s1 s2 c1 c2 L x W)(h7:L 7=false)(hv:Xp W v 4 s2 c2):FV w0 u0 u2 s1 s2 c1 c2 (Zh L 3) (Qq x 3 v) W:=by
 refine⟨h.QF,?_,?_,?_,?_,?_,?_,?_,?_⟩ <;> simp only[Zh,Qq] <;> intro q
 ·exact h.e0 q
 ·exact h.e1 q
 ·exact h.e2 q
 ·exact fun _=>hv
 ·exact h.e4 q
 ·exact h.e5 q
 ·exact h.e6 q
 ·simp[h7]at q
theorem FV.KD{g:Nat}(h:FV w0 u0 u2 s1 s2 c1 c2 L x W)(h7:L 7=false)(hv:Fs W (Lo W.heap.size) (ς (some ⟨g,0,none⟩) 2 2) (Oy s1 s2 c1 c2)):FV w0 u0 u2 s1 s2 c1 c2 (Zh L 4) (Qq x 4 (ς (some ⟨g,0,none⟩) 2 2)) W:=by
 refine⟨h.QF,?_,?_,?_,?_,?_,?_,?_,?_⟩ <;> simp only[Zh,Qq] <;> intro q
 ·exact h.e0 q
 ·exact h.e1 q
 ·exact h.e2 q
 ·exact h.e3 q
 ·exact fun _=>⟨g,rfl,hv⟩
 ·exact h.e5 q
 ·exact h.e6 q
 ·simp[h7]at q
theorem FV.BX{v:Value}(h:FV w0 u0 u2 s1 s2 c1 c2 L x W)(h7:L 7=false)(hv:Xp W v 1 ⟨#[]⟩ (.cons 2 ⟨#[112]⟩ ⟨#[]⟩ .nil (Oy s1 s2 c1 c2))):FV w0 u0 u2 s1 s2 c1 c2 (Zh L 5) (Qq x 5 v) W:=by
 refine⟨h.QF,?_,?_,?_,?_,?_,?_,?_,?_⟩ <;> simp only[Zh,Qq] <;> intro q
 ·exact h.e0 q
 ·exact h.e1 q
 ·exact h.e2 q
 ·exact h.e3 q
 ·exact h.e4 q
 ·exact fun _=>hv
 ·exact h.e6 q
 ·simp[h7]at q
theorem FV.BW{g:Nat}(h:FV w0 u0 u2 s1 s2 c1 c2 L x W)(h7:L 7=false)(hg:w0.heap.size≤g)(hv:W.heap[g]?=some (θ #[ι γ 0,σ ⟨#[]⟩,σ ⟨#[]⟩,ς none 0 0] 24 (0,0))):FV w0 u0 u2 s1 s2 c1 c2 (Zh L 6) (Qq x 6 (π (some ⟨g,0,none⟩))) W:=by
 refine⟨h.QF,?_,?_,?_,?_,?_,?_,?_,?_⟩ <;> simp only[Zh,Qq] <;> intro q
 ·exact h.e0 q
 ·exact h.e1 q
 ·exact h.e2 q
 ·exact h.e3 q
 ·exact h.e4 q
 ·exact h.e5 q
 ·exact fun _=>⟨g,rfl,hg,hv⟩
 ·simp[h7]at q
theorem FV.jC{g n C:Nat}{A:Option Addr}{v:Value}(h:FV w0 u0 u2 s1 s2 c1 c2 L x W)(hx:x 6=π (some ⟨g,0,none⟩))(hg:w0.heap.size≤g)(h0:L 0=true)(h2:L 2=true)(hw:W'.heap[g]?=some (θ #[ι γ 1,σ ⟨#[]⟩,σ ⟨#[]⟩,ς A n C] 24 (0,0)))(hf:Fs W' (Lo W'.heap.size) (ς A n C) (.cons 2 ⟨#[112]⟩ ⟨#[]⟩ .nil (Oy s1 s2 c1 c2)))(hb:Below w0.heap.size W W'):FV w0 u0 u2 s1 s2 c1 c2 (Zh L 7) (Qq x 7 v) W':=by
 refine⟨h.QF.trans hb,?_,?_,?_,?_,?_,?_,?_,?_⟩ <;> simp only[Zh,Qq] <;> intro q
 ·exact h.e0 q
 ·intro p;cases p
 ·exact h.e2 q
 ·intro p;cases p
 ·intro p;cases p
 ·intro p;cases p
 ·intro p;cases p
 ·exact⟨g,A,n,C,hx,hg,hw,hf⟩
end
theorem Uu(w:World)(hP:Pow w)(hT:Lex.XF w):Calls Tryz.prog 11 #[] w fun e w'=>e = ρ (τ true)∧Below w.heap.size w w':=by
 have b1:=Qz w (θ #[ι γ 26,σ ⟨#[49]⟩,σ ⟨#[]⟩,ς none 0 0] 24);have q:=J6 w 26 ⟨#[49]⟩ ⟨#[]⟩ (ς none 0 0);have b2:=Qz (w.alloc (θ #[ι γ 26,σ ⟨#[49]⟩,σ ⟨#[]⟩,ς none 0 0] 24)) (θ #[ι γ 26,σ ⟨#[50]⟩,σ ⟨#[]⟩,ς none 0 0] 24);have q':=J6 (w.alloc (θ #[ι γ 26,σ ⟨#[49]⟩,σ ⟨#[]⟩,ς none 0 0] 24)) 26 ⟨#[50]⟩ ⟨#[]⟩ (ς none 0 0);have e1:(w.alloc (θ #[ι γ 26,σ ⟨#[49]⟩,σ ⟨#[]⟩,ς none 0 0] 24)).heap.size=w.heap.size+1:=ψ
 rw[e1]at q';have HB:=QA (b1.trans (b2.mono b1.size));have Po:Hid (∀W,Below ((w.alloc (θ #[ι γ 26,σ ⟨#[49]⟩,σ ⟨#[]⟩,ς none 0 0] 24)).alloc (θ #[ι γ 26,σ ⟨#[50]⟩,σ ⟨#[]⟩,ς none 0 0] 24)).heap.size ((w.alloc (θ #[ι γ 26,σ ⟨#[49]⟩,σ ⟨#[]⟩,ς none 0 0] 24)).alloc (θ #[ι γ 26,σ ⟨#[50]⟩,σ ⟨#[]⟩,ς none 0 0] 24)) W→_):=fun W hW=>q W (b2.trans (hW.mono b2.size))
 have Pn:=QA q';have HP:=QA hP;have HT:=QA hT;clear b1 q b2 q' e1 hP hT;go_enter Tryz.func11,Tryz.ntmps11
 go_upto_region 3 with(fail)
 obtain⟨w2,hw2⟩:∃w2,((w.alloc (θ #[ι γ 26,σ ⟨#[49]⟩,σ ⟨#[]⟩,ς none 0 0] 24)).alloc (θ #[ι γ 26,σ ⟨#[50]⟩,σ ⟨#[]⟩,ς none 0 0] 24))=w2:=⟨_,rfl⟩;rw[hw2]at HB Po Pn⊢;clear hw2;refine Z3 (FV w2 (ξ #[ι γ 26,σ ⟨#[49]⟩,σ ⟨#[]⟩,ς none 0 0]) (ξ #[ι γ 26,σ ⟨#[50]⟩,σ ⟨#[]⟩,ς none 0 0]) ⟨#[97]⟩ ⟨#[98]⟩ (.cons 26 ⟨#[49]⟩ ⟨#[]⟩ .nil .nil) (.cons 26 ⟨#[50]⟩ ⟨#[]⟩ .nil .nil)) χ δ χ (fun x=>FV.start) ?steps ?done
 case steps =>
  intro L xv W' hI hcl a ha;simp only[Qi]at ha;simp only[ZC,ZA,QZ,ZL,Nat.reduceAdd]at ha;subst ha;refine⟨?s0,?s1,?s2,?s3,?s4,?s5,?s6,?s7,trivial⟩;all_goals intro hL hd K hK
  all_goals(try simp only[Act.put,ZC,ZA,QZ]at hK)
  case s0=>exact c53
  case s1=>have h7:L 7=false:=(Qh (r:=7) hcl (Qh (r:=5) hcl (Qh (r:=4) hcl hL χ) χ) χ);have hx:xv 0=ξ #[ι γ 26,σ ⟨#[49]⟩,σ ⟨#[]⟩,ς none 0 0]:=hI.e0 (hd 0 χ);clear hd;rw[hx]at hK⊢;refine(if_pos (by rfl)).mpr ?_;have hc:=Kw ⟨#[97]⟩ 26 ⟨#[49]⟩ none 0 0 .nil W' (V6 _ _);exact c106
  case s2=>have h7:L 7=false:=(Qh (r:=7) hcl (Qh (r:=5) hcl (Qh (r:=4) hcl (Qh (r:=3) hcl hL χ) χ) χ) χ);clear hd;refine(if_pos (by rfl)).mpr ?_;obtain⟨p0,p1,p2,p3⟩:=Pn.out W' hI.QF;go_simp;exact hK.out _ _ (hI.Nc h7)
  case s3=>have h7:L 7=false:=(Qh (r:=7) hcl (Qh (r:=5) hcl (Qh (r:=4) hcl hL χ) χ) χ);have hx:xv 2=ξ #[ι γ 26,σ ⟨#[50]⟩,σ ⟨#[]⟩,ς none 0 0]:=hI.e2 (hd 2 χ);clear hd;rw[hx]at hK⊢;refine(if_pos (by rfl)).mpr ?_;have hc:=Kw ⟨#[98]⟩ 26 ⟨#[50]⟩ none 0 0 .nil W' (V6 _ _);exact c107
  case s4=>have h7:L 7=false:=(Qh (r:=7) hcl (Qh (r:=5) hcl hL χ) χ);obtain⟨A5,n5,C5,e5,Mk⟩:=hI.e1 (hd 1 χ) h7;obtain⟨A6,n6,C6,e6,Sy⟩:=hI.e3 (hd 3 χ) h7;clear hd;rw[e5,e6]at hK⊢;refine(if_pos (by rfl)).mpr ?_;go_simp;have hf:=Ê W' 4 4 ⟨#[97]⟩ ⟨#[98]⟩ A5 A6 n5 C5 n6 C6 _ _ Mk Sy;exact hK.out _ _ ((hI.later (Qz W' _)).KD h7 (hf.up ψ))
  case s5=>exact c43
  case s6=>exact c66
  case s7 =>
   have h5:=hd 5 χ;have h6:=hd 6 χ;have h0:L 0=true:=hcl 1 0 (hcl 4 1 (hcl 5 4 h5 χ) χ) χ;have h2:L 2=true:=hcl 3 2 (hcl 4 3 (hcl 5 4 h5 χ) χ) χ;obtain⟨A5,n5,C5,e5,Mk⟩:=hI.e5 h5 hL;obtain⟨g,JR,hg,hbl⟩:=hI.e6 h6 hL;clear hd;rw[e5,JR]at hK⊢;refine(if_pos (by rfl)).mpr ?_;have f0:W'.frozen? ⟨g,0,none⟩=false:=by simp[World.frozen?,hbl]
   have f1:W'.frozen? ⟨g,1,none⟩=false:=by simp[World.frozen?,hbl]
   have f2:W'.frozen? ⟨g,2,none⟩=false:=by simp[World.frozen?,hbl]
   have f3:W'.frozen? ⟨g,3,none⟩=false:=by simp[World.frozen?,hbl]
   have q0:W'.cell? ⟨g,0,none⟩=some (ι γ 0):=by simp[World.cell?,hbl]
   have q1:W'.cell? ⟨g,1,none⟩=some (σ ⟨#[]⟩):=by simp[World.cell?,hbl]
   have q2:W'.cell? ⟨g,2,none⟩=some (σ ⟨#[]⟩):=by simp[World.cell?,hbl]
   have q3:W'.cell? ⟨g,3,none⟩=some (ς none 0 0):=by simp[World.cell?,hbl]
   go_simp;have t1:=Z8 hbl 0 (ι γ 1);have t2:=Z8 t1 1 (σ ⟨#[]⟩);have t3:=Z8 t2 2 (σ ⟨#[]⟩);have t4:=Z8 t3 3 (ς A5 n5 C5);simp only[ZC,ZA,QZ]at t4;have hb4:=((((Below.refl w2.heap.size W').setCell (p:=⟨g,0,none⟩) hg (ι γ 1)).setCell (p:=⟨g,1,none⟩) hg (σ ⟨#[]⟩)).setCell (p:=⟨g,2,none⟩) hg (σ ⟨#[]⟩)).setCell (p:=⟨g,3,none⟩) hg (ς A5 n5 C5);have zZ:=((Fs.off hbl Mk (by simp[NZ,Oy])).keep fun b hb=>(((J5 _ 3 (ς A5 n5 C5) (Ne.symm hb.2)).trans (J5 _ 2 (σ ⟨#[]⟩) (Ne.symm hb.2))).trans (J5 _ 1 (σ ⟨#[]⟩) (Ne.symm hb.2))).trans (J5 W' 0 (ι γ 1) (Ne.symm hb.2))).more fun b hb=>VE hb.1 hb4.size
   exact hK.out undef _ (hI.jC JR hg h0 h2 t4 zZ hb4)
 case done =>
  intro L xv W hI hall a ha;obtain⟨g1,A1,n1,C1,JR,hg1,hb1,Pe⟩:=hI.e7 (hall 7 δ);have ZX:=hI.QF;simp only[Qi]at ha;simp only[ZC,ZA,QZ,ZL,Nat.reduceAdd]at ha;subst ha;rw[JR]
  have vM:Hid (∀V,Below W.heap.size W V→V.cell? ⟨g1,0,none⟩=some (ι γ 1)∧V.cell? ⟨g1,1,none⟩=some (σ ⟨#[]⟩)∧V.cell? ⟨g1,2,none⟩=some (σ ⟨#[]⟩)∧V.cell? ⟨g1,3,none⟩=some (ς A1 n1 C1)):=fun W' hW=>by
   have h:W'.heap[g1]?=_:=(hW.block g1 (Array.getElem?_eq_some_iff.1 hb1).1).trans hb1;refine⟨?_,?_,?_,?_⟩ <;> simp[World.cell?,h]
  replace Po:=QA (fun W' (hW:Below W.heap.size W W')=>Po.out W' (ZX.trans (hW.mono ZX.size)));have uR:=QA (show Fs W (Lo W.heap.size) (ς A1 n1 C1) Mw from Pe);have Z':=VO HB ZX;clear hI hall JR hb1 Pe ZX;obtain⟨w3,hw3⟩:∃w3,w3=W:=⟨_,rfl⟩;subst hw3
  go_upto_region 4 with(fail)
  refine Z3 (FV w3 (ξ #[ι γ 26,σ ⟨#[49]⟩,σ ⟨#[]⟩,ς none 0 0]) (ξ #[ι γ 26,σ ⟨#[49]⟩,σ ⟨#[]⟩,ς none 0 0]) ⟨#[98]⟩ ⟨#[97]⟩ (.cons 26 ⟨#[49]⟩ ⟨#[]⟩ .nil .nil) (.cons 26 ⟨#[49]⟩ ⟨#[]⟩ .nil .nil)) χ δ χ (fun x=>FV.start) ?steps ?done
  case steps =>
   intro L xv W' hI hcl a ha;simp only[Qi]at ha;simp only[ZC,ZA,QZ,ZL,Nat.reduceAdd]at ha;subst ha;refine⟨?s0,?s1,?s2,?s3,?s4,?s5,?s6,?s7,trivial⟩;all_goals intro hL hd K hK
   all_goals(try simp only[Act.put,ZC,ZA,QZ]at hK)
   case s0=>exact c53
   case s1=>have h7:L 7=false:=(Qh (r:=7) hcl (Qh (r:=5) hcl (Qh (r:=4) hcl hL χ) χ) χ);have hx:xv 0=ξ #[ι γ 26,σ ⟨#[49]⟩,σ ⟨#[]⟩,ς none 0 0]:=hI.e0 (hd 0 χ);clear hd;rw[hx]at hK⊢;refine(if_pos (by rfl)).mpr ?_;have hc:=Kw ⟨#[98]⟩ 26 ⟨#[49]⟩ none 0 0 .nil W' (V6 _ _);exact c106
   case s2=>have h7:L 7=false:=(Qh (r:=7) hcl (Qh (r:=5) hcl (Qh (r:=4) hcl (Qh (r:=3) hcl hL χ) χ) χ) χ);clear hd;refine(if_pos (by rfl)).mpr ?_;obtain⟨p0,p1,p2,p3⟩:=Po.out W' hI.QF;go_simp;exact hK.out _ _ (hI.Nc h7)
   case s3=>have h7:L 7=false:=(Qh (r:=7) hcl (Qh (r:=5) hcl (Qh (r:=4) hcl hL χ) χ) χ);have hx:xv 2=ξ #[ι γ 26,σ ⟨#[49]⟩,σ ⟨#[]⟩,ς none 0 0]:=hI.e2 (hd 2 χ);clear hd;rw[hx]at hK⊢;refine(if_pos (by rfl)).mpr ?_;have hc:=Kw ⟨#[97]⟩ 26 ⟨#[49]⟩ none 0 0 .nil W' (V6 _ _);exact c107
   case s4=>have h7:L 7=false:=(Qh (r:=7) hcl (Qh (r:=5) hcl hL χ) χ);obtain⟨A5,n5,C5,e5,Mk⟩:=hI.e1 (hd 1 χ) h7;obtain⟨A6,n6,C6,e6,Sy⟩:=hI.e3 (hd 3 χ) h7;clear hd;rw[e5,e6]at hK⊢;refine(if_pos (by rfl)).mpr ?_;go_simp;have hf:=Ê W' 4 4 ⟨#[98]⟩ ⟨#[97]⟩ A5 A6 n5 C5 n6 C6 _ _ Mk Sy;exact hK.out _ _ ((hI.later (Qz W' _)).KD h7 (hf.up ψ))
   case s5=>exact c43
   case s6=>exact c66
   case s7 =>
    have h5:=hd 5 χ;have h6:=hd 6 χ;have h0:L 0=true:=hcl 1 0 (hcl 4 1 (hcl 5 4 h5 χ) χ) χ;have h2:L 2=true:=hcl 3 2 (hcl 4 3 (hcl 5 4 h5 χ) χ) χ;obtain⟨A5,n5,C5,e5,Mk⟩:=hI.e5 h5 hL;obtain⟨g,JR,hg,hbl⟩:=hI.e6 h6 hL;clear hd;rw[e5,JR]at hK⊢;refine(if_pos (by rfl)).mpr ?_;have f0:W'.frozen? ⟨g,0,none⟩=false:=by simp[World.frozen?,hbl]
    have f1:W'.frozen? ⟨g,1,none⟩=false:=by simp[World.frozen?,hbl]
    have f2:W'.frozen? ⟨g,2,none⟩=false:=by simp[World.frozen?,hbl]
    have f3:W'.frozen? ⟨g,3,none⟩=false:=by simp[World.frozen?,hbl]
    have q0:W'.cell? ⟨g,0,none⟩=some (ι γ 0):=by simp[World.cell?,hbl]
    have q1:W'.cell? ⟨g,1,none⟩=some (σ ⟨#[]⟩):=by simp[World.cell?,hbl]
    have q2:W'.cell? ⟨g,2,none⟩=some (σ ⟨#[]⟩):=by simp[World.cell?,hbl]
    have q3:W'.cell? ⟨g,3,none⟩=some (ς none 0 0):=by simp[World.cell?,hbl]
    go_simp;have t1:=Z8 hbl 0 (ι γ 1);have t2:=Z8 t1 1 (σ ⟨#[]⟩);have t3:=Z8 t2 2 (σ ⟨#[]⟩);have t4:=Z8 t3 3 (ς A5 n5 C5);simp only[ZC,ZA,QZ]at t4;have hb4:=((((Below.refl w3.heap.size W').setCell (p:=⟨g,0,none⟩) hg (ι γ 1)).setCell (p:=⟨g,1,none⟩) hg (σ ⟨#[]⟩)).setCell (p:=⟨g,2,none⟩) hg (σ ⟨#[]⟩)).setCell (p:=⟨g,3,none⟩) hg (ς A5 n5 C5);have zZ:=((Fs.off hbl Mk (by simp[NZ,Oy])).keep fun b hb=>(((J5 _ 3 (ς A5 n5 C5) (Ne.symm hb.2)).trans (J5 _ 2 (σ ⟨#[]⟩) (Ne.symm hb.2))).trans (J5 _ 1 (σ ⟨#[]⟩) (Ne.symm hb.2))).trans (J5 W' 0 (ι γ 1) (Ne.symm hb.2))).more fun b hb=>VE hb.1 hb4.size
    exact hK.out undef _ (hI.jC JR hg h0 h2 t4 zZ hb4)
  case done =>
   intro L xv W hI hall a ha;obtain⟨g2,A2,n2,C2,JR,hg2,hb2,hf2⟩:=hI.e7 (hall 7 δ);have ZX:=hI.QF;simp only[Qi]at ha;simp only[ZC,ZA,QZ,ZL,Nat.reduceAdd]at ha;subst ha;rw[JR]
   have oI:Hid (∀V,Below W.heap.size W V→V.cell? ⟨g2,0,none⟩=some (ι γ 1)∧V.cell? ⟨g2,1,none⟩=some (σ ⟨#[]⟩)∧V.cell? ⟨g2,2,none⟩=some (σ ⟨#[]⟩)∧V.cell? ⟨g2,3,none⟩=some (ς A2 n2 C2)):=fun W' hW=>by
    have h:W'.heap[g2]?=_:=(hW.block g2 (Array.getElem?_eq_some_iff.1 hb2).1).trans hb2;refine⟨?_,?_,?_,?_⟩ <;> simp[World.cell?,h]
   have oJ:Hid (∀V,Below W.heap.size W V→V.cell? ⟨g1,0,none⟩=some (ι γ 1)∧V.cell? ⟨g1,1,none⟩=some (σ ⟨#[]⟩)∧V.cell? ⟨g1,2,none⟩=some (σ ⟨#[]⟩)∧V.cell? ⟨g1,3,none⟩=some (ς A1 n1 C1)):=fun W' hW=>vM.out W' (ZX.trans (hW.mono ZX.size))
   have SG:=QA (show Fs W (Lo W.heap.size) (ς A2 n2 C2) Mv from hf2);have XY:=QA (uR.out.later ZX);have YR:=VO Z' ZX;clear hI hall JR hb2 hf2 ZX Po Pn vM uR Z';obtain⟨w5,zM⟩:∃w5,w5=W:=⟨_,rfl⟩;subst zM;obtain⟨L,hL⟩:∃L:List P2,[(0,0),(1,1),(2,4),(3,5),(4,2),(5,3)]=L:=⟨_,rfl⟩;have RM:=Qz2;have Bo:=Qtl;have hro:=Qy4;rw[hL]at RM Bo hro;have hlen:L.length=6:=by rw[←hL];rfl
   have D8:∀p∈L,0≤p.1∧p.1<((6:Nat):Int):=by rw[←hL];decide
   obtain⟨p0,p1,p2,p3⟩:=oJ.out w5 (Below.refl _ _);obtain⟨r0,r1,r2,r3⟩:=oI.out w5 (Below.refl _ _);have ho:=Qy 1 ⟨#[]⟩ ⟨#[]⟩ A1 n1 C1 Mw 1 ⟨#[]⟩ ⟨#[]⟩ A2 n2 C2 Mv w5 (HP.out.on YR.out) (HT.out.below YR.out HT.out.pos) XY.out SG.out δ δ (fun _=>yG δ) (fun _=>yG δ) Qtk Qtm;rw[RM,if_neg δ]at ho;have HO:=QA ho;have jb:=QA Bo;have aC:=QA hro;have HLEN:=QA hlen;have EO:=QA D8;clear ho RM Bo hro hlen D8 hL;go_wp2_with fail;refine HO.out.mono ?_;rintro e w6 ⟨VH,v6,rfl,Fu⟩;obtain⟨Al,Cl,rfl⟩:=Fu.slice;have Wh:Qm w6 (fun b=>b<w6.heap.size) (ς Al L.length Cl) L:=Fu.more fun b hb=>hb.2
   have ht:=Qob 6 Al Cl L w6 Wh ω EO.out (by rw[HLEN.out];omega);rw[HLEN.out,aC.out,show((6:Nat):Int)=6 from rfl]at ht;have HTO:=QA ht;have R3:Hid (∀V,Below w6.heap.size w6 V→Qm V (Lo V.heap.size) (ς Al L.length Cl) L):=fun V hV=>Wh.later hV
   have GG:=QA VH;rw[HLEN.out];clear ht Fu Wh VH p0 p1 p2 p3 r0 r1 r2 r3 HO;go_wp2_with fail;refine HTO.out.mono ?_;rintro e w7 ⟨VL,g7,_,rfl,hbk⟩;have UG:=VO GG VL;have hR:=Qdb 1 ⟨#[]⟩ ⟨#[]⟩ A1 n1 C1 Mw 1 ⟨#[]⟩ ⟨#[]⟩ A2 n2 C2 Mv Al Cl L w7 (XY.out.later UG.out) (SG.out.later UG.out) (R3.out w7 VL) δ δ (by rw[HLEN.out];omega);rw[HLEN.out,jb.out]at hR;have vU:=QA hR;have Ad:=QA hbk;obtain⟨p0,p1,p2,p3⟩:=oJ.out w7 UG.out;obtain⟨r0,r1,r2,r3⟩:=oI.out w7 UG.out;clear hR hbk VL HTO;go_wp2_with fail;refine c₁ vU.out fun w8 YJ=>?_;have Hm:=VO UG YJ;have hN:=Qdb 1 ⟨#[]⟩ ⟨#[]⟩ A1 n1 C1 Mw 1 ⟨#[]⟩ ⟨#[]⟩ A2 n2 C2 Mv none 0 [] w8 (XY.out.later Hm.out) (SG.out.later Hm.out) (G7 w8 _) δ δ δ;rw[show([]:List P2).length=0 from rfl,show Z9 (Zy (one 1 ⟨#[]⟩ ⟨#[]⟩ Mw)) (Zy (one 1 ⟨#[]⟩ ⟨#[]⟩ Mv)) []=false from rfl]at hN;have rV:=QA hN;clear hN p0 p1 p2 p3 r0 r1 r2 r3 vU;obtain⟨p0,p1,p2,p3⟩:=oJ.out w8 Hm.out;obtain⟨r0,r1,r2,r3⟩:=oI.out w8 Hm.out;have PK:=Ad.out.keep YJ;have y0:w8.cell? ⟨g7,0,none⟩=some (ι γ 0):=PK.at_ (i:=0) rfl;have y1:w8.cell? ⟨g7,1,none⟩=some (ι γ 1):=PK.at_ (i:=1) rfl;have y2:w8.cell? ⟨g7,2,none⟩=some (ι γ 4):=PK.at_ (i:=2) rfl;have y3:w8.cell? ⟨g7,3,none⟩=some (ι γ 5):=PK.at_ (i:=3) rfl;have y4:w8.cell? ⟨g7,4,none⟩=some (ι γ 2):=PK.at_ (i:=4) rfl;clear PK YJ;go_wp2_with fail;refine rV.out.mono ?_;rintro e w9 ⟨rfl,U'⟩;have ER:=QA (YR.out.trans ((Hm.out.trans (U'.mono Hm.out.size)).mono YR.out.size));clear U';go_wp2;go_ret;exact⟨rfl,ER.out⟩
