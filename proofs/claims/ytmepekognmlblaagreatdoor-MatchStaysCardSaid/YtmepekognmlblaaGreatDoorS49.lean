import Derived.Test.YtmepekognmlblaaGreatDoorS47
import Derived.Test.YtmepekognmlblaaGreatDoorS48
set_option maxHeartbeats 32000000
set_option maxRecDepth 100000
set_option linter.unusedVariables false
open Go.ChangeShapes Go.WideShapes Go.ChangeAt Go.RowKit
open Go.Lib renaming hid→QA
open _root_.Nat renaming le_refl→QI,zero_add→ZL
open _root_.List renaming setIfInBounds_toArray→ZC,set_cons_succ→ZA,set_cons_zero→QZ
open Go.Value renaming string→σ,int→ι,slice→ς,bool→τ,agg→ξ
open Go.IntKind renaming i64→γ
open Go.Obj renaming cells→θ
open Go.Ending renaming returned→ρ
namespace Go.Proofs.YtmepekognmlblaaGreatDoor
namespace Match
open Mem Tree Shape
def bA(k:Int)(x y:ByteArray)(c:F):Prop:=(c.size+1≤400∧x.size≤1000000∧y.size≤1000000∧Zp c)∧Hg k∧Vf c
theorem o6{k:Int}{x y:ByteArray}{A:Option Addr}{n C:Nat}{c:F}{k':Int}{x' y':ByteArray}{A':Option Addr}{n' C':Nat}{c':F}{w:World}(hp:Pow w)(hT:Lex.XF w)(hf:Fs w (Lo w.heap.size) (ς A n C) c)(hf':Fs w (Lo w.heap.size) (ς A' n' C') c')
 (h:bA k x y c) (h':bA k' x' y' c'):Calls Tryz.prog 12 #[ξ #[ι γ k,σ x,σ y,ς A n C],ξ #[ι γ k',σ x',σ y',ς A' n' C']] w (é w 0 (Rz k x y c k' x' y' c')):=by
 obtain⟨⟨h1,h2,h3,h4⟩,h5,h6⟩:=h;obtain⟨⟨g1,g2,g3,g4⟩,g5,g6⟩:=h';have ho:=Qy k x y A n C c k' x' y' A' n' C' c' w hp hT hf hf' ω ω (fun _=>yG ω) (fun _=>yG ω) ⟨h2,h3,h4,g2,g3,g4,trivial⟩ ⟨h5,h6,g5,g6,trivial⟩;rwa[if_neg ω]at ho
theorem Â{ka kb:List Int}:∀(L:List P2)(last:Int)(used:List Int),X7 ka kb last used L=true→L=[]∨(L.length:Int)+last+1≤ka.length
 |[],_,_,_=>.inl rfl
 |(x,y)::r,last,used,h=>by
  simp only[X7,Bool.and_eq_true]at h;obtain⟨g1,g2,_⟩:=Vt.1 h.1;rcases Â r x _ h.2 with rfl|hr
  ·right;simp;omega
  ·right;simp only[List.length_cons];omega
theorem Qyy{k:Int}{x y:ByteArray}{c:F}{k':Int}{x' y':ByteArray}{c':F}(h:c.size<20000)(h':c'.size<20000):(Rz k x y c k' x' y' c').length≤c.size+1:=by
 by_cases hk:k=k'
 ·subst hk;have hm:=Qw8 (k:=k) (x:=x) (y:=y) (x':=x') (y':=y') h h';unfold Z9 at hm;rw[Bool.and_eq_true]at hm;rcases Â _ _ _ hm.2 with e|hl
  ·rw[e];exact Nat.zero_le _
  ·unfold Zy at hl;rw[Uv,Qj,Q4]at hl;omega
 ·rw[Qwf hk];exact Nat.zero_le _
def R9(k:Int)(x y:ByteArray)(c:F):H2:=fun W S v=>∃A n C,v=ξ #[ι γ k,σ x,σ y,ς A n C]∧Fs W S (ς A n C) c
theorem Ja(k:Int)(x y:ByteArray)(c:F):Kept (R9 k x y c):=fun W W' S v h hk=>by
 obtain⟨A,n,C,e,hf⟩:=h;exact⟨A,n,C,e,hf.keep hk⟩
theorem ã{w w':World}{v:Value}{c:F}(h:pB w w' v (KH c)):Fs w' (fun b=>w.heap.size≤b∧b<w'.heap.size) v c:=by
 have h2:=h.fs;rw[yK]at h2;exact h2
section
variable (W:World){B g:Nat}{T:TypeId}(a b c d:Value)
theorem ŋ(g:Nat):∀q,q≠g→((((W.setCell ⟨g,0,none⟩ a).setCell ⟨g,1,none⟩ b).setCell ⟨g,2,none⟩ c).setCell ⟨g,3,none⟩ d).heap[q]?=W.heap[q]?:=fun q hq =>
 (J5 _ 3 _ (Ne.symm hq)).trans ((J5 _ 2 _ (Ne.symm hq)).trans ((J5 _ 1 _ (Ne.symm hq)).trans (J5 _ 0 _ (Ne.symm hq))))
theorem Qdw(g:Nat):((((W.setCell ⟨g,0,none⟩ a).setCell ⟨g,1,none⟩ b).setCell ⟨g,2,none⟩ c).setCell ⟨g,3,none⟩ d).heap.size=W.heap.size:=ψ
theorem Ė(hB:B≤B)(hg:B≤g):Below B W ((((W.setCell ⟨g,0,none⟩ a).setCell ⟨g,1,none⟩ b).setCell ⟨g,2,none⟩ c).setCell ⟨g,3,none⟩ d) :=
 ((((Below.refl B W).setCell (p:=⟨g,0,none⟩) hg _).setCell (p:=⟨g,1,none⟩) hg _).setCell (p:=⟨g,2,none⟩) hg _).setCell (p:=⟨g,3,none⟩) hg _
variable {W}
theorem fD{z0 z1 z2 z3:Value}(h:W.heap[g]?=some (θ #[z0,z1,z2,z3] T (0,0))):((((W.setCell ⟨g,0,none⟩ a).setCell ⟨g,1,none⟩ b).setCell ⟨g,2,none⟩ c).setCell ⟨g,3,none⟩ d).heap[g]?=some (θ #[a,b,c,d] T (0,0)):=by
 have s:=Z8 (Z8 (Z8 (Z8 h 0 a) 1 b) 2 c) 3 d;simpa only[ZC,ZA,QZ]using s
end
theorem iF(k:Int)(x y:ByteArray)(A:Option Addr)(n C:Nat)(c:F)(k':Int)(x' y':ByteArray)(A':Option Addr)(n' C':Nat)(c':F)(w:World)(hf:Fs w (Lo w.heap.size) (ς A n C) c)(hf':Fs w (Lo w.heap.size) (ς A' n' C') c')(hP:Pow w)(hT:Lex.XF w)(hk:Hg k∧Vf c)(hk':Hg k'∧Vf c') :
 Calls Tryz.prog 7 #[ξ #[ι γ k,σ x,σ y,ς A n C],ξ #[ι γ k',σ x',σ y',ς A' n' C']] w fun e w'=>e=ρ (τ true)∧Below w.heap.size w w':=by
 have b1:=Qz w (θ #[ι γ k,σ x,σ y,ς A n C] 24);have q:=J6 w k x y (ς A n C);have b2:=Qz (w.alloc (θ #[ι γ k,σ x,σ y,ς A n C] 24)) (θ #[ι γ k',σ x',σ y',ς A' n' C'] 24);have q':=J6 (w.alloc (θ #[ι γ k,σ x,σ y,ς A n C] 24)) k' x' y' (ς A' n' C');have e1:(w.alloc (θ #[ι γ k,σ x,σ y,ς A n C] 24)).heap.size=w.heap.size+1:=ψ
 rw[e1]at q';have HB:=QA (b1.trans (b2.mono b1.size));have Po:Hid (∀W,Below ((w.alloc (θ #[ι γ k,σ x,σ y,ς A n C] 24)).alloc (θ #[ι γ k',σ x',σ y',ς A' n' C'] 24)).heap.size ((w.alloc (θ #[ι γ k,σ x,σ y,ς A n C] 24)).alloc (θ #[ι γ k',σ x',σ y',ς A' n' C'] 24)) W→_):=fun W hW=>q W (b2.trans (hW.mono b2.size))
 have Pn:=QA q';have LK:=QA ((hf.later b1).later b2);have XY:=QA ((hf'.later b1).later b2);have NR:=QA (And.intro ((hP.on b1).on b2) ((hT.below b1 hT.pos).below b2 (hT.below b1 hT.pos).pos));have KA:=QA (And.intro hk hk');obtain⟨q0,q1,q2,q3⟩:=Po.out _ (Below.refl _ _);obtain⟨p0,p1,p2,p3⟩:=Pn.out _ (Below.refl _ _);obtain⟨w2,hw2⟩:∃w2,((w.alloc (θ #[ι γ k,σ x,σ y,ς A n C] 24)).alloc (θ #[ι γ k',σ x',σ y',ς A' n' C'] 24))=w2:=⟨_,rfl⟩;rw[hw2]at HB Po Pn LK XY NR q0 q1 q2 q3 p0 p1 p2 p3;have yR:=QA (ç k x y A n C c _ LK.out);obtain⟨fa,R7⟩:=Mem.QD (vq k x y c);obtain⟨fb,cE⟩:=Mem.QD (vq k' x' y' c');rw[R7]at yR;have HFA:=QA R7;have TX:=QA cE;clear b1 q b2 q' e1 hf hf' hP hT hk hk' R7 cE;go_enter Tryz.func7,Tryz.ntmps7;go_wp2_with fail;try rw[hw2]
 clear hw2;refine c₁ yR.out fun w3 hb3=>?_;have VG:=QA hb3;have P6:=QA (ç k' x' y' A' n' C' c' w3 (XY.out.later hb3));rw[TX.out]at P6;obtain⟨q0,q1,q2,q3⟩:=Po.out w3 hb3;obtain⟨p0,p1,p2,p3⟩:=Pn.out w3 hb3;clear hb3 yR;cases fa with
 |false=>go_wp2_with fail;refine c₁ (Uu w3 (NR.out.1.on VG.out) (NR.out.2.below VG.out NR.out.2.pos)) fun w4 hb=>?_;have HE:=QA (HB.out.trans ((VG.out.trans (hb.mono VG.out.size)).mono HB.out.size));exact c168
 |true =>
 go_wp2_with fail;refine c₁ P6.out fun w4 hb4=>?_;have KF:=VO VG hb4;have L3:=QA (And.intro (NR.out.1.on KF.out) (NR.out.2.below KF.out NR.out.2.pos));have sM:=QA (LK.out.later KF.out);have HG4:=QA (XY.out.later KF.out);have rO:Hid (∀W,Below w4.heap.size w4 W→_):=fun W hW=>Po.out W (KF.out.trans (hW.mono KF.out.size))
 have S4:Hid (∀W,Below w4.heap.size w4 W→_):=fun W hW=>Pn.out W (KF.out.trans (hW.mono KF.out.size))
 have UQ:=QA (HB.out.trans (KF.out.mono HB.out.size));clear hb4 P6 q0 q1 q2 q3 p0 p1 p2 p3 VG KF HB NR LK XY Po Pn;cases fb with
 |false=>go_wp2_with fail;refine c₁ (Uu w4 L3.out.1 L3.out.2) fun w5 hb=>?_;have HE:=VO UQ hb;exact c168
 |true =>
 have MK:Hid (bA k x y c):=⟨ĕ HFA.out,KA.out.1⟩;have P7:Hid (bA k' x' y' c'):=⟨ĕ TX.out,KA.out.2⟩;have XO:Hid (c.size+1≤400∧c'.size+1≤400):=⟨MK.out.1.1,P7.out.1.1⟩;clear HFA TX KA;have LK:=sM;have XY:=HG4
 go_upto_region 3 with(fail)
 refine Z3 (DV w4 24 #[ι γ 0,σ ⟨#[]⟩,σ ⟨#[]⟩,ς none 0 0] (ξ #[ι γ k,σ x,σ y,ς A n C]) (ξ #[ι γ k',σ x',σ y',ς A' n' C']) (R9 k x y c) (R9 k' x' y' c')) χ δ χ (fun x=>DV.start) ?steps ?done
 case steps =>
  intro L xv W' hI hcl a ha;simp only[Qi]at ha;simp only[ZC,ZA,QZ,ZL,Nat.reduceAdd]at ha;subst ha;refine⟨?s0,?s1,?s2,?s3,?s4,?s5,?s6,?s7,trivial⟩;all_goals intro hL hd K hK
  all_goals(try simp only[Act.put,ZC,ZA,QZ]at hK)
  case s0=>clear hd;refine(if_pos (by rfl)).mpr ?_;obtain⟨p0,p1,p2,p3⟩:=rO.out W' hI.QF;go_simp;exact hK.out _ _ hI.Fa
  case s1=>have hx:xv 0=ξ #[ι γ k,σ x,σ y,ς A n C]:=hI.e0 (hd 0 χ);clear hd;rw[hx]at hK⊢;refine(if_pos (by rfl)).mpr ?_;go_simp;go_at_call 15;refine(È c.size k x y A n C c W' (QI _) (by have:=XO.out;omega) (LK.out.later hI.QF)).mono ?_;rintro e W3 ⟨hb,A2,n2,C2,rfl,hn⟩;exact hK.out _ _ ((hI.later (Ja _ _ _ _) (Ja _ _ _ _) hb).EW hL (Xt.new hI ⟨A2,n2,C2,rfl,ã hn⟩))
  case s2=>clear hd;refine(if_pos (by rfl)).mpr ?_;obtain⟨p0,p1,p2,p3⟩:=S4.out W' hI.QF;go_simp;exact hK.out _ _ hI.Nc
  case s3=>have hx:xv 2=ξ #[ι γ k',σ x',σ y',ς A' n' C']:=hI.e2 (hd 2 χ);clear hd;rw[hx]at hK⊢;refine(if_pos (by rfl)).mpr ?_;go_simp;go_at_call 15;refine(È c'.size k' x' y' A' n' C' c' W' (QI _) (by have:=XO.out;omega) (XY.out.later hI.QF)).mono ?_;rintro e W3 ⟨hb,A2,n2,C2,rfl,hn⟩;exact hK.out _ _ ((hI.later (Ja _ _ _ _) (Ja _ _ _ _) hb).BZ hL (Xt.new hI ⟨A2,n2,C2,rfl,ã hn⟩))
  case s4=>clear hd;refine(if_pos (by rfl)).mpr ?_;go_simp;exact hK.out _ _ (hI.KD (Ja _ _ _ _) (Ja _ _ _ _) hL (Qz W' _) ψ (heap_alloc_new W' _))
  case s5=>clear hd;refine(if_pos (by rfl)).mpr ?_;go_simp;exact hK.out _ _ (hI.BX (Ja _ _ _ _) (Ja _ _ _ _) hL (Qz W' _) ψ (heap_alloc_new W' _))
  case s6 =>
   have hv:=hd 4 χ;have hs:=hd 1 χ;clear hd;obtain⟨g,hx,hg,_,H9,_⟩:=hI.e4 hv;have hbl:=H9 hL;unfold iG at hbl;obtain⟨S,⟨A2,n2,C2,e1,_⟩,_⟩:=hI.e1 hs;have hp:=DV.BW (v:=undef) (Ja _ _ _ _) (Ja _ _ _ _) hI hL hs hv hx (ŋ W' (ι γ k) (σ x) (σ y) (ς A2 n2 C2) g) ⟨_,e1,fD _ _ _ _ hbl⟩ (Ė W' _ _ _ _ (QI _) hg) (Qdw W' _ _ _ _ g);rw[hx,e1]at hK⊢;unfold ptrTo at hK⊢;refine(if_pos (by rfl)).mpr ?_;have f0:W'.frozen? ⟨g,0,none⟩=false:=by simp[World.frozen?,hbl]
   have f1:W'.frozen? ⟨g,1,none⟩=false:=by simp[World.frozen?,hbl]
   have f2:W'.frozen? ⟨g,2,none⟩=false:=by simp[World.frozen?,hbl]
   have f3:W'.frozen? ⟨g,3,none⟩=false:=by simp[World.frozen?,hbl]
   have c0:W'.cell? ⟨g,0,none⟩=some (ι γ 0):=by simp[World.cell?,hbl]
   have c1:W'.cell? ⟨g,1,none⟩=some (σ ⟨#[]⟩):=by simp[World.cell?,hbl]
   have c2:W'.cell? ⟨g,2,none⟩=some (σ ⟨#[]⟩):=by simp[World.cell?,hbl]
   have c3:W'.cell? ⟨g,3,none⟩=some (ς none 0 0):=by simp[World.cell?,hbl]
   have HP:=QA hp;clear hp hbl H9 e1 hx;go_simp;exact hK.out undef _ HP.out
  case s7 =>
   have hv:=hd 5 χ;have hs:=hd 3 χ;clear hd;obtain⟨g,hx,hg,_,H9,_⟩:=hI.e5 hv;have hbl:=H9 hL;unfold iG at hbl;obtain⟨S,⟨A2,n2,C2,e1,_⟩,_⟩:=hI.e3 hs;have hp:=DV.jC (v:=undef) (Ja _ _ _ _) (Ja _ _ _ _) hI hL hs hv hx (ŋ W' (ι γ k') (σ x') (σ y') (ς A2 n2 C2) g) ⟨_,e1,fD _ _ _ _ hbl⟩ (Ė W' _ _ _ _ (QI _) hg) (Qdw W' _ _ _ _ g);rw[hx,e1]at hK⊢;unfold ptrTo at hK⊢;refine(if_pos (by rfl)).mpr ?_;have f0:W'.frozen? ⟨g,0,none⟩=false:=by simp[World.frozen?,hbl]
   have f1:W'.frozen? ⟨g,1,none⟩=false:=by simp[World.frozen?,hbl]
   have f2:W'.frozen? ⟨g,2,none⟩=false:=by simp[World.frozen?,hbl]
   have f3:W'.frozen? ⟨g,3,none⟩=false:=by simp[World.frozen?,hbl]
   have c0:W'.cell? ⟨g,0,none⟩=some (ι γ 0):=by simp[World.cell?,hbl]
   have c1:W'.cell? ⟨g,1,none⟩=some (σ ⟨#[]⟩):=by simp[World.cell?,hbl]
   have c2:W'.cell? ⟨g,2,none⟩=some (σ ⟨#[]⟩):=by simp[World.cell?,hbl]
   have c3:W'.cell? ⟨g,3,none⟩=some (ς none 0 0):=by simp[World.cell?,hbl]
   have HP:=QA hp;clear hp hbl H9 e1 hx;go_simp;exact hK.out undef _ HP.out
 case done =>
  intro L xv W hI hall a ha;obtain⟨g0,g1,S0,S1,JJ,JB,hg0,hg1,⟨cs0,h10,hc0⟩,⟨cs1,Mp,hc1⟩,⟨A0,n0,C0,h1,EK⟩,⟨A1,n1,C1,h3,Pe⟩,Rl,hS1⟩:=hI.done (hall 6 δ) (hall 7 δ);simp only[Qi]at ha;simp only[ZC,ZA,QZ,ZL,Nat.reduceAdd]at ha;subst ha;rw[JJ,JB];obtain rfl:cs0=#[ι γ k,σ x,σ y,ς A0 n0 C0]:=by rw[h1]at h10;injection h10 with h;exact h.symm
  obtain rfl:cs1=#[ι γ k',σ x',σ y',ς A1 n1 C1]:=by rw[h3]at Mp;injection Mp with h;exact h.symm
  have YR:=QA hI.QF
  have zw:Hid (∀W',Below W.heap.size W W'→W'.cell? ⟨g0,0,none⟩=some (ι γ k)∧W'.cell? ⟨g0,1,none⟩=some (σ x)∧W'.cell? ⟨g0,2,none⟩=some (σ y)∧W'.cell? ⟨g0,3,none⟩=some (ς A0 n0 C0)):=fun W' hW=>by
   have h:=(hW.block g0 (Array.getElem?_eq_some_iff.1 hc0).1).trans hc0;refine⟨?_,?_,?_,?_⟩ <;> simp[World.cell?,h]
  have jo:Hid (∀W',Below W.heap.size W W'→W'.cell? ⟨g1,0,none⟩=some (ι γ k')∧W'.cell? ⟨g1,1,none⟩=some (σ x')∧W'.cell? ⟨g1,2,none⟩=some (σ y')∧W'.cell? ⟨g1,3,none⟩=some (ς A1 n1 C1)):=fun W' hW=>by
   have h:=(hW.block g1 (Array.getElem?_eq_some_iff.1 hc1).1).trans hc1;refine⟨?_,?_,?_,?_⟩ <;> simp[World.cell?,h]
  have oQ:=QA (EK.more Rl:Fs W (Lo W.heap.size) (ς A0 n0 C0) c);have yQ:=QA (Pe.more hS1:Fs W (Lo W.heap.size) (ς A1 n1 C1) c');clear hI hall JJ JB hg0 hg1 h10 hc0 Mp hc1 h1 EK h3 Pe Rl hS1;unfold ptrTo;obtain⟨w5,zM⟩:∃w5,w5=W:=⟨_,rfl⟩;subst zM;have HO:=QA (o6 (L3.out.1.on YR.out) (L3.out.2.below YR.out L3.out.2.pos) (LK.out.later YR.out) (XY.out.later YR.out) MK.out P7.out);obtain⟨mt,RM⟩:=Mem.QD (Rz k x y c k' x' y' c');rw[RM]at HO;have si:=QA RM;obtain⟨q0,q1,q2,q3⟩:=rO.out w5 YR.out;obtain⟨p0,p1,p2,p3⟩:=S4.out w5 YR.out;clear RM;go_wp2_with fail;refine HO.out.mono ?_;rintro e w6 ⟨VH,v6,rfl,Fu⟩;obtain⟨Al,Cl,rfl⟩:=Fu.slice;have R3:=QA (Fu.more fun b h=>h.2:Qm w6 (Lo w6.heap.size) _ mt);have Ra:=QA VH;have GG:=VO YR VH;have uw:=QA (o6 (L3.out.1.on GG.out) (L3.out.2.below GG.out L3.out.2.pos) (oQ.out.later VH) (yQ.out.later VH) MK.out P7.out);rw[si.out]at uw;obtain⟨r0,r1,r2,r3⟩:=zw.out w6 VH;obtain⟨s0,s1,s2,s3⟩:=jo.out w6 VH;clear VH Fu HO q0 q1 q2 q3 p0 p1 p2 p3;go_wp2_with fail;refine uw.out.mono ?_;rintro e w7 ⟨VL,v7,rfl,lq⟩;obtain⟨Am,Cm,rfl⟩:=lq.slice;have Iw:=QA (lq.more fun b h=>h.2:Qm w7 (Lo w7.heap.size) _ mt);have S5:=QA (R3.out.later VL);have P9:=VO Ra VL;have UG:=VO GG VL;have MG:=QA (Uu w7 (L3.out.1.on UG.out) (L3.out.2.below UG.out L3.out.2.pos));clear VL lq uw r0 r1 r2 r3 s0 s1 s2 s3 R3 Ra GG;have hlen:mt.length≤400:=by rw[←si.out];exact Nat.le_trans (Qyy (by have:=XO.out;omega) (by have:=XO.out;omega)) XO.out.1
  obtain⟨N,hN⟩:=Mem.QD (mt.length);have HN:=QA hN;have qW:=QA hlen;rw[hN]at S5 Iw qW⊢;clear hlen hN;go_wp2_with fail;refine c₁ MG.out fun w8 YJ=>?_;have Hm:=VO UG YJ;have H3:=VO P9 YJ;have HL:=QA (S5.out.later YJ);have HM:=QA (Iw.out.later YJ);have hnn:((N:Int) != (N:Int))=false:=ψ
  clear YJ MG S5 Iw P9 UG;go_wp2
  go_loopw [11] (fun s W=>∃i:Nat,i≤N∧s=ι γ (i:Int)∧Hid (Below w8.heap.size w8 W)) (fun s _=>N-(intOf s).toNat)
  case atStart=>exact⟨0,Nat.zero_le _,rfl,Below.refl _ _⟩
  case round =>
   obtain⟨i,hi,rfl,YR⟩:=hrel;have hnb:N≤400:=qW.out;by_cases hlt:i<N
   ·have hlt':(i:Int)<(N:Int):=ω
    have KZ:(0:Int)≤(i:Int):=ω
    obtain⟨⟨px,py⟩,hp⟩:∃p,mt[i]?=some p:=⟨_,List.getElem?_eq_getElem (by rw[HN.out];exact hlt)⟩;obtain⟨b1,o1,e1,_,c0,c1⟩:=Qm.at_ (HL.out.later YR.out) hp;obtain⟨b2,o2,e2,_,d0,d1⟩:=Qm.at_ (HM.out.later YR.out) hp;subst e1;subst e2;simp only at c0 c1 d0 d1;have hpe:=ú px py px py;rw[show((px==px)&&(py==py))=true by simp]at hpe;clear hp;go_wp2
    go_quiet (fail)
    clear c0 c1 d0 d1 hpe;go_wp2
    go_roundw
    case rel=>exact⟨i+1,ω,by go_num,pO YR.out _⟩
    case measure=>simp[intOf];omega
   ·obtain rfl:N=i:=ω
    have hlt':¬(N:Int)<(N:Int):=ω
    have R5:=QA (Hm.out.trans (YR.out.mono Hm.out.size));have L9:=QA (H3.out.trans (YR.out.mono H3.out.size));clear YR HL HM HN qW Hm H3 hnn;obtain⟨wl,Nq⟩:∃wl,wl=wr:=⟨_,rfl⟩;subst Nq;obtain⟨q0,q1,q2,q3⟩:=rO.out wl R5.out;obtain⟨r0,r1,r2,r3⟩:=zw.out wl L9.out;have HS:=QA (ĭ c.size k x y A n C c k x y A0 n0 C0 c wl (QI _) (by have:=XO.out;omega) (LK.out.later R5.out) (oQ.out.later L9.out));rw[Qdv]at HS;go_wp2_with fail;refine HS.out.mono ?_;rintro e w9 ⟨rfl,U'⟩;have R4:=VO R5 U';have P8:=VO L9 U';obtain⟨p0,p1,p2,p3⟩:=S4.out w9 R4.out;obtain⟨s0,s1,s2,s3⟩:=jo.out w9 P8.out;have Hi:=QA (ĭ c'.size k' x' y' A' n' C' c' k' x' y' A1 n1 C1 c' w9 (QI _) (by have:=XO.out;omega) (XY.out.later R4.out) (yQ.out.later P8.out));rw[Qdv]at Hi;clear U' HS q0 q1 q2 q3 r0 r1 r2 r3 R5 L9;go_wp2_with fail;refine c₁ Hi.out fun UT UA=>?_;have HEE:=QA (UQ.out.trans ((R4.out.trans (UA.mono R4.out.size)).mono UQ.out.size));clear UA;go_wp2;go_ret;exact⟨rfl,HEE.out⟩
