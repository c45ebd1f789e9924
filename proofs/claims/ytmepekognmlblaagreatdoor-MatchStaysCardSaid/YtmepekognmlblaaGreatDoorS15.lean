import Derived.Test.YtmepekognmlblaaGreatDoorS12
set_option maxHeartbeats 8000000
set_option maxRecDepth 100000
set_option linter.unusedVariables false
open Go.Proofs.Tryz Go.ChangeShapes Go.WideShapes Go.ChangeAt Go.RowKit
open Go.Lib renaming hid→QA
open Go.RowKit.Below renaming refl→QE
open _root_.List renaming setIfInBounds_toArray→ZC,set_cons_succ→ZA,set_cons_zero→QZ
open _root_.Nat renaming zero_add→ZL
open Go.Value renaming string→σ,int→ι,slice→ς,pointer→π,bool→τ,agg→ξ
open Go.IntKind renaming i64→γ
open Go.Ending renaming returned→ρ
namespace Go.Proofs.YtmepekognmlblaaGreatDoor
namespace Tree
open Mem
theorem Qym(x y:ByteArray)(A:Option Addr)(n C:Nat)(f:F)(w:World)(hf:Fs w (Lo w.heap.size) (ς A n C) f):Calls prog 62 #[ξ #[ι γ 5,σ x,σ y,ς A n C]] w fun e w'=>e = ρ (τ (Qc 5 x f))∧Below w.heap.size w w':=by
 have QP:=QA hf;have QS:=E1 w 5 x y A n C;rw[show Qc 5 x f=(Qg [.one [Qp,Qd [33]],.one [Qf,Qd [33]]] f && !Qg [.one [Qd [33]],.one [Qd [33]]] f)by simp[Qc]];clear hf;cases hp:Qg [.one [Qp,Qd [33]],.one [Qf,Qd [33]]] f with
 |true =>
  go_enter func62,ntmps62;go_wp2_with fail;refine QS.out.mono ?_;rintro e w3 ⟨hb3,v3,rfl,g3,c3,rfl,hrest⟩;obtain⟨QO,HB,T3,HF,QY,ZW,hk1,hk3⟩:=Qo QP.out hb3 ⟨_,_,rfl,hrest⟩;clear hb3 hrest QP QS;go_wp2;refine Ek (fun W W'=>Below W.heap.size W W') [cX w,Cd.is (ς A n C),Cd.is (Value.func (.func g3) #[] c3),Q5 [Qp,Qd [33]],Q9 (.one [Qp,Qd [33]]),Cd.is (Value.func (.func g3) #[] c3),Q5 [Qf,Qd [33]],Q9 (.one [Qf,Qd [33]]),Zi [.one [Qp,Qd [33]],.one [Qf,Qd [33]]],Cd.is (τ true),Cd.is (τ true),cX w,Cd.is (ς A n C),Cd.is (Value.func (.func g3) #[] c3),Q5 [Qd [33]],Q9 (.one [Qd [33]]),Cd.is (Value.func (.func g3) #[] c3),Q5 [Qd [33]],Q9 (.one [Qd [33]]),Zi [.one [Qd [33]],.one [Qd [33]]],Cd.is (τ (Qg [.one [Qd [33]],.one [Qd [33]]] f)),Cd.is (τ (!Qg [.one [Qd [33]],.one [Qd [33]]] f)),Cd.is (τ (!Qg [.one [Qd [33]],.one [Qd [33]]] f)),Cd.is (τ (!Qg [.one [Qd [33]],.one [Qd [33]]] f))] χ δ χ (QE _ _) (fun _ _ _ h k=>h.trans (k.mono h.size)) ?steps ?behind
  case steps =>
   intro xv W hW a ha;replace hW:=vH hW;simp only[Qi]at ha;simp only[ZC,ZA,QZ,ZL,Nat.reduceAdd]at ha;subst ha;refine⟨?s0,?s1,?s2,?s3,?s4,?s5,?s6,?s7,?s8,?s9,?JQ,?GA,?YU,?EU,?UU,?PA,?ED,?SK,?BS,?Aq,?SJ,?BQ,?jw,?tF,trivial⟩;all_goals intro hd K hK
   all_goals(try simp only[Act.put,ZC,ZA,QZ]at hK)
   case s0|s2|s5=>clear hd;exact c110
   case s1=>have h:xv 0=_:=hd 0 χ;refine(if_pos (by rfl)).mpr ?_;exact UH
   case s3=>exact c138
   case s4=>have h:=hd 3 χ;exact c142
   case s6=>exact c139
   case s7=>have h:=hd 6 χ;exact c142
   case s8=>exact c137
   case s9=>exact c159
   case JQ=>have Lx:xv 9=τ true:=hd 9 χ;clear hd;rw[Lx]at hK⊢;exact c110
   case GA|EU|ED=>have ZE:xv 10=τ true:=hd 10 χ;clear hd;rw[ZE]at hK⊢;exact c110
   case YU=>have ZE:xv 10=τ true:=hd 10 χ;have JE:xv 11=π (some ⟨w.heap.size,3,none⟩):=hd 11 χ;clear hd;rw[ZE]at hK⊢;rw[JE]at hK⊢;refine(if_pos (by rfl)).mpr ?_;have hcell:=QY.out W (HB.out.trans (hW.mono HB.out.size));exact c16
   case UU=>have ZE:xv 10=τ true:=hd 10 χ;have YY:xv 13=Value.func (.func g3) #[] c3:=hd 13 χ;clear hd;rw[ZE]at hK⊢;rw[YY]at hK⊢;exact c144
   case PA=>have ZE:xv 10=τ true:=hd 10 χ;have PH:ym [Qd [33]] (xv 14) W:=hd 14 χ;clear hd;rw[ZE]at hK⊢;refine(if_pos (by rfl)).mpr ?_;obtain⟨g14,dR,xu,xR⟩:=PH;rw[dR];rw[dR]at hK;have HO:=QA (fA [Qd [33]] g14 _ W rfl δ xu xR);clear dR xu xR;go_simp;go_at_call 88;refine HO.out.mono ?_;exact c50
   case SK=>have ZE:xv 10=τ true:=hd 10 χ;have PG:xv 16=Value.func (.func g3) #[] c3:=hd 16 χ;clear hd;rw[ZE]at hK⊢;rw[PG]at hK⊢;exact c144
   case BS=>have ZE:xv 10=τ true:=hd 10 χ;have nQ:ym [Qd [33]] (xv 17) W:=hd 17 χ;clear hd;rw[ZE]at hK⊢;refine(if_pos (by rfl)).mpr ?_;obtain⟨g17,e17,xq,xQ⟩:=nQ;rw[e17];rw[e17]at hK;have HO:=QA (fA [Qd [33]] g17 _ W rfl δ xq xQ);clear e17 xq xQ;go_simp;go_at_call 88;refine HO.out.mono ?_;exact c50
   case Aq=>have ZE:xv 10=τ true:=hd 10 χ;have EZ:Zk W (xv 15) (.one [Qd [33]]):=hd 15 χ;have AQ:Zk W (xv 18) (.one [Qd [33]]):=hd 18 χ;clear hd;rw[ZE]at hK⊢;refine(if_pos (by rfl)).mpr ?_;obtain⟨gQ,c15,gT,xt⟩:=EZ;have IZ:Zk W (.func (.func gQ) #[] #[π (some ⟨c15,0,none⟩)]) (.one [Qd [33]]):=⟨gQ,c15,rfl,xt⟩;clear xt;rw[gT]at hK⊢;have EZ:=QA IZ;clear IZ gT;obtain⟨gJ,c18,e18,xp⟩:=AQ;have IY:Zk W (.func (.func gJ) #[] #[π (some ⟨c18,0,none⟩)]) (.one [Qd [33]]):=⟨gJ,c18,rfl,xp⟩;clear xp;rw[e18]at hK⊢;have AQ:=QA IY;clear IY e18;go_simp;exact hK.out _ _ (Qa _ _) (Z6 W EZ.out AQ.out)
   case SJ=>have ZE:xv 10=τ true:=hd 10 χ;have XL:xv 12=ς A n C:=hd 12 χ;have Q3p:qy [.one [Qd [33]],.one [Qd [33]]] (xv 19) W:=hd 19 χ;clear hd;rw[ZE]at hK⊢;rw[XL]at hK⊢;refine(if_pos (by rfl)).mpr ?_;obtain⟨g19,e19,xo,xP⟩:=Q3p;rw[e19];rw[e19]at hK;have HO:=QA (G5 [.one [Qd [33]],.one [Qd [33]]] g19 _ A n C f W (HF.out.later (HB.out.trans (hW.mono HB.out.size))) rfl δ xo xP);clear e19 xo xP;go_simp;go_at_call 86;refine c₁ HO.out fun w' hb=>?_;first|(exact hK.out _ _ hb rfl)|(exact hK.out _ _ hb (congrArg τ hp))
   case BQ=>have ZE:xv 10=τ true:=hd 10 χ;have nM:xv 20=τ (Qg [.one [Qd [33]],.one [Qd [33]]] f):=hd 20 χ;clear hd;rw[ZE]at hK⊢;rw[nM]at hK⊢;exact c110
   case jw=>have ZE:xv 10=τ true:=hd 10 χ;have Ci:xv 21=τ (!Qg [.one [Qd [33]],.one [Qd [33]]] f):=hd 21 χ;clear hd;rw[ZE]at hK⊢;rw[Ci]at hK⊢;exact c110
   case tF=>have h:xv 22=_:=hd 22 χ;refine(if_pos (by rfl)).mpr ?_;exact Km
  case behind=>exact c161
 |false =>
  go_enter func62,ntmps62;go_wp2_with fail;refine QS.out.mono ?_;rintro e w3 ⟨hb3,v3,rfl,g3,c3,rfl,hrest⟩;obtain⟨QO,HB,T3,HF,QY,ZW,hk1,hk3⟩:=Qo QP.out hb3 ⟨_,_,rfl,hrest⟩;clear hb3 hrest QP QS;go_wp2;refine Ek (fun W W'=>Below W.heap.size W W') [cX w,Cd.is (ς A n C),Cd.is (Value.func (.func g3) #[] c3),Q5 [Qp,Qd [33]],Q9 (.one [Qp,Qd [33]]),Cd.is (Value.func (.func g3) #[] c3),Q5 [Qf,Qd [33]],Q9 (.one [Qf,Qd [33]]),Zi [.one [Qp,Qd [33]],.one [Qf,Qd [33]]],Cd.is (τ false),Cd.is (τ false),Cd.any,Cd.any,Cd.any,Cd.any,Cd.any,Cd.any,Cd.any,Cd.any,Cd.any,Cd.any,Cd.any,Cd.is (τ false),Cd.is (τ false)] χ δ χ (QE _ _) (fun _ _ _ h k=>h.trans (k.mono h.size)) ?steps ?behind
  case steps =>
   intro xv W hW a ha;replace hW:=vH hW;simp only[Qi]at ha;simp only[ZC,ZA,QZ,ZL,Nat.reduceAdd]at ha;subst ha;refine⟨?s0,?s1,?s2,?s3,?s4,?s5,?s6,?s7,?s8,?s9,?JQ,?GA,?YU,?EU,?UU,?PA,?ED,?SK,?BS,?Aq,?SJ,?BQ,?jw,?tF,trivial⟩;all_goals intro hd K hK
   all_goals(try simp only[Act.put,ZC,ZA,QZ]at hK)
   case s0|s2|s5=>clear hd;exact c110
   case s1=>have h:xv 0=_:=hd 0 χ;refine(if_pos (by rfl)).mpr ?_;exact UH
   case s3=>exact c138
   case s4=>have h:=hd 3 χ;exact c142
   case s6=>exact c139
   case s7=>have h:=hd 6 χ;exact c142
   case s8=>exact c137
   case s9=>exact c159
   case JQ=>have Lx:xv 9=τ false:=hd 9 χ;clear hd;rw[Lx]at hK⊢;exact c110
   case GA|YU|EU|UU|PA|ED|SK|BS|Aq|SJ|BQ=>have ZE:xv 10=τ false:=hd 10 χ;clear hd;rw[ZE]at hK⊢;refine(if_neg (ne_true_of_eq_false (by rfl))).mpr ?_;exact hK.out _ _ (QE _ _) trivial
   case jw=>have ZE:xv 10=τ false:=hd 10 χ;clear hd;rw[ZE]at hK⊢;exact c110
   case tF=>have nL:xv 22=τ false:=hd 22 χ;clear hd;rw[nL]at hK⊢;exact c110
  case behind=>exact c161
theorem Qv6(x y:ByteArray)(A:Option Addr)(n C:Nat)(f:F)(w:World)(hf:Fs w (Lo w.heap.size) (ς A n C) f):Calls prog 62 #[ξ #[ι γ 12,σ x,σ y,ς A n C]] w fun e w'=>e = ρ (τ (Qc 12 x f))∧Below w.heap.size w w':=by
 have QP:=QA hf;have QS:=E1 w 12 x y A n C;rw[show Qc 12 x f=Qg [.one [Qp],.one [Qp]] f by simp[Qc]];clear hf;go_enter func62,ntmps62;go_wp2_with fail;refine QS.out.mono ?_;rintro e w3 ⟨hb3,v3,rfl,g3,c3,rfl,hrest⟩;obtain⟨QO,HB,T3,HF,QY,ZW,hk1,hk3⟩:=Qo QP.out hb3 ⟨_,_,rfl,hrest⟩;clear hb3 hrest QP QS;go_wp2;refine Qv [cX w,Cd.is (ς A n C),Q5 [Qp],Q9 (.one [Qp]),Q5 [Qp],Q9 (.one [Qp]),Zi [.one [Qp],.one [Qp]],Cd.is (τ (Qg [.one [Qp],.one [Qp]] f)),Cd.is (τ (Qg [.one [Qp],.one [Qp]] f))] ?steps ?behind
 case steps =>
  intro xv W hW;refine⟨?s0,?s1,?s2,?s3,?s4,?s5,?s6,?s7,?s8,trivial⟩;all_goals intro hd K hK
  all_goals(try simp only[Act.put,ZC,ZA,QZ]at hK)
  case s0=>clear hd;exact c16
  case s1=>exact c26
  case s2|s4=>exact c48
  case s3=>have h:=hd 2;exact Vu
  case s5=>have h:=hd 4;exact Vu
  case s6=>exact c27
  case s7=>exact c76
  case s8=>exact c130
 case behind=>exact c70
theorem Qvw(x y:ByteArray)(A:Option Addr)(n C:Nat)(f:F)(w:World)(hf:Fs w (Lo w.heap.size) (ς A n C) f):Calls prog 62 #[ξ #[ι γ 23,σ x,σ y,ς A n C]] w fun e w'=>e = ρ (τ (Qc 23 x f))∧Below w.heap.size w w':=by
 have QP:=QA hf;have QS:=E1 w 23 x y A n C;rw[show Qc 23 x f=Qg [.one [Qd [30]]] f by simp[Qc]];clear hf;go_enter func62,ntmps62;go_wp2_with fail;refine QS.out.mono ?_;rintro e w3 ⟨hb3,v3,rfl,g3,c3,rfl,hrest⟩;obtain⟨QO,HB,T3,HF,QY,ZW,hk1,hk3⟩:=Qo QP.out hb3 ⟨_,_,rfl,hrest⟩;clear hb3 hrest QP QS;go_wp2;refine Qv [cX w,Cd.is (ς A n C),Gx [30],X2 (Qd [30]),Q5 [Qd [30]],Q9 (.one [Qd [30]]),Zi [.one [Qd [30]]],Cd.is (τ (Qg [.one [Qd [30]]] f)),Cd.is (τ (Qg [.one [Qd [30]]] f))] ?steps ?behind
 case steps =>
  intro xv W hW;refine⟨?s0,?s1,?s2,?s3,?s4,?s5,?s6,?s7,?s8,trivial⟩;all_goals intro hd K hK
  all_goals(try simp only[Act.put,ZC,ZA,QZ]at hK)
  case s0=>clear hd;exact c16
  case s1=>exact c26
  case s2=>clear hd;go_simp;exact hK.out _ _ (Qa _ _) (Vb [30] W)
  case s3=>have h:=hd 2;exact Nk
  case s4=>exact c99
  case s5=>have h:=hd 4;exact Vu
  case s6=>obtain⟨_,_,e5,q5⟩:=Qn (hd 5);clear hd;rw[e5]at hK⊢;clear e5;go_simp;exact hK.out _ _ (Qa _ _) (Ze W q5.out)
  case s7=>exact c76
  case s8=>exact c130
 case behind=>exact c70
theorem Qv3(x y:ByteArray)(A:Option Addr)(n C:Nat)(f:F)(w:World)(hf:Fs w (Lo w.heap.size) (ς A n C) f):Calls prog 62 #[ξ #[ι γ 15,σ x,σ y,ς A n C]] w fun e w'=>e = ρ (τ (Qc 15 x f))∧Below w.heap.size w w':=by
 have QP:=QA hf;have QS:=E1 w 15 x y A n C;rw[show Qc 15 x f=Qg [.many (Qd [16])] f by simp[Qc]];clear hf;go_enter func62,ntmps62;go_wp2_with fail;refine QS.out.mono ?_;rintro e w3 ⟨hb3,v3,rfl,g3,c3,rfl,hrest⟩;obtain⟨QO,HB,T3,HF,QY,ZW,hk1,hk3⟩:=Qo QP.out hb3 ⟨_,_,rfl,hrest⟩;clear hb3 hrest QP QS;go_wp2;refine Qv [cX w,Cd.is (ς A n C),Gx [16],X2 (Qd [16]),Q9 (.many (Qd [16])),Zi [.many (Qd [16])],Cd.is (τ (Qg [.many (Qd [16])] f)),Cd.is (τ (Qg [.many (Qd [16])] f))] ?steps ?behind
 case steps =>
  intro xv W hW;refine⟨?s0,?s1,?s2,?s3,?s4,?s5,?s6,?s7,trivial⟩;all_goals intro hd K hK
  all_goals(try simp only[Act.put,ZC,ZA,QZ]at hK)
  case s0=>clear hd;exact c16
  case s1=>exact c26
  case s2=>clear hd;go_simp;exact hK.out _ _ (Qa _ _) (Vb [16] W)
  case s3=>have h:=hd 2;exact Nk
  case s4=>have h:=hd 3;exact pJ
  case s5=>exact c100
  case s6=>exact c163
  case s7=>have h:xv 6=_:=hd 6;exact Km
 case behind=>exact c134
theorem Qv8(x y:ByteArray)(A:Option Addr)(n C:Nat)(f:F)(w:World)(hf:Fs w (Lo w.heap.size) (ς A n C) f):Calls prog 62 #[ξ #[ι γ 10,σ x,σ y,ς A n C]] w fun e w'=>e = ρ (τ (Qc 10 x f))∧Below w.heap.size w w':=by
 have QP:=QA hf;have QS:=E1 w 10 x y A n C;rw[show Qc 10 x f=Qg [.one [Qp]] f by simp[Qc]];clear hf;go_enter func62,ntmps62;go_wp2_with fail;refine QS.out.mono ?_;rintro e w3 ⟨hb3,v3,rfl,g3,c3,rfl,hrest⟩;obtain⟨QO,HB,T3,HF,QY,ZW,hk1,hk3⟩:=Qo QP.out hb3 ⟨_,_,rfl,hrest⟩;clear hb3 hrest QP QS;go_wp2;refine Qv [cX w,Cd.is (ς A n C),Q5 [Qp],Q9 (.one [Qp]),Zi [.one [Qp]],Cd.is (τ (Qg [.one [Qp]] f)),Cd.is (τ (Qg [.one [Qp]] f))] ?steps ?behind
 case steps =>
  intro xv W hW;refine⟨?s0,?s1,?s2,?s3,?s4,?s5,?s6,trivial⟩;all_goals intro hd K hK
  all_goals(try simp only[Act.put,ZC,ZA,QZ]at hK)
  case s0=>clear hd;exact c16
  case s1=>exact c26
  case s2=>exact c48
  case s3=>have h:=hd 2;exact Vu
  case s4=>exact c19
  case s5=>exact c44
  case s6=>exact c67
 case behind=>exact c41
theorem Qv2(x y:ByteArray)(A:Option Addr)(n C:Nat)(f:F)(w:World)(hf:Fs w (Lo w.heap.size) (ς A n C) f):Calls prog 62 #[ξ #[ι γ 16,σ x,σ y,ς A n C]] w fun e w'=>e = ρ (τ (Qc 16 x f))∧Below w.heap.size w w':=by
 have QP:=QA hf;have QS:=E1 w 16 x y A n C;rw[show Qc 16 x f=Qg [.one [Qp]] f by simp[Qc]];clear hf;go_enter func62,ntmps62;go_wp2_with fail;refine QS.out.mono ?_;rintro e w3 ⟨hb3,v3,rfl,g3,c3,rfl,hrest⟩;obtain⟨QO,HB,T3,HF,QY,ZW,hk1,hk3⟩:=Qo QP.out hb3 ⟨_,_,rfl,hrest⟩;clear hb3 hrest QP QS;go_wp2;refine Qv [cX w,Cd.is (ς A n C),Q5 [Qp],Q9 (.one [Qp]),Zi [.one [Qp]],Cd.is (τ (Qg [.one [Qp]] f)),Cd.is (τ (Qg [.one [Qp]] f))] ?steps ?behind
 case steps =>
  intro xv W hW;refine⟨?s0,?s1,?s2,?s3,?s4,?s5,?s6,trivial⟩;all_goals intro hd K hK
  all_goals(try simp only[Act.put,ZC,ZA,QZ]at hK)
  case s0=>clear hd;exact c16
  case s1=>exact c26
  case s2=>exact c48
  case s3=>have h:=hd 2;exact Vu
  case s4=>exact c19
  case s5=>exact c44
  case s6=>exact c67
 case behind=>exact c41
theorem Qyl(x y:ByteArray)(A:Option Addr)(n C:Nat)(f:F)(w:World)(hf:Fs w (Lo w.heap.size) (ς A n C) f):Calls prog 62 #[ξ #[ι γ 6,σ x,σ y,ς A n C]] w fun e w'=>e = ρ (τ (Qc 6 x f))∧Below w.heap.size w w':=by
 have QP:=QA hf;have QS:=E1 w 6 x y A n C;rw[show Qc 6 x f=Qg [.one [Qp]] f by simp[Qc]];clear hf;go_enter func62,ntmps62;go_wp2_with fail;refine QS.out.mono ?_;rintro e w3 ⟨hb3,v3,rfl,g3,c3,rfl,hrest⟩;obtain⟨QO,HB,T3,HF,QY,ZW,hk1,hk3⟩:=Qo QP.out hb3 ⟨_,_,rfl,hrest⟩;clear hb3 hrest QP QS;go_wp2;refine Qv [cX w,Cd.is (ς A n C),Q5 [Qp],Q9 (.one [Qp]),Zi [.one [Qp]],Cd.is (τ (Qg [.one [Qp]] f)),Cd.is (τ (Qg [.one [Qp]] f))] ?steps ?behind
 case steps =>
  intro xv W hW;refine⟨?s0,?s1,?s2,?s3,?s4,?s5,?s6,trivial⟩;all_goals intro hd K hK
  all_goals(try simp only[Act.put,ZC,ZA,QZ]at hK)
  case s0=>clear hd;exact c16
  case s1=>exact c26
  case s2=>exact c48
  case s3=>have h:=hd 2;exact Vu
  case s4=>exact c19
  case s5=>exact c44
  case s6=>exact c67
 case behind=>exact c41
theorem Qvt(x y:ByteArray)(A:Option Addr)(n C:Nat)(f:F)(w:World)(hf:Fs w (Lo w.heap.size) (ς A n C) f):Calls prog 62 #[ξ #[ι γ 26,σ x,σ y,ς A n C]] w fun e w'=>e = ρ (τ (Qc 26 x f))∧Below w.heap.size w w':=by
 have QP:=QA hf;have QS:=E1 w 26 x y A n C;rw[show Qc 26 x f=decide (f.len=0)by simp[Qc]];obtain⟨A0,C0,e,_,_⟩:=hf.slice;injection e with e1 e2 e3;subst e2;clear hf e1 e3;by_cases hz:f.len=0
 ·have hzz:((f.len:Int)==0)=true:=by rw[hz];rfl
  rw[show decide (f.len=0)=true from decide_eq_true hz];clear hz;go_enter func62,ntmps62;go_wp2_with fail;refine(QS.out).mono ?_;rintro e w3 ⟨hb3,v3,rfl,JY⟩;obtain⟨g3,c3,rfl,hrest⟩:=JY;have QO:=QA (Q1 w w3 26 x y A f.len C f g3 c3 QP.out hb3 ⟨_,_,rfl,hrest⟩);have HB:Hid (Below w3.heap.size w3 w3):=QE _ _;have T3:=QA QO.out.t3;have HF:=QA QO.out.fs;have QY:Hid (∀W,Below w3.heap.size w3 W→W.cell? ⟨w.heap.size,3,none⟩=some (ς A f.len C)):=fun W hW=>(QO.out.box W hW).2.2
  exact c17
 ·have hzz:((f.len:Int)==0)=false:=QM ω;rw[show decide (f.len=0)=false from decide_eq_false hz];clear hz;go_enter func62,ntmps62;go_wp2_with fail;refine(QS.out).mono ?_;rintro e w3 ⟨hb3,v3,rfl,JY⟩;obtain⟨g3,c3,rfl,hrest⟩:=JY;have QO:=QA (Q1 w w3 26 x y A f.len C f g3 c3 QP.out hb3 ⟨_,_,rfl,hrest⟩);have HB:Hid (Below w3.heap.size w3 w3):=QE _ _;have T3:=QA QO.out.t3;have HF:=QA QO.out.fs;have QY:Hid (∀W,Below w3.heap.size w3 W→W.cell? ⟨w.heap.size,3,none⟩=some (ς A f.len C)):=fun W hW=>(QO.out.box W hW).2.2
  exact c17
theorem Qvu(x y:ByteArray)(A:Option Addr)(n C:Nat)(f:F)(w:World)(hf:Fs w (Lo w.heap.size) (ς A n C) f):Calls prog 62 #[ξ #[ι γ 25,σ x,σ y,ς A n C]] w fun e w'=>e = ρ (τ (Qc 25 x f))∧Below w.heap.size w w':=by
 have QP:=QA hf;have QS:=E1 w 25 x y A n C;rw[show Qc 25 x f=decide (f.len=0)by simp[Qc]];obtain⟨A0,C0,e,_,_⟩:=hf.slice;injection e with e1 e2 e3;subst e2;clear hf e1 e3;by_cases hz:f.len=0
 ·have hzz:((f.len:Int)==0)=true:=by rw[hz];rfl
  rw[show decide (f.len=0)=true from decide_eq_true hz];clear hz;go_enter func62,ntmps62;go_wp2_with fail;refine(QS.out).mono ?_;rintro e w3 ⟨hb3,v3,rfl,JY⟩;obtain⟨g3,c3,rfl,hrest⟩:=JY;have QO:=QA (Q1 w w3 25 x y A f.len C f g3 c3 QP.out hb3 ⟨_,_,rfl,hrest⟩);have HB:Hid (Below w3.heap.size w3 w3):=QE _ _;have T3:=QA QO.out.t3;have HF:=QA QO.out.fs;have QY:Hid (∀W,Below w3.heap.size w3 W→W.cell? ⟨w.heap.size,3,none⟩=some (ς A f.len C)):=fun W hW=>(QO.out.box W hW).2.2
  exact c17
 ·have hzz:((f.len:Int)==0)=false:=QM ω;rw[show decide (f.len=0)=false from decide_eq_false hz];clear hz;go_enter func62,ntmps62;go_wp2_with fail;refine(QS.out).mono ?_;rintro e w3 ⟨hb3,v3,rfl,JY⟩;obtain⟨g3,c3,rfl,hrest⟩:=JY;have QO:=QA (Q1 w w3 25 x y A f.len C f g3 c3 QP.out hb3 ⟨_,_,rfl,hrest⟩);have HB:Hid (Below w3.heap.size w3 w3):=QE _ _;have T3:=QA QO.out.t3;have HF:=QA QO.out.fs;have QY:Hid (∀W,Below w3.heap.size w3 W→W.cell? ⟨w.heap.size,3,none⟩=some (ς A f.len C)):=fun W hW=>(QO.out.box W hW).2.2
  exact c17
theorem Qyo(x y:ByteArray)(A:Option Addr)(n C:Nat)(f:F)(w:World)(hf:Fs w (Lo w.heap.size) (ς A n C) f):Calls prog 62 #[ξ #[ι γ 3,σ x,σ y,ς A n C]] w fun e w'=>e = ρ (τ (Qc 3 x f))∧Below w.heap.size w w':=by
 have QP:=QA hf;have QS:=E1 w 3 x y A n C;rw[show Qc 3 x f=decide (f.len=0)by simp[Qc]];obtain⟨A0,C0,e,_,_⟩:=hf.slice;injection e with e1 e2 e3;subst e2;clear hf e1 e3;by_cases hz:f.len=0
 ·have hzz:((f.len:Int)==0)=true:=by rw[hz];rfl
  rw[show decide (f.len=0)=true from decide_eq_true hz];clear hz;go_enter func62,ntmps62;go_wp2_with fail;refine(QS.out).mono ?_;rintro e w3 ⟨hb3,v3,rfl,JY⟩;obtain⟨g3,c3,rfl,hrest⟩:=JY;have QO:=QA (Q1 w w3 3 x y A f.len C f g3 c3 QP.out hb3 ⟨_,_,rfl,hrest⟩);have HB:Hid (Below w3.heap.size w3 w3):=QE _ _;have T3:=QA QO.out.t3;have HF:=QA QO.out.fs;have QY:Hid (∀W,Below w3.heap.size w3 W→W.cell? ⟨w.heap.size,3,none⟩=some (ς A f.len C)):=fun W hW=>(QO.out.box W hW).2.2
  exact c17
 ·have hzz:((f.len:Int)==0)=false:=QM ω;rw[show decide (f.len=0)=false from decide_eq_false hz];clear hz;go_enter func62,ntmps62;go_wp2_with fail;refine(QS.out).mono ?_;rintro e w3 ⟨hb3,v3,rfl,JY⟩;obtain⟨g3,c3,rfl,hrest⟩:=JY;have QO:=QA (Q1 w w3 3 x y A f.len C f g3 c3 QP.out hb3 ⟨_,_,rfl,hrest⟩);have HB:Hid (Below w3.heap.size w3 w3):=QE _ _;have T3:=QA QO.out.t3;have HF:=QA QO.out.fs;have QY:Hid (∀W,Below w3.heap.size w3 W→W.cell? ⟨w.heap.size,3,none⟩=some (ς A f.len C)):=fun W hW=>(QO.out.box W hW).2.2
  exact c17
