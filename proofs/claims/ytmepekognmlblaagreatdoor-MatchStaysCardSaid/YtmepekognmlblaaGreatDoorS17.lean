import Derived.Test.YtmepekognmlblaaGreatDoorS12
set_option maxHeartbeats 8000000
set_option maxRecDepth 100000
set_option linter.unusedVariables false
open Go.Proofs.Tryz Go.ChangeShapes Go.WideShapes Go.ChangeAt Go.RowKit
open Go.Lib renaming hid→QA
open Go.RowKit.Below renaming refl→QE
open _root_.List renaming setIfInBounds_toArray→ZC,set_cons_succ→ZA,set_cons_zero→QZ
open Go.Value renaming string→σ,int→ι,slice→ς,bool→τ,agg→ξ
open Go.IntKind renaming i64→γ
open Go.Ending renaming returned→ρ
namespace Go.Proofs.YtmepekognmlblaaGreatDoor
namespace Tree
open Mem
theorem Qyq(x y:ByteArray)(A:Option Addr)(n C:Nat)(f:F)(w:World)(hf:Fs w (Lo w.heap.size) (ς A n C) f):Calls prog 62 #[ξ #[ι γ 1,σ x,σ y,ς A n C]] w fun e w'=>e = ρ (τ (Qc 1 x f))∧Below w.heap.size w w':=by
 have QP:=QA hf;have QS:=E1 w 1 x y A n C;rw[show Qc 1 x f=Qg [.many (Qd [8]),.one [Qd [2]],.many (Qd [3,8]),.many V5] f by simp[Qc]];clear hf;go_enter func62,ntmps62;go_wp2_with fail;refine QS.out.mono ?_;rintro e w3 ⟨hb3,v3,rfl,g3,c3,rfl,hrest⟩;obtain⟨QO,HB,T3,HF,QY,ZW,hk1,hk3⟩:=Qo QP.out hb3 ⟨_,_,rfl,hrest⟩;clear hb3 hrest QP QS;go_wp2;refine Qv [cX w,Cd.is (ς A n C),Gx [8],X2 (Qd [8]),Q9 (.many (Qd [8])),Gx [2],X2 (Qd [2]),Q5 [Qd [2]],Q9 (.one [Qd [2]]),Gx [3,8],X2 (Qd [3,8]),Q9 (.many (Qd [3,8])),Q9 (.many V5),Zi [.many (Qd [8]),.one [Qd [2]],.many (Qd [3,8]),.many V5],Cd.is (τ (Qg [.many (Qd [8]),.one [Qd [2]],.many (Qd [3,8]),.many V5] f)),Cd.is (τ (Qg [.many (Qd [8]),.one [Qd [2]],.many (Qd [3,8]),.many V5] f))] ?steps ?behind
 case steps =>
  intro xv W hW;refine⟨?s0,?s1,?s2,?s3,?s4,?s5,?s6,?s7,?s8,?s9,?JQ,?GA,?YU,?EU,?UU,?PA,trivial⟩;all_goals intro hd K hK
  all_goals(try simp only[Act.put,ZC,ZA,QZ]at hK)
  case s0=>clear hd;exact c16
  case s1=>exact c26
  case s2=>clear hd;go_simp;exact hK.out _ _ (Qa _ _) (Vb [8] W)
  case s3=>have h:=hd 2;exact Nk
  case s4=>have h:=hd 3;exact pJ
  case s5=>clear hd;go_simp;exact hK.out _ _ (Qa _ _) (Vb [2] W)
  case s6=>have h:=hd 5;exact Nk
  case s7=>exact c101
  case s8=>have h:=hd 7;exact Vu
  case s9=>clear hd;go_simp;exact hK.out _ _ (Qa _ _) (Vb [3,8] W)
  case JQ=>have h:=hd 9;exact Nk
  case GA=>have h:=hd 10;exact pJ
  case YU=>clear hd;go_simp;go_at_call 87;refine(Y6 V5 _ _ W (Qhr W)).mono ?_;exact c50
  case EU=>obtain⟨_,_,e4,q4⟩:=Qn (hd 4);obtain⟨_,_,e8,q8⟩:=Qn (hd 8);obtain⟨_,_,e11,tJ⟩:=Qn (hd 11);obtain⟨_,_,e12,jx⟩:=Qn (hd 12);clear hd;rw[e4,e8,e11,e12]at hK⊢;clear e4 e8 e11 e12;go_simp;exact hK.out _ _ (Qa _ _) (Qdh W q4.out q8.out tJ.out jx.out)
  case UU=>have h1:xv 1=_:=hd 1;have h:=hd 13;exact Ka
  case PA=>have h:xv 14=_:=hd 14;exact Km
 case behind=>intro xv W hW hx;have hl:xv 15=_:=hx 15;exact Kb
theorem Qv0(x y:ByteArray)(A:Option Addr)(n C:Nat)(f:F)(w:World)(hf:Fs w (Lo w.heap.size) (ς A n C) f):Calls prog 62 #[ξ #[ι γ 18,σ x,σ y,ς A n C]] w fun e w'=>e = ρ (τ (Qc 18 x f))∧Below w.heap.size w w':=by
 have QP:=QA hf;have QS:=E1 w 18 x y A n C;rw[show Qc 18 x f=Qg [.one [Qf],.one [Qd [17]],.one [Qd [17,18],Qd [33]]] f by simp[Qc]];clear hf;go_enter func62,ntmps62;go_wp2_with fail;refine QS.out.mono ?_;rintro e w3 ⟨hb3,v3,rfl,g3,c3,rfl,hrest⟩;obtain⟨QO,HB,T3,HF,QY,ZW,hk1,hk3⟩:=Qo QP.out hb3 ⟨_,_,rfl,hrest⟩;clear hb3 hrest QP QS;go_wp2;refine Qv [cX w,Cd.is (ς A n C),Q5 [Qf],Q9 (.one [Qf]),Gx [17],X2 (Qd [17]),Q5 [Qd [17]],Q9 (.one [Qd [17]]),Gx [17,18],X2 (Qd [17,18]),Cd.is (Value.func (.func g3) #[] c3),Q5 [Qd [17,18],Qd [33]],Q9 (.one [Qd [17,18],Qd [33]]),Zi [.one [Qf],.one [Qd [17]],.one [Qd [17,18],Qd [33]]],Cd.is (τ (Qg [.one [Qf],.one [Qd [17]],.one [Qd [17,18],Qd [33]]] f)),Cd.is (τ (Qg [.one [Qf],.one [Qd [17]],.one [Qd [17,18],Qd [33]]] f))] ?steps ?behind
 case steps =>
  intro xv W hW;refine⟨?s0,?s1,?s2,?s3,?s4,?s5,?s6,?s7,?s8,?s9,?JQ,?GA,?YU,?EU,?UU,?PA,trivial⟩;all_goals intro hd K hK
  all_goals(try simp only[Act.put,ZC,ZA,QZ]at hK)
  case s0|JQ=>clear hd;exact c16
  case s1=>exact c26
  case s2=>exact c31
  case s3=>have h:=hd 2;exact Vu
  case s4=>exact c114
  case s5=>have h:=hd 4;exact Nk
  case s6=>obtain⟨_,_,e5,q5⟩:=J4 (hd 5);clear hd;rw[e5]at hK⊢;clear e5;go_simp;exact hK.out _ _ (Qa _ _) (Ql W q5.out)
  case s7=>have h:=hd 6;exact Vu
  case s8=>clear hd;go_simp;exact hK.out _ _ (Qa _ _) (Vb [17,18] W)
  case s9=>have h:=hd 8;exact Nk
  case GA=>obtain⟨_,_,e9,q9⟩:=J4 (hd 9);have ZE:xv 10=_:=hd 10;clear hd;rw[ZE]at hK⊢;rw[e9]at hK⊢;clear e9;go_simp;exact hK.out _ _ (Qa _ _) (Vq W q9.out (T3.out.later hW))
  case YU=>have h:=hd 11;exact Vu
  case EU=>obtain⟨_,_,e3,q3⟩:=Qn (hd 3);obtain⟨_,_,e7,q7⟩:=Qn (hd 7);obtain⟨_,_,e12,jx⟩:=Qn (hd 12);clear hd;rw[e3,e7,e12]at hK⊢;clear e3 e7 e12;go_simp;exact hK.out _ _ (Qa _ _) (Qk4 W q3.out q7.out jx.out)
  case UU=>have h1:xv 1=_:=hd 1;have h:=hd 13;exact Ka
  case PA=>have h:xv 14=_:=hd 14;exact Km
 case behind=>intro xv W hW hx;have hl:xv 15=_:=hx 15;exact Kb
theorem Qi5(x y:ByteArray)(A:Option Addr)(n C:Nat)(f:F)(w:World)(hf:Fs w (Lo w.heap.size) (ς A n C) f)(Ci:(x.toList==[58,61])=true):Calls prog 62 #[ξ #[ι γ 21,σ x,σ y,ς A n C]] w fun e w'=>e = ρ (τ (Qc 21 x f))∧Below w.heap.size w w':=by
 have QP:=QA hf;have QS:=E1 w 21 x y A n C;rw[show Qc 21 x f=Qg [.one [Qd [9]],.one [Qf]] f by simp[Qc,Ci]];clear hf;go_enter func62,ntmps62;go_wp2_with fail;refine QS.out.mono ?_;rintro e w3 ⟨hb3,v3,rfl,g3,c3,rfl,hrest⟩;obtain⟨QO,HB,T3,HF,QY,ZW,hk1,hk3⟩:=Qo QP.out hb3 ⟨_,_,rfl,hrest⟩;clear hb3 hrest QP QS;go_wp2;refine Qv [cX w,Cd.is (ς A n C),Gx [9],X2 (Qd [9]),Q5 [Qd [9]],Q9 (.one [Qd [9]]),Q5 [Qf],Q9 (.one [Qf]),Zi [.one [Qd [9]],.one [Qf]],Cd.is (τ (Qg [.one [Qd [9]],.one [Qf]] f)),Cd.is (τ (Qg [.one [Qd [9]],.one [Qf]] f))] ?steps ?behind
 case steps =>
  intro xv W hW;refine⟨?s0,?s1,?s2,?s3,?s4,?s5,?s6,?s7,?s8,?s9,?JQ,trivial⟩;all_goals intro hd K hK
  all_goals(try simp only[Act.put,ZC,ZA,QZ]at hK)
  case s0=>clear hd;exact c16
  case s1=>exact c26
  case s2=>clear hd;go_simp;exact hK.out _ _ (Qa _ _) (Vb [9] W)
  case s3=>have h:=hd 2;exact Nk
  case s4=>exact c99
  case s5=>have h:=hd 4;exact Vu
  case s6=>exact c31
  case s7=>have h:=hd 6;exact Vu
  case s8=>obtain⟨_,_,e5,q5⟩:=Qn (hd 5);obtain⟨_,_,e7,q7⟩:=Qn (hd 7);clear hd;rw[e5,e7]at hK⊢;clear e5 e7;go_simp;exact hK.out _ _ (Qa _ _) (Z6 W q5.out q7.out)
  case s9=>have h1:xv 1=_:=hd 1;have h:=hd 8;exact Ka
  case JQ=>have h:xv 9=_:=hd 9;exact Km
 case behind=>intro xv W hW hx;have hl:xv 10=_:=hx 10;exact Kb
theorem Qvo(x y:ByteArray)(A:Option Addr)(n C:Nat)(f:F)(w:World)(hf:Fs w (Lo w.heap.size) (ς A n C) f):Calls prog 62 #[ξ #[ι γ 31,σ x,σ y,ς A n C]] w fun e w'=>e = ρ (τ (Qc 31 x f))∧Below w.heap.size w w':=by
 have QP:=QA hf;have QS:=E1 w 31 x y A n C;rw[show Qc 31 x f=Qg [.one [Qf],.one [Qf]] f by simp[Qc]];clear hf;go_enter func62,ntmps62;go_wp2_with fail;refine QS.out.mono ?_;rintro e w3 ⟨hb3,v3,rfl,g3,c3,rfl,hrest⟩;obtain⟨QO,HB,T3,HF,QY,ZW,hk1,hk3⟩:=Qo QP.out hb3 ⟨_,_,rfl,hrest⟩;clear hb3 hrest QP QS;go_wp2;refine Qv [cX w,Cd.is (ς A n C),Q5 [Qf],Q9 (.one [Qf]),Q5 [Qf],Q9 (.one [Qf]),Zi [.one [Qf],.one [Qf]],Cd.is (τ (Qg [.one [Qf],.one [Qf]] f)),Cd.is (τ (Qg [.one [Qf],.one [Qf]] f))] ?steps ?behind
 case steps =>
  intro xv W hW;refine⟨?s0,?s1,?s2,?s3,?s4,?s5,?s6,?s7,?s8,trivial⟩;all_goals intro hd K hK
  all_goals(try simp only[Act.put,ZC,ZA,QZ]at hK)
  case s0=>clear hd;exact c16
  case s1=>exact c26
  case s2|s4=>exact c31
  case s3=>have h:=hd 2;exact Vu
  case s5=>have h:=hd 4;exact Vu
  case s6=>exact c27
  case s7=>exact c76
  case s8=>exact c130
 case behind=>exact c70
theorem Qv5(x y:ByteArray)(A:Option Addr)(n C:Nat)(f:F)(w:World)(hf:Fs w (Lo w.heap.size) (ς A n C) f):Calls prog 62 #[ξ #[ι γ 13,σ x,σ y,ς A n C]] w fun e w'=>e = ρ (τ (Qc 13 x f))∧Below w.heap.size w w':=by
 have QP:=QA hf;have QS:=E1 w 13 x y A n C;rw[show Qc 13 x f=Qg [.many (Qd [14,8])] f by simp[Qc]];clear hf;go_enter func62,ntmps62;go_wp2_with fail;refine QS.out.mono ?_;rintro e w3 ⟨hb3,v3,rfl,g3,c3,rfl,hrest⟩;obtain⟨QO,HB,T3,HF,QY,ZW,hk1,hk3⟩:=Qo QP.out hb3 ⟨_,_,rfl,hrest⟩;clear hb3 hrest QP QS;go_wp2;refine Qv [cX w,Cd.is (ς A n C),Gx [14,8],X2 (Qd [14,8]),Q9 (.many (Qd [14,8])),Zi [.many (Qd [14,8])],Cd.is (τ (Qg [.many (Qd [14,8])] f)),Cd.is (τ (Qg [.many (Qd [14,8])] f))] ?steps ?behind
 case steps =>
  intro xv W hW;refine⟨?s0,?s1,?s2,?s3,?s4,?s5,?s6,?s7,trivial⟩;all_goals intro hd K hK
  all_goals(try simp only[Act.put,ZC,ZA,QZ]at hK)
  case s0=>clear hd;exact c16
  case s1=>exact c26
  case s2=>clear hd;go_simp;exact hK.out _ _ (Qa _ _) (Vb [14,8] W)
  case s3=>have h:=hd 2;exact Nk
  case s4=>have h:=hd 3;exact pJ
  case s5=>exact c100
  case s6=>exact c163
  case s7=>have h:xv 6=_:=hd 6;exact Km
 case behind=>exact c134
theorem Qvn(x y:ByteArray)(A:Option Addr)(n C:Nat)(f:F)(w:World)(hf:Fs w (Lo w.heap.size) (ς A n C) f):Calls prog 62 #[ξ #[ι γ 32,σ x,σ y,ς A n C]] w fun e w'=>e = ρ (τ (Qc 32 x f))∧Below w.heap.size w w':=by
 have QP:=QA hf;have QS:=E1 w 32 x y A n C;rw[show Qc 32 x f=Qg [.one [Qf]] f by simp[Qc]];clear hf;go_enter func62,ntmps62;go_wp2_with fail;refine QS.out.mono ?_;rintro e w3 ⟨hb3,v3,rfl,g3,c3,rfl,hrest⟩;obtain⟨QO,HB,T3,HF,QY,ZW,hk1,hk3⟩:=Qo QP.out hb3 ⟨_,_,rfl,hrest⟩;clear hb3 hrest QP QS;go_wp2;refine Qv [cX w,Cd.is (ς A n C),Q5 [Qf],Q9 (.one [Qf]),Zi [.one [Qf]],Cd.is (τ (Qg [.one [Qf]] f)),Cd.is (τ (Qg [.one [Qf]] f))] ?steps ?behind
 case steps =>
  intro xv W hW;refine⟨?s0,?s1,?s2,?s3,?s4,?s5,?s6,trivial⟩;all_goals intro hd K hK
  all_goals(try simp only[Act.put,ZC,ZA,QZ]at hK)
  case s0=>clear hd;exact c16
  case s1=>exact c26
  case s2=>exact c31
  case s3=>have h:=hd 2;exact Vu
  case s4=>exact c19
  case s5=>exact c44
  case s6=>exact c67
 case behind=>exact c41
theorem Qv4(x y:ByteArray)(A:Option Addr)(n C:Nat)(f:F)(w:World)(hf:Fs w (Lo w.heap.size) (ς A n C) f):Calls prog 62 #[ξ #[ι γ 14,σ x,σ y,ς A n C]] w fun e w'=>e = ρ (τ (Qc 14 x f))∧Below w.heap.size w w':=by
 have QP:=QA hf;have QS:=E1 w 14 x y A n C;rw[show Qc 14 x f=Qg [.one [Qp]] f by simp[Qc]];clear hf;go_enter func62,ntmps62;go_wp2_with fail;refine QS.out.mono ?_;rintro e w3 ⟨hb3,v3,rfl,g3,c3,rfl,hrest⟩;obtain⟨QO,HB,T3,HF,QY,ZW,hk1,hk3⟩:=Qo QP.out hb3 ⟨_,_,rfl,hrest⟩;clear hb3 hrest QP QS;go_wp2;refine Qv [cX w,Cd.is (ς A n C),Q5 [Qp],Q9 (.one [Qp]),Zi [.one [Qp]],Cd.is (τ (Qg [.one [Qp]] f)),Cd.is (τ (Qg [.one [Qp]] f))] ?steps ?behind
 case steps =>
  intro xv W hW;refine⟨?s0,?s1,?s2,?s3,?s4,?s5,?s6,trivial⟩;all_goals intro hd K hK
  all_goals(try simp only[Act.put,ZC,ZA,QZ]at hK)
  case s0=>clear hd;exact c16
  case s1=>exact c26
  case s2=>exact c48
  case s3=>have h:=hd 2;exact Vu
  case s4=>exact c19
  case s5=>exact c44
  case s6=>exact c67
 case behind=>exact c41
theorem Qyn(x y:ByteArray)(A:Option Addr)(n C:Nat)(f:F)(w:World)(hf:Fs w (Lo w.heap.size) (ς A n C) f):Calls prog 62 #[ξ #[ι γ 4,σ x,σ y,ς A n C]] w fun e w'=>e = ρ (τ (Qc 4 x f))∧Below w.heap.size w w':=by
 have QP:=QA hf;have QS:=E1 w 4 x y A n C;rw[show Qc 4 x f=Qg [.one [Qf]] f by simp[Qc]];clear hf;go_enter func62,ntmps62;go_wp2_with fail;refine QS.out.mono ?_;rintro e w3 ⟨hb3,v3,rfl,g3,c3,rfl,hrest⟩;obtain⟨QO,HB,T3,HF,QY,ZW,hk1,hk3⟩:=Qo QP.out hb3 ⟨_,_,rfl,hrest⟩;clear hb3 hrest QP QS;go_wp2;refine Qv [cX w,Cd.is (ς A n C),Q5 [Qf],Q9 (.one [Qf]),Zi [.one [Qf]],Cd.is (τ (Qg [.one [Qf]] f)),Cd.is (τ (Qg [.one [Qf]] f))] ?steps ?behind
 case steps =>
  intro xv W hW;refine⟨?s0,?s1,?s2,?s3,?s4,?s5,?s6,trivial⟩;all_goals intro hd K hK
  all_goals(try simp only[Act.put,ZC,ZA,QZ]at hK)
  case s0=>clear hd;exact c16
  case s1=>exact c26
  case s2=>exact c31
  case s3=>have h:=hd 2;exact Vu
  case s4=>exact c19
  case s5=>exact c44
  case s6=>exact c67
 case behind=>exact c41
theorem Qvy(x y:ByteArray)(A:Option Addr)(n C:Nat)(f:F)(w:World)(hf:Fs w (Lo w.heap.size) (ς A n C) f):Calls prog 62 #[ξ #[ι γ 20,σ x,σ y,ς A n C]] w fun e w'=>e = ρ (τ (Qc 20 x f))∧Below w.heap.size w w':=by
 have QP:=QA hf;have QS:=E1 w 20 x y A n C;rw[show Qc 20 x f=Qg [.many Qf] f by simp[Qc]];clear hf;go_enter func62,ntmps62;go_wp2_with fail;refine QS.out.mono ?_;rintro e w3 ⟨hb3,v3,rfl,g3,c3,rfl,hrest⟩;obtain⟨QO,HB,T3,HF,QY,ZW,hk1,hk3⟩:=Qo QP.out hb3 ⟨_,_,rfl,hrest⟩;clear hb3 hrest QP QS;go_wp2;refine Qv [cX w,Cd.is (ς A n C),Q9 (.many Qf),Zi [.many Qf],Cd.is (τ (Qg [.many Qf] f)),Cd.is (τ (Qg [.many Qf] f))] ?steps ?behind
 case steps =>
  intro xv W hW;refine⟨?s0,?s1,?s2,?s3,?s4,?s5,trivial⟩;all_goals intro hd K hK
  all_goals(try simp only[Act.put,ZC,ZA,QZ]at hK)
  case s0=>clear hd;exact c16
  case s1=>exact c26
  case s2=>exact c164
  case s3=>exact c102
  case s4=>have h1:xv 1=_:=hd 1;have h:=hd 3;exact Ka
  case s5=>have h:xv 4=_:=hd 4;exact Km
 case behind=>intro xv W hW hx;have hl:xv 5=_:=hx 5;exact Kb
theorem Qvv(x y:ByteArray)(A:Option Addr)(n C:Nat)(f:F)(w:World)(hf:Fs w (Lo w.heap.size) (ς A n C) f):Calls prog 62 #[ξ #[ι γ 24,σ x,σ y,ς A n C]] w fun e w'=>e = ρ (τ (Qc 24 x f))∧Below w.heap.size w w':=by
 have QP:=QA hf;have QS:=E1 w 24 x y A n C;rw[show Qc 24 x f=decide (f.len=0)by simp[Qc]];obtain⟨A0,C0,e,_,_⟩:=hf.slice;injection e with e1 e2 e3;subst e2;clear hf e1 e3;by_cases hz:f.len=0
 ·have hzz:((f.len:Int)==0)=true:=by rw[hz];rfl
  rw[show decide (f.len=0)=true from decide_eq_true hz];clear hz;go_enter func62,ntmps62;go_wp2_with fail;refine(QS.out).mono ?_;rintro e w3 ⟨hb3,v3,rfl,JY⟩;obtain⟨g3,c3,rfl,hrest⟩:=JY;have QO:=QA (Q1 w w3 24 x y A f.len C f g3 c3 QP.out hb3 ⟨_,_,rfl,hrest⟩);have HB:Hid (Below w3.heap.size w3 w3):=QE _ _;have T3:=QA QO.out.t3;have HF:=QA QO.out.fs;have QY:Hid (∀W,Below w3.heap.size w3 W→W.cell? ⟨w.heap.size,3,none⟩=some (ς A f.len C)):=fun W hW=>(QO.out.box W hW).2.2
  exact c17
 ·have hzz:((f.len:Int)==0)=false:=QM ω;rw[show decide (f.len=0)=false from decide_eq_false hz];clear hz;go_enter func62,ntmps62;go_wp2_with fail;refine(QS.out).mono ?_;rintro e w3 ⟨hb3,v3,rfl,JY⟩;obtain⟨g3,c3,rfl,hrest⟩:=JY;have QO:=QA (Q1 w w3 24 x y A f.len C f g3 c3 QP.out hb3 ⟨_,_,rfl,hrest⟩);have HB:Hid (Below w3.heap.size w3 w3):=QE _ _;have T3:=QA QO.out.t3;have HF:=QA QO.out.fs;have QY:Hid (∀W,Below w3.heap.size w3 W→W.cell? ⟨w.heap.size,3,none⟩=some (ς A f.len C)):=fun W hW=>(QO.out.box W hW).2.2
  exact c17
theorem Qyp(x y:ByteArray)(A:Option Addr)(n C:Nat)(f:F)(w:World)(hf:Fs w (Lo w.heap.size) (ς A n C) f):Calls prog 62 #[ξ #[ι γ 2,σ x,σ y,ς A n C]] w fun e w'=>e = ρ (τ (Qc 2 x f))∧Below w.heap.size w w':=by
 have QP:=QA hf;have QS:=E1 w 2 x y A n C;rw[show Qc 2 x f=decide (f.len=0)by simp[Qc]];obtain⟨A0,C0,e,_,_⟩:=hf.slice;injection e with e1 e2 e3;subst e2;clear hf e1 e3;by_cases hz:f.len=0
 ·have hzz:((f.len:Int)==0)=true:=by rw[hz];rfl
  rw[show decide (f.len=0)=true from decide_eq_true hz];clear hz;go_enter func62,ntmps62;go_wp2_with fail;refine(QS.out).mono ?_;rintro e w3 ⟨hb3,v3,rfl,JY⟩;obtain⟨g3,c3,rfl,hrest⟩:=JY;have QO:=QA (Q1 w w3 2 x y A f.len C f g3 c3 QP.out hb3 ⟨_,_,rfl,hrest⟩);have HB:Hid (Below w3.heap.size w3 w3):=QE _ _;have T3:=QA QO.out.t3;have HF:=QA QO.out.fs;have QY:Hid (∀W,Below w3.heap.size w3 W→W.cell? ⟨w.heap.size,3,none⟩=some (ς A f.len C)):=fun W hW=>(QO.out.box W hW).2.2
  exact c17
 ·have hzz:((f.len:Int)==0)=false:=QM ω;rw[show decide (f.len=0)=false from decide_eq_false hz];clear hz;go_enter func62,ntmps62;go_wp2_with fail;refine(QS.out).mono ?_;rintro e w3 ⟨hb3,v3,rfl,JY⟩;obtain⟨g3,c3,rfl,hrest⟩:=JY;have QO:=QA (Q1 w w3 2 x y A f.len C f g3 c3 QP.out hb3 ⟨_,_,rfl,hrest⟩);have HB:Hid (Below w3.heap.size w3 w3):=QE _ _;have T3:=QA QO.out.t3;have HF:=QA QO.out.fs;have QY:Hid (∀W,Below w3.heap.size w3 W→W.cell? ⟨w.heap.size,3,none⟩=some (ς A f.len C)):=fun W hW=>(QO.out.box W hW).2.2
  exact c17
theorem Qyi(x y:ByteArray)(A:Option Addr)(n C:Nat)(f:F)(w:World)(hf:Fs w (Lo w.heap.size) (ς A n C) f):Calls prog 62 #[ξ #[ι γ 9,σ x,σ y,ς A n C]] w fun e w'=>e = ρ (τ (Qc 9 x f))∧Below w.heap.size w w':=by
 have QP:=QA hf;have QS:=E1 w 9 x y A n C;rw[show Qc 9 x f=decide (f.len=0)by simp[Qc]];obtain⟨A0,C0,e,_,_⟩:=hf.slice;injection e with e1 e2 e3;subst e2;clear hf e1 e3;by_cases hz:f.len=0
 ·have hzz:((f.len:Int)==0)=true:=by rw[hz];rfl
  rw[show decide (f.len=0)=true from decide_eq_true hz];clear hz;go_enter func62,ntmps62;go_wp2_with fail;refine(QS.out).mono ?_;rintro e w3 ⟨hb3,v3,rfl,JY⟩;obtain⟨g3,c3,rfl,hrest⟩:=JY;have QO:=QA (Q1 w w3 9 x y A f.len C f g3 c3 QP.out hb3 ⟨_,_,rfl,hrest⟩);have HB:Hid (Below w3.heap.size w3 w3):=QE _ _;have T3:=QA QO.out.t3;have HF:=QA QO.out.fs;have QY:Hid (∀W,Below w3.heap.size w3 W→W.cell? ⟨w.heap.size,3,none⟩=some (ς A f.len C)):=fun W hW=>(QO.out.box W hW).2.2
  exact c17
 ·have hzz:((f.len:Int)==0)=false:=QM ω;rw[show decide (f.len=0)=false from decide_eq_false hz];clear hz;go_enter func62,ntmps62;go_wp2_with fail;refine(QS.out).mono ?_;rintro e w3 ⟨hb3,v3,rfl,JY⟩;obtain⟨g3,c3,rfl,hrest⟩:=JY;have QO:=QA (Q1 w w3 9 x y A f.len C f g3 c3 QP.out hb3 ⟨_,_,rfl,hrest⟩);have HB:Hid (Below w3.heap.size w3 w3):=QE _ _;have T3:=QA QO.out.t3;have HF:=QA QO.out.fs;have QY:Hid (∀W,Below w3.heap.size w3 W→W.cell? ⟨w.heap.size,3,none⟩=some (ς A f.len C)):=fun W hW=>(QO.out.box W hW).2.2
  exact c17
