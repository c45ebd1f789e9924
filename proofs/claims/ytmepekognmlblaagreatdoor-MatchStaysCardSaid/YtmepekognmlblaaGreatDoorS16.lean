import Derived.Test.YtmepekognmlblaaGreatDoorS12
set_option maxHeartbeats 8000000
set_option maxRecDepth 100000
set_option linter.unusedVariables false
open Go.Proofs.Tryz Go.ChangeShapes Go.WideShapes Go.ChangeAt Go.RowKit
open Go.Lib renaming hid→QA
open Go.RowKit.Below renaming refl→QE
open _root_.List renaming setIfInBounds_toArray→ZC,set_cons_succ→ZA,set_cons_zero→QZ
open Go.Value renaming string→σ,int→ι,slice→ς,bool→τ,agg→ξ
open Go.IntKind renaming i64→γ
open Go.Ending renaming returned→ρ
namespace Go.Proofs.YtmepekognmlblaaGreatDoor
namespace Tree
open Mem
theorem Qyk(x y:ByteArray)(A:Option Addr)(n C:Nat)(f:F)(w:World)(hf:Fs w (Lo w.heap.size) (ς A n C) f):Calls prog 62 #[ξ #[ι γ 7,σ x,σ y,ς A n C]] w fun e w'=>e = ρ (τ (Qc 7 x f))∧Below w.heap.size w w':=by
 have QP:=QA hf;have QS:=E1 w 7 x y A n C;rw[show Qc 7 x f=Qg [.one [Qd [16],Qd [33]],.one [Qd [15]],.one [Qp,Qd [33]],.one [Qd [17]]] f by simp[Qc]];clear hf;go_enter func62,ntmps62;go_wp2_with fail;refine QS.out.mono ?_;rintro e w3 ⟨hb3,v3,rfl,g3,c3,rfl,hrest⟩;obtain⟨QO,HB,T3,HF,QY,ZW,hk1,hk3⟩:=Qo QP.out hb3 ⟨_,_,rfl,hrest⟩;clear hb3 hrest QP QS;go_wp2;refine Qv [cX w,Cd.is (ς A n C),Gx [16],X2 (Qd [16]),Cd.is (Value.func (.func g3) #[] c3),Q5 [Qd [16],Qd [33]],Q9 (.one [Qd [16],Qd [33]]),Gx [15],X2 (Qd [15]),Q5 [Qd [15]],Q9 (.one [Qd [15]]),Cd.is (Value.func (.func g3) #[] c3),Q5 [Qp,Qd [33]],Q9 (.one [Qp,Qd [33]]),Gx [17],X2 (Qd [17]),Q5 [Qd [17]],Q9 (.one [Qd [17]]),Zi [.one [Qd [16],Qd [33]],.one [Qd [15]],.one [Qp,Qd [33]],.one [Qd [17]]],Cd.is (τ (Qg [.one [Qd [16],Qd [33]],.one [Qd [15]],.one [Qp,Qd [33]],.one [Qd [17]]] f)),Cd.is (τ (Qg [.one [Qd [16],Qd [33]],.one [Qd [15]],.one [Qp,Qd [33]],.one [Qd [17]]] f))] ?steps ?behind
 case steps =>
  intro xv W hW;refine⟨?s0,?s1,?s2,?s3,?s4,?s5,?s6,?s7,?s8,?s9,?JQ,?GA,?YU,?EU,?UU,?PA,?ED,?SK,?BS,?Aq,?SJ,trivial⟩;all_goals intro hd K hK
  all_goals(try simp only[Act.put,ZC,ZA,QZ]at hK)
  case s0|s4|GA=>clear hd;exact c16
  case s1=>exact c26
  case s2=>clear hd;go_simp;exact hK.out _ _ (Qa _ _) (Vb [16] W)
  case s3=>have h:=hd 2;exact Nk
  case s5=>obtain⟨_,_,e3,q3⟩:=J4 (hd 3);have JJ:xv 4=_:=hd 4;clear hd;rw[JJ]at hK⊢;rw[e3]at hK⊢;clear e3;go_simp;exact hK.out _ _ (Qa _ _) (Vq W q3.out (T3.out.later hW))
  case s6=>have h:=hd 5;exact Vu
  case s7=>clear hd;go_simp;exact hK.out _ _ (Qa _ _) (Vb [15] W)
  case s8=>have h:=hd 7;exact Nk
  case s9=>obtain⟨_,_,e8,q8⟩:=J4 (hd 8);clear hd;rw[e8]at hK⊢;clear e8;go_simp;exact hK.out _ _ (Qa _ _) (Ql W q8.out)
  case JQ=>have h:=hd 9;exact Vu
  case YU=>have JE:xv 11=Value.func (.func g3) #[] c3:=hd 11;clear hd;rw[JE]at hK⊢;go_simp;exact hK.out _ _ (Qa _ _) (Vq W (Z5 W) (T3.out.later hW))
  case EU=>have h:=hd 12;exact Vu
  case UU=>exact c114
  case PA=>have h:=hd 14;exact Nk
  case ED=>obtain⟨_,_,gT,q15⟩:=J4 (hd 15);clear hd;rw[gT]at hK⊢;clear gT;go_simp;exact hK.out _ _ (Qa _ _) (Ql W q15.out)
  case SK=>have h:=hd 16;exact Vu
  case BS=>obtain⟨_,_,e6,q6⟩:=Qn (hd 6);obtain⟨_,_,e10,tL⟩:=Qn (hd 10);obtain⟨_,_,zx,tI⟩:=Qn (hd 13);obtain⟨_,_,e17,q17⟩:=Qn (hd 17);clear hd;rw[e6,e10,zx,e17]at hK⊢;clear e6 e10 zx e17;go_simp;exact hK.out _ _ (Qa _ _) (Qdh W q6.out tL.out tI.out q17.out)
  case Aq=>have h1:xv 1=_:=hd 1;have h:=hd 18;exact Ka
  case SJ=>have h:xv 19=_:=hd 19;exact Km
 case behind=>intro xv W hW hx;have hl:xv 20=_:=hx 20;exact Kb
theorem Qvz(x y:ByteArray)(A:Option Addr)(n C:Nat)(f:F)(w:World)(hf:Fs w (Lo w.heap.size) (ς A n C) f):Calls prog 62 #[ξ #[ι γ 19,σ x,σ y,ς A n C]] w fun e w'=>e = ρ (τ (Qc 19 x f))∧Below w.heap.size w w':=by
 have QP:=QA hf;have QS:=E1 w 19 x y A n C;rw[show Qc 19 x f=Qg [.one [Qf,Qd [33]],.one [Qd [17]]] f by simp[Qc]];clear hf;go_enter func62,ntmps62;go_wp2_with fail;refine QS.out.mono ?_;rintro e w3 ⟨hb3,v3,rfl,g3,c3,rfl,hrest⟩;obtain⟨QO,HB,T3,HF,QY,ZW,hk1,hk3⟩:=Qo QP.out hb3 ⟨_,_,rfl,hrest⟩;clear hb3 hrest QP QS;go_wp2;refine Qv [cX w,Cd.is (ς A n C),Cd.is (Value.func (.func g3) #[] c3),Q5 [Qf,Qd [33]],Q9 (.one [Qf,Qd [33]]),Gx [17],X2 (Qd [17]),Q5 [Qd [17]],Q9 (.one [Qd [17]]),Zi [.one [Qf,Qd [33]],.one [Qd [17]]],Cd.is (τ (Qg [.one [Qf,Qd [33]],.one [Qd [17]]] f)),Cd.is (τ (Qg [.one [Qf,Qd [33]],.one [Qd [17]]] f))] ?steps ?behind
 case steps =>
  intro xv W hW;refine⟨?s0,?s1,?s2,?s3,?s4,?s5,?s6,?s7,?s8,?s9,?JQ,?GA,trivial⟩;all_goals intro hd K hK
  all_goals(try simp only[Act.put,ZC,ZA,QZ]at hK)
  case s0|s2=>clear hd;exact c16
  case s1=>exact c26
  case s3=>have hx2:xv 2=Value.func (.func g3) #[] c3:=hd 2;clear hd;rw[hx2]at hK⊢;go_simp;exact hK.out _ _ (Qa _ _) (Vq W (Za W) (T3.out.later hW))
  case s4=>have h:=hd 3;exact Vu
  case s5=>exact c114
  case s6=>have h:=hd 5;exact Nk
  case s7=>exact c101
  case s8=>have h:=hd 7;exact Vu
  case s9=>obtain⟨_,_,e4,q4⟩:=Qn (hd 4);obtain⟨_,_,e8,q8⟩:=Qn (hd 8);clear hd;rw[e4,e8]at hK⊢;clear e4 e8;go_simp;exact hK.out _ _ (Qa _ _) (Z6 W q4.out q8.out)
  case JQ=>have h1:xv 1=_:=hd 1;have h:=hd 9;exact Ka
  case GA=>have h:xv 10=_:=hd 10;exact Km
 case behind=>intro xv W hW hx;have hl:xv 11=_:=hx 11;exact Kb
theorem Qgx(x y:ByteArray)(A:Option Addr)(n C:Nat)(f:F)(w:World)(hf:Fs w (Lo w.heap.size) (ς A n C) f)(Ci:(x.toList==[58,61])=false):Calls prog 62 #[ξ #[ι γ 21,σ x,σ y,ς A n C]] w fun e w'=>e = ρ (τ (Qc 21 x f))∧Below w.heap.size w w':=by
 have QP:=QA hf;have QS:=E1 w 21 x y A n C;rw[show Qc 21 x f=Qg [.one [Vi],.one [Qf]] f by simp[Qc,Ci]];clear hf;go_enter func62,ntmps62;go_wp2_with fail;refine QS.out.mono ?_;rintro e w3 ⟨hb3,v3,rfl,g3,c3,rfl,hrest⟩;obtain⟨QO,HB,T3,HF,QY,ZW,hk1,hk3⟩:=Qo QP.out hb3 ⟨_,_,rfl,hrest⟩;clear hb3 hrest QP QS;go_wp2;refine Qv [cX w,Cd.is (ς A n C),Q5 [Vi],Q9 (.one [Vi]),Q5 [Qf],Q9 (.one [Qf]),Zi [.one [Vi],.one [Qf]],Cd.is (τ (Qg [.one [Vi],.one [Qf]] f)),Cd.is (τ (Qg [.one [Vi],.one [Qf]] f))] ?steps ?behind
 case steps =>
  intro xv W hW;refine⟨?s0,?s1,?s2,?s3,?s4,?s5,?s6,?s7,?s8,trivial⟩;all_goals intro hd K hK
  all_goals(try simp only[Act.put,ZC,ZA,QZ]at hK)
  case s0=>clear hd;exact c16
  case s1=>exact c26
  case s2=>clear hd;go_simp;exact hK.out _ _ (Qa _ _) (Ql W (Qct W))
  case s3=>have h:=hd 2;exact Vu
  case s4=>exact c31
  case s5=>have h:=hd 4;exact Vu
  case s6=>exact c27
  case s7=>exact c76
  case s8=>exact c130
 case behind=>exact c70
theorem Qvq(x y:ByteArray)(A:Option Addr)(n C:Nat)(f:F)(w:World)(hf:Fs w (Lo w.heap.size) (ς A n C) f):Calls prog 62 #[ξ #[ι γ 29,σ x,σ y,ς A n C]] w fun e w'=>e = ρ (τ (Qc 29 x f))∧Below w.heap.size w w':=by
 have QP:=QA hf;have QS:=E1 w 29 x y A n C;rw[show Qc 29 x f=Qg [.one [Qf],.one [Qf]] f by simp[Qc]];clear hf;go_enter func62,ntmps62;go_wp2_with fail;refine QS.out.mono ?_;rintro e w3 ⟨hb3,v3,rfl,g3,c3,rfl,hrest⟩;obtain⟨QO,HB,T3,HF,QY,ZW,hk1,hk3⟩:=Qo QP.out hb3 ⟨_,_,rfl,hrest⟩;clear hb3 hrest QP QS;go_wp2;refine Qv [cX w,Cd.is (ς A n C),Q5 [Qf],Q9 (.one [Qf]),Q5 [Qf],Q9 (.one [Qf]),Zi [.one [Qf],.one [Qf]],Cd.is (τ (Qg [.one [Qf],.one [Qf]] f)),Cd.is (τ (Qg [.one [Qf],.one [Qf]] f))] ?steps ?behind
 case steps =>
  intro xv W hW;refine⟨?s0,?s1,?s2,?s3,?s4,?s5,?s6,?s7,?s8,trivial⟩;all_goals intro hd K hK
  all_goals(try simp only[Act.put,ZC,ZA,QZ]at hK)
  case s0=>clear hd;exact c16
  case s1=>exact c26
  case s2|s4=>exact c31
  case s3=>have h:=hd 2;exact Vu
  case s5=>have h:=hd 4;exact Vu
  case s6=>exact c27
  case s7=>exact c76
  case s8=>exact c130
 case behind=>exact c70
theorem Qvp(x y:ByteArray)(A:Option Addr)(n C:Nat)(f:F)(w:World)(hf:Fs w (Lo w.heap.size) (ς A n C) f):Calls prog 62 #[ξ #[ι γ 30,σ x,σ y,ς A n C]] w fun e w'=>e = ρ (τ (Qc 30 x f))∧Below w.heap.size w w':=by
 have QP:=QA hf;have QS:=E1 w 30 x y A n C;rw[show Qc 30 x f=Qg [.one [Qf],.many Qf] f by simp[Qc]];clear hf;go_enter func62,ntmps62;go_wp2_with fail;refine QS.out.mono ?_;rintro e w3 ⟨hb3,v3,rfl,g3,c3,rfl,hrest⟩;obtain⟨QO,HB,T3,HF,QY,ZW,hk1,hk3⟩:=Qo QP.out hb3 ⟨_,_,rfl,hrest⟩;clear hb3 hrest QP QS;go_wp2;refine Qv [cX w,Cd.is (ς A n C),Q5 [Qf],Q9 (.one [Qf]),Q9 (.many Qf),Zi [.one [Qf],.many Qf],Cd.is (τ (Qg [.one [Qf],.many Qf] f)),Cd.is (τ (Qg [.one [Qf],.many Qf] f))] ?steps ?behind
 case steps =>
  intro xv W hW;refine⟨?s0,?s1,?s2,?s3,?s4,?s5,?s6,?s7,trivial⟩;all_goals intro hd K hK
  all_goals(try simp only[Act.put,ZC,ZA,QZ]at hK)
  case s0=>clear hd;exact c16
  case s1=>exact c26
  case s2=>exact c31
  case s3=>have h:=hd 2;exact Vu
  case s4=>exact c164
  case s5=>obtain⟨_,_,e3,q3⟩:=Qn (hd 3);obtain⟨_,_,e4,q4⟩:=Qn (hd 4);clear hd;rw[e3,e4]at hK⊢;clear e3 e4;go_simp;exact hK.out _ _ (Qa _ _) (Z6 W q3.out q4.out)
  case s6=>exact c163
  case s7=>have h:xv 6=_:=hd 6;exact Km
 case behind=>exact c134
theorem Qvr(x y:ByteArray)(A:Option Addr)(n C:Nat)(f:F)(w:World)(hf:Fs w (Lo w.heap.size) (ς A n C) f):Calls prog 62 #[ξ #[ι γ 28,σ x,σ y,ς A n C]] w fun e w'=>e = ρ (τ (Qc 28 x f))∧Below w.heap.size w w':=by
 have QP:=QA hf;have QS:=E1 w 28 x y A n C;rw[show Qc 28 x f=Qg [.one [Qf]] f by simp[Qc]];clear hf;go_enter func62,ntmps62;go_wp2_with fail;refine QS.out.mono ?_;rintro e w3 ⟨hb3,v3,rfl,g3,c3,rfl,hrest⟩;obtain⟨QO,HB,T3,HF,QY,ZW,hk1,hk3⟩:=Qo QP.out hb3 ⟨_,_,rfl,hrest⟩;clear hb3 hrest QP QS;go_wp2;refine Qv [cX w,Cd.is (ς A n C),Q5 [Qf],Q9 (.one [Qf]),Zi [.one [Qf]],Cd.is (τ (Qg [.one [Qf]] f)),Cd.is (τ (Qg [.one [Qf]] f))] ?steps ?behind
 case steps =>
  intro xv W hW;refine⟨?s0,?s1,?s2,?s3,?s4,?s5,?s6,trivial⟩;all_goals intro hd K hK
  all_goals(try simp only[Act.put,ZC,ZA,QZ]at hK)
  case s0=>clear hd;exact c16
  case s1=>exact c26
  case s2=>exact c31
  case s3=>have h:=hd 2;exact Vu
  case s4=>exact c19
  case s5=>exact c44
  case s6=>exact c67
 case behind=>exact c41
theorem Qv7(x y:ByteArray)(A:Option Addr)(n C:Nat)(f:F)(w:World)(hf:Fs w (Lo w.heap.size) (ς A n C) f):Calls prog 62 #[ξ #[ι γ 11,σ x,σ y,ς A n C]] w fun e w'=>e = ρ (τ (Qc 11 x f))∧Below w.heap.size w w':=by
 have QP:=QA hf;have QS:=E1 w 11 x y A n C;rw[show Qc 11 x f=Qg [.one [Qp]] f by simp[Qc]];clear hf;go_enter func62,ntmps62;go_wp2_with fail;refine QS.out.mono ?_;rintro e w3 ⟨hb3,v3,rfl,g3,c3,rfl,hrest⟩;obtain⟨QO,HB,T3,HF,QY,ZW,hk1,hk3⟩:=Qo QP.out hb3 ⟨_,_,rfl,hrest⟩;clear hb3 hrest QP QS;go_wp2;refine Qv [cX w,Cd.is (ς A n C),Q5 [Qp],Q9 (.one [Qp]),Zi [.one [Qp]],Cd.is (τ (Qg [.one [Qp]] f)),Cd.is (τ (Qg [.one [Qp]] f))] ?steps ?behind
 case steps =>
  intro xv W hW;refine⟨?s0,?s1,?s2,?s3,?s4,?s5,?s6,trivial⟩;all_goals intro hd K hK
  all_goals(try simp only[Act.put,ZC,ZA,QZ]at hK)
  case s0=>clear hd;exact c16
  case s1=>exact c26
  case s2=>exact c48
  case s3=>have h:=hd 2;exact Vu
  case s4=>exact c19
  case s5=>exact c44
  case s6=>exact c67
 case behind=>exact c41
theorem Qvx(x y:ByteArray)(A:Option Addr)(n C:Nat)(f:F)(w:World)(hf:Fs w (Lo w.heap.size) (ς A n C) f):Calls prog 62 #[ξ #[ι γ 22,σ x,σ y,ς A n C]] w fun e w'=>e = ρ (τ (Qc 22 x f))∧Below w.heap.size w w':=by
 have QP:=QA hf;have QS:=E1 w 22 x y A n C;rw[show Qc 22 x f=Qg [.one [Vi]] f by simp[Qc]];clear hf;go_enter func62,ntmps62;go_wp2_with fail;refine QS.out.mono ?_;rintro e w3 ⟨hb3,v3,rfl,g3,c3,rfl,hrest⟩;obtain⟨QO,HB,T3,HF,QY,ZW,hk1,hk3⟩:=Qo QP.out hb3 ⟨_,_,rfl,hrest⟩;clear hb3 hrest QP QS;go_wp2;refine Qv [cX w,Cd.is (ς A n C),Q5 [Vi],Q9 (.one [Vi]),Zi [.one [Vi]],Cd.is (τ (Qg [.one [Vi]] f)),Cd.is (τ (Qg [.one [Vi]] f))] ?steps ?behind
 case steps =>
  intro xv W hW;refine⟨?s0,?s1,?s2,?s3,?s4,?s5,?s6,trivial⟩;all_goals intro hd K hK
  all_goals(try simp only[Act.put,ZC,ZA,QZ]at hK)
  case s0=>clear hd;exact c16
  case s1=>exact c26
  case s2=>clear hd;go_simp;exact hK.out _ _ (Qa _ _) (Ql W (Qct W))
  case s3=>have h:=hd 2;exact Vu
  case s4=>exact c19
  case s5=>exact c44
  case s6=>exact c67
 case behind=>exact c41
theorem Qv1(x y:ByteArray)(A:Option Addr)(n C:Nat)(f:F)(w:World)(hf:Fs w (Lo w.heap.size) (ς A n C) f):Calls prog 62 #[ξ #[ι γ 17,σ x,σ y,ς A n C]] w fun e w'=>e = ρ (τ (Qc 17 x f))∧Below w.heap.size w w':=by
 have QP:=QA hf;have QS:=E1 w 17 x y A n C;rw[show Qc 17 x f=Qg [.many V0] f by simp[Qc]];clear hf;go_enter func62,ntmps62;go_wp2_with fail;refine QS.out.mono ?_;rintro e w3 ⟨hb3,v3,rfl,g3,c3,rfl,hrest⟩;obtain⟨QO,HB,T3,HF,QY,ZW,hk1,hk3⟩:=Qo QP.out hb3 ⟨_,_,rfl,hrest⟩;clear hb3 hrest QP QS;go_wp2;refine Qv [cX w,Cd.is (ς A n C),Q9 (.many V0),Zi [.many V0],Cd.is (τ (Qg [.many V0] f)),Cd.is (τ (Qg [.many V0] f))] ?steps ?behind
 case steps =>
  intro xv W hW;refine⟨?s0,?s1,?s2,?s3,?s4,?s5,trivial⟩;all_goals intro hd K hK
  all_goals(try simp only[Act.put,ZC,ZA,QZ]at hK)
  case s0=>clear hd;exact c16
  case s1=>exact c26
  case s2=>clear hd;go_simp;go_at_call 87;refine(Y6 V0 _ _ W (Qkf W)).mono ?_;exact c50
  case s3=>exact c102
  case s4=>have h1:xv 1=_:=hd 1;have h:=hd 3;exact Ka
  case s5=>have h:xv 4=_:=hd 4;exact Km
 case behind=>intro xv W hW hx;have hl:xv 5=_:=hx 5;exact Kb
theorem Qvs(x y:ByteArray)(A:Option Addr)(n C:Nat)(f:F)(w:World)(hf:Fs w (Lo w.heap.size) (ς A n C) f):Calls prog 62 #[ξ #[ι γ 27,σ x,σ y,ς A n C]] w fun e w'=>e = ρ (τ (Qc 27 x f))∧Below w.heap.size w w':=by
 have QP:=QA hf;have QS:=E1 w 27 x y A n C;rw[show Qc 27 x f=decide (f.len=0)by simp[Qc]];obtain⟨A0,C0,e,_,_⟩:=hf.slice;injection e with e1 e2 e3;subst e2;clear hf e1 e3;by_cases hz:f.len=0
 ·have hzz:((f.len:Int)==0)=true:=by rw[hz];rfl
  rw[show decide (f.len=0)=true from decide_eq_true hz];clear hz;go_enter func62,ntmps62;go_wp2_with fail;refine(QS.out).mono ?_;rintro e w3 ⟨hb3,v3,rfl,JY⟩;obtain⟨g3,c3,rfl,hrest⟩:=JY;have QO:=QA (Q1 w w3 27 x y A f.len C f g3 c3 QP.out hb3 ⟨_,_,rfl,hrest⟩);have HB:Hid (Below w3.heap.size w3 w3):=QE _ _;have T3:=QA QO.out.t3;have HF:=QA QO.out.fs;have QY:Hid (∀W,Below w3.heap.size w3 W→W.cell? ⟨w.heap.size,3,none⟩=some (ς A f.len C)):=fun W hW=>(QO.out.box W hW).2.2
  exact c17
 ·have hzz:((f.len:Int)==0)=false:=QM ω;rw[show decide (f.len=0)=false from decide_eq_false hz];clear hz;go_enter func62,ntmps62;go_wp2_with fail;refine(QS.out).mono ?_;rintro e w3 ⟨hb3,v3,rfl,JY⟩;obtain⟨g3,c3,rfl,hrest⟩:=JY;have QO:=QA (Q1 w w3 27 x y A f.len C f g3 c3 QP.out hb3 ⟨_,_,rfl,hrest⟩);have HB:Hid (Below w3.heap.size w3 w3):=QE _ _;have T3:=QA QO.out.t3;have HF:=QA QO.out.fs;have QY:Hid (∀W,Below w3.heap.size w3 W→W.cell? ⟨w.heap.size,3,none⟩=some (ς A f.len C)):=fun W hW=>(QO.out.box W hW).2.2
  exact c17
theorem Qvm(x y:ByteArray)(A:Option Addr)(n C:Nat)(f:F)(w:World)(hf:Fs w (Lo w.heap.size) (ς A n C) f):Calls prog 62 #[ξ #[ι γ 33,σ x,σ y,ς A n C]] w fun e w'=>e = ρ (τ (Qc 33 x f))∧Below w.heap.size w w':=by
 have QP:=QA hf;have QS:=E1 w 33 x y A n C;rw[show Qc 33 x f=decide (f.len=0)by simp[Qc]];obtain⟨A0,C0,e,_,_⟩:=hf.slice;injection e with e1 e2 e3;subst e2;clear hf e1 e3;by_cases hz:f.len=0
 ·have hzz:((f.len:Int)==0)=true:=by rw[hz];rfl
  rw[show decide (f.len=0)=true from decide_eq_true hz];clear hz;go_enter func62,ntmps62;go_wp2_with fail;refine(QS.out).mono ?_;rintro e w3 ⟨hb3,v3,rfl,JY⟩;obtain⟨g3,c3,rfl,hrest⟩:=JY;have QO:=QA (Q1 w w3 33 x y A f.len C f g3 c3 QP.out hb3 ⟨_,_,rfl,hrest⟩);have HB:Hid (Below w3.heap.size w3 w3):=QE _ _;have T3:=QA QO.out.t3;have HF:=QA QO.out.fs;have QY:Hid (∀W,Below w3.heap.size w3 W→W.cell? ⟨w.heap.size,3,none⟩=some (ς A f.len C)):=fun W hW=>(QO.out.box W hW).2.2
  exact c17
 ·have hzz:((f.len:Int)==0)=false:=QM ω;rw[show decide (f.len=0)=false from decide_eq_false hz];clear hz;go_enter func62,ntmps62;go_wp2_with fail;refine(QS.out).mono ?_;rintro e w3 ⟨hb3,v3,rfl,JY⟩;obtain⟨g3,c3,rfl,hrest⟩:=JY;have QO:=QA (Q1 w w3 33 x y A f.len C f g3 c3 QP.out hb3 ⟨_,_,rfl,hrest⟩);have HB:Hid (Below w3.heap.size w3 w3):=QE _ _;have T3:=QA QO.out.t3;have HF:=QA QO.out.fs;have QY:Hid (∀W,Below w3.heap.size w3 W→W.cell? ⟨w.heap.size,3,none⟩=some (ς A f.len C)):=fun W hW=>(QO.out.box W hW).2.2
  exact c17
theorem Qyj(x y:ByteArray)(A:Option Addr)(n C:Nat)(f:F)(w:World)(hf:Fs w (Lo w.heap.size) (ς A n C) f):Calls prog 62 #[ξ #[ι γ 8,σ x,σ y,ς A n C]] w fun e w'=>e = ρ (τ (Qc 8 x f))∧Below w.heap.size w w':=by
 have QP:=QA hf;have QS:=E1 w 8 x y A n C;rw[show Qc 8 x f=decide (f.len=0)by simp[Qc]];obtain⟨A0,C0,e,_,_⟩:=hf.slice;injection e with e1 e2 e3;subst e2;clear hf e1 e3;by_cases hz:f.len=0
 ·have hzz:((f.len:Int)==0)=true:=by rw[hz];rfl
  rw[show decide (f.len=0)=true from decide_eq_true hz];clear hz;go_enter func62,ntmps62;go_wp2_with fail;refine(QS.out).mono ?_;rintro e w3 ⟨hb3,v3,rfl,JY⟩;obtain⟨g3,c3,rfl,hrest⟩:=JY;have QO:=QA (Q1 w w3 8 x y A f.len C f g3 c3 QP.out hb3 ⟨_,_,rfl,hrest⟩);have HB:Hid (Below w3.heap.size w3 w3):=QE _ _;have T3:=QA QO.out.t3;have HF:=QA QO.out.fs;have QY:Hid (∀W,Below w3.heap.size w3 W→W.cell? ⟨w.heap.size,3,none⟩=some (ς A f.len C)):=fun W hW=>(QO.out.box W hW).2.2
  exact c17
 ·have hzz:((f.len:Int)==0)=false:=QM ω;rw[show decide (f.len=0)=false from decide_eq_false hz];clear hz;go_enter func62,ntmps62;go_wp2_with fail;refine(QS.out).mono ?_;rintro e w3 ⟨hb3,v3,rfl,JY⟩;obtain⟨g3,c3,rfl,hrest⟩:=JY;have QO:=QA (Q1 w w3 8 x y A f.len C f g3 c3 QP.out hb3 ⟨_,_,rfl,hrest⟩);have HB:Hid (Below w3.heap.size w3 w3):=QE _ _;have T3:=QA QO.out.t3;have HF:=QA QO.out.fs;have QY:Hid (∀W,Below w3.heap.size w3 W→W.cell? ⟨w.heap.size,3,none⟩=some (ς A f.len C)):=fun W hW=>(QO.out.box W hW).2.2
  exact c17
