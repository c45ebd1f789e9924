import Derived.Test.YtaiihnniblibaaaGreatDoorG34
import Derived.Test.YtaiihnniblibaaaGreatDoorG38
set_option maxHeartbeats 8000000
set_option maxRecDepth 100000
set_option linter.unusedVariables false
open Go.Proofs.Tryz Go.ChangeShapes Go.WideShapes Go.ChangeAt Go.RowKit
open Go.Lib renaming hid→QA
open Go.RowKit.Below renaming refl→QF
open _root_.List renaming setIfInBounds_toArray→VG,set_cons_succ→VF,set_cons_zero→VE
open _root_.ByteArray renaming size_append→VT
open _root_.Nat renaming le_trans→VJ
open Go.Value renaming string→σ,int→ι,slice→ς,pointer→π,agg→ξ
open Go.IntKind renaming i64→κ
open Go.Obj renaming cells→θ
open Go.Ending renaming returned→ρ
namespace Go.Proofs.YtaiihnniblibaaaGreatDoor
namespace JI
open Tree Mem
theorem Kg(b:Bool)(s:ByteArray):s.size≤(sP b s).size:=by
  unfold sP;split
  ·simp only[VT];omega
  ·exact Nat.le_refl _
def Kd(w:World)(K:Int)(x y:ByteArray)(s:Value)(i:Int)(t:ByteArray):Prop:=∀W,Below w.heap.size w W→Calls prog 55 #[ξ #[ι κ K,σ x,σ y,s],ι κ i] W fun e w'=>e=ρ (σ t)∧Below W.heap.size W w'
theorem ah(K:Int)(x y:ByteArray)(A:Option Addr)(n C:Nat)(f:F)(i:Nat)(k':Int)(x' y':ByteArray)(c r:F)(w:World)(hf:Fs w (Lo w.heap.size) (ς A n C) f)(hd:f.drop i=.cons k' x' y' c r)(h:Q0 k' x' y' c)(hsz:(sW k' x' c).size≤1000000) :
    Calls prog 55 #[ξ #[ι κ K,σ x,σ y,ς A n C],ι κ (i:Int)] w fun e w'=>e=ρ (σ (sP (Qi K x i k' x') (sW k' x' c)))∧Below w.heap.size w w':=by
  have hb:=Qb w (θ #[ι κ K,σ x,σ y,ς A n C] 24);obtain⟨b,off,B0,D0,rfl,hc0,Sq⟩:=AB i hd hf hb;have hin:i<n:=by obtain⟨_,_,_,_,_,hin,_⟩:=hf.at_ hd;exact hin
  obtain⟨_,_,e,YR,UN⟩:=hf.slice;injection e with e0 e1 e2;clear e0;rw[←e1]at YR;rw[←e2]at YR UN;have hw0:=Av Sq h hb;have hpi:Ze K x f (i:Int)=Qi K x i k' x':=by unfold Ze;rw[if_pos (by omega),Int.toNat_natCast,hd]
  have HP:=QA (Zj _ K x y (some ⟨b,off,none⟩) n C f (i:Int) (B:=w.heap.size) hb.size (hf.below hb (Nat.le_refl _)));rw[hpi]at HP;have HX:=QA (Zp w K x y (ς (some ⟨b,off,none⟩) n C));have HB:=QA hb;generalize sW k' x' c=s0 at *;generalize Qi K x i k' x'=pb at *;have HN:=QA hc0;have XQ:=QA hw0;have hi0:(0:Int)≤(i:Int):=by omega
  have hi1:(i:Int)<(n:Int):=by omega
  clear hf hb hc0 Sq hw0 hpi h hd e1 e2 hin;obtain⟨KJ,KI,KH,KG⟩:=HX.out _ (QF _ _);go_enter func55,ntmps55;go_wp2_with fail
  with_reducible refine HP.out.mono ?_
  rintro e w2 ⟨rfl,hb⟩;have XK:=QA hb;clear hb KJ KI KH KG HP;obtain⟨KJ,KI,KH,KG⟩:=HX.out _ XK.out;obtain⟨YQ,YP,YO,YN⟩:=HN.out _ XK.out;cases pb with
  |true =>
   go_wp2_with fail;have hcw:=XQ.out _ XK.out
   with_reducible refine hcw.mono ?_
   rintro e w3 ⟨rfl,hb⟩;have MA:=QN XK hb;clear hb;go_wp2;go_ret;exact⟨rfl,HB.out.trans (MA.out.mono HB.out.size)⟩
  |false =>
   go_wp2_with fail;have hcw:=XQ.out _ XK.out
   with_reducible refine hcw.mono ?_
   rintro e w3 ⟨rfl,hb⟩;have MA:=QN XK hb;clear hb;go_wp2;go_ret;exact⟨rfl,HB.out.trans (MA.out.mono HB.out.size)⟩
theorem BX{w w1:World}{K:Int}{x y:ByteArray}{A:Option Addr}{n C i:Nat}{f:F}{k':Int}{x' y':ByteArray}{c r:F}(hf:Fs w (Lo w.heap.size) (ς A n C) f)(hd:f.drop i=.cons k' x' y' c r)(h:Q0 k' x' y' c)(hb:Below w.heap.size w w1)(hsz:(sW k' x' c).size≤1000000):Kd w1 K x y (ς A n C) (i:Int) (sP (Qi K x i k' x') (sW k' x' c)) :=
  fun W hW=>ah K x y A n C f i k' x' y' c r W (hf.later (hb.trans (hW.mono hb.size))) hd h hsz
theorem Qrp(x y:ByteArray)(A:Option Addr)(n C:Nat)(k0:Int)(x0 y0:ByteArray)(c0:F)(w:World)(hf:Fs w (Lo w.heap.size) (ς A n C) (.cons k0 x0 y0 c0 (.nil)))(h0:Q0 k0 x0 y0 c0)(hsz:(sW 28 x (.cons k0 x0 y0 c0 (.nil))).size≤1000000) :
    Calls prog 29 #[ξ #[ι κ 28,σ x,σ y,ς A n C]] w fun e w'=>e=ρ (σ (sW 28 x (.cons k0 x0 y0 c0 (.nil))))∧Below w.heap.size w w':=by
  have hb:=Qb w (θ #[ι κ 28,σ x,σ y,ς A n C] 24);obtain⟨b,off,B0,D0,rfl,hc0,hw0⟩:=Y8 hf h0 hb;obtain rfl:n=1:=Z5 hf;have HX:=QA (Zp w 28 x y (ς (some ⟨b,off,none⟩) 1 C));have HB:=QA hb;rw[eW]at hsz⊢;simp only[VT]at hsz;have hx:x.size≤1000000:=by omega
  have g0:=BX (K:=28) (x:=x) (y:=y) (i:=0) hf rfl h0 hb (VJ (Kg (Qi 28 x 0 k0 x0) _) (by omega));generalize sP (Qi 28 x 0 k0 x0) (sW k0 x0 c0)=z0 at *;have hz0:z0.size≤1000000:=by omega
  have Np:Hid (Kd (w.alloc (θ #[ι κ 28,σ x,σ y,ς (some ⟨b,off,none⟩) 1 C] 24)) 28 x y (ς (some ⟨b,off,none⟩) 1 C) 0 z0):=g0;clear hf hb hsz h0 hc0 hw0 g0;obtain⟨KJ,KI,KH,KG⟩:=HX.out _ (QF _ _);go_enter func29,ntmps29;go_wp2;refine Qz (([π (some ⟨w.heap.size,1,none⟩),σ x,ξ #[ι κ 28,σ x,σ y,ς (some ⟨b,off,none⟩) 1 C],σ z0,σ (x++z0),σ (x++z0)]:List Value).map Cd.is) ?steps ?behind
  case steps =>
    intro xv W hW;have hV:=hW;obtain⟨PM,PL,PK,PJ⟩:=HX.out W hV;have t0:=Np.out W hV;refine⟨fun hd K hK=>?s0,fun hd K hK=>?s1,fun hd K hK=>?s2,fun hd K hK=>?s3,fun hd K hK=>?s4,fun hd K hK=>?s5,trivial⟩;all_goals simp only[Act.put,VG,VF,VE]at hK
    case' s1=>rw[show xv 0=_ from hd 0]at hK⊢
    case' s3=>rw[show xv 2=_ from hd 2]at hK⊢
    case' s4=>rw[show xv 1=_ from hd 1,show xv 3=_ from hd 3]at hK⊢
    case' s5=>rw[show xv 4=_ from hd 4]at hK⊢
    all_goals clear hd
    all_goals go_simp
    all_goals first|exact hK.out _ _ (QF _ _) rfl|(rw[if_neg (by omega)];exact hK.out _ _ (QF _ _) rfl)|(go_at_call 55;(with_reducible refine t0.mono ?_);rintro e w' ⟨rfl,hb⟩;exact hK.out _ _ hb rfl)
  case behind=>intro xv W hW Sl;rw[show xv 5=_ from Sl 5 (by decide)];have HE:=QN HB hW;clear Sl hW;go_wp2;go_ret;exact⟨rfl,HE.out⟩
theorem Qro(x y:ByteArray)(A:Option Addr)(n C:Nat)(k0 k1:Int)(x0 y0 x1 y1:ByteArray)(c0 c1:F)(w:World)(hf:Fs w (Lo w.heap.size) (ς A n C) (.cons k0 x0 y0 c0 (.cons k1 x1 y1 c1 (.nil))))(h0:Q0 k0 x0 y0 c0)(h1:Q0 k1 x1 y1 c1)(hsz:(sW 29 x (.cons k0 x0 y0 c0 (.cons k1 x1 y1 c1 (.nil)))).size≤1000000) :
    Calls prog 29 #[ξ #[ι κ 29,σ x,σ y,ς A n C]] w fun e w'=>e=ρ (σ (sW 29 x (.cons k0 x0 y0 c0 (.cons k1 x1 y1 c1 (.nil)))))∧Below w.heap.size w w':=by
  have hb:=Qb w (θ #[ι κ 29,σ x,σ y,ς A n C] 24);obtain⟨b,off,B0,D0,rfl,hc0,hw0⟩:=Y8 hf h0 hb;obtain⟨B1,D1,hc1,hw1⟩:=DY hf h1 hb;obtain rfl:n=2:=Z5 hf;have HX:=QA (Zp w 29 x y (ς (some ⟨b,off,none⟩) 2 C));have HB:=QA hb;rw[eX]at hsz⊢;simp only[VT]at hsz;have hx:x.size≤1000000:=by omega
  have g0:=BX (K:=29) (x:=x) (y:=y) (i:=0) hf rfl h0 hb (VJ (Kg (Qi 29 x 0 k0 x0) _) (by omega));have g1:=BX (K:=29) (x:=x) (y:=y) (i:=1) hf rfl h1 hb (VJ (Kg (Qi 29 x 1 k1 x1) _) (by omega));generalize sP (Qi 29 x 0 k0 x0) (sW k0 x0 c0)=z0 at *;have hz0:z0.size≤1000000:=by omega
  have Np:Hid (Kd (w.alloc (θ #[ι κ 29,σ x,σ y,ς (some ⟨b,off,none⟩) 2 C] 24)) 29 x y (ς (some ⟨b,off,none⟩) 2 C) 0 z0):=g0;generalize sP (Qi 29 x 1 k1 x1) (sW k1 x1 c1)=z1 at *;have hz1:z1.size≤1000000:=by omega
  have PC:Hid (Kd (w.alloc (θ #[ι κ 29,σ x,σ y,ς (some ⟨b,off,none⟩) 2 C] 24)) 29 x y (ς (some ⟨b,off,none⟩) 2 C) 1 z1):=g1;clear hf hb hsz h0 hc0 hw0 h1 hc1 hw1 g0 g1;obtain⟨KJ,KI,KH,KG⟩:=HX.out _ (QF _ _);go_enter func29,ntmps29;go_wp2;refine Qz (([ξ #[ι κ 29,σ x,σ y,ς (some ⟨b,off,none⟩) 2 C],σ z0,σ (z0++(⟨#[32]⟩:ByteArray)),π (some ⟨w.heap.size,1,none⟩),σ x,σ ((z0++(⟨#[32]⟩:ByteArray))++x),σ (((z0++(⟨#[32]⟩:ByteArray))++x)++(⟨#[32]⟩:ByteArray)),ξ #[ι κ 29,σ x,σ y,ς (some ⟨b,off,none⟩) 2 C],σ z1,σ ((((z0++(⟨#[32]⟩:ByteArray))++x)++(⟨#[32]⟩:ByteArray))++z1),σ ((((z0++(⟨#[32]⟩:ByteArray))++x)++(⟨#[32]⟩:ByteArray))++z1)]:List Value).map Cd.is) ?steps ?behind
  case steps =>
    intro xv W hW;have hV:=hW;obtain⟨PM,PL,PK,PJ⟩:=HX.out W hV;have t0:=Np.out W hV;have t1:=PC.out W hV;refine⟨fun hd K hK=>?s0,fun hd K hK=>?s1,fun hd K hK=>?s2,fun hd K hK=>?s3,fun hd K hK=>?s4,fun hd K hK=>?s5,fun hd K hK=>?s6,fun hd K hK=>?s7,fun hd K hK=>?s8,fun hd K hK=>?s9,fun hd K hK=>?GH,trivial⟩;all_goals simp only[Act.put,VG,VF,VE]at hK
    case' s1=>rw[show xv 0=_ from hd 0]at hK⊢
    case' s2=>rw[show xv 1=_ from hd 1]at hK⊢
    case' s4=>rw[show xv 3=_ from hd 3]at hK⊢
    case' s5=>rw[show xv 2=_ from hd 2,show xv 4=_ from hd 4]at hK⊢
    case' s6=>rw[show xv 5=_ from hd 5]at hK⊢
    case' s8=>rw[show xv 7=_ from hd 7]at hK⊢
    case' s9=>rw[show xv 6=_ from hd 6,show xv 8=_ from hd 8]at hK⊢
    case' GH=>rw[show xv 9=_ from hd 9]at hK⊢
    all_goals clear hd
    all_goals go_simp
    all_goals first|exact hK.out _ _ (QF _ _) rfl|(rw[if_neg (by omega)];exact hK.out _ _ (QF _ _) rfl)|(go_at_call 55;(with_reducible refine t0.mono ?_);rintro e w' ⟨rfl,hb⟩;exact hK.out _ _ hb rfl)|(go_at_call 55;(with_reducible refine t1.mono ?_);rintro e w' ⟨rfl,hb⟩;exact hK.out _ _ hb rfl)
  case behind=>intro xv W hW Sl;rw[show xv 10=_ from Sl 10 (by decide)];have HE:=QN HB hW;clear Sl hW;go_wp2;go_ret;exact⟨rfl,HE.out⟩
theorem Qrm(x y:ByteArray)(A:Option Addr)(n C:Nat)(k0 k1:Int)(x0 y0 x1 y1:ByteArray)(c0 c1:F)(w:World)(hf:Fs w (Lo w.heap.size) (ς A n C) (.cons k0 x0 y0 c0 (.cons k1 x1 y1 c1 (.nil))))(h0:Q0 k0 x0 y0 c0)(h1:Q0 k1 x1 y1 c1)(hsz:(sW 31 x (.cons k0 x0 y0 c0 (.cons k1 x1 y1 c1 (.nil)))).size≤1000000) :
    Calls prog 29 #[ξ #[ι κ 31,σ x,σ y,ς A n C]] w fun e w'=>e=ρ (σ (sW 31 x (.cons k0 x0 y0 c0 (.cons k1 x1 y1 c1 (.nil)))))∧Below w.heap.size w w':=by
  have hb:=Qb w (θ #[ι κ 31,σ x,σ y,ς A n C] 24);obtain⟨b,off,B0,D0,rfl,hc0,hw0⟩:=Y8 hf h0 hb;obtain⟨B1,D1,hc1,hw1⟩:=DY hf h1 hb;obtain rfl:n=2:=Z5 hf;have HX:=QA (Zp w 31 x y (ς (some ⟨b,off,none⟩) 2 C));have HB:=QA hb;rw[eZ]at hsz⊢;simp only[VT]at hsz;have g0:=BX (K:=31) (x:=x) (y:=y) (i:=0) hf rfl h0 hb (VJ (Kg (Qi 31 x 0 k0 x0) _) (by omega));generalize sP (Qi 31 x 0 k0 x0) (sW k0 x0 c0)=z0 at *;have hz0:z0.size≤1000000:=by omega
  have Np:Hid (Kd (w.alloc (θ #[ι κ 31,σ x,σ y,ς (some ⟨b,off,none⟩) 2 C] 24)) 31 x y (ς (some ⟨b,off,none⟩) 2 C) 0 z0):=g0;generalize sW k1 x1 c1=s1 at *;have hs1:s1.size≤1000000:=by omega
  have XC:=QA hc1;have Lp:=QA hw1;clear hf hb hsz h0 hc0 hw0 h1 hc1 hw1 g0;obtain⟨KJ,KI,KH,KG⟩:=HX.out _ (QF _ _);go_enter func29,ntmps29;go_wp2;refine Qz (([ξ #[ι κ 31,σ x,σ y,ς (some ⟨b,off,none⟩) 2 C],σ z0,σ (z0++(⟨#[91]⟩:ByteArray)),ς (some ⟨b,off,none⟩) 2 C,π (some ⟨b,off+4,none⟩),ξ #[ι κ k1,σ x1,σ y1,ς B1 c1.len D1],σ s1,σ ((z0++(⟨#[91]⟩:ByteArray))++s1),σ (((z0++(⟨#[91]⟩:ByteArray))++s1)++(⟨#[93]⟩:ByteArray)),σ (((z0++(⟨#[91]⟩:ByteArray))++s1)++(⟨#[93]⟩:ByteArray))]:List Value).map Cd.is) ?steps ?behind
  case steps =>
    intro xv W hW;have hV:=hW;obtain⟨PM,PL,PK,PJ⟩:=HX.out W hV;obtain⟨Tn,Tm,Tj,Ti⟩:=XC.out W hV;have t0:=Np.out W hV;have t1:=Lp.out W hV;refine⟨fun hd K hK=>?s0,fun hd K hK=>?s1,fun hd K hK=>?s2,fun hd K hK=>?s3,fun hd K hK=>?s4,fun hd K hK=>?s5,fun hd K hK=>?s6,fun hd K hK=>?s7,fun hd K hK=>?s8,fun hd K hK=>?s9,trivial⟩;all_goals simp only[Act.put,VG,VF,VE]at hK
    case' s1=>rw[show xv 0=_ from hd 0]at hK⊢
    case' s2=>rw[show xv 1=_ from hd 1]at hK⊢
    case' s4=>rw[show xv 3=_ from hd 3]at hK⊢
    case' s5=>rw[show xv 4=_ from hd 4]at hK⊢
    case' s6=>rw[show xv 5=_ from hd 5]at hK⊢
    case' s7=>rw[show xv 2=_ from hd 2,show xv 6=_ from hd 6]at hK⊢
    case' s8=>rw[show xv 7=_ from hd 7]at hK⊢
    case' s9=>rw[show xv 8=_ from hd 8]at hK⊢
    all_goals clear hd
    all_goals go_simp
    all_goals first|exact hK.out _ _ (QF _ _) rfl|(rw[if_neg (by omega)];exact hK.out _ _ (QF _ _) rfl)|(go_at_call 55;(with_reducible refine t0.mono ?_);rintro e w' ⟨rfl,hb⟩;exact hK.out _ _ hb rfl)|(go_at_call 29;(with_reducible refine t1.mono ?_);rintro e w' ⟨rfl,hb⟩;exact hK.out _ _ hb rfl)
  case behind=>intro xv W hW Sl;rw[show xv 9=_ from Sl 9 (by decide)];have HE:=QN HB hW;clear Sl hW;go_wp2;go_ret;exact⟨rfl,HE.out⟩
theorem Qrl(x y:ByteArray)(A:Option Addr)(n C:Nat)(k0:Int)(x0 y0:ByteArray)(c0:F)(w:World)(hf:Fs w (Lo w.heap.size) (ς A n C) (.cons k0 x0 y0 c0 (.nil)))(h0:Q0 k0 x0 y0 c0)(hsz:(sW 32 x (.cons k0 x0 y0 c0 (.nil))).size≤1000000) :
    Calls prog 29 #[ξ #[ι κ 32,σ x,σ y,ς A n C]] w fun e w'=>e=ρ (σ (sW 32 x (.cons k0 x0 y0 c0 (.nil))))∧Below w.heap.size w w':=by
  have hb:=Qb w (θ #[ι κ 32,σ x,σ y,ς A n C] 24);obtain⟨b,off,B0,D0,rfl,hc0,hw0⟩:=Y8 hf h0 hb;obtain rfl:n=1:=Z5 hf;have HX:=QA (Zp w 32 x y (ς (some ⟨b,off,none⟩) 1 C));have HB:=QA hb;rw[ld]at hsz⊢;simp only[VT]at hsz;have hx:x.size≤1000000:=by omega
  have g0:=BX (K:=32) (x:=x) (y:=y) (i:=0) hf rfl h0 hb (VJ (Kg (Qi 32 x 0 k0 x0) _) (by omega));generalize sP (Qi 32 x 0 k0 x0) (sW k0 x0 c0)=z0 at *;have hz0:z0.size≤1000000:=by omega
  have Np:Hid (Kd (w.alloc (θ #[ι κ 32,σ x,σ y,ς (some ⟨b,off,none⟩) 1 C] 24)) 32 x y (ς (some ⟨b,off,none⟩) 1 C) 0 z0):=g0;clear hf hb hsz h0 hc0 hw0 g0;obtain⟨KJ,KI,KH,KG⟩:=HX.out _ (QF _ _);go_enter func29,ntmps29;go_wp2;refine Qz (([ξ #[ι κ 32,σ x,σ y,ς (some ⟨b,off,none⟩) 1 C],σ z0,σ (z0++(⟨#[46]⟩:ByteArray)),π (some ⟨w.heap.size,1,none⟩),σ x,σ ((z0++(⟨#[46]⟩:ByteArray))++x),σ ((z0++(⟨#[46]⟩:ByteArray))++x)]:List Value).map Cd.is) ?steps ?behind
  case steps =>
    intro xv W hW;have hV:=hW;obtain⟨PM,PL,PK,PJ⟩:=HX.out W hV;have t0:=Np.out W hV;refine⟨fun hd K hK=>?s0,fun hd K hK=>?s1,fun hd K hK=>?s2,fun hd K hK=>?s3,fun hd K hK=>?s4,fun hd K hK=>?s5,fun hd K hK=>?s6,trivial⟩;all_goals simp only[Act.put,VG,VF,VE]at hK
    case' s1=>rw[show xv 0=_ from hd 0]at hK⊢
    case' s2=>rw[show xv 1=_ from hd 1]at hK⊢
    case' s4=>rw[show xv 3=_ from hd 3]at hK⊢
    case' s5=>rw[show xv 2=_ from hd 2,show xv 4=_ from hd 4]at hK⊢
    case' s6=>rw[show xv 5=_ from hd 5]at hK⊢
    all_goals clear hd
    all_goals go_simp
    all_goals first|exact hK.out _ _ (QF _ _) rfl|(rw[if_neg (by omega)];exact hK.out _ _ (QF _ _) rfl)|(go_at_call 55;(with_reducible refine t0.mono ?_);rintro e w' ⟨rfl,hb⟩;exact hK.out _ _ hb rfl)
  case behind=>intro xv W hW Sl;rw[show xv 6=_ from Sl 6 (by decide)];have HE:=QN HB hW;clear Sl hW;go_wp2;go_ret;exact⟨rfl,HE.out⟩
theorem Qrn(x y:ByteArray)(A:Option Addr)(n C:Nat)(k0:Int)(x0 y0:ByteArray)(c0 r:F)(w:World)(hf:Fs w (Lo w.heap.size) (ς A n C) (.cons k0 x0 y0 c0 r))(h0:Q0 k0 x0 y0 c0)(hr:E7 r)(hsz:(sW 30 x (.cons k0 x0 y0 c0 r)).size≤1000000) :
    Calls prog 29 #[ξ #[ι κ 30,σ x,σ y,ς A n C]] w fun e w'=>e=ρ (σ (sW 30 x (.cons k0 x0 y0 c0 r)))∧Below w.heap.size w w':=by
  have hb:=Qb w (θ #[ι κ 30,σ x,σ y,ς A n C] 24);obtain⟨b,off,B0,D0,rfl,hc0,hw0⟩:=Y8 hf h0 hb;obtain⟨JU,YR,UN,_,htl⟩:=hf.tail;obtain⟨A',n',C',hsl,en,eC,hA'⟩:=Qmh b off n C JU YR;have hft:=htl A' hA';rw[←en,←eC]at hft;have iO:(1:Int)≤(n:Int):=by omega
  have HX:=QA (Zp w 30 x y (ς (some ⟨b,off,none⟩) n C));have HB:=QA hb;rw[eY]at hsz⊢;simp only[VT]at hsz;have g0:=BX (K:=30) (x:=x) (y:=y) (i:=0) hf rfl h0 hb (VJ (Kg (Qi 30 x 0 k0 x0) _) (by omega));have HM:Hid (∀W,Below (w.alloc (θ #[ι κ 30,σ x,σ y,ς (some ⟨b,off,none⟩) n C] 24)).heap.size (w.alloc (θ #[ι κ 30,σ x,σ y,ς (some ⟨b,off,none⟩) n C] 24)) W→Calls prog 53 #[ς A' n' C'] W fun e w'=>e=ρ (σ (sM r))∧Below W.heap.size W w'):=fun W hW=>hr A' n' C' W (hft.later (hb.trans (hW.mono hb.size)))
  generalize sP (Qi 30 x 0 k0 x0) (sW k0 x0 c0)=z0 at *;generalize sM r=m1 at *;have hz0:z0.size≤1000000:=by omega
  have Hh:m1.size≤1000000:=by omega
  have Np:Hid (Kd (w.alloc (θ #[ι κ 30,σ x,σ y,ς (some ⟨b,off,none⟩) n C] 24)) 30 x y (ς (some ⟨b,off,none⟩) n C) 0 z0):=g0;clear hf hb hsz h0 hc0 hw0 g0 hr htl hft en eC hA' JU;obtain⟨KJ,KI,KH,KG⟩:=HX.out _ (QF _ _);go_enter func29,ntmps29;go_wp2;refine Qz (([ξ #[ι κ 30,σ x,σ y,ς (some ⟨b,off,none⟩) n C],σ z0,σ (z0++(⟨#[40]⟩:ByteArray)),ς (some ⟨b,off,none⟩) n C,ς A' n' C',σ m1,σ ((z0++(⟨#[40]⟩:ByteArray))++m1),σ (((z0++(⟨#[40]⟩:ByteArray))++m1)++(⟨#[41]⟩:ByteArray)),σ (((z0++(⟨#[40]⟩:ByteArray))++m1)++(⟨#[41]⟩:ByteArray))]:List Value).map Cd.is) ?steps ?behind
  case steps =>
    intro xv W hW;have hV:=hW;obtain⟨PM,PL,PK,PJ⟩:=HX.out W hV;have t0:=Np.out W hV;have t1:=HM.out W hV;refine⟨fun hd K hK=>?s0,fun hd K hK=>?s1,fun hd K hK=>?s2,fun hd K hK=>?s3,fun hd K hK=>?s4,fun hd K hK=>?s5,fun hd K hK=>?s6,fun hd K hK=>?s7,fun hd K hK=>?s8,trivial⟩;all_goals simp only[Act.put,VG,VF,VE]at hK
    case' s1=>rw[show xv 0=_ from hd 0]at hK⊢
    case' s2=>rw[show xv 1=_ from hd 1]at hK⊢
    case' s4=>rw[show xv 3=_ from hd 3]at hK⊢
    case' s5=>rw[show xv 4=_ from hd 4]at hK⊢
    case' s6=>rw[show xv 2=_ from hd 2,show xv 5=_ from hd 5]at hK⊢
    case' s7=>rw[show xv 6=_ from hd 6]at hK⊢
    case' s8=>rw[show xv 7=_ from hd 7]at hK⊢
    all_goals clear hd
    all_goals go_simp
    all_goals first|exact hK.out _ _ (QF _ _) rfl|(rw[if_neg (by omega)];exact hK.out _ _ (QF _ _) rfl)|(go_at_call 55;(with_reducible refine t0.mono ?_);rintro e w' ⟨rfl,hb⟩;exact hK.out _ _ hb rfl)|(go_at_call 53;(with_reducible refine t1.mono ?_);rintro e w' ⟨rfl,hb⟩;exact hK.out _ _ hb rfl)
  case behind=>intro xv W hW hx;rw[show xv 8=_ from hx 8];have HE:=QN HB hW;clear hx hW;go_wp2;go_ret;exact⟨rfl,HE.out⟩
