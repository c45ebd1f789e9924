import Derived.Test.YtaiihnniblibaaaGreatDoorG37
import Derived.Test.YtaiihnniblibaaaGreatDoorRows
import Derived.Lib.LaidU8
import Derived.Deep.Slices
set_option maxHeartbeats 16000000
set_option maxRecDepth 100000
set_option linter.unusedVariables false
open Go.Proofs.Tryz Go.ChangeShapes Go.WideShapes Go.ChangeAt Go.RowKit
open Go.Lib renaming hid→QA
open Go.Value renaming string→σ,int→ι,slice→ς,bool→τ,agg→ξ
open Go.IntKind renaming i64→κ
open Go.Obj renaming cells→θ
open Go.Ending renaming returned→ρ
namespace Go.Proofs.YtaiihnniblibaaaGreatDoor
namespace Tree
theorem Ut(s:ByteArray)(w:World):Calls prog 37 #[σ s] w fun e w'=>e = ρ (ι κ (Ql s:Int))∧w'=w:=by
 have hl:Ql s=Ql s:=rfl;conv at hl=>rhs;unfold Ql
 cases b0:(s.toList==[124,124])with
 |true =>
  have hv:Ql s=1:=by rw[hl];simp[b0]
  rw[hv];clear hv hl;go_enter func37,ntmps37;go_wp2;go_ret;exact⟨rfl,rfl⟩
 |false =>
 cases b1:(s.toList==[38,38])with
 |true =>
  have hv:Ql s=2:=by rw[hl];simp[b0,b1]
  rw[hv];clear hv hl;go_enter func37,ntmps37;go_wp2;go_ret;exact⟨rfl,rfl⟩
 |false =>
 cases b2:(s.toList==[61,61])with
 |true =>
  have hv:Ql s=3:=by rw[hl];simp[b0,b1,b2]
  rw[hv];clear hv hl;go_enter func37,ntmps37;go_wp2;go_ret;exact⟨rfl,rfl⟩
 |false =>
 cases b3:(s.toList==[33,61])with
 |true =>
  have hv:Ql s=3:=by rw[hl];simp[b0,b1,b2,b3]
  rw[hv];clear hv hl;go_enter func37,ntmps37;go_wp2;go_ret;exact⟨rfl,rfl⟩
 |false =>
 cases b4:(s.toList==[60])with
 |true =>
  have hv:Ql s=3:=by rw[hl];simp[b0,b1,b2,b3,b4]
  rw[hv];clear hv hl;go_enter func37,ntmps37;go_wp2;go_ret;exact⟨rfl,rfl⟩
 |false =>
 cases b5:(s.toList==[60,61])with
 |true =>
  have hv:Ql s=3:=by rw[hl];simp[b0,b1,b2,b3,b4,b5]
  rw[hv];clear hv hl;go_enter func37,ntmps37;go_wp2;go_ret;exact⟨rfl,rfl⟩
 |false =>
 cases b6:(s.toList==[62])with
 |true =>
  have hv:Ql s=3:=by rw[hl];simp[b0,b1,b2,b3,b4,b5,b6]
  rw[hv];clear hv hl;go_enter func37,ntmps37;go_wp2;go_ret;exact⟨rfl,rfl⟩
 |false =>
 cases b7:(s.toList==[62,61])with
 |true =>
  have hv:Ql s=3:=by rw[hl];simp[b0,b1,b2,b3,b4,b5,b6,b7]
  rw[hv];clear hv hl;go_enter func37,ntmps37;go_wp2;go_ret;exact⟨rfl,rfl⟩
 |false =>
 cases b8:(s.toList==[43])with
 |true =>
  have hv:Ql s=4:=by rw[hl];simp[b0,b1,b2,b3,b4,b5,b6,b7,b8]
  rw[hv];clear hv hl;go_enter func37,ntmps37;go_wp2;go_ret;exact⟨rfl,rfl⟩
 |false =>
 cases b9:(s.toList==[45])with
 |true =>
  have hv:Ql s=4:=by rw[hl];simp[b0,b1,b2,b3,b4,b5,b6,b7,b8,b9]
  rw[hv];clear hv hl;go_enter func37,ntmps37;go_wp2;go_ret;exact⟨rfl,rfl⟩
 |false =>
 cases YT:(s.toList==[124])with
 |true =>
  have hv:Ql s=4:=by rw[hl];simp[b0,b1,b2,b3,b4,b5,b6,b7,b8,b9,YT]
  rw[hv];clear hv hl;go_enter func37,ntmps37;go_wp2;go_ret;exact⟨rfl,rfl⟩
 |false =>
 cases EI:(s.toList==[94])with
 |true =>
  have hv:Ql s=4:=by rw[hl];simp[b0,b1,b2,b3,b4,b5,b6,b7,b8,b9,YT,EI]
  rw[hv];clear hv hl;go_enter func37,ntmps37;go_wp2;go_ret;exact⟨rfl,rfl⟩
 |false =>
 cases Lm:(s.toList==[42])with
 |true =>
  have hv:Ql s=5:=by rw[hl];simp[b0,b1,b2,b3,b4,b5,b6,b7,b8,b9,YT,EI,Lm]
  rw[hv];clear hv hl;go_enter func37,ntmps37;go_wp2;go_ret;exact⟨rfl,rfl⟩
 |false =>
 cases Ll:(s.toList==[47])with
 |true =>
  have hv:Ql s=5:=by rw[hl];simp[b0,b1,b2,b3,b4,b5,b6,b7,b8,b9,YT,EI,Lm,Ll]
  rw[hv];clear hv hl;go_enter func37,ntmps37;go_wp2;go_ret;exact⟨rfl,rfl⟩
 |false =>
 cases RF:(s.toList==[37])with
 |true =>
  have hv:Ql s=5:=by rw[hl];simp[b0,b1,b2,b3,b4,b5,b6,b7,b8,b9,YT,EI,Lm,Ll,RF]
  rw[hv];clear hv hl;go_enter func37,ntmps37;go_wp2;go_ret;exact⟨rfl,rfl⟩
 |false =>
 cases RD:(s.toList==[60,60])with
 |true =>
  have hv:Ql s=5:=by rw[hl];simp[b0,b1,b2,b3,b4,b5,b6,b7,b8,b9,YT,EI,Lm,Ll,RF,RD]
  rw[hv];clear hv hl;go_enter func37,ntmps37;go_wp2;go_ret;exact⟨rfl,rfl⟩
 |false =>
 cases NF:(s.toList==[62,62])with
 |true =>
  have hv:Ql s=5:=by rw[hl];simp[b0,b1,b2,b3,b4,b5,b6,b7,b8,b9,YT,EI,Lm,Ll,RF,RD,NF]
  rw[hv];clear hv hl;go_enter func37,ntmps37;go_wp2;go_ret;exact⟨rfl,rfl⟩
 |false =>
 cases TT:(s.toList==[38])with
 |true =>
  have hv:Ql s=5:=by rw[hl];simp[b0,b1,b2,b3,b4,b5,b6,b7,b8,b9,YT,EI,Lm,Ll,RF,RD,NF,TT]
  rw[hv];clear hv hl;go_enter func37,ntmps37;go_wp2;go_ret;exact⟨rfl,rfl⟩
 |false =>
 cases Ci:(s.toList==[38,94])with
 |true =>
  have hv:Ql s=5:=by rw[hl];simp[b0,b1,b2,b3,b4,b5,b6,b7,b8,b9,YT,EI,Lm,Ll,RF,RD,NF,TT,Ci]
  rw[hv];clear hv hl;go_enter func37,ntmps37;go_wp2;go_ret;exact⟨rfl,rfl⟩
 |false =>
 have hv:Ql s=0:=by rw[hl];simp[b0,b1,b2,b3,b4,b5,b6,b7,b8,b9,YT,EI,Lm,Ll,RF,RD,NF,TT,Ci]
 rw[hv];clear hv hl;go_enter func37,ntmps37;go_wp2;go_ret;exact⟨rfl,rfl⟩
theorem Fz(k:Int)(x y:ByteArray)(A:Option Addr)(n C:Nat)(w:World):Calls prog 61 #[ξ #[ι κ k,σ x,σ y,ς A n C]] w fun e w'=>e = ρ (τ (k==29||k==28))∧Below w.heap.size w w':=by
 by_cases Sy:k=29
 ·subst Sy;go_enter func61,ntmps61;go_wp2;go_ret;exact⟨rfl,Qb _ _⟩
 ·have eO:=ZC Sy;rw[eO];clear Sy;go_enter func61,ntmps61;go_wp2;go_ret;exact⟨rfl,Qb _ _⟩
theorem Qiy(pk:Int)(px y:ByteArray)(A:Option Addr)(n C:Nat)(p:Int)(hp:p<0∨(n:Int)≤p)(w:World) :
  Calls prog 38 #[ξ #[ι κ pk,σ px,σ y,ς A n C],ι κ p] w fun e w'=>e=ρ (τ false)∧Below w.heap.size w w':=by
 by_cases h0:p<0
 ·clear hp;go_enter func38,ntmps38;go_wp2;go_ret;exact⟨rfl,(Below.refl _ _).alloc (Nat.le_refl _) _⟩
 ·have hn:(n:Int)≤p:=by omega
  clear hp;go_enter func38,ntmps38;go_wp2;go_ret;exact⟨rfl,(Below.refl _ _).alloc (Nat.le_refl _) _⟩
theorem Qi1(As:Option Addr)(ns Cs b off n C:Nat)(pk kk:Int)(px py kx ky:ByteArray)(w:World)(hb:b<w.heap.size)(hi:(0:Int)<(n:Int))(hC:n≤C)(hm:C≤9223372036854775807)(c0:w.cell? ⟨b,off,none⟩=some (ι κ kk))(c1:w.cell? ⟨b,off+1,none⟩=some (σ kx))(c2:w.cell? ⟨b,off+2,none⟩=some (σ ky))(c3:w.cell? ⟨b,off+3,none⟩=some (ς As ns Cs)) :
  Calls prog 38 #[ξ #[ι κ pk,σ px,σ py,ς (some ⟨b,off,none⟩) n C],ι κ 0] w fun e w'=>e=ρ (τ (Qi pk px 0 kk kx))∧Below w.heap.size w w':=by
 have hn0:¬(n:Int)≤0:=by omega
 by_cases Ps:pk=29
 ·subst Ps;by_cases Pv:kk=29
  ·subst Pv;rw[Qul];have hL:=QA (fun(s:ByteArray)(w:World)=>Ut s w);go_enter func38,ntmps38;go_wp2
   go_quiet (first|(go_at_call 37;refine Calls.quiet_of_same (hL.out _ _)))
   go_wp2;go_ret;exact⟨rfl,kG _ _ _ _⟩
  ·have IA:=ZC Pv;have Iz:(kk != 29)=true:=by simpa using Pv
   rw[show Qi 29 px 0 kk kx=false by simp[Qi,Pv]];clear Pv;go_enter func38,ntmps38;go_wp2;go_ret;exact⟨rfl,Vc _ _ _⟩
 have Iw:=ZC Ps;by_cases LW:pk=28
 ·subst LW;rw[show Qi 28 px 0 kk kx=(kk==29||kk==28)by simp[Qi]];have HW:=QA (Fz kk kx ky As ns Cs ((w.alloc (θ #[ι κ 28,σ px,σ py,ς (some ⟨b,off,none⟩) n C] 24)).alloc (θ #[ι κ kk,σ kx,σ ky,ς As ns Cs] 24)));go_enter func38,ntmps38;go_wp2_with fail;refine c₁ HW.out fun w' ZW=>?_;have HE:=QA ((Vc w _ _).trans (ZW.mono (Vc w (θ #[ι κ 28,σ px,σ py,ς (some ⟨b,off,none⟩) n C] 24) (θ #[ι κ kk,σ kx,σ ky,ς As ns Cs] 24)).size));clear ZW;go_wp2;go_ret;exact⟨rfl,HE.out⟩
 have Ix:=ZC LW;by_cases Y':pk=30
 ·subst Y';rw[show Qi 30 px 0 kk kx=(kk==29||kk==28)by simp[Qi]];have HW:=QA (Fz kk kx ky As ns Cs ((w.alloc (θ #[ι κ 30,σ px,σ py,ς (some ⟨b,off,none⟩) n C] 24)).alloc (θ #[ι κ kk,σ kx,σ ky,ς As ns Cs] 24)));go_enter func38,ntmps38;go_wp2_with fail;refine c₁ HW.out fun w' ZW=>?_;have HE:=QA ((Vc w _ _).trans (ZW.mono (Vc w (θ #[ι κ 30,σ px,σ py,ς (some ⟨b,off,none⟩) n C] 24) (θ #[ι κ kk,σ kx,σ ky,ς As ns Cs] 24)).size));clear ZW;go_wp2;go_ret;exact⟨rfl,HE.out⟩
 have Iu:=ZC Y';by_cases YZ:pk=31
 ·subst YZ;rw[show Qi 31 px 0 kk kx=(kk==29||kk==28)by simp[Qi]];have HW:=QA (Fz kk kx ky As ns Cs ((w.alloc (θ #[ι κ 31,σ px,σ py,ς (some ⟨b,off,none⟩) n C] 24)).alloc (θ #[ι κ kk,σ kx,σ ky,ς As ns Cs] 24)));go_enter func38,ntmps38;go_wp2_with fail;refine c₁ HW.out fun w' ZW=>?_;have HE:=QA ((Vc w _ _).trans (ZW.mono (Vc w (θ #[ι κ 31,σ px,σ py,ς (some ⟨b,off,none⟩) n C] 24) (θ #[ι κ kk,σ kx,σ ky,ς As ns Cs] 24)).size));clear ZW;go_wp2;go_ret;exact⟨rfl,HE.out⟩
 have Ir:=ZC YZ;by_cases p32:pk=32
 ·subst p32;rw[show Qi 32 px 0 kk kx=(kk==29||kk==28)by simp[Qi]];have HW:=QA (Fz kk kx ky As ns Cs ((w.alloc (θ #[ι κ 32,σ px,σ py,ς (some ⟨b,off,none⟩) n C] 24)).alloc (θ #[ι κ kk,σ kx,σ ky,ς As ns Cs] 24)));go_enter func38,ntmps38;go_wp2_with fail;refine c₁ HW.out fun w' ZW=>?_;have HE:=QA ((Vc w _ _).trans (ZW.mono (Vc w (θ #[ι κ 32,σ px,σ py,ς (some ⟨b,off,none⟩) n C] 24) (θ #[ι κ kk,σ kx,σ ky,ς As ns Cs] 24)).size));clear ZW;go_wp2;go_ret;exact⟨rfl,HE.out⟩
 have Iq:=ZC p32;rw[show Qi pk px 0 kk kx=false by simp[Qi,Ps,LW,Y',YZ,p32]];clear Ps LW Y' YZ p32;go_enter func38,ntmps38;go_wp2;go_ret;exact⟨rfl,Vc _ _ _⟩
theorem Qi0(As:Option Addr)(ns Cs b off n C:Nat)(pk kk:Int)(px py kx ky:ByteArray)(w:World)(hb:b<w.heap.size)(hi:(1:Int)<(n:Int))(hC:n≤C)(hm:C≤9223372036854775807)(c0:w.cell? ⟨b,off+4,none⟩=some (ι κ kk))(c1:w.cell? ⟨b,off+5,none⟩=some (σ kx))(c2:w.cell? ⟨b,off+6,none⟩=some (σ ky))(c3:w.cell? ⟨b,off+7,none⟩=some (ς As ns Cs)) :
  Calls prog 38 #[ξ #[ι κ pk,σ px,σ py,ς (some ⟨b,off,none⟩) n C],ι κ 1] w fun e w'=>e=ρ (τ (Qi pk px 1 kk kx))∧Below w.heap.size w w':=by
 have hn0:¬(n:Int)≤1:=by omega
 by_cases Ps:pk=29
 ·subst Ps;by_cases Pv:kk=29
  ·subst Pv;rw[Quk];have hL:=QA (fun(s:ByteArray)(w:World)=>Ut s w);go_enter func38,ntmps38;go_wp2
   go_quiet (first|(go_at_call 37;refine Calls.quiet_of_same (hL.out _ _)))
   go_wp2;go_ret;exact⟨rfl,kG _ _ _ _⟩
  ·have IA:=ZC Pv;have Iz:(kk != 29)=true:=by simpa using Pv
   rw[show Qi 29 px 1 kk kx=false by simp[Qi,Pv]];clear Pv;go_enter func38,ntmps38;go_wp2;go_ret;exact⟨rfl,Vc _ _ _⟩
 have Iw:=ZC Ps;by_cases LW:pk=28
 ·subst LW;rw[show Qi 28 px 1 kk kx=(kk==29||kk==28)by simp[Qi]];have HW:=QA (Fz kk kx ky As ns Cs ((w.alloc (θ #[ι κ 28,σ px,σ py,ς (some ⟨b,off,none⟩) n C] 24)).alloc (θ #[ι κ kk,σ kx,σ ky,ς As ns Cs] 24)));go_enter func38,ntmps38;go_wp2_with fail;refine c₁ HW.out fun w' ZW=>?_;have HE:=QA ((Vc w _ _).trans (ZW.mono (Vc w (θ #[ι κ 28,σ px,σ py,ς (some ⟨b,off,none⟩) n C] 24) (θ #[ι κ kk,σ kx,σ ky,ς As ns Cs] 24)).size));clear ZW;go_wp2;go_ret;exact⟨rfl,HE.out⟩
 have Ix:=ZC LW;by_cases Y':pk=30
 ·subst Y';rw[show Qi 30 px 1 kk kx=false by simp[Qi]];go_enter func38,ntmps38;go_wp2;go_ret;exact⟨rfl,Vc _ _ _⟩
 have Iu:=ZC Y';by_cases YZ:pk=31
 ·subst YZ;rw[show Qi 31 px 1 kk kx=false by simp[Qi]];go_enter func38,ntmps38;go_wp2;go_ret;exact⟨rfl,Vc _ _ _⟩
 have Ir:=ZC YZ;by_cases p32:pk=32
 ·subst p32;rw[show Qi 32 px 1 kk kx=false by simp[Qi]];go_enter func38,ntmps38;go_wp2;go_ret;exact⟨rfl,Vc _ _ _⟩
 have Iq:=ZC p32;rw[show Qi pk px 1 kk kx=false by simp[Qi,Ps,LW,Y',YZ,p32]];clear Ps LW Y' YZ p32;go_enter func38,ntmps38;go_wp2;go_ret;exact⟨rfl,Vc _ _ _⟩
theorem Qiz(As:Option Addr)(ns Cs b off n C i:Nat)(pk kk:Int)(px py kx ky:ByteArray)(w:World)(hb:b<w.heap.size)(hi:(i:Int)<(n:Int))(hC:n≤C)(hm:C≤9223372036854775807)(c0:w.cell? ⟨b,off+i*4,none⟩=some (ι κ kk))(c1:w.cell? ⟨b,off+i*4+1,none⟩=some (σ kx))(c2:w.cell? ⟨b,off+i*4+2,none⟩=some (σ ky))(c3:w.cell? ⟨b,off+i*4+3,none⟩=some (ς As ns Cs))(h0:((i:Int)==0)=false)(h1:((i:Int)==1)=false) :
  Calls prog 38 #[ξ #[ι κ pk,σ px,σ py,ς (some ⟨b,off,none⟩) n C],ι κ (i:Int)] w fun e w'=>e=ρ (τ (Qi pk px i kk kx))∧Below w.heap.size w w':=by
 have hn0:¬(n:Int)≤(i:Int):=by omega
 have hi0:¬(i:Int)<0:=by omega
 have uG:(0:Int)≤(i:Int):=by omega
 have i0:¬i=0:=by rintro rfl;simp at h0
 have i1:¬i=1:=by rintro rfl;simp at h1
 by_cases LW:pk=28
 ·subst LW;rw[show Qi 28 px i kk kx=(kk==29||kk==28)by simp[Qi]];clear i0 i1;have HW:=QA (Fz kk kx ky As ns Cs ((w.alloc (θ #[ι κ 28,σ px,σ py,ς (some ⟨b,off,none⟩) n C] 24)).alloc (θ #[ι κ kk,σ kx,σ ky,ς As ns Cs] 24)));go_enter func38,ntmps38;go_wp2_with fail;refine c₁ HW.out fun w' ZW=>?_;have HE:=QA ((Vc w _ _).trans (ZW.mono (Vc w (θ #[ι κ 28,σ px,σ py,ς (some ⟨b,off,none⟩) n C] 24) (θ #[ι κ kk,σ kx,σ ky,ς As ns Cs] 24)).size));clear ZW;go_wp2;go_ret;exact⟨rfl,HE.out⟩
 have Ix:=ZC LW;rw[show Qi pk px i kk kx=false by unfold Qi;simp[LW,i0,i1]];by_cases Ps:pk=29
 ·subst Ps;clear i0 i1 LW;by_cases Pv:kk=29
  ·subst Pv;go_enter func38,ntmps38;go_wp2
   go_quiet (fail)
   go_wp2;go_ret;exact⟨rfl,kG _ _ _ _⟩
  ·have IA:=ZC Pv;have Iz:(kk != 29)=true:=by simpa using Pv
   clear Pv;go_enter func38,ntmps38;go_wp2;go_ret;exact⟨rfl,Vc _ _ _⟩
 have Iw:=ZC Ps;by_cases Y':pk=30
 ·subst Y';clear i0 i1 LW Ps;go_enter func38,ntmps38;go_wp2;go_ret;exact⟨rfl,Vc _ _ _⟩
 have Iu:=ZC Y';by_cases YZ:pk=31
 ·subst YZ;clear i0 i1 LW Ps;go_enter func38,ntmps38;go_wp2;go_ret;exact⟨rfl,Vc _ _ _⟩
 have Ir:=ZC YZ;by_cases p32:pk=32
 ·subst p32;clear i0 i1 LW Ps;go_enter func38,ntmps38;go_wp2;go_ret;exact⟨rfl,Vc _ _ _⟩
 have Iq:=ZC p32;clear LW Ps Y' YZ p32 i0 i1;go_enter func38,ntmps38;go_wp2;go_ret;exact⟨rfl,Vc _ _ _⟩
theorem Zj(w:World)(pk:Int)(px py:ByteArray)(A:Option Addr)(n C:Nat)(f:F)(p:Int){B:Nat}(hB:B≤w.heap.size)(hf:Fs w (Lo B) (ς A n C) f) :
  Calls prog 38 #[ξ #[ι κ pk,σ px,σ py,ς A n C],ι κ p] w fun e w'=>e=ρ (τ (Ze pk px f p))∧Below w.heap.size w w':=by
 obtain⟨A',C',e,YR,UN⟩:=hf.slice;injection e with e1 e2 e3;subst e1;subst e2;subst e3;by_cases hp:p<0∨((f.len:Nat):Int)≤p
 ·have e:Ze pk px f p=false:=by
   unfold Ze;split
   ·rw[F.JH _ _ (by omega)]
   ·rfl
  rw[e];exact Qiy pk px py A _ C p hp w
 ·obtain⟨i,rfl⟩:∃i:Nat,p=(i:Int):=⟨p.toNat,by omega⟩;obtain⟨k,x,y,c,r,hd,_⟩:=F.drop_cons (n:=i) (f:=f) (by omega);have e:Ze pk px f (i:Int)=Qi pk px i k x:=by
   unfold Ze;rw[if_pos (by omega),Int.toNat_natCast,hd]
  rw[e];obtain⟨b,off,s,rfl,hb,hi,hat⟩:=hf.at_ hd;obtain⟨As,Cs,rfl,_,_⟩:=hat.kids.slice;have hb:b<w.heap.size:=Nat.lt_of_lt_of_le hb hB;have c0:=hat.c0;have c1:=hat.c1;have c2:=hat.c2;have c3:=hat.c3;by_cases i0:i=0
  ·subst i0;simp only[Nat.zero_mul,Nat.add_zero]at c0 c1 c2 c3;exact Qi1 As _ Cs b off _ C pk k px py x y w hb (by omega) YR UN c0 c1 c2 c3
  by_cases i1:i=1
  ·subst i1;exact Qi0 As _ Cs b off _ C pk k px py x y w hb (by omega) YR UN c0 c1 c2 c3
  exact Qiz As _ Cs b off _ C i pk k px py x y w hb (by omega) YR UN c0 c1 c2 c3 (by simpa using i0) (by simpa using(show ¬(i:Int)=1 by omega))
open Mem
def now(k:Int):Nat:=if k=2 then 1 else if k=3 then 2 else if 4≤k∧k≤7 then 3 else 0
def Zd:Nat→F→Bool
  |last,.nil=>decide (0<last)
  |last,.cons k _ _ _ r=>if k=8 then Zd last r else if now k=0∨now k<last∨(now k=1∧last=1)∨(last=0∧now k≠1)then false else Zd (now k) r
theorem Qnl(k:Int)(x:ByteArray):Jl k x=(k==8||decide (now k=3)):=by
  unfold Jl now;by_cases h8:k=8
  ·subst h8;rfl
  by_cases h2:k=2
  ·subst h2;rfl
  by_cases h3:k=3
  ·subst h3;rfl
  by_cases h:4≤k∧k≤7
  ·have:k=4∨k=5∨k=6∨k=7:=by omega
   rcases this with rfl|rfl|rfl|rfl <;> rfl
  ·rw[if_neg h2,if_neg h3,if_neg h,ZC h8,ZC (by omega),ZC (by omega),ZC (by omega),ZC (by omega)];rfl
theorem lV(k:Int):now k≤3:=by
  unfold now;split
  ·omega
  ·split
   ·omega
   ·split <;> omega
theorem wP{k:Int}(h:¬k=2):now k≠1:=by
  unfold now;rw[if_neg h];split
  ·omega
  ·split <;> omega
theorem wQ{k:Int}(h:¬k=3):now k≠2:=by
  unfold now;split
  ·omega
  ·split <;> omega
theorem jJ:∀f:F,Zd 3 f=Qe [.many Jl] f
  | .nil=>rfl
  | .cons k x y c r=>by
    have ih:=jJ r;simp only[Qe,Pt.take]at ih;simp only[Zd,Qe,Pt.take,Kv];rw[Qnl];by_cases h8:k=8
    ·subst h8;simpa using ih
    ·rw[if_neg h8,ZC h8,Bool.false_or];have hn:=lV k;by_cases h3:now k=3
     ·rw[if_neg (by omega),h3];simpa using ih
     ·rw[if_pos (by omega),decide_eq_false h3];rfl
theorem lI:∀(f:F)(l:Nat),l=1∨l=2→Zd l f=Qe [.many (Qk [3,8]),.many Jl] f
  | .nil,l,hl=>by rcases hl with rfl|rfl <;> rfl
  | .cons k x y c r,l,hl=>by
    have ih:=lI r;have iN:=jJ r;have ju:=jJ (.cons k x y c r);simp only[Qe,Pt.take]at ih iN ju;simp only[Zd,Qe,Pt.take,Kv];have hof:Qk [3,8] k x=(k==3||k==8):=by simp[Qk]
    rw[hof];by_cases h8:k=8
    ·subst h8;simpa using ih l hl
    ·rw[if_neg h8,ZC h8,Bool.or_false];by_cases h3:k=3
     ·subst h3;rw[show now 3=2 from rfl,if_neg (by omega)];simpa using ih 2 (.inr rfl)
     ·rw[ZC h3];simp only[Bool.false_eq_true,if_false];simp only[Zd,if_neg h8]at ju;rw[←ju];have hn:=wQ h3;have BQ:=lV k;by_cases he:now k=3
      ·rw[if_neg (by omega),if_neg (by omega)]
      ·rw[if_pos (by omega),if_pos (by omega)]
theorem cY:∀f:F,Zd 0 f=Qe [.many (Qk [8]),.one [Qk [2]],.many (Qk [3,8]),.many Jl] f
  | .nil=>rfl
  | .cons k x y c r=>by
    have ih:=cY r;have h12:=lI r 1 (.inl rfl);simp only[Qe,Pt.take]at ih h12;simp only[Zd,Qe,Pt.take,Kv];have hof:Qk [8] k x=(k==8):=by simp[Qk]
    rw[hof];by_cases h8:k=8
    ·subst h8;simpa using ih
    ·rw[if_neg h8,ZC h8];simp only[Bool.false_eq_true,if_false];by_cases h2:k=2
     ·subst h2;rw[show now 2=1 from rfl,if_neg (by omega),h12];simp[Qk]
     ·have hn:=wP h2;have hcond:now k=0∨now k<0∨(now k=1∧(0:Nat)=1)∨(True∧now k≠1):=.inr (.inr (.inr ⟨trivial,hn⟩));rw[if_pos hcond];have h2':=ZC h2;simp[Qk,h2']
theorem Qkx(A:Option Addr)(n C:Nat)(f:F)(w:World)(hf:Fs w (Lo w.heap.size) (ς A n C) f) :
    Calls Tryz.prog 35 #[ς A n C] w fun e w'=>e=ρ (τ (Zd 0 f))∧w'=w:=by
  obtain⟨A0,C0,e,YR,UN⟩:=hf.slice;injection e with e1 e2 e3;have hfl:f.len=n:=e2.symm;have vR:n≤9223372036854775807:=by omega
  have HF:=Lib.hid hf;have NX:=Lib.hid hfl;clear hf hfl e1 e2 e3 YR UN;go_enter Tryz.func35,Tryz.ntmps35;go_wp2
  go_loop [3,4] (fun s3 s4=>∃i l:Nat,i≤n∧l≤3∧s4=ι κ (i:Int)∧s3=ι κ (l:Int)∧Hid (Zd l (f.drop i)=Zd 0 f)) (fun _ s4=>n-(intOf s4).toNat)
  case atStart=>exact⟨0,0,Nat.zero_le _,by omega,rfl,rfl,rfl⟩
  case round =>
    obtain⟨i,l,hi,hl,rfl,rfl,hst⟩:=hrel;by_cases hin:i<n
    ·have UX:(i:Int)<(n:Int):=by omega
     obtain⟨k,x,y,kc,kr,hdr,JG⟩:=F.drop_cons (n:=i) (f:=f) (by rw[NX.out];exact hin);obtain⟨b,off,s3,rfl,XP,_,hat⟩:=HF.out.at_ hdr;have c0:=hat.c0;have hi0:(0:Int)≤(i:Int):=by omega
     have ZK:=hst.out;rw[hdr]at ZK;simp only[Zd]at ZK;have PD:=Lib.hid JG;clear hst hdr JG hat;have hl4:l=0∨l=1∨l=2∨l=3:=by omega
     by_cases k8:k=8
     ·subst k8;have HE:Hid (Zd l (f.drop (i+1))=Zd 0 f):=by show _=_;rw[PD.out,←ZK];simp
      clear ZK hl4;go_wp2
      go_round
      case rel=>exact⟨i+1,l,by omega,by omega,by go_num,rfl,HE.out⟩
      case measure=>simp[intOf];omega
     have n8:=ZC k8;rw[if_neg k8]at ZK;by_cases k2:k=2
     ·subst k2;rw[show now 2=1 from rfl]at ZK;rcases hl4 with rfl|rfl|rfl|rfl
      ·have HE:Hid (Zd 1 (f.drop (i+1))=Zd 0 f):=by show _=_;rw[PD.out,←ZK];simp
       clear ZK;go_wp2
       go_round
       case rel=>exact⟨i+1,1,by omega,by omega,by go_num,rfl,HE.out⟩
       case measure=>simp[intOf];omega
      ·have HE:Hid (Zd 0 f=false):=by show _=_;rw[←ZK];simp
       clear ZK;go_wp2;go_ret;exact⟨by rw[HE.out];rfl,rfl⟩
      ·have HE:Hid (Zd 0 f=false):=by show _=_;rw[←ZK];simp
       clear ZK;go_wp2;go_ret;exact⟨by rw[HE.out];rfl,rfl⟩
      ·have HE:Hid (Zd 0 f=false):=by show _=_;rw[←ZK];simp
       clear ZK;go_wp2;go_ret;exact⟨by rw[HE.out];rfl,rfl⟩
     have n2:=ZC k2;by_cases k3:k=3
     ·subst k3;rw[show now 3=2 from rfl]at ZK;rcases hl4 with rfl|rfl|rfl|rfl
      ·have HE:Hid (Zd 0 f=false):=by show _=_;rw[←ZK];simp
       clear ZK;go_wp2;go_ret;exact⟨by rw[HE.out];rfl,rfl⟩
      ·have HE:Hid (Zd 2 (f.drop (i+1))=Zd 0 f):=by show _=_;rw[PD.out,←ZK];simp
       clear ZK;go_wp2
       go_round
       case rel=>exact⟨i+1,2,by omega,by omega,by go_num,rfl,HE.out⟩
       case measure=>simp[intOf];omega
      ·have HE:Hid (Zd 2 (f.drop (i+1))=Zd 0 f):=by show _=_;rw[PD.out,←ZK];simp
       clear ZK;go_wp2
       go_round
       case rel=>exact⟨i+1,2,by omega,by omega,by go_num,rfl,HE.out⟩
       case measure=>simp[intOf];omega
      ·have HE:Hid (Zd 0 f=false):=by show _=_;rw[←ZK];simp
       clear ZK;go_wp2;go_ret;exact⟨by rw[HE.out];rfl,rfl⟩
     have n3:=ZC k3;by_cases k4:k=4
     ·subst k4;rw[show now 4=3 from rfl]at ZK;rcases hl4 with rfl|rfl|rfl|rfl
      ·have HE:Hid (Zd 0 f=false):=by show _=_;rw[←ZK];simp
       clear ZK;go_wp2;go_ret;exact⟨by rw[HE.out];rfl,rfl⟩
      ·have HE:Hid (Zd 3 (f.drop (i+1))=Zd 0 f):=by show _=_;rw[PD.out,←ZK];simp
       clear ZK;go_wp2
       go_round
       case rel=>exact⟨i+1,3,by omega,by omega,by go_num,rfl,HE.out⟩
       case measure=>simp[intOf];omega
      ·have HE:Hid (Zd 3 (f.drop (i+1))=Zd 0 f):=by show _=_;rw[PD.out,←ZK];simp
       clear ZK;go_wp2
       go_round
       case rel=>exact⟨i+1,3,by omega,by omega,by go_num,rfl,HE.out⟩
       case measure=>simp[intOf];omega
      ·have HE:Hid (Zd 3 (f.drop (i+1))=Zd 0 f):=by show _=_;rw[PD.out,←ZK];simp
       clear ZK;go_wp2
       go_round
       case rel=>exact⟨i+1,3,by omega,by omega,by go_num,rfl,HE.out⟩
       case measure=>simp[intOf];omega
     have n4:=ZC k4;by_cases k5:k=5
     ·subst k5;rw[show now 5=3 from rfl]at ZK;rcases hl4 with rfl|rfl|rfl|rfl
      ·have HE:Hid (Zd 0 f=false):=by show _=_;rw[←ZK];simp
       clear ZK;go_wp2;go_ret;exact⟨by rw[HE.out];rfl,rfl⟩
      ·have HE:Hid (Zd 3 (f.drop (i+1))=Zd 0 f):=by show _=_;rw[PD.out,←ZK];simp
       clear ZK;go_wp2
       go_round
       case rel=>exact⟨i+1,3,by omega,by omega,by go_num,rfl,HE.out⟩
       case measure=>simp[intOf];omega
      ·have HE:Hid (Zd 3 (f.drop (i+1))=Zd 0 f):=by show _=_;rw[PD.out,←ZK];simp
       clear ZK;go_wp2
       go_round
       case rel=>exact⟨i+1,3,by omega,by omega,by go_num,rfl,HE.out⟩
       case measure=>simp[intOf];omega
      ·have HE:Hid (Zd 3 (f.drop (i+1))=Zd 0 f):=by show _=_;rw[PD.out,←ZK];simp
       clear ZK;go_wp2
       go_round
       case rel=>exact⟨i+1,3,by omega,by omega,by go_num,rfl,HE.out⟩
       case measure=>simp[intOf];omega
     have n5:=ZC k5;by_cases k6:k=6
     ·subst k6;rw[show now 6=3 from rfl]at ZK;rcases hl4 with rfl|rfl|rfl|rfl
      ·have HE:Hid (Zd 0 f=false):=by show _=_;rw[←ZK];simp
       clear ZK;go_wp2;go_ret;exact⟨by rw[HE.out];rfl,rfl⟩
      ·have HE:Hid (Zd 3 (f.drop (i+1))=Zd 0 f):=by show _=_;rw[PD.out,←ZK];simp
       clear ZK;go_wp2
       go_round
       case rel=>exact⟨i+1,3,by omega,by omega,by go_num,rfl,HE.out⟩
       case measure=>simp[intOf];omega
      ·have HE:Hid (Zd 3 (f.drop (i+1))=Zd 0 f):=by show _=_;rw[PD.out,←ZK];simp
       clear ZK;go_wp2
       go_round
       case rel=>exact⟨i+1,3,by omega,by omega,by go_num,rfl,HE.out⟩
       case measure=>simp[intOf];omega
      ·have HE:Hid (Zd 3 (f.drop (i+1))=Zd 0 f):=by show _=_;rw[PD.out,←ZK];simp
       clear ZK;go_wp2
       go_round
       case rel=>exact⟨i+1,3,by omega,by omega,by go_num,rfl,HE.out⟩
       case measure=>simp[intOf];omega
     have n6:=ZC k6;by_cases k7:k=7
     ·subst k7;rw[show now 7=3 from rfl]at ZK;rcases hl4 with rfl|rfl|rfl|rfl
      ·have HE:Hid (Zd 0 f=false):=by show _=_;rw[←ZK];simp
       clear ZK;go_wp2;go_ret;exact⟨by rw[HE.out];rfl,rfl⟩
      ·have HE:Hid (Zd 3 (f.drop (i+1))=Zd 0 f):=by show _=_;rw[PD.out,←ZK];simp
       clear ZK;go_wp2
       go_round
       case rel=>exact⟨i+1,3,by omega,by omega,by go_num,rfl,HE.out⟩
       case measure=>simp[intOf];omega
      ·have HE:Hid (Zd 3 (f.drop (i+1))=Zd 0 f):=by show _=_;rw[PD.out,←ZK];simp
       clear ZK;go_wp2
       go_round
       case rel=>exact⟨i+1,3,by omega,by omega,by go_num,rfl,HE.out⟩
       case measure=>simp[intOf];omega
      ·have HE:Hid (Zd 3 (f.drop (i+1))=Zd 0 f):=by show _=_;rw[PD.out,←ZK];simp
       clear ZK;go_wp2
       go_round
       case rel=>exact⟨i+1,3,by omega,by omega,by go_num,rfl,HE.out⟩
       case measure=>simp[intOf];omega
     have n7:=ZC k7;have IX:now k=0:=by unfold now;rw[if_neg k2,if_neg k3,if_neg (by omega)]
     have HE:Hid (Zd 0 f=false):=by show _=_;rw[←ZK,IX];simp
     clear ZK hl4 IX;by_cases h4:(4:Int)≤k
     ·have h7:¬k≤7:=by omega
      go_wp2;go_ret;exact⟨by rw[HE.out];rfl,rfl⟩
     ·skip
      go_wp2;go_ret;exact⟨by rw[HE.out];rfl,rfl⟩
    ·have UX:¬(i:Int)<(n:Int):=by omega
     have ZK:=hst.out;rw[F.JH _ _ (by rw[NX.out];omega)]at ZK;simp only[Zd]at ZK;clear hst;have HE:Hid (Zd 0 f=decide (0<l)):=ZK.symm;clear ZK;go_wp2;go_ret;exact⟨by rw[HE.out];rfl,rfl⟩
theorem Qks(k:Int)(x y:ByteArray)(A:Option Addr)(n C:Nat)(c:F)(m:Nat)(w:World)(hf:Fs w (Lo w.heap.size) (ς A n C) c)(Hh:1≤m)(hm2:m≤100000) :
    Calls Tryz.prog 15 #[ξ #[ι κ k,σ x,σ y,ς A n C],ι κ (m:Int)] w fun e w'=>e=ρ (ι κ ((min (c.size+1) m:Nat):Int))∧Below w.heap.size w w':=by
  have b1:=Qb w (θ #[ι κ k,σ x,σ y,ς A n C] 24);have HC:=Lib.hid (nB c.size k x y A n C c m w.heap.size (w.alloc (θ #[ι κ k,σ x,σ y,ς A n C] 24)) (Nat.le_refl _) (hf.below b1 (Nat.le_refl _)) b1.size Hh hm2);have QJ:=Lib.hid b1;have HL:Hid (((⟨k,x,y,c⟩::nodes c:List Nd).take m).length=min (c.size+1) m):=by show _=_;rw[List.length_take,List.length_cons,Gg,Nat.min_comm]
  generalize((⟨k,x,y,c⟩::nodes c:List Nd).take m)=T at *;generalize min (c.size+1) m=s at *;clear hf Hh hm2 b1;go_enter Tryz.func15,Tryz.ntmps15;go_wp2_with fail;refine HC.out.mono ?_;rintro e w1 ⟨⟨v1,rfl,Sp⟩,hb1⟩;obtain⟨a1,c1,rfl,hc1,Mm⟩:=Sp.slice;have HB:=QN QJ hb1;rw[HL.out]at hc1⊢;clear Sp hb1 HC HL Mm;go_wp2;go_ret;exact⟨rfl,HB.out⟩
end Tree
namespace Lex
open KL
def NR:List (String × DataW Unit):=[("unicode/utf8.acceptRanges", Rows.laid_unicode_utf8_acceptRanges),("scarf/lex.marks", Rows.laid_scarf_lex_marks),("unicode/utf8.first", Rows.laid_unicode_utf8_first)]
theorem lK:Tryz.prog.globalNamed "scarf/lex.marks" = some 0:=by kernel_rfl
theorem Q0x:(Tryz.prog.globals[0]?).map (·.type)=some 111:=by kernel_rfl
theorem Q3q:Tryz.prog.cellsOf 9=1:=by kernel_rfl
theorem Q3r:Tryz.prog.cellsOf 111=37:=by kernel_rfl
def kg:List (DataW Unit):=XV.map fun m=>.lit (.string (m.map fun n=>UInt8.ofNat n.toNat))
theorem ai:(Rows.laid_scarf_lex_marks:DataW Unit)=.agg kg:=by rfl
theorem cf{W:World}(h:laidMet Tryz.prog NR W):LO W:=by
 obtain hr:=Lib.laidMet.reads h (n := "scarf/lex.marks") (d:=Rows.laid_scarf_lex_marks) (by unfold NR;exact .tail _ (.head _))
 obtain⟨g,t,cs,fuel,p,h1,h2,h3,h4⟩:=hr;obtain rfl:=Option.some.inj (lK.symm.trans h1);obtain rfl:=Option.some.inj (Q0x.symm.trans h2);obtain⟨xs,m,rfl,hx,hlen,hn,hel⟩:=DataW.trod_array Tryz.underlying111 h4;rw[Q3r]at hlen;rw[ai]at hx;simp only[Prod.mk.injEq,DataW.agg.injEq]at hx;have hcs:cs=mkV:=by
  refine Array.ext' (List.ext_getElem (by rw[hlen,Array.length_toList,ze]) fun i hi hi2=>?_);have Og:i<37:=by omega
  have e1:=hel i Og;rw[Q3q,Nat.mul_one]at e1;have Nv:i<xs.length:=by omega
  rw[List.getElem?_eq_getElem Nv]at e1;obtain⟨s,c1,c2,_⟩:=DataW.trod_string Tryz.underlying9 e1;have Du:i<XV.length:=by rw[qN];exact Og
  have e2:(xs.map (·.1))[i]?=kg[i]?:=by rw[←hx.1]
  rw[List.getElem?_map,List.getElem?_eq_getElem Nv,c2]at e2;unfold kg at e2;rw[List.getElem?_map,List.getElem?_eq_getElem Du]at e2;simp only[Option.map_some,Option.some.injEq,DataW.lit.injEq,Lit.string.injEq]at e2;have hs:s=strOfNums XV[i]:=by apply ByteArray.ext;apply Array.ext';rw[e2];simp[strOfNums]
  have e3:cs.toList[i]=.string s:=by rw[List.drop_eq_getElem_cons hi]at c1;simpa using c1
  rw[e3,hs];simp[mkV]
 subst hcs;simp only[World.var?,lK,Option.bind_some]at h3;split at h3
 ·rename_i cs t fr he
  injection h3 with h3;subst h3;exact⟨t,fr,he⟩
 ·cases h3
end Lex
namespace Tree
section
variable {H:Type}{enc:TypeId×Value→H}{W:World}
theorem rS(b:Nat):∀(m off n C:Nat),n≤C→C≤9223372036854775807→n=m→b<W.heap.size→
    (∀i,i<n→∃k x y s c,W.cell? ⟨b,off+i*4,none⟩=some (.int .i64 k)∧W.cell? ⟨b,off+i*4+1,none⟩=some (.string x)∧W.cell? ⟨b,off+i*4+2,none⟩=some (.string y)∧W.cell? ⟨b,off+i*4+3,none⟩=some s∧Fs W (Lo W.heap.size) s c)→
    ∃f,f.len=n∧∀A,(n=0∨A=some ⟨b,off,none⟩)→Fs W (Lo W.heap.size) (.slice A n C) f
  |0,off,n,C,hC,hm,hn,hb,h=>by
   subst hn;exact⟨.nil,rfl,fun A _=>⟨A,C,rfl,hm⟩⟩
  |m+1,off,n,C,hC,hm,hn,hb,h=>by
   subst hn;obtain⟨C',rfl⟩:∃C',C=C'+1:=⟨C-1,by omega⟩;obtain⟨k,x,y,s,c,c0,c1,c2,c3,hk⟩:=h 0 (by omega);simp only[Nat.zero_mul,Nat.add_zero]at c0 c1 c2 c3
   obtain⟨r,hr,hr2⟩:=rS b m (off+4) m C' (by omega) (by omega) rfl hb (fun i hi=>by
     obtain⟨k,x,y,s,c,c0,c1,c2,c3,hk⟩:=h (i+1) (by omega);rw[show off+(i+1)*4=off+4+i*4 by omega]at c0 c1 c2 c3;exact⟨k,x,y,s,c,c0,c1,c2,c3,hk⟩)
   refine⟨.cons k x y c r,by simp only[F.len,hr],fun A hA=>?_⟩;have hA':A=some ⟨b,off,none⟩:=hA.resolve_left (by omega);subst hA'
   exact⟨b,off,m,C',s,rfl,hr,by omega,hm,hb,c0,c1,c2,c3,hk,fun A' hA'=>hr2 A' (by
     rcases hA' with h' |h'
     ·left;rw[h']at hr;exact hr.symm
     ·exact .inr h')⟩
theorem Qqb:∀(fuel:Nat)(cs:List Value)(x:DataW H×List MemPlace),DataW.trod enc prog W 0 (fun _=>true) true fuel 24 cs=some x→
    ∃k s t A n C c,cs=[.int .i64 k,.string s,.string t,.slice A n C]∧Fs W (Lo W.heap.size) (.slice A n C) c∧s.size≤maxLen∧t.size≤maxLen:=by
  intro fuel
  induction fuel using Nat.strongRecOn with
  |_ fuel ih =>
   intro cs x h;obtain⟨xs,m,uJ,rfl,hl,hlen,hf⟩:=DataW.trod_struct underlying24 h;have uR:prog.cellsOf 24=4:=by kernel_rfl
   rw[uR]at hl
   match cs,hl with
   |[v0,v1,v2,v3],_ =>
    have g0:=hf 0 _ rfl;have g1:=hf 1 _ rfl;have g2:=hf 2 _ rfl;have g3:=hf 3 _ rfl;have ci:prog.cellsOf 3=1:=by kernel_rfl
    have jz:prog.cellsOf 9=1:=by kernel_rfl
    have iV:prog.cellsOf 22=1:=by kernel_rfl
    simp[ci,jz,iV]at g0 g1 g2 g3;have hl4:xs.length=4:=hlen
    match xs,hl4 with
    |[y0,y1,y2,y3],_ =>
     simp only[List.getElem?_cons_zero,List.getElem?_cons_succ]at g0 g1 g2 g3;obtain⟨k,e0,_,_⟩:=DataW.trod_int underlying3 g0;obtain⟨s,e1,_,hs⟩:=DataW.trod_string underlying9 g1;obtain⟨t,e2,_,ht⟩:=DataW.trod_string underlying9 g2;simp only[List.cons.injEq,and_true]at e0 e1 e2;subst e0;subst e1;subst e2;rcases DataW.trod_slice underlying22 g3 with⟨e3,_⟩|⟨a,len,cap,elems,rest,q,hq,e3,_,_,hlc,hcm,hel,hcell,_,_⟩
     ·simp only[List.cons.injEq,and_true]at e3;subst e3;exact⟨k,s,t,none,0,0,.nil,rfl,⟨none,0,rfl,by omega⟩,hs,ht⟩
     ·simp only[List.cons.injEq,and_true]at e3;subst e3;rw[uR]at hcell;have hone:∀i,i<len→∃k x y s c,W.cell? (a.add (i*4))=some (.int .i64 k)∧W.cell? ((a.add (i*4)).add 1)=some (.string x)∧W.cell? ((a.add (i*4)).add 2)=some (.string y)∧W.cell? ((a.add (i*4)).add 3)=some s∧Fs W (Lo W.heap.size) s c:=by
         intro i hi;have hb:=hcell i hi;rw[List.getElem?_eq_getElem (by omega)]at hb;obtain⟨cs',h1,h2⟩:=Option.bind_eq_some_iff.1 hb;obtain⟨k',s',t',A',n',C',c',e,jd,_,_⟩:=ih q (by omega) cs' _ h2;subst e;obtain⟨_,_,hcs⟩:=World.cells?_some h1;have a0:(a.add (i*4)).add 0=a.add (i*4):=by unfold Addr.add;simp
         refine⟨k',s',t',.slice A' n' C',c',?_,hcs 1 (by omega),hcs 2 (by omega),hcs 3 (by omega),jd⟩;have:=hcs 0 (by omega);rwa[a0]at this
      obtain⟨b,off,spot⟩:=a;by_cases hz:len=0
      ·subst hz;exact⟨k,s,t,_,0,cap,.nil,rfl,⟨_,cap,rfl,hcm⟩,hs,ht⟩
      ·obtain⟨_,_,_,_,_,h0,_⟩:=hone 0 (by omega);have hspot:spot=none:=by simpa[Addr.add]using World.cell?_spot h0
       subst hspot;have hbl:b<W.heap.size:=by have:=World.block_lt_of_cell? W _ h0;simpa[Addr.add]using this
       have ad:∀o j,(⟨b,o,none⟩:Addr).add j=⟨b,o+j,none⟩:=fun o j=>by unfold Addr.add;split <;> simp_all
       obtain⟨f,hfl,MR⟩:=rS (W:=W) b len off len cap hlc hcm rfl hbl (fun i hi=>by
         obtain⟨k,x,y,s,c,c0,c1,c2,c3,hk⟩:=hone i hi;simp only[ad]at c0 c1 c2 c3;exact⟨k,x,y,s,c,c0,c1,c2,c3,hk⟩)
       exact⟨k,s,t,_,len,cap,f,rfl,MR _ (.inr rfl),hs,ht⟩
theorem xw{v:Value}{d:DataW H}{p:List MemPlace}(hv:∃cs,v = .agg cs∧cs.size=prog.cellsOf 24)(h:DataW.Trod enc prog W 0 (fun _=>true) true 24 v d p) :
    ∃k s t A n C c,v=.agg #[.int .i64 k,.string s,.string t,.slice A n C]∧Fs W (Lo W.heap.size) (.slice A n C) c∧s.size≤maxLen∧t.size≤maxLen:=by
  obtain⟨cs,rfl,_⟩:=hv;obtain⟨fuel,hf⟩:=h;obtain⟨k,s,t,A,n,C,c,e,r⟩:=Qqb fuel _ _ hf;refine⟨k,s,t,A,n,C,c,?_,r⟩;simp only[Value.cells]at e
  congr 1
  exact Array.ext' (by simpa using e)
end
