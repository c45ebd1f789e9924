import Derived.Test.YtmepekognmlblaaGreatDoorS07
set_option maxHeartbeats 4000000
set_option linter.unusedVariables false
open Go.Proofs.Tryz Go.ChangeShapes Go.WideShapes Go.ChangeAt Go.RowKit
open _root_.Nat renaming zero_add→ZL
open _root_.Bool renaming and_eq_true→Th
open Go.Value renaming string→σ,int→ι,slice→ς,bool→τ,agg→ξ
open Go.IntKind renaming i64→γ
open Go.Ending renaming returned→ρ
namespace Go.Proofs.YtmepekognmlblaaGreatDoor
namespace Tree
def Vm(pk:Int)(px:ByteArray)(f:F)(p:Int):Bool :=
 if 0≤p then(match f.drop p.toNat with
  | .nil=>false
  | .cons kk kx _ _ _=>Q6 pk px p.toNat kk kx)else false
theorem Qoi(pk:Int)(px y:ByteArray)(A:Option Addr)(n C:Nat)(p:Int)(hp:p<0∨(n:Int)≤p)(w:World) :
 Calls prog 63 #[ξ #[ι γ pk,σ px,σ y,ς A n C],ι γ p] w fun e w'=>e=ρ (τ false)∧Below w.heap.size w w':=by
 by_cases h0:p<0
 ·clear hp;go_enter func63,ntmps63;go_wp2;go_ret;exact⟨rfl,(Below.refl _ _).alloc (Nat.le_refl _) _⟩
 ·have hn:(n:Int)≤p:=ω
  clear hp;go_enter func63,ntmps63;go_wp2;go_ret;exact⟨rfl,(Below.refl _ _).alloc (Nat.le_refl _) _⟩
theorem Qt(w:World)(o1 o2:Obj):Below w.heap.size w ((w.alloc o1).alloc o2):=((Below.refl _ _).alloc (Nat.le_refl _) _).alloc ψ _
theorem pU(w:World)(o1 o2:Obj)(q:Nat):Below w.heap.size w (((w.alloc o1).alloc o2).drewN q):=⟨(Qt w o1 o2).os,(Qt w o1 o2).tape,(Qt w o1 o2).output,(Qt w o1 o2).size,(Qt w o1 o2).block⟩
theorem Qr6(px kx:ByteArray):Q6 29 px 0 29 kx=decide (Zl kx<Zl px):=rfl
theorem Qr5(px kx:ByteArray):Q6 29 px 1 29 kx=decide (Zl kx≤Zl px):=rfl
theorem Qol(As:Option Addr)(ns Cs b off n C:Nat)(pk kk:Int)(px py kx ky:ByteArray)(w:World)(hb:b<w.heap.size)(hi:(0:Int)<(n:Int))(hC:n≤C)(hm:C≤9223372036854775807)(c0:w.cell? ⟨b,off,none⟩=some (ι γ kk))(c1:w.cell? ⟨b,off+1,none⟩=some (σ kx))(c2:w.cell? ⟨b,off+2,none⟩=some (σ ky))(c3:w.cell? ⟨b,off+3,none⟩=some (ς As ns Cs)) :
 Calls prog 63 #[ξ #[ι γ pk,σ px,σ py,ς (some ⟨b,off,none⟩) n C],ι γ 0] w fun e w'=>e=ρ (τ (Q6 pk px 0 kk kx))∧Below w.heap.size w w':=by
 have hn0:¬(n:Int)≤0:=ω
 by_cases SL:pk=29
 ·subst SL;by_cases VY:kk=29
  ·subst VY;rw[Qr6];have hL:=Lib.hid (fun(s:ByteArray)(w:World)=>iX s w);go_enter func63,ntmps63;go_wp2
   go_quiet (first|(go_at_call 84;refine Calls.quiet_of_same (hL.out _ _)))
   go_wp2;go_ret;exact⟨rfl,pU _ _ _ _⟩
  ·have LS:=QM VY;rw[show Q6 29 px 0 kk kx=false by simp[Q6,VY]];clear VY;go_enter func63,ntmps63;go_wp2
   go_quiet (fail)
   go_wp2;go_ret;exact⟨rfl,pU _ _ _ _⟩
 have jJ:=QM SL;by_cases Rh:pk=28
 ·subst Rh;by_cases VY:kk=29
  ·subst VY;rw[show Q6 28 px 0 29 kx=true from rfl];go_enter func63,ntmps63;go_wp2;go_ret;exact⟨rfl,Qt _ _ _⟩
  by_cases k28:kk=28
  ·subst k28;rw[show Q6 28 px 0 28 kx=true from rfl];go_enter func63,ntmps63;go_wp2;go_ret;exact⟨rfl,Qt _ _ _⟩
  have LS:=QM VY;have Cf:=QM k28;rw[show Q6 28 px 0 kk kx=false by simp[Q6,VY,k28]];clear VY k28 SL;go_enter func63,ntmps63;go_wp2;go_ret;exact⟨rfl,Qt _ _ _⟩
 have jK:=QM Rh;by_cases Nh:pk=30
 ·subst Nh;by_cases VY:kk=29
  ·subst VY;rw[show Q6 30 px 0 29 kx=true from rfl];go_enter func63,ntmps63;go_wp2;go_ret;exact⟨rfl,Qt _ _ _⟩
  by_cases k28:kk=28
  ·subst k28;rw[show Q6 30 px 0 28 kx=true from rfl];go_enter func63,ntmps63;go_wp2;go_ret;exact⟨rfl,Qt _ _ _⟩
  have LS:=QM VY;have Cf:=QM k28;rw[show Q6 30 px 0 kk kx=false by simp[Q6,VY,k28]];clear VY k28;go_enter func63,ntmps63;go_wp2;go_ret;exact⟨rfl,Qt _ _ _⟩
 have jI:=QM Nh;by_cases Ng:pk=31
 ·subst Ng;by_cases VY:kk=29
  ·subst VY;rw[show Q6 31 px 0 29 kx=true from rfl];go_enter func63,ntmps63;go_wp2;go_ret;exact⟨rfl,Qt _ _ _⟩
  by_cases k28:kk=28
  ·subst k28;rw[show Q6 31 px 0 28 kx=true from rfl];go_enter func63,ntmps63;go_wp2;go_ret;exact⟨rfl,Qt _ _ _⟩
  have LS:=QM VY;have Cf:=QM k28;rw[show Q6 31 px 0 kk kx=false by simp[Q6,VY,k28]];clear VY k28;go_enter func63,ntmps63;go_wp2;go_ret;exact⟨rfl,Qt _ _ _⟩
 have jH:=QM Ng;by_cases p32:pk=32
 ·subst p32;by_cases VY:kk=29
  ·subst VY;rw[show Q6 32 px 0 29 kx=true from rfl];go_enter func63,ntmps63;go_wp2;go_ret;exact⟨rfl,Qt _ _ _⟩
  by_cases k28:kk=28
  ·subst k28;rw[show Q6 32 px 0 28 kx=true from rfl];go_enter func63,ntmps63;go_wp2;go_ret;exact⟨rfl,Qt _ _ _⟩
  have LS:=QM VY;have Cf:=QM k28;rw[show Q6 32 px 0 kk kx=false by simp[Q6,VY,k28]];clear VY k28;go_enter func63,ntmps63;go_wp2;go_ret;exact⟨rfl,Qt _ _ _⟩
 have jG:=QM p32;rw[show Q6 pk px 0 kk kx=false by simp[Q6,SL,Rh,Nh,Ng,p32]];clear SL Rh Nh Ng p32;go_enter func63,ntmps63;go_wp2;go_ret;exact⟨rfl,Qt _ _ _⟩
theorem Qok(As:Option Addr)(ns Cs b off n C:Nat)(pk kk:Int)(px py kx ky:ByteArray)(w:World)(hb:b<w.heap.size)(hi:(1:Int)<(n:Int))(hC:n≤C)(hm:C≤9223372036854775807)(c0:w.cell? ⟨b,off+4,none⟩=some (ι γ kk))(c1:w.cell? ⟨b,off+5,none⟩=some (σ kx))(c2:w.cell? ⟨b,off+6,none⟩=some (σ ky))(c3:w.cell? ⟨b,off+7,none⟩=some (ς As ns Cs)) :
 Calls prog 63 #[ξ #[ι γ pk,σ px,σ py,ς (some ⟨b,off,none⟩) n C],ι γ 1] w fun e w'=>e=ρ (τ (Q6 pk px 1 kk kx))∧Below w.heap.size w w':=by
 have hn0:¬(n:Int)≤1:=ω
 by_cases SL:pk=29
 ·subst SL;by_cases VY:kk=29
  ·subst VY;rw[Qr5];have hL:=Lib.hid (fun(s:ByteArray)(w:World)=>iX s w);go_enter func63,ntmps63;go_wp2
   go_quiet (first|(go_at_call 84;refine Calls.quiet_of_same (hL.out _ _)))
   go_wp2;go_ret;exact⟨rfl,pU _ _ _ _⟩
  ·have LS:=QM VY;rw[show Q6 29 px 1 kk kx=false by simp[Q6,VY]];clear VY;go_enter func63,ntmps63;go_wp2
   go_quiet (fail)
   go_wp2;go_ret;exact⟨rfl,pU _ _ _ _⟩
 have jJ:=QM SL;by_cases Rh:pk=28
 ·subst Rh;by_cases VY:kk=29
  ·subst VY;rw[show Q6 28 px 1 29 kx=true from rfl];go_enter func63,ntmps63;go_wp2;go_ret;exact⟨rfl,Qt _ _ _⟩
  by_cases k28:kk=28
  ·subst k28;rw[show Q6 28 px 1 28 kx=true from rfl];go_enter func63,ntmps63;go_wp2;go_ret;exact⟨rfl,Qt _ _ _⟩
  have LS:=QM VY;have Cf:=QM k28;rw[show Q6 28 px 1 kk kx=false by simp[Q6,VY,k28]];clear VY k28 SL;go_enter func63,ntmps63;go_wp2;go_ret;exact⟨rfl,Qt _ _ _⟩
 have jK:=QM Rh;by_cases Nh:pk=30
 ·subst Nh;rw[show Q6 30 px 1 kk kx=false by simp[Q6]];by_cases VY:kk=29
  ·subst VY;go_enter func63,ntmps63;go_wp2;go_ret;exact⟨rfl,Qt _ _ _⟩
  have LS:=QM VY;clear VY;go_enter func63,ntmps63;go_wp2;go_ret;exact⟨rfl,Qt _ _ _⟩
 have jI:=QM Nh;by_cases Ng:pk=31
 ·subst Ng;rw[show Q6 31 px 1 kk kx=false by simp[Q6]];by_cases VY:kk=29
  ·subst VY;go_enter func63,ntmps63;go_wp2;go_ret;exact⟨rfl,Qt _ _ _⟩
  have LS:=QM VY;clear VY;go_enter func63,ntmps63;go_wp2;go_ret;exact⟨rfl,Qt _ _ _⟩
 have jH:=QM Ng;by_cases p32:pk=32
 ·subst p32;rw[show Q6 32 px 1 kk kx=false by simp[Q6]];by_cases VY:kk=29
  ·subst VY;go_enter func63,ntmps63;go_wp2;go_ret;exact⟨rfl,Qt _ _ _⟩
  have LS:=QM VY;clear VY;go_enter func63,ntmps63;go_wp2;go_ret;exact⟨rfl,Qt _ _ _⟩
 have jG:=QM p32;rw[show Q6 pk px 1 kk kx=false by simp[Q6,SL,Rh,Nh,Ng,p32]];clear SL Rh Nh Ng p32;go_enter func63,ntmps63;go_wp2;go_ret;exact⟨rfl,Qt _ _ _⟩
theorem Qoj(As:Option Addr)(ns Cs b off n C i:Nat)(pk kk:Int)(px py kx ky:ByteArray)(w:World)(hb:b<w.heap.size)(hi:(i:Int)<(n:Int))(hC:n≤C)(hm:C≤9223372036854775807)(c0:w.cell? ⟨b,off+i*4,none⟩=some (ι γ kk))(c1:w.cell? ⟨b,off+i*4+1,none⟩=some (σ kx))(c2:w.cell? ⟨b,off+i*4+2,none⟩=some (σ ky))(c3:w.cell? ⟨b,off+i*4+3,none⟩=some (ς As ns Cs))(h0:((i:Int)==0)=false)(h1:((i:Int)==1)=false) :
 Calls prog 63 #[ξ #[ι γ pk,σ px,σ py,ς (some ⟨b,off,none⟩) n C],ι γ (i:Int)] w fun e w'=>e=ρ (τ (Q6 pk px i kk kx))∧Below w.heap.size w w':=by
 have hn0:¬(n:Int)≤(i:Int):=ω
 have hi0:¬(i:Int)<0:=ω
 have TJ:(0:Int)≤(i:Int):=ω
 have i0:¬i=0:=by rintro rfl;simp at h0
 have i1:¬i=1:=by rintro rfl;simp at h1
 by_cases Rh:pk=28
 ·subst Rh;by_cases VY:kk=29
  ·subst VY;rw[show Q6 28 px i 29 kx=true from rfl];clear i0 i1;go_enter func63,ntmps63;go_wp2;go_ret;exact⟨rfl,Qt _ _ _⟩
  by_cases k28:kk=28
  ·subst k28;rw[show Q6 28 px i 28 kx=true from rfl];clear i0 i1;go_enter func63,ntmps63;go_wp2;go_ret;exact⟨rfl,Qt _ _ _⟩
  have LS:=QM VY;have Cf:=QM k28;rw[show Q6 28 px i kk kx=false by simp[Q6,VY,k28]];clear VY k28 i0 i1;go_enter func63,ntmps63;go_wp2;go_ret;exact⟨rfl,Qt _ _ _⟩
 have jK:=QM Rh;rw[show Q6 pk px i kk kx=false by unfold Q6;simp[Rh,i0,i1]];by_cases SL:pk=29
 ·subst SL;clear i0 i1 Rh;go_enter func63,ntmps63;go_wp2;go_ret;exact⟨rfl,Qt _ _ _⟩
 have jJ:=QM SL;by_cases Nh:pk=30
 ·subst Nh;clear i0 i1 Rh;go_enter func63,ntmps63;go_wp2;go_ret;exact⟨rfl,Qt _ _ _⟩
 have jI:=QM Nh;by_cases Ng:pk=31
 ·subst Ng;clear i0 i1 Rh;go_enter func63,ntmps63;go_wp2;go_ret;exact⟨rfl,Qt _ _ _⟩
 have jH:=QM Ng;by_cases p32:pk=32
 ·subst p32;clear i0 i1 Rh;go_enter func63,ntmps63;go_wp2;go_ret;exact⟨rfl,Qt _ _ _⟩
 have jG:=QM p32;clear Rh SL Nh Ng p32 i0 i1;go_enter func63,ntmps63;go_wp2;go_ret;exact⟨rfl,Qt _ _ _⟩
theorem Y0(w:World)(pk:Int)(px py:ByteArray)(A:Option Addr)(n C:Nat)(f:F)(p:Int)(hf:Fs w (Lo w.heap.size) (ς A n C) f) :
 Calls prog 63 #[ξ #[ι γ pk,σ px,σ py,ς A n C],ι γ p] w fun e w'=>e=ρ (τ (Vm pk px f p))∧Below w.heap.size w w':=by
 obtain⟨A',C',e,Ld,RS⟩:=hf.slice;injection e with e1 e2 e3;subst e1;subst e2;subst e3;by_cases hp:p<0∨((f.len:Nat):Int)≤p
 ·have e:Vm pk px f p=false:=by
   unfold Vm;split
   ·rw[F.JG _ _ ω]
   ·rfl
  rw[e];exact Qoi pk px py A _ C p hp w
 ·obtain⟨i,rfl⟩:∃i:Nat,p=(i:Int):=⟨p.toNat,ω⟩;obtain⟨k,x,y,c,r,hd,_⟩:=F.drop_cons (n:=i) (f:=f) ω;have e:Vm pk px f (i:Int)=Q6 pk px i k x:=by
   unfold Vm;rw[if_pos ω,Int.toNat_natCast,hd]
  rw[e];obtain⟨b,off,s,rfl,hb,hi,hat⟩:=hf.at_ hd;obtain⟨As,Cs,rfl,_,_⟩:=hat.kids.slice;have c0:=hat.c0;have c1:=hat.c1;have c2:=hat.c2;have c3:=hat.c3;by_cases i0:i=0
  ·subst i0;simp only[Nat.zero_mul,Nat.add_zero]at c0 c1 c2 c3;exact Qol As _ Cs b off _ C pk k px py x y w hb ω Ld RS c0 c1 c2 c3
  by_cases i1:i=1
  ·subst i1;exact Qok As _ Cs b off _ C pk k px py x y w hb ω Ld RS c0 c1 c2 c3
  exact Qoj As _ Cs b off _ C i pk k px py x y w hb ω Ld RS c0 c1 c2 c3 (by simpa using i0) (by simpa using(show ¬(i:Int)=1 by omega))
end Tree
namespace Mem
variable {P:Program}{Q:Exit→Act→World→Prop}
def yr(l:List Oper)(s1:Nat)(pre:List Nat):Bool:=pre.all fun i=>i==s1||pre.any fun j=>decide (i<j)&&waits l j i
theorem ý{l:List Oper}{s1:Nat}{pre:List Nat}{listed:Array Bool}(h:yr l s1 pre=true)(hno:∀j i,waits l j i=true→listed.getD i true=false→listed.getD j true=false)(hlen:∀j i,waits l j i=true→j<l.length) :
 ∀(m i:Nat),l.length-i≤m→pre.contains i=true→listed.getD i true=false→listed.getD s1 true=false:=by
 intro m
 induction m with
 |zero =>
  intro i hm hi h0;have h1:=List.all_eq_true.1 h i (List.contains_iff_mem.1 hi);rw[Bool.or_eq_true]at h1;rcases h1 with h1|h1
  ·rw[beq_iff_eq]at h1;subst h1;exact h0
  ·obtain⟨j,hj,hb⟩:=List.any_eq_true.1 h1;rw[Th,decide_eq_true_eq]at hb;have:=hlen j i hb.2;omega
 |succ m ih =>
  intro i hm hi h0;have h1:=List.all_eq_true.1 h i (List.contains_iff_mem.1 hi);rw[Bool.or_eq_true]at h1;rcases h1 with h1|h1
  ·rw[beq_iff_eq]at h1;subst h1;exact h0
  ·obtain⟨j,hj,hb⟩:=List.any_eq_true.1 h1;rw[Th,decide_eq_true_eq]at hb;have:=hlen j i hb.2;exact ih j ω (List.contains_iff_mem.2 hj) (hno j i hb.2 h0)
def Bv(A:List (Value→Prop))(i:Nat):Value→Prop:=A.getD i fun _=>True
def o8(P:Program)(l:List Oper)(t0:Array Value)(Q:Exit→Act→World→Prop)(pre:List Nat)(s1 s2:Nat)(U:World→World→Prop)(S1:World→Prop)(S2 S3:Value→World→Prop)(E:List (Cd U))(A:List (Value→Prop))(x:Nat→Value)(a:Act)(W:World)(i:Nat)(o:Oper):Prop :=
 (∀j,waits l j i=true→x j=Eu l t0 j)→(pre.contains i=true∨i=s1→S1 W)→(i=s2→S2 (x s1) W)→(∀j,(o.after.any fun e=>Region.binds .any e&&e.on==j)=true→Bv A j (x j))→
 ((pre.contains i=true∨i=s1)→∀j,(o.after.any fun e=>Region.binds .any e&&e.on==j)=true→(YA E j).p (x j) W)→
 ∀K:Act→World→Prop,Shut (∀v W',(i≠s1→i≠s2→U W W'∧(YA E i).p v W')→(i=s1→S2 v W')→(i=s2→S3 (x s1) W')→Bv A i v→K (a.put o.dst v) W')→Jb P l Q o K a W
def Ex(P:Program)(l:List Oper)(t0:Array Value)(Q:Exit→Act→World→Prop)(pre:List Nat)(s1 s2:Nat)(U:World→World→Prop)(S1:World→Prop)(S2 S3:Value→World→Prop)(E:List (Cd U))(A:List (Value→Prop))(x:Nat→Value)(a:Act)(W:World):Nat→List Oper→Prop
 |_,[]=>True
 |i,o::os=>o8 P l t0 Q pre s1 s2 U S1 S2 S3 E A x a W i o∧Ex P l t0 Q pre s1 s2 U S1 S2 S3 E A x a W (i+1) os
theorem Ex.get{l:List Oper}{t0:Array Value}{pre:List Nat}{s1 s2:Nat}{U:World→World→Prop}{S1:World→Prop}{S2 S3:Value→World→Prop}{E:List (Cd U)}{A:List (Value→Prop)}{x:Nat→Value}{a:Act}{W:World}:∀(os:List Oper)(k i:Nat)(o:Oper),Ex P l t0 Q pre s1 s2 U S1 S2 S3 E A x a W k os→os[i]?=some o→o8 P l t0 Q pre s1 s2 U S1 S2 S3 E A x a W (k+i) o
 |[],_,_,_,_,h=>by simp at h
 |p::os,k,0,o,hs,h=>by
  exact c56
 |p::os,k,i+1,o,hs,h=>by
  have:=Ex.get os (k+1) i o hs.2 (by simpa using h);rwa[show k+1+i=k+(i+1)by omega]at this
theorem Qrw{l:List Oper}{pre:List Nat}{s1 s2:Nat}{U:World→World→Prop}{S1:World→Prop}{S2 S3:Value→World→Prop}{E:List (Cd U)}{A:List (Value→Prop)}{a0:Act}(hn:(Xs l).Nodup)(he:Z2 l=true)(hpre:yr l s1 pre=true)(h12:waits l s2 s1=true)(hne:s1≠s2)(hl2:s2<l.length)
 (WR:∀W W',U W W'→S1 W→S1 W') (cY:∀v W W',U W W'→S2 v W→S2 v W') (R8:∀v W W',U W W'→S3 v W→S3 v W')
 (hsteps:∀x W,∀a,a=(⟨Qi x 0 l a0.tmps,a0.defers⟩:Act)→Ex P l a0.tmps Q pre s1 s2 U S1 S2 S3 E A x a W 0 l)
 (hdone:∀x W,S3 (x s1) W→(∀i,i<l.length→Bv A i (x i))→∀a,a=(⟨Qi x 0 l a0.tmps,a0.defers⟩:Act)→Q .normal a W) :
 ∀(fuel:Nat)(listed:Array Bool)(x:Nat→Value)(a:Act)(W:World),Su listed l.length=fuel→a=⟨Qi x 0 l a0.tmps,a0.defers⟩→(∀i,i<l.length→listed.getD i true=true→Bv A i (x i))→
  (listed.getD s1 true=false→S1 W∧∀i,i<l.length→listed.getD i true=true→(YA E i).p (x i) W)→(listed.getD s1 true=true→listed.getD s2 true=false→S2 (x s1) W)→(listed.getD s2 true=true→S3 (x s1) W)→(∀j,j<l.length→listed.getD j true=true→∀i,waits l j i=true→listed.getD i true=true)→(l.length≤listed.size)→(∀j,j<l.length→listed.getD j true=false→x j=Eu l a0.tmps j)→
  wpAny P .any l.toArray Q fuel listed a W:=by
 have all:∀listed:Array Bool,Region.ready .any l.toArray listed=[]→∀i,i<l.length→listed.getD i true=true:=by
  intro listed hr i
  induction i using Nat.strongRecOn with
  |_ i ih =>
   intro hi;by_cases hl:listed.getD i true=true
   ·exact hl
   ·exfalso
    have hm:i∈Region.ready .any l.toArray listed:=mem_ready.2 ⟨by simpa using hl,l[i],by simp[hi],fun e hm hb=>by
     have h1:=List.all_eq_true.1 he i (List.mem_range.2 hi);simp only[List.getElem?_eq_getElem hi]at h1;have h2:=Array.all_eq_true_iff_forall_mem.1 h1 e hm;simp only[hb,Bool.not_true,Bool.false_or,decide_eq_true_eq]at h2;have h3:=ih e.on h2 ω;rcases Nat.lt_or_ge e.on listed.size with h' |h'
     ·simpa[h']using h3
     ·exfalso;have h4:listed.getD i true=true:=by simp[Array.getElem?_eq_none (show listed.size≤i by omega)]
      exact hl h4⟩
    rw[hr]at hm;cases hm
 intro fuel
 induction fuel with
 |zero =>
  intro listed x a W hf ha hA _ _ h3 _ _ _;have hall:=Gc hf;refine⟨?_,hdone x W (h3 (hall s2 hl2)) (fun i hi=>hA i hi (hall i hi)) a ha⟩;cases hr:Region.ready .any l.toArray listed with
  |nil=>rfl
  |cons i rs =>
   exfalso;obtain⟨h0,o,ho,_⟩:=mem_ready.1 (show i∈Region.ready .any l.toArray listed by rw[hr];exact List.mem_cons_self ..);have hi:i<l.length:=by have:=(Array.getElem?_eq_some_iff.1 ho).1;simpa using this
   rw[hall i hi]at h0;cases h0
 |succ fuel ih =>
  intro listed x a W hf ha hA h1 h2 h3 hws hsz hin;refine⟨fun hr=>hdone x W (h3 (all listed hr s2 hl2)) (fun i hi=>hA i hi (all listed hr i hi)) a ha,fun i hi=>?_⟩;obtain⟨h0,o,ho,PM⟩:=mem_ready.1 hi;have ho':l[i]?=some o:=by simpa using ho
  have hil:i<l.length:=(List.getElem?_eq_some_iff.1 ho').1
  have JN:∀j,(o.after.any fun e=>Region.binds .any e&&e.on==j)=true→listed.getD j true=true∧j<i:=fun j hj=>by
   rw[←Array.any_toList,List.any_eq_true]at hj;obtain⟨e,hm0,hb⟩:=hj;have hm:e∈o.after:=Array.mem_toList_iff.1 hm0;simp only[Th,beq_iff_eq]at hb;have h1:=PM e hm hb.1;rw[hb.2]at h1;have hjl:j<listed.size:=by
    rcases Nat.lt_or_ge j listed.size with h' |h'
    ·exact h'
    ·simp[Array.getElem?_eq_none h']at h1
   exact c29
  have hlen:∀j q,waits l j q=true→j<l.length:=fun j q hw=>by
   unfold waits at hw;rcases Nat.lt_or_ge j l.length with h' |h'
   ·exact h'
   ·exact c109
  have SV:∀j,waits l j i=true→listed.getD j true=false:=fun j hw=>by
   by_cases hl:listed.getD j true=true
   ·exfalso;rw[hws j (hlen j i hw) hl i hw]at h0;cases h0
   ·simpa using hl
  have hs1:pre.contains i=true∨i=s1→listed.getD s1 true=false:=fun hw=>by
   rcases hw with hw|hw
   ·refine ý hpre (fun j q hq gI=>?_) hlen _ i (Nat.le_refl _) hw h0;by_cases hl:listed.getD j true=true
    ·exfalso;rw[hws j (hlen j q hq) hl q hq]at gI;cases gI
    ·simpa using hl
   ·subst hw;exact h0
  have hst:=Ex.get l 0 i o (hsteps x W a ha) ho' (fun j hw=>by
   rw[ZL]at hw;exact hin j (hlen j i hw) (SV j hw)) (fun hw=>by
   rw[ZL]at hw;exact(h1 (hs1 hw)).1) (fun hw=>by
   rw[ZL]at hw;subst hw;refine h2 ?_ h0;unfold waits at h12;rw[ho']at h12;exact(JN s1 (by simpa using h12)).1)
   (fun j hj=>hA j (by have:=(JN j hj).2;omega) (JN j hj).1)
   (fun hw j hj=>by
    rw[ZL]at hw;exact(h1 (hs1 hw)).2 j (by have:=(JN j hj).2;omega) (JN j hj).1)
   (fun a' W'=>wpAny P .any l.toArray Q fuel (listed.setIfInBounds i true) a' W')
   (by
    intro v W' RJ hi1 hi2 hv;rw[ZL]at hv RJ hi1 hi2;have ZV:(listed.setIfInBounds i true).getD i true=true:=by simp[show i<listed.size by omega]
    have MO:∀j,j≠i→Qq x i v j=x j:=fun j hj=>by simp only[Qq];rw[if_neg hj]
    refine ih (listed.setIfInBounds i true) (Qq x i v) _ W' (by have:=Ui h0 hil;omega) ?_ (fun j hj hl=>?_) (fun hl=>?_) (fun hl hl'=>?_) (fun hl=>?_) (fun q kK hl j hw=>?_) (by simpa using hsz) (fun j hjl hl=>?_)
    ·rw[ha];cases hd:o.dst with
     |none =>
      simp only[Act.put]
      congr 1
      have key:∀(os:List Oper)(k m:Nat)(t:Array Value),os[m]?=some o→Qi (Qq x (k+m) v) k os t=Qi x k os t:=by
       intro os
       induction os with
       |nil=>intro k m t h;rfl
       |cons p os Fg =>
        intro k m t h;cases m with
        |zero=>simp only[List.getElem?_cons_zero,Option.some.injEq]at h;subst h;simp only[Qi,hd];exact Vv os (k+1) _ fun j hj=>by simp only[Qq];rw[if_neg ω]
        |succ m =>
         simp only[Qi];have e1:Qq x (k+(m+1)) v k=x k:=by simp only[Qq];rw[if_neg ω]
         exact c57
      have:=key l 0 i a0.tmps ho';rw[ZL]at this;exact this.symm
     |some d =>
      simp only[Act.put]
      congr 1
      have:=K8 (x:=x) (v:=v) l 0 i o a0.tmps hn ho' hd;rw[ZL]at this;exact this.symm
    ·by_cases VK:j=i
     ·subst VK;simpa[Qq]using hv
     ·rw[MO j VK];rw[getD_set_ne true (Ne.symm VK)]at hl;exact hA j hj hl
    ·by_cases XT:i=s1
     ·subst XT;rw[ZV]at hl;cases hl
     ·rw[getD_set_ne true XT]at hl;obtain⟨g1,g2⟩:=h1 hl
      have GC:i≠s2:=fun e=>by
       subst e;unfold waits at h12;rw[ho']at h12;rw[(JN s1 (by simpa using h12)).1]at hl;cases hl
      obtain⟨hU,hE⟩:=RJ XT GC;refine⟨WR _ _ hU g1,fun j hj hl'=>?_⟩;by_cases VK:j=i
      ·subst VK;simpa[Qq]using hE
      ·exact c122
    ·by_cases XT:i=s1
     ·subst XT;simpa[Qq]using hi1 rfl
     ·rw[getD_set_ne true XT]at hl;by_cases GC:i=s2
      ·subst GC;rw[ZV]at hl';cases hl'
      ·rw[getD_set_ne true GC]at hl';rw[MO s1 (Ne.symm XT)];exact cY _ _ _ (RJ XT GC).1 (h2 hl hl')
    ·by_cases GC:i=s2
     ·subst GC;rw[MO s1 hne];exact hi2 rfl
     ·rw[getD_set_ne true GC]at hl;by_cases XT:i=s1
      ·subst XT;rw[hws s2 hl2 hl i h12]at h0;cases h0
      ·rw[MO s1 (Ne.symm XT)];exact R8 _ _ _ (RJ XT GC).1 (h3 hl)
    ·by_cases VK:j=i
     ·exact c165
     ·rw[getD_set_ne true (Ne.symm VK)];by_cases XT:i=q
      ·exact c77
      ·exact c121
    ·by_cases VK:j=i
     ·subst VK;exfalso;simp[show j<listed.size by omega]at hl
     ·have e1:Qq x i v j=x j:=by simp only[Qq];rw[if_neg VK]
      rw[e1];rw[getD_set_ne true (Ne.symm VK)]at hl;exact hin j hjl hl)
  unfold Jb at hst;unfold wpOp;simp only[ho];split
  ·rename_i hw
   exact c132
  ·rename_i hw
   rw[if_neg hw]at hst;exact hst
theorem Qic{id:Nat}{l:List Oper}{a0:Act}{w:World}(pre:List Nat)(s1 s2:Nat)(U:World→World→Prop)(S1:World→Prop)(S2 S3:Value→World→Prop)(E:List (Cd U))(A:List (Value→Prop))(hm:P.follows .mixedOrders=true)(hn:(Xs l).Nodup)(he:Z2 l=true)
 (hpre:yr l s1 pre=true) (h12:waits l s2 s1=true) (hne:s1≠s2) (Lg:s1<l.length) (hl2:s2<l.length) (hS:S1 w.drew)
 (WR:∀W W',U W W'→S1 W→S1 W') (cY:∀v W W',U W W'→S2 v W→S2 v W') (R8:∀v W W',U W W'→S3 v W→S3 v W')
 (hsteps:∀x W,∀a,a=(⟨Qi x 0 l a0.tmps,a0.defers⟩:Act)→Ex P l a0.tmps Q pre s1 s2 U S1 S2 S3 E A x a W 0 l)
 (hdone:∀x W,S3 (x s1) W→(∀i,i<l.length→Bv A i (x i))→∀a,a=(⟨Qi x 0 l a0.tmps,a0.defers⟩:Act)→Q .normal a W) :
 (Code.region id l.toArray true).wp P Q a0 w:=by
 refine wp_region_any hm (Qrw (a0:=a0) hn he hpre h12 hne hl2 WR cY R8 hsteps hdone l.toArray.size (Array.replicate l.toArray.size false) (Eu l a0.tmps) a0 w.drew ?_ ?_ ?_ (fun _=>⟨hS,?_⟩) ?_ ?_ ?_ ?_ (fun _ _ _=>rfl))
 ·exact c91
 ·rw[Ke]
 ·intro i hi h;exfalso;simp[hi]at h
 ·intro i hi h;exfalso;simp[hi]at h
 ·intro h;exfalso;simp[Lg]at h
 ·intro h;exfalso;simp[hl2]at h
 ·intro j hsl h;exfalso;simp[hsl]at h
 ·simp
