import Derived.Test.YtmepekognmlblaaGreatDoorG05
import Derived.Test.YtmepekognmlblaaGreatDoorG06
import Derived.Lib.ItoaMem
set_option maxHeartbeats 4000000
set_option linter.unusedVariables false
open Go.Proofs.Tryz Go.ChangeShapes Go.WideShapes Go.ChangeAt Go.RowKit
open _root_.List renaming append_assoc→JZ,getElem?_eq_getElem→QN,mem_of_getElem?→JK,getElem?_append_right→GK,mem_cons_self→XG,mem_cons_of_mem→UN,getElem?_append_left→PX
open Go.Value renaming string→σ,int→ι,slice→ς,bool→τ,agg→ξ
open Go.IntKind renaming i64→γ
open Go.Ending renaming returned→ρ
namespace Go.Proofs.YtmepekognmlblaaGreatDoor
namespace Tree
def Vm(pk:Int)(px:ByteArray)(f:F)(p:Int):Bool :=
 if 0≤p then(match f.drop p.toNat with
  | .nil=>false
  | .cons kk kx _ _ _=>Q6 pk px p.toNat kk kx)else false
theorem Qoi(pk:Int)(px y:ByteArray)(A:Option Addr)(n C:Nat)(p:Int)(hp:p<0∨(n:Int)≤p)(w:World) :
 Calls prog 63 #[ξ #[ι γ pk,σ px,σ y,ς A n C],ι γ p] w fun e w'=>e=ρ (τ false)∧Below w.heap.size w w':=by
 by_cases h0:p<0
 ·clear hp;go_enter func63,ntmps63;go_wp2;go_ret;exact⟨rfl,(Below.refl _ _).alloc (Nat.le_refl _) _⟩
 ·have hn:(n:Int)≤p:=ω
  clear hp;go_enter func63,ntmps63;go_wp2;go_ret;exact⟨rfl,(Below.refl _ _).alloc (Nat.le_refl _) _⟩
theorem Qt(w:World)(o1 o2:Obj):Below w.heap.size w ((w.alloc o1).alloc o2):=((Below.refl _ _).alloc (Nat.le_refl _) _).alloc ψ _
theorem pU(w:World)(o1 o2:Obj)(q:Nat):Below w.heap.size w (((w.alloc o1).alloc o2).drewN q):=⟨(Qt w o1 o2).os,(Qt w o1 o2).tape,(Qt w o1 o2).output,(Qt w o1 o2).size,(Qt w o1 o2).block⟩
theorem Qr6(px kx:ByteArray):Q6 29 px 0 29 kx=decide (Zl kx<Zl px):=rfl
theorem Qr5(px kx:ByteArray):Q6 29 px 1 29 kx=decide (Zl kx≤Zl px):=rfl
theorem Qol(As:Option Addr)(ns Cs b off n C:Nat)(pk kk:Int)(px py kx ky:ByteArray)(w:World)(hb:b<w.heap.size)(hi:(0:Int)<(n:Int))(hC:n≤C)(hm:C≤9223372036854775807)(c0:w.cell? ⟨b,off,none⟩=some (ι γ kk))(c1:w.cell? ⟨b,off+1,none⟩=some (σ kx))(c2:w.cell? ⟨b,off+2,none⟩=some (σ ky))(c3:w.cell? ⟨b,off+3,none⟩=some (ς As ns Cs)) :
 Calls prog 63 #[ξ #[ι γ pk,σ px,σ py,ς (some ⟨b,off,none⟩) n C],ι γ 0] w fun e w'=>e=ρ (τ (Q6 pk px 0 kk kx))∧Below w.heap.size w w':=by
 have hn0:¬(n:Int)≤0:=ω
 by_cases SL:pk=29
 ·subst SL;by_cases VY:kk=29
  ·subst VY;rw[Qr6];have hL:=Lib.hid (fun(s:ByteArray)(w:World)=>iX s w);go_enter func63,ntmps63;go_wp2
   go_quiet (first|(go_at_call 84;refine Calls.quiet_of_same (hL.out _ _)))
   go_wp2;go_ret;exact⟨rfl,pU _ _ _ _⟩
  ·have LS:=QM VY;rw[show Q6 29 px 0 kk kx=false by simp[Q6,VY]];clear VY;go_enter func63,ntmps63;go_wp2
   go_quiet (fail)
   go_wp2;go_ret;exact⟨rfl,pU _ _ _ _⟩
 have jJ:=QM SL;by_cases Rh:pk=28
 ·subst Rh;by_cases VY:kk=29
  ·subst VY;rw[show Q6 28 px 0 29 kx=true from rfl];go_enter func63,ntmps63;go_wp2;go_ret;exact⟨rfl,Qt _ _ _⟩
  by_cases k28:kk=28
  ·subst k28;rw[show Q6 28 px 0 28 kx=true from rfl];go_enter func63,ntmps63;go_wp2;go_ret;exact⟨rfl,Qt _ _ _⟩
  have LS:=QM VY;have Cf:=QM k28;rw[show Q6 28 px 0 kk kx=false by simp[Q6,VY,k28]];clear VY k28 SL;go_enter func63,ntmps63;go_wp2;go_ret;exact⟨rfl,Qt _ _ _⟩
 have jK:=QM Rh;by_cases Nh:pk=30
 ·subst Nh;by_cases VY:kk=29
  ·subst VY;rw[show Q6 30 px 0 29 kx=true from rfl];go_enter func63,ntmps63;go_wp2;go_ret;exact⟨rfl,Qt _ _ _⟩
  by_cases k28:kk=28
  ·subst k28;rw[show Q6 30 px 0 28 kx=true from rfl];go_enter func63,ntmps63;go_wp2;go_ret;exact⟨rfl,Qt _ _ _⟩
  have LS:=QM VY;have Cf:=QM k28;rw[show Q6 30 px 0 kk kx=false by simp[Q6,VY,k28]];clear VY k28;go_enter func63,ntmps63;go_wp2;go_ret;exact⟨rfl,Qt _ _ _⟩
 have jI:=QM Nh;by_cases Ng:pk=31
 ·subst Ng;by_cases VY:kk=29
  ·subst VY;rw[show Q6 31 px 0 29 kx=true from rfl];go_enter func63,ntmps63;go_wp2;go_ret;exact⟨rfl,Qt _ _ _⟩
  by_cases k28:kk=28
  ·subst k28;rw[show Q6 31 px 0 28 kx=true from rfl];go_enter func63,ntmps63;go_wp2;go_ret;exact⟨rfl,Qt _ _ _⟩
  have LS:=QM VY;have Cf:=QM k28;rw[show Q6 31 px 0 kk kx=false by simp[Q6,VY,k28]];clear VY k28;go_enter func63,ntmps63;go_wp2;go_ret;exact⟨rfl,Qt _ _ _⟩
 have jH:=QM Ng;by_cases p32:pk=32
 ·subst p32;by_cases VY:kk=29
  ·subst VY;rw[show Q6 32 px 0 29 kx=true from rfl];go_enter func63,ntmps63;go_wp2;go_ret;exact⟨rfl,Qt _ _ _⟩
  by_cases k28:kk=28
  ·subst k28;rw[show Q6 32 px 0 28 kx=true from rfl];go_enter func63,ntmps63;go_wp2;go_ret;exact⟨rfl,Qt _ _ _⟩
  have LS:=QM VY;have Cf:=QM k28;rw[show Q6 32 px 0 kk kx=false by simp[Q6,VY,k28]];clear VY k28;go_enter func63,ntmps63;go_wp2;go_ret;exact⟨rfl,Qt _ _ _⟩
 have jG:=QM p32;rw[show Q6 pk px 0 kk kx=false by simp[Q6,SL,Rh,Nh,Ng,p32]];clear SL Rh Nh Ng p32;go_enter func63,ntmps63;go_wp2;go_ret;exact⟨rfl,Qt _ _ _⟩
theorem Qok(As:Option Addr)(ns Cs b off n C:Nat)(pk kk:Int)(px py kx ky:ByteArray)(w:World)(hb:b<w.heap.size)(hi:(1:Int)<(n:Int))(hC:n≤C)(hm:C≤9223372036854775807)(c0:w.cell? ⟨b,off+4,none⟩=some (ι γ kk))(c1:w.cell? ⟨b,off+5,none⟩=some (σ kx))(c2:w.cell? ⟨b,off+6,none⟩=some (σ ky))(c3:w.cell? ⟨b,off+7,none⟩=some (ς As ns Cs)) :
 Calls prog 63 #[ξ #[ι γ pk,σ px,σ py,ς (some ⟨b,off,none⟩) n C],ι γ 1] w fun e w'=>e=ρ (τ (Q6 pk px 1 kk kx))∧Below w.heap.size w w':=by
 have hn0:¬(n:Int)≤1:=ω
 by_cases SL:pk=29
 ·subst SL;by_cases VY:kk=29
  ·subst VY;rw[Qr5];have hL:=Lib.hid (fun(s:ByteArray)(w:World)=>iX s w);go_enter func63,ntmps63;go_wp2
   go_quiet (first|(go_at_call 84;refine Calls.quiet_of_same (hL.out _ _)))
   go_wp2;go_ret;exact⟨rfl,pU _ _ _ _⟩
  ·have LS:=QM VY;rw[show Q6 29 px 1 kk kx=false by simp[Q6,VY]];clear VY;go_enter func63,ntmps63;go_wp2
   go_quiet (fail)
   go_wp2;go_ret;exact⟨rfl,pU _ _ _ _⟩
 have jJ:=QM SL;by_cases Rh:pk=28
 ·subst Rh;by_cases VY:kk=29
  ·subst VY;rw[show Q6 28 px 1 29 kx=true from rfl];go_enter func63,ntmps63;go_wp2;go_ret;exact⟨rfl,Qt _ _ _⟩
  by_cases k28:kk=28
  ·subst k28;rw[show Q6 28 px 1 28 kx=true from rfl];go_enter func63,ntmps63;go_wp2;go_ret;exact⟨rfl,Qt _ _ _⟩
  have LS:=QM VY;have Cf:=QM k28;rw[show Q6 28 px 1 kk kx=false by simp[Q6,VY,k28]];clear VY k28 SL;go_enter func63,ntmps63;go_wp2;go_ret;exact⟨rfl,Qt _ _ _⟩
 have jK:=QM Rh;by_cases Nh:pk=30
 ·subst Nh;rw[show Q6 30 px 1 kk kx=false by simp[Q6]];by_cases VY:kk=29
  ·subst VY;go_enter func63,ntmps63;go_wp2;go_ret;exact⟨rfl,Qt _ _ _⟩
  have LS:=QM VY;clear VY;go_enter func63,ntmps63;go_wp2;go_ret;exact⟨rfl,Qt _ _ _⟩
 have jI:=QM Nh;by_cases Ng:pk=31
 ·subst Ng;rw[show Q6 31 px 1 kk kx=false by simp[Q6]];by_cases VY:kk=29
  ·subst VY;go_enter func63,ntmps63;go_wp2;go_ret;exact⟨rfl,Qt _ _ _⟩
  have LS:=QM VY;clear VY;go_enter func63,ntmps63;go_wp2;go_ret;exact⟨rfl,Qt _ _ _⟩
 have jH:=QM Ng;by_cases p32:pk=32
 ·subst p32;rw[show Q6 32 px 1 kk kx=false by simp[Q6]];by_cases VY:kk=29
  ·subst VY;go_enter func63,ntmps63;go_wp2;go_ret;exact⟨rfl,Qt _ _ _⟩
  have LS:=QM VY;clear VY;go_enter func63,ntmps63;go_wp2;go_ret;exact⟨rfl,Qt _ _ _⟩
 have jG:=QM p32;rw[show Q6 pk px 1 kk kx=false by simp[Q6,SL,Rh,Nh,Ng,p32]];clear SL Rh Nh Ng p32;go_enter func63,ntmps63;go_wp2;go_ret;exact⟨rfl,Qt _ _ _⟩
theorem Qoj(As:Option Addr)(ns Cs b off n C i:Nat)(pk kk:Int)(px py kx ky:ByteArray)(w:World)(hb:b<w.heap.size)(hi:(i:Int)<(n:Int))(hC:n≤C)(hm:C≤9223372036854775807)(c0:w.cell? ⟨b,off+i*4,none⟩=some (ι γ kk))(c1:w.cell? ⟨b,off+i*4+1,none⟩=some (σ kx))(c2:w.cell? ⟨b,off+i*4+2,none⟩=some (σ ky))(c3:w.cell? ⟨b,off+i*4+3,none⟩=some (ς As ns Cs))(h0:((i:Int)==0)=false)(h1:((i:Int)==1)=false) :
 Calls prog 63 #[ξ #[ι γ pk,σ px,σ py,ς (some ⟨b,off,none⟩) n C],ι γ (i:Int)] w fun e w'=>e=ρ (τ (Q6 pk px i kk kx))∧Below w.heap.size w w':=by
 have hn0:¬(n:Int)≤(i:Int):=ω
 have hi0:¬(i:Int)<0:=ω
 have TJ:(0:Int)≤(i:Int):=ω
 have i0:¬i=0:=by rintro rfl;simp at h0
 have i1:¬i=1:=by rintro rfl;simp at h1
 by_cases Rh:pk=28
 ·subst Rh;by_cases VY:kk=29
  ·subst VY;rw[show Q6 28 px i 29 kx=true from rfl];clear i0 i1;go_enter func63,ntmps63;go_wp2;go_ret;exact⟨rfl,Qt _ _ _⟩
  by_cases k28:kk=28
  ·subst k28;rw[show Q6 28 px i 28 kx=true from rfl];clear i0 i1;go_enter func63,ntmps63;go_wp2;go_ret;exact⟨rfl,Qt _ _ _⟩
  have LS:=QM VY;have Cf:=QM k28;rw[show Q6 28 px i kk kx=false by simp[Q6,VY,k28]];clear VY k28 i0 i1;go_enter func63,ntmps63;go_wp2;go_ret;exact⟨rfl,Qt _ _ _⟩
 have jK:=QM Rh;rw[show Q6 pk px i kk kx=false by unfold Q6;simp[Rh,i0,i1]];by_cases SL:pk=29
 ·subst SL;clear i0 i1 Rh;go_enter func63,ntmps63;go_wp2;go_ret;exact⟨rfl,Qt _ _ _⟩
 have jJ:=QM SL;by_cases Nh:pk=30
 ·subst Nh;clear i0 i1 Rh;go_enter func63,ntmps63;go_wp2;go_ret;exact⟨rfl,Qt _ _ _⟩
 have jI:=QM Nh;by_cases Ng:pk=31
 ·subst Ng;clear i0 i1 Rh;go_enter func63,ntmps63;go_wp2;go_ret;exact⟨rfl,Qt _ _ _⟩
 have jH:=QM Ng;by_cases p32:pk=32
 ·subst p32;clear i0 i1 Rh;go_enter func63,ntmps63;go_wp2;go_ret;exact⟨rfl,Qt _ _ _⟩
 have jG:=QM p32;clear Rh SL Nh Ng p32 i0 i1;go_enter func63,ntmps63;go_wp2;go_ret;exact⟨rfl,Qt _ _ _⟩
theorem Y0(w:World)(pk:Int)(px py:ByteArray)(A:Option Addr)(n C:Nat)(f:F)(p:Int)(hf:Fs w (Lo w.heap.size) (ς A n C) f) :
 Calls prog 63 #[ξ #[ι γ pk,σ px,σ py,ς A n C],ι γ p] w fun e w'=>e=ρ (τ (Vm pk px f p))∧Below w.heap.size w w':=by
 obtain⟨A',C',e,Ld,RS⟩:=hf.slice;injection e with e1 e2 e3;subst e1;subst e2;subst e3;by_cases hp:p<0∨((f.len:Nat):Int)≤p
 ·have e:Vm pk px f p=false:=by
   unfold Vm;split
   ·rw[F.JG _ _ ω]
   ·rfl
  rw[e];exact Qoi pk px py A _ C p hp w
 ·obtain⟨i,rfl⟩:∃i:Nat,p=(i:Int):=⟨p.toNat,ω⟩;obtain⟨k,x,y,c,r,hd,_⟩:=F.drop_cons (n:=i) (f:=f) ω;have e:Vm pk px f (i:Int)=Q6 pk px i k x:=by
   unfold Vm;rw[if_pos ω,Int.toNat_natCast,hd]
  rw[e];obtain⟨b,off,s,rfl,hb,hi,hat⟩:=hf.at_ hd;obtain⟨As,Cs,rfl,_,_⟩:=hat.kids.slice;have c0:=hat.c0;have c1:=hat.c1;have c2:=hat.c2;have c3:=hat.c3;by_cases i0:i=0
  ·subst i0;simp only[Nat.zero_mul,Nat.add_zero]at c0 c1 c2 c3;exact Qol As _ Cs b off _ C pk k px py x y w hb ω Ld RS c0 c1 c2 c3
  by_cases i1:i=1
  ·subst i1;exact Qok As _ Cs b off _ C pk k px py x y w hb ω Ld RS c0 c1 c2 c3
  exact Qoj As _ Cs b off _ C i pk k px py x y w hb ω Ld RS c0 c1 c2 c3 (by simpa using i0) (by simpa using(show ¬(i:Int)=1 by omega))
end Tree
namespace Shape
open Tree
theorem fe(u:Nat):∀b∈Lib.decDigits u,48≤b.toNat∧b.toNat≤57:=by
 induction u using Nat.strongRecOn with
 |_ u ih =>
  intro b hb;by_cases h:u<10
  ·rw[Lib.decDigits,dif_pos h]at hb;rw[List.mem_singleton.1 hb,UInt8.toNat_ofNat'];omega
  ·rw[Lib.decDigits,dif_neg h]at hb;rcases List.mem_append.1 hb with hb|hb
   ·exact ih (u/10) ω b hb
   ·rw[List.mem_singleton.1 hb,UInt8.toNat_ofNat'];omega
def bD(l:List UInt8):Nat:=l.foldl (fun a b=>a*10+(b.toNat-48)) 0
theorem Qmf(u:Nat):bD (Lib.decDigits u)=u:=by
 induction u using Nat.strongRecOn with
 |_ u ih =>
  by_cases h:u<10
  ·rw[Lib.decDigits,dif_pos h];show 0*10+((UInt8.ofNat (48+u)).toNat-48)=u;rw[UInt8.toNat_ofNat'];omega
  ·rw[Lib.decDigits,dif_neg h];unfold bD;rw[List.foldl_append];show bD (Lib.decDigits (u/10))*10+((UInt8.ofNat (48+u%10)).toNat-48)=u;rw[ih (u/10) ω,UInt8.toNat_ofNat'];omega
theorem Qni{u v:Nat}(h:Lib.decDigits u=Lib.decDigits v):u=v:=by rw[←Qmf u,←Qmf v,h]
theorem Qnc(z:Int):∀b∈Lib.itoa z,b≠32:=by
 intro b hb e;subst e;unfold Lib.itoa at hb;split at hb
 ·rcases List.mem_cons.1 hb with h|h
  ·exact absurd h δ
  ·exact absurd (fe _ _ h).1 δ
 ·exact absurd (fe _ _ hb).1 δ
theorem Qs6{a b:Int}(h:Lib.itoa a=Lib.itoa b):a=b:=by
 have key:∀u v:Nat,(45:UInt8)::Lib.decDigits u≠Lib.decDigits v:=fun u v e=>by
  have:(45:UInt8)∈Lib.decDigits v:=by rw[←e];exact XG
  exact absurd (fe _ _ this).1 δ
 unfold Lib.itoa at h;split at h <;> split at h
 ·injection h with _ h;have:=Qni h;omega
 ·exact absurd h (key _ _)
 ·exact absurd h.symm (key _ _)
 ·have:=Qni h;omega
def V3(z:Int):List UInt8:=Lib.itoa z++[32]
theorem Qxb:∀(l m s t:List UInt8),(∀b∈l,b≠32)→(∀b∈m,b≠32)→l++32::s=m++32::t→l=m∧s=t
 |[],[],s,t,_,_,h=>by injection h with _ h;exact⟨rfl,h⟩
 |[],b::m,s,t,_,hm,h=>by
  injection h with h _;exact absurd h.symm (hm b XG)
 |a::l,[],s,t,hl,_,h=>by
  injection h with h _;exact absurd h (hl a XG)
 |a::l,b::m,s,t,hl,hm,h=>by
  injection h with h1 h2;obtain⟨h3,h4⟩:=Qxb l m s t (fun c hc=>hl c (UN _ hc)) (fun c hc=>hm c (UN _ hc)) h2;exact⟨by rw[h1,h3],h4⟩
theorem fx{a b:Int}{s t:List UInt8}(h:V3 a++s=V3 b++t):a=b∧s=t:=by
 unfold V3 at h;simp only[JZ,List.singleton_append]at h;obtain⟨h1,h2⟩:=Qxb _ _ s t (Qnc a) (Qnc b) h;exact⟨Qs6 h1,h2⟩
def NG(x:ByteArray):List UInt8:=V3 (x.size:Int)++x.data.toList
theorem Qmh{x y:ByteArray}{s t:List UInt8}(h:NG x++s=NG y++t):x=y∧s=t:=by
 unfold NG at h;simp only[JZ]at h;obtain⟨h1,h2⟩:=fx h;have hl:x.data.toList.length=y.data.toList.length:=by
  have h1:((x.size:Nat):Int)=((y.size:Nat):Int):=h1;have e:x.size=y.size:=ω
  rw[Array.length_toList,Array.length_toList];exact e
 obtain⟨h3,h4⟩:=List.append_inj h2 hl;refine⟨?_,h4⟩;apply ByteArray.ext;exact Array.toList_inj.1 h3
def ownB(k:Int)(x y:ByteArray):List UInt8:=V3 k++(NG x++NG y)
def ND(ms:List Nat):List UInt8:=ms.flatMap fun(m:Nat)=>V3 (m:Int)
theorem Qsi(z:Int):V3 z≠[]:=by unfold V3;simp
theorem Qm9:∀{l m:List Nat},ND l=ND m→l=m
 |[],[],_=>rfl
 |[],b::m,h=>by
  exfalso;have h:[]=V3 (b:Int)++ND m:=h;have:=congrArg List.length h;have h2:=Qsi (b:Int);cases hn:V3 (b:Int)with
  |nil=>exact h2 hn
  |cons c r=>rw[hn]at this;simp at this
 |a::l,[],h=>by
  exfalso;have h:V3 (a:Int)++ND l=[]:=h;have:=congrArg List.length h;have h2:=Qsi (a:Int);cases hn:V3 (a:Int)with
  |nil=>exact h2 hn
  |cons c r=>rw[hn]at this;simp at this
 |a::l,b::m,h=>by
  have h:V3 (a:Int)++ND l=V3 (b:Int)++ND m:=h;obtain⟨h1,h2⟩:=fx h;rw[Qm9 h2,show a=b by omega]
def pI(k:Int)(x y:ByteArray)(ms:List Nat):List UInt8:=ownB k x y++ND ms
theorem word_inj{k k':Int}{x y x' y':ByteArray}{ms ms':List Nat}(h:pI k x y ms=pI k' x' y' ms'):k=k'∧x=x'∧y=y'∧ms=ms':=by
 unfold pI ownB at h;simp only[JZ]at h;obtain⟨h1,h⟩:=fx h;obtain⟨h2,h⟩:=Qmh h;obtain⟨h3,h⟩:=Qmh h;exact⟨h1,h2,h3,Qm9 h⟩
def Kt:F→List Nd
 | .nil=>[]
 | .cons k x y c r=>⟨k,x,y,c⟩::Kt r
theorem iz:∀f:F,(Kt f).length=f.len
 | .nil=>rfl
 | .cons k x y c r=>by simp only[Kt,List.length_cons,F.len,iz r]
theorem Qhp:∀{f g:F},Kt f=Kt g→f=g
 | .nil,.nil,_=>rfl
 | .nil,.cons ..,h=>by simp[Kt]at h
 | .cons ..,.nil,h=>by simp[Kt]at h
 | .cons k x y c r,.cons k' x' y' c' r',h=>by
   simp only[Kt,List.cons.injEq,Nd.mk.injEq]at h;obtain⟨⟨h1,h2,h3,h4⟩,h5⟩:=h;rw[h1,h2,h3,h4,Qhp h5]
theorem Xi{QG:List Nd}(hn:QG.Nodup){i:Nat}{n:Nd}(h:QG[i]?=some n):Qs QG n=i:=by
 obtain⟨hi,e⟩:=List.getElem?_eq_some_iff.1 h;refine Qlw (Nat.le_of_lt hi) (fun b hb s hs=>?_) (.inr ⟨n,h,Vy.2 rfl⟩);cases hs':Xw s n with
 |false=>rfl
 |true=>exfalso;rw[Vy.1 hs']at hs;obtain⟨hb',e'⟩:=List.getElem?_eq_some_iff.1 hs;exact List.pairwise_iff_getElem.1 hn b i hb' hi hb (e'.trans e.symm)
theorem Qf1{QG:List Nd}{n:Nd}(h:n∈QG):QG[Qs QG n]?=some n:=by
 have hlt:Qs QG n<QG.length:=List.findIdx_lt_length_of_exists ⟨n,h,Vy.2 rfl⟩;have ht:Xw (QG[Qs QG n]'hlt) n=true:=List.findIdx_getElem (w:=hlt);rw[QN hlt,Vy.1 ht]
theorem Qlv{QG:List Nd}{n t:Nd}(h:t∈QG):Qs (QG++[n]) t=Qs QG t:=by
 unfold Qs;rw[List.findIdx_append,if_pos];exact List.findIdx_lt_length_of_exists ⟨t,h,Vy.2 rfl⟩
def DJ(QG:List Nd)(n:Nd):List UInt8:=pI n.k n.x n.y ((Kt n.c).map (Qs QG))
structure KG(KS:List (List UInt8))(QG:List Nd):Prop where
 len:QG.length=KS.length
 nodup:QG.Nodup
 key:∀(i:Nat)(n:Nd),QG[i]?=some n→KS[i]?=some (DJ QG n)
 kids:∀n∈QG,∀t∈Kt n.c,t∈QG
theorem KG.nil:KG [] []:=⟨rfl,List.nodup_nil,fun i n h=>(by simp at h),fun n h=>(by cases h)⟩
theorem KG.find{KS:List (List UInt8)}{QG:List Nd}(h:KG KS QG){n:Nd}(hn:∀t∈Kt n.c,t∈QG){i:Nat}(hk:KS[i]?=some (DJ QG n)):QG[i]?=some n:=by
 have hi:i<QG.length:=by rw[h.len];exact(List.getElem?_eq_some_iff.1 hk).1
 obtain⟨m,hm⟩:∃m,QG[i]?=some m:=⟨_,QN hi⟩;have h1:=h.key i m hm;rw[hk]at h1;injection h1 with h1;obtain⟨e1,e2,e3,e4⟩:=word_inj h1;have hmm:=h.kids m (JK hm);have e5:Kt n.c=Kt m.c:=by
  have hb:∀(l l':List Nd),(∀t∈l,t∈QG)→(∀t∈l',t∈QG)→l.map (Qs QG)=l'.map (Qs QG)→l=l':=by
   intro l
   induction l with
   |nil=>intro l' _ _ e;cases l' with|nil=>rfl|cons=>simp at e
   |cons a l ih =>
    intro l' h1 h2 e;cases l' with
    |nil=>simp at e
    |cons b l'=>simp only[List.map_cons,List.cons.injEq]at e;have ha:=Qf1 (h1 a XG);have hb:=Qf1 (h2 b XG);rw[e.1]at ha;rw[Option.some.inj (ha.symm.trans hb),ih l' (fun t ht=>h1 t (UN _ ht)) (fun t ht=>h2 t (UN _ ht)) e.2]
  exact hb _ _ hn hmm e4
 rw[hm];obtain⟨mk,mx,my,mc⟩:=m;obtain⟨nk,nx,ny,nc⟩:=n;simp only at e1 e2 e3 e5;rw[e1,e2,e3,Qhp e5]
theorem KG.push{KS:List (List UInt8)}{QG:List Nd}(h:KG KS QG){n:Nd}(hn:∀t∈Kt n.c,t∈QG)(hk:DJ QG n ∉ KS):KG (KS++[DJ QG n]) (QG++[n]):=by
 have hnd:n ∉ QG:=fun hm=>by
  obtain⟨i,hi⟩:=List.getElem?_of_mem hm;exact hk (JK (h.key i n hi))
 have hkey:∀m,(∀t∈Kt m.c,t∈QG)→DJ (QG++[n]) m=DJ QG m:=fun m hm=>by
  unfold DJ
  congr 1
  exact List.map_congr_left fun t ht=>Qlv (hm t ht)
 refine⟨by simp[h.len],?_,fun i m hm=>?_,fun m hm t ht=>?_⟩
 ·rw[List.nodup_append];exact⟨h.nodup,ψ,fun a ha b hb e=>hnd (by rw[←List.mem_singleton.1 hb,←e];exact ha)⟩
 ·by_cases hi:i<QG.length
  ·rw[PX hi]at hm;rw[PX (by rw[←h.len];exact hi),hkey m (h.kids m (JK hm))];exact h.key i m hm
  ·rw[GK ω]at hm;have h0:i-QG.length=0:=by
      have:=(List.getElem?_eq_some_iff.1 hm).1;simp at this;omega
   rw[h0]at hm;injection hm with hm;subst hm;rw[GK (by rw[←h.len];omega),←h.len,h0,hkey n hn];rfl
 ·rcases List.mem_append.1 hm with hm|hm
  ·exact List.mem_append_left _ (h.kids m hm t ht)
  ·rw[List.mem_singleton.1 hm]at ht;exact List.mem_append_left _ (hn t ht)
theorem KG.at_{KS:List (List UInt8)}{QG:List Nd}(h:KG KS QG){n:Nd}(hn:∀t∈Kt n.c,t∈QG)(hk:DJ QG n∈KS):∃i:Nat,KS[i]?=some (DJ QG n)∧QG[i]?=some n:=by
 obtain⟨i,hi⟩:=List.getElem?_of_mem hk;exact⟨i,hi,h.find hn hi⟩
theorem KG.inj{KS:List (List UInt8)}{QG:List Nd}(h:KG KS QG){i j:Nat}{a:List UInt8}(hi:KS[i]?=some a)(hj:KS[j]?=some a):i=j:=by
 have hi':i<QG.length:=by rw[h.len];exact(List.getElem?_eq_some_iff.1 hi).1
 obtain⟨m,hm⟩:∃m,QG[i]?=some m:=⟨_,QN hi'⟩;have h1:=h.key i m hm;rw[hi]at h1;injection h1 with h1;rw[h1]at hj;have h2:=h.find (h.kids m (JK hm)) hj;rw[←Xi h.nodup hm,Xi h.nodup h2]
theorem Qjm(seen:List Nd)(n:Nd):Qs seen n≤seen.length:=List.findIdx_le_length
theorem Qpc{seen:List Nd}{n:Nd}(h:Qs seen n=seen.length):Qs (seen++[n]) n=seen.length:=by
 unfold Qs at h⊢;rw[List.findIdx_append,if_neg ω];have:[n].findIdx (fun s=>Xw s n)=0:=by simp[List.findIdx_cons,Vy.2 rfl]
 rw[this];omega
theorem Qjl{seen:List Nd}{n t:Nd}(hn:Qs seen n=seen.length)(ht:t≠n):Qs (seen++[n]) t=if Qs seen t<seen.length then Qs seen t else seen.length+1:=by
 unfold Qs;rw[List.findIdx_append];by_cases h:seen.findIdx (fun s=>Xw s t)<seen.length
 ·rw[if_pos h,if_pos h]
 ·rw[if_neg h,if_neg h]
  have:[n].findIdx (fun s=>Xw s t)=1:=by
   have:Xw n t=false:=by
    cases hs:Xw n t with
    |false=>rfl
    |true=>exact absurd (Vy.1 hs).symm ht
   simp[List.findIdx_cons,this]
  rw[this];omega
structure JV(QG seen:List Nd)(turn:List Int):Prop where
 len:turn.length=QG.length
 val:∀(m:Nat)(n:Nd),QG[m]?=some n→turn[m]?=some (if Qs seen n<seen.length then((Qs seen n+1:Nat):Int)else 0)
theorem JV.start(QG:List Nd):JV QG [] (List.replicate QG.length 0):=⟨List.length_replicate ..,fun m n h=>by
 rw[List.getElem?_replicate,if_pos (List.getElem?_eq_some_iff.1 h).1,if_neg ψ]⟩
theorem JV.old{QG seen:List Nd}{turn:List Int}(h:JV QG seen turn){m:Nat}{n:Nd}(hm:QG[m]?=some n){z:Int}(hz:turn[m]?=some z)(h0:z≠0):z-1=((Qs seen n:Nat):Int)∧Xq seen n=seen:=by
 have hv:=h.val m n hm;rw[hz]at hv;injection hv with hv;split at hv
 ·rename_i hlt
  refine⟨ω,?_⟩;unfold Xq;rw[if_neg ω]
 ·exact absurd hv h0
theorem JV.new{QG seen:List Nd}{turn:List Int}(hd:QG.Nodup)(h:JV QG seen turn){m:Nat}{n:Nd}(hm:QG[m]?=some n)(hz:turn[m]?=some 0):Qs seen n=seen.length∧Xq seen n=seen++[n]∧JV QG (Xq seen n) (turn.set m ((seen.length+1:Nat):Int)):=by
 have hv:=h.val m n hm;rw[hz]at hv;injection hv with hv;have hf:Qs seen n=seen.length:=by
  split at hv
  ·rename_i hlt;omega
  ·have:=Qjm seen n;omega
 have hs:Xq seen n=seen++[n]:=by unfold Xq;rw[if_pos hf]
 refine⟨hf,hs,by rw[List.length_set,h.len],fun m' n' hm'=>?_⟩;rw[hs];by_cases e:m=m'
 ·subst e;rw[hm]at hm';injection hm' with hm';subst hm';have Bn:m<turn.length:=(List.getElem?_eq_some_iff.1 hz).1;rw[List.getElem?_set_self Bn,Qpc hf,if_pos ψ]
 ·have hne:n'≠n:=fun e'=>by
   subst e';have h1:=Xi hd hm;have h2:=Xi hd hm';exact e (h1.symm.trans h2)
  rw[List.getElem?_set_ne e,h.val m' n' hm',Qjl hf hne];by_cases hlt:Qs seen n'<seen.length
  ·rw[if_pos hlt,if_pos hlt,if_pos (by simp;omega)]
  ·rw[if_neg hlt,if_neg hlt,if_neg ψ]
theorem Eo:∀(L seen:List Nd)(n:Nd),Qk seen (L++[n])=((Qk seen L).1++[Qs (Qk seen L).2 n],Xq (Qk seen L).2 n)
 |[],seen,n=>rfl
 |a::L,seen,n=>by
  simp only[List.cons_append,Qk,Eo L]
def Gi:Nat→List Nd→F→List Nd
 |0,s,_=>s
 |_+1,s,.nil=>s
 |i+1,s,.cons k x y c r=>Gi i (Qk s (nodes (one k x y c))).2 r
theorem Qfo:∀(i:Nat)(s:List Nd)(l:F)(k:Int)(x y:ByteArray)(c r:F),l.drop i=.cons k x y c r→
 (Kl s l)[i]?=some (Qk (Gi i s l) (nodes (one k x y c))).1∧Gi (i+1) s l=(Qk (Gi i s l) (nodes (one k x y c))).2
 |i,s,.nil,k,x,y,c,r,h=>by rw[F.drop_nil]at h;cases h
 |0,s,.cons k' x' y' c' r',k,x,y,c,r,h=>by
  simp only[F.drop,F.cons.injEq]at h;obtain⟨rfl,rfl,rfl,rfl,rfl⟩:=h;exact⟨rfl,rfl⟩
 |i+1,s,.cons k' x' y' c' r',k,x,y,c,r,h=>by
  obtain⟨h1,h2⟩:=Qfo i (Qk s (nodes (one k' x' y' c'))).2 r' k x y c r h;exact⟨by simpa[Kl,Gi]using h1,by simpa[Gi]using h2⟩
theorem J0:∀(s:List Nd)(l:F),(Kl s l).length=l.len
 |s,.nil=>rfl
 |s,.cons k x y c r=>by simp only[Kl,List.length_cons,F.len,J0 _ r]
