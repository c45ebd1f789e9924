import Derived.Test.YtmepekognmlblaaGreatDoorP12
set_option maxHeartbeats 8000000
set_option maxRecDepth 100000
set_option linter.unusedVariables false
open Go.Proofs.Tryz Go.ChangeShapes Go.WideShapes Go.ChangeAt Go.RowKit
open _root_.List renaming getD_eq_getElem?_getD→QX
open Go.Lib renaming hid→QA
open Go.World renaming cell?_alloc_at→VV
open Go.Value renaming string→σ,int→ι,slice→ς,agg→ξ
open Go.IntKind renaming i64→γ
open Go.Obj renaming cells→θ
open Go.Ending renaming returned→ρ
namespace Go.Proofs.YtmepekognmlblaaGreatDoor
namespace Match
open Tree Shape
def Pd(L:List Int)(x y:Nat):Prop:=L[x]?=some ((y:Nat):Int)
theorem Pd.lt{L:List Int}{x y:Nat}(h:Pd L x y):x<L.length:=(List.getElem?_eq_some_iff.1 h).1
theorem Pd.free{L:List Int}{x y:Nat}(h:Pd L x y):QQ L x=false:=by
 unfold QQ Pd at *;rw[QX,h];simp
theorem Pd.eq{L:List Int}{x y z:Nat}(h:Pd L x y)(h':Pd L x z):y=z:=by
 have:=h.symm.trans h';injection this with this;omega
theorem E8(M:List Int)(x y:Nat):∀c,(Kv M x y c).length=M.length
 |0=>rfl
 |c+1=>by unfold Kv;rw[List.length_set,E8 M x y c]
theorem E9(M:List Int)(x y:Nat):∀(c z:Nat),(Kv M x y c)[z]?=if x≤z∧z<x+c∧z<M.length then some ((y+(z-x):Nat):Int)else M[z]?
 |0,z=>by rw[if_neg ω];rfl
 |c+1,z=>by
  unfold Kv;rw[List.getElem?_set,E8,E9 M x y c z];by_cases hz:x+c=z
  ·subst hz;rw[if_pos rfl];by_cases hl:x+c<M.length
   ·rw[if_pos hl,if_pos ⟨ω,ω,hl⟩,Nat.add_sub_cancel_left]
   ·rw[if_neg hl,if_neg ω,List.getElem?_eq_none ω]
  ·rw[if_neg hz];by_cases h:x≤z∧z<x+c∧z<M.length
   ·rw[if_pos h,if_pos ⟨h.1,ω,h.2.2⟩]
   ·rw[if_neg h,if_neg ω]
theorem iI{M:List Int}{x y c z:Nat}(h:¬(x≤z∧z<x+c)):(Kv M x y c)[z]?=M[z]?:=by rw[E9,if_neg ω]
theorem G4{M:List Int}{x y c i:Nat}(h:i<c)(hl:x+i<M.length):Pd (Kv M x y c) (x+i) (y+i):=by
 unfold Pd;rw[E9,if_pos ⟨ω,ω,hl⟩,Nat.add_sub_cancel_left]
theorem Jm{M:List Int}{x y c z v:Nat}(hl:x+c≤M.length):Pd (Kv M x y c) z v↔(∃i,i<c∧z=x+i∧v=y+i)∨(¬(x≤z∧z<x+c)∧Pd M z v):=by
 unfold Pd;rw[E9];by_cases h:x≤z∧z<x+c
 ·rw[if_pos ⟨h.1,h.2,ω⟩]
  constructor
  ·intro e;injection e with e;exact .inl ⟨z-x,ω,ω,ω⟩
  ·rintro(⟨i,h1,h2,h3⟩|h1)
   ·congr 2;omega
   ·exact absurd h h1.1
 ·rw[if_neg ω]
  constructor
  ·exact fun e=>.inr ⟨h,e⟩
  ·rintro(⟨i,h1,h2,h3⟩|h1)
   ·omega
   ·exact h1.2
theorem ĭ{M:List Int}{x y c:Nat}(h:∀i,i<c→Pd M (x+i) (y+i)):Kv M x y c=M:=by
 apply List.ext_getElem?;intro z;rw[E9];by_cases hz:x≤z∧z<x+c∧z<M.length
 ·rw[if_pos hz];have:=h (z-x) ω;unfold Pd at this;rw[←this];congr 1;omega
 ·rw[if_neg hz]
theorem Kx{M:List Int}{x y c z:Nat}(h:¬(x≤z∧z<x+c)):QQ (Kv M x y c) z=QQ M z:=by unfold QQ;rw[QX,QX,iI h]
theorem bS{M:List Int}{x y c z:Nat}(h:x≤z∧z<x+c)(hl:z<M.length):QQ (Kv M x y c) z=false:=by
 obtain⟨i,rfl⟩:∃i,z=x+i:=⟨z-x,ω⟩;exact(G4 (y:=y) (show i<c by omega) hl).free
section
variable (a b:Sd)
structure Part(M:St):Prop where
 l1:M.1.length=a.n
 l2:M.2.length=b.n
 s1:∀x,x<a.n→QQ M.1 x=true∨∃y,Pd M.1 x y
 s2:∀y,y<b.n→QQ M.2 y=true∨∃x,Pd M.2 y x
 two:∀x y,Pd M.1 x y↔Pd M.2 y x
 kind:∀x y,Pd M.1 x y→(a.at_ x).k=(b.at_ y).k
structure ZM:Prop where
 EG:a.Ok
 Hq:b.Ok
 alike:∀x y,x<a.n→y<b.n→(JU a b x y=true↔a.at_ x=b.at_ y)
def Shut(s:Sd)(L:List Int):Prop:=∀p q,q∈s.kid p→QQ L p=true→QQ L q=true
structure Inv(M:St):Prop where
 part:Part a b M
 c1:Shut a M.1
 c2:Shut b M.2
 full:∀x y,Pd M.1 x y→JU a b x y=true→∀i,i<a.sz x→Pd M.1 (x+i) (y+i)
end
def Ext(M M':St):Prop:=(∀x y,Pd M.1 x y→Pd M'.1 x y)∧(∀x y,Pd M.2 x y→Pd M'.2 x y)
theorem Ext.refl(M:St):Ext M M:=⟨fun _ _ h=>h,fun _ _ h=>h⟩
theorem Ext.trans{M M' DK:St}(h:Ext M M')(h':Ext M' DK):Ext M DK:=⟨fun x y e=>h'.1 x y (h.1 x y e),fun x y e=>h'.2 x y (h.2 x y e)⟩
section
variable {a b:Sd}{M M':St}
theorem Part.lt(h:Part a b M){x y:Nat}(e:Pd M.1 x y):x<a.n∧y<b.n:=⟨by rw[←h.l1];exact e.lt,by rw[←h.l2];exact((h.two x y).1 e).lt⟩
theorem Part.Rw(h:Part a b M){x:Nat}(hx:x<a.n)(hf:QQ M.1 x=false):∃y,Pd M.1 x y:=(h.s1 x hx).resolve_left (by rw[hf];decide)
theorem Part.js(h:Part a b M){y:Nat}(hy:y<b.n)(hf:QQ M.2 y=false):∃x,Pd M.2 y x:=(h.s2 y hy).resolve_left (by rw[hf];decide)
theorem Qo9{L:List Int}{x:Nat}(h:¬QQ L x=true):QQ L x=false:=by simpa using h
theorem Gf{s:Sd}{L:List Int}(hc:Shut s L){x:Nat}(hx:x<s.n)(hf:QQ L x=true):∀z,x≤z→z<x+s.sz x→QQ L z=true:=by
 intro z
 induction z using Nat.strongRecOn with
 |_ z ih =>
  intro h1 h2;rcases Nat.eq_or_lt_of_le h1 with rfl|h1
  ·exact hf
  ·obtain⟨p,hp1,hp2,hk⟩:=Sd.PQ hx h1 h2;exact hc p z hk (ih p hp2 hp1 ω)
theorem ZM.size(h:ZM a b){x y:Nat}(hx:x<a.n)(hy:y<b.n)(e:JU a b x y=true):a.sz x=b.sz y:=by
 unfold Sd.sz;rw[(h.alike x y hx hy).1 e]
theorem ZM.below(h:ZM a b){x y i:Nat}(hx:x<a.n)(hy:y<b.n)(e:JU a b x y=true)(hi:i<a.sz x):a.at_ (x+i)=b.at_ (y+i):=Sd.DF hx hy ((h.alike x y hx hy).1 e) hi
theorem rJ(h:ZM a b){x y:Nat}(hx:x<a.n)(hy:y<b.n):0<Q2 a b x y∧Q2 a b x y≤a.sz x∧Q2 a b x y≤b.sz y∧x+Q2 a b x y≤a.n∧y+Q2 a b x y≤b.n:=by
 have h1:=Sd.sub hx;have h2:=Sd.sub hy;have h3:=a.ES x;have h4:=b.ES y;unfold Q2;by_cases e:JU a b x y=true
 ·have:=h.size hx hy e;rw[if_pos e];omega
 ·rw[if_neg e];omega
theorem Qoo(h:ZM a b){x y i:Nat}(hx:x<a.n)(hy:y<b.n)(hk:(a.at_ x).k=(b.at_ y).k)(hi:i<Q2 a b x y):(a.at_ (x+i)).k=(b.at_ (y+i)).k:=by
 unfold Q2 at hi;by_cases e:JU a b x y=true
 ·rw[if_pos e]at hi;rw[h.below hx hy e hi]
 ·rw[if_neg e]at hi;obtain rfl:i=0:=ω
  exact hk
theorem om(hn:ZM a b)(h:Part a b M){x y:Nat}(hx:x<a.n)(hy:y<b.n)(hk:(a.at_ x).k=(b.at_ y).k)(h1:∀i,i<Q2 a b x y→QQ M.1 (x+i)=true)(h2:∀i,i<Q2 a b x y→QQ M.2 (y+i)=true) :
 Part a b (QK a b M x y)∧Ext M (QK a b M x y):=by
 obtain⟨c0,_,_,c1,c2⟩:=rJ hn hx hy;have e1:x+Q2 a b x y≤M.1.length:=by rw[h.l1];exact c1
 have e2:y+Q2 a b x y≤M.2.length:=by rw[h.l2];exact c2
 have o1:∀z v,Pd M.1 z v→¬(x≤z∧z<x+Q2 a b x y):=fun z v hp hz=>by
  have:=h1 (z-x) ω;rw[show x+(z-x)=z by omega,hp.free]at this;cases this
 have o2:∀z v,Pd M.2 z v→¬(y≤z∧z<y+Q2 a b x y):=fun z v hp hz=>by
  have:=h2 (z-y) ω;rw[show y+(z-y)=z by omega,hp.free]at this;cases this
 unfold QK;refine⟨⟨by rw[E8,h.l1],by rw[E8,h.l2],fun z hz=>?_,fun z hz=>?_,fun z v=>?_,fun z v hp=>?_⟩,fun z v hp=>?_,fun z v hp=>?_⟩
 ·by_cases hr:x≤z∧z<x+Q2 a b x y
  ·obtain⟨i,rfl⟩:∃i,z=x+i:=⟨z-x,ω⟩;exact .inr ⟨_,G4 ω ω⟩
  ·rcases h.s1 z hz with h' |⟨v,h'⟩
   ·exact .inl (by rw[Kx hr];exact h')
   ·exact .inr ⟨v,(Jm e1).2 (.inr ⟨hr,h'⟩)⟩
 ·by_cases hr:y≤z∧z<y+Q2 a b x y
  ·obtain⟨i,rfl⟩:∃i,z=y+i:=⟨z-y,ω⟩;exact .inr ⟨_,G4 ω ω⟩
  ·rcases h.s2 z hz with h' |⟨v,h'⟩
   ·exact .inl (by rw[Kx hr];exact h')
   ·exact .inr ⟨v,(Jm e2).2 (.inr ⟨hr,h'⟩)⟩
 ·rw[Jm e1,Jm e2]
  constructor
  ·rintro(⟨i,q1,q2,q3⟩|⟨q1,q2⟩)
   ·exact .inl ⟨i,q1,q3,q2⟩
   ·have:=(h.two z v).1 q2;exact .inr ⟨o2 _ _ this,this⟩
  ·rintro(⟨i,q1,q2,q3⟩|⟨q1,q2⟩)
   ·exact .inl ⟨i,q1,q3,q2⟩
   ·have:=(h.two z v).2 q2;exact .inr ⟨o1 _ _ this,this⟩
 ·rcases(Jm e1).1 hp with⟨i,q1,rfl,rfl⟩|⟨q1,q2⟩
  ·exact Qoo hn hx hy hk q1
  ·exact h.kind z v q2
 ·exact(Jm e1).2 (.inr ⟨o1 _ _ hp,hp⟩)
 ·exact(Jm e2).2 (.inr ⟨o2 _ _ hp,hp⟩)
def XN(a b:Sd)(M:St)(x y:Nat):Prop :=
 Pd M.1 x y∨(x<a.n∧y<b.n∧(a.at_ x).k=(b.at_ y).k∧QQ M.1 x=true∧QQ M.2 y=true∧(∀p,x∈a.kid p→QQ M.1 p=false)∧(∀q,y∈b.kid q→QQ M.2 q=false))
theorem Qn1(h:Inv a b M){x y:Nat}(hp:Pd M.1 x y):QK a b M x y=M:=by
 have hb:∀i,i<Q2 a b x y→Pd M.1 (x+i) (y+i):=fun i hi=>by
  unfold Q2 at hi;by_cases e:JU a b x y=true
  ·rw[if_pos e]at hi;exact h.full x y hp e i hi
  ·rw[if_neg e]at hi;obtain rfl:i=0:=ω
   exact hp
 unfold QK;rw[ĭ hb,ĭ fun i hi=>(h.part.two _ _).1 (hb i hi)]
theorem Ž{s:Sd}{L:List Int}(hc:Shut s L){x y c:Nat}(hx:x<s.n)(hL:x+c≤L.length)(hcs:c=1∨c=s.sz x)(hp:∀p,x∈s.kid p→QQ L p=false):Shut s (Kv L x y c):=by
 intro p q hq hf;have GZ:=Sd.KE hq;have hout:¬(x≤p∧p<x+c):=fun hr=>by rw[bS hr ω]at hf;cases hf
 rw[Kx hout]at hf
 have hqo:¬(x≤q∧q<x+c):=fun hr=>by
  rcases Nat.eq_or_lt_of_le hr.1 with rfl|hlt
  ·rw[hp p hq]at hf;cases hf
  ·have hcs':c=s.sz x:=by rcases hcs with h|h <;> omega
   obtain⟨p',h1,h2,h3⟩:=Sd.PQ hx hlt ω;have:=Sd.XK hq h3;omega
 rw[Kx hqo];exact hc p q hq hf
theorem XH(hn:ZM a b)(h:Inv a b M){x y:Nat}(hs:XN a b M x y) :
 Inv a b (QK a b M x y)∧Ext M (QK a b M x y)∧Pd (QK a b M x y).1 x y∧x<a.n∧y<b.n∧
  (∀z,¬(x≤z∧z<x+a.sz x)→(QK a b M x y).1[z]?=M.1[z]?)∧(∀z,¬(y≤z∧z<y+b.sz y)→(QK a b M x y).2[z]?=M.2[z]?):=by
 rcases hs with hp|⟨hx,hy,hk,f1,f2,p1,p2⟩
 ·rw[Qn1 h hp];exact⟨h,Ext.refl _,hp,(h.part.lt hp).1,(h.part.lt hp).2,fun _ _=>rfl,fun _ _=>rfl⟩
 ·obtain⟨c0,d1,d2,c1,c2⟩:=rJ hn hx hy;have a1:=Gf h.c1 hx f1;have a2:=Gf h.c2 hy f2;obtain⟨hP,hE⟩:=om hn h.part hx hy hk (fun i hi=>a1 _ ω ω) (fun i hi=>a2 _ ω ω);have e1:x+Q2 a b x y≤M.1.length:=by rw[h.part.l1];exact c1
  have e2:y+Q2 a b x y≤M.2.length:=by rw[h.part.l2];exact c2
  have hc1:Q2 a b x y=1∨Q2 a b x y=a.sz x:=by unfold Q2;split <;> simp
  have hc2:Q2 a b x y=1∨Q2 a b x y=b.sz y:=by
   unfold Q2;by_cases e:JU a b x y=true
   ·rw[if_pos e];exact .inr (hn.size hx hy e)
   ·rw[if_neg e];exact .inl rfl
  have zP:Pd (QK a b M x y).1 x y:=G4 (i:=0) (x:=x) (y:=y) c0 ω;refine⟨⟨hP,Ž h.c1 hx e1 hc1 p1,Ž h.c2 hy e2 hc2 p2,?_⟩,hE,zP,hx,hy,fun z hz=>iI ω,fun z hz=>iI ω⟩;intro z v hv ha i hi;rcases(Jm e1).1 hv with⟨j,q1,rfl,rfl⟩|⟨q1,q2⟩
  ·refine(Jm e1).2 (.inl ⟨j+i,?_,ω,ω⟩);unfold Q2 at q1⊢;by_cases e:JU a b x y=true
   ·rw[if_pos e]at q1⊢;have:=Sd.nest hx (show x≤x+j by omega) ω;omega
   ·rw[if_neg e]at q1⊢;obtain rfl:j=0:=ω
    exact absurd ha e
  ·exact hE.1 _ _ (h.full z v q2 ha i hi)
end
end Match
namespace Tree
open Mem
theorem fT(k p:Int)(hk:k=28∨k=10∨k=11∨k=12∨k=13∨k=15∨k=17∨k=30∧(0:Int)<p∨k=31∧(0:Int)<p)(px py:ByteArray)(A:Option Addr)(n C:Nat)(f:F)(w:World)(hf:Fs w (Lo w.heap.size) (ς A n C) f):Calls prog 43 #[ξ #[ι γ k,σ px,σ py,ς A n C],ι γ p] w fun e w'=>e = ρ (ι γ ((if Vm k px f p then 1 else 0)+1))∧Below w.heap.size w w':=by
 have b1:=Qa w (θ #[ι γ k,σ px,σ py,ς A n C] 24);have HP:=QA (Y0 (w.alloc (θ #[ι γ k,σ px,σ py,ς A n C] 24)) k px py A n C f p (hf.later b1));have HB:=QA b1
 have KB:Hid (∀W,Below (w.alloc (θ #[ι γ k,σ px,σ py,ς A n C] 24)).heap.size (w.alloc (θ #[ι γ k,σ px,σ py,ς A n C] 24)) W→W.cell? ⟨w.heap.size,0,none⟩=some (ι γ k)):=fun W hW=>by
  exact c55
 generalize Vm k px f p=pb at *;clear b1 hf;rcases hk with rfl|rfl|rfl|rfl|rfl|rfl|rfl|⟨rfl,hp⟩|⟨rfl,hp⟩
 all_goals cases pb
 all_goals(go_enter func43,ntmps43;go_wp2_with fail;refine c₁ (HP.out) fun w1 hb=>?_;have HE:=VO HB hb;have q0:=KB.out w1 hb;clear hb KB HP;go_wp2;go_ret;exact⟨rfl,HE.out⟩)
theorem Ō(k:Int)(hk:k=30∨k=31)(px py:ByteArray)(A:Option Addr)(n C:Nat)(f:F)(w:World)(hf:Fs w (Lo w.heap.size) (ς A n C) f):Calls prog 43 #[ξ #[ι γ k,σ px,σ py,ς A n C],ι γ 0] w fun e w'=>e = ρ (ι γ ((if Vm k px f 0 then 1 else 0)+0))∧Below w.heap.size w w':=by
 have b1:=Qa w (θ #[ι γ k,σ px,σ py,ς A n C] 24);have HP:=QA (Y0 (w.alloc (θ #[ι γ k,σ px,σ py,ς A n C] 24)) k px py A n C f 0 (hf.later b1));have HB:=QA b1
 have KB:Hid (∀W,Below (w.alloc (θ #[ι γ k,σ px,σ py,ς A n C] 24)).heap.size (w.alloc (θ #[ι γ k,σ px,σ py,ς A n C] 24)) W→W.cell? ⟨w.heap.size,0,none⟩=some (ι γ k)):=fun W hW=>by
  exact c55
 generalize Vm k px f 0=pb at *;clear b1 hf;rcases hk with rfl|rfl
 all_goals cases pb
 all_goals(go_enter func43,ntmps43;go_wp2_with fail;refine c₁ (HP.out) fun w1 hb=>?_;have HE:=VO HB hb;have q0:=KB.out w1 hb;clear hb KB HP;go_wp2;go_ret;exact⟨rfl,HE.out⟩)
theorem Qto(px py:ByteArray)(A:Option Addr)(n C:Nat)(f:F)(w:World)(hf:Fs w (Lo w.heap.size) (ς A n C) f)(p:Int)(hp:(p==2)=false):Calls prog 43 #[ξ #[ι γ 18,σ px,σ py,ς A n C],ι γ p] w fun e w'=>e = ρ (ι γ ((if Vm 18 px f p then 1 else 0)+0))∧Below w.heap.size w w':=by
 have b1:=Qa w (θ #[ι γ 18,σ px,σ py,ς A n C] 24);have HP:=QA (Y0 (w.alloc (θ #[ι γ 18,σ px,σ py,ς A n C] 24)) 18 px py A n C f p (hf.later b1));have HB:=QA b1
 have KB:Hid (∀W,Below (w.alloc (θ #[ι γ 18,σ px,σ py,ς A n C] 24)).heap.size (w.alloc (θ #[ι γ 18,σ px,σ py,ς A n C] 24)) W→W.cell? ⟨w.heap.size,0,none⟩=some (ι γ 18)):=fun W hW=>by
  exact c55
 generalize Vm 18 px f p=pb at *;clear b1 hf;cases pb
 all_goals(go_enter func43,ntmps43;go_wp2_with fail;refine c₁ (HP.out) fun w1 hb=>?_;have HE:=VO HB hb;have q0:=KB.out w1 hb;clear hb KB HP;go_wp2;go_ret;exact⟨rfl,HE.out⟩)
theorem ĝ(px py:ByteArray)(b off n C:Nat)(f:F)(w:World)(hf:Fs w (Lo w.heap.size) (ς (some ⟨b,off,none⟩) n C) f)(kk:Int)(m:Int)(hkk:(kk==18)=true∧m=1∨(kk==18)=false∧m=0)(hn:(2:Int)<(n:Int))(hbl:b<w.heap.size)(c0:w.cell? ⟨b,off+8,none⟩=some (ι γ kk)):Calls prog 43 #[ξ #[ι γ 18,σ px,σ py,ς (some ⟨b,off,none⟩) n C],ι γ 2] w fun e w'=>e = ρ (ι γ ((if Vm 18 px f 2 then 1 else 0)+m))∧Below w.heap.size w w':=by
 have zw:Hid (∀W,Below w.heap.size w W→W.cell? ⟨b,off+8,none⟩=some (ι γ kk)):=fun W hW=>(hW.cell (p:=⟨b,off+8,none⟩) hbl).trans c0
 have LN:Hid (∀W,Below (w.alloc (θ #[ι γ 18,σ px,σ py,ς (some ⟨b,off,none⟩) n C] 24)).heap.size (w.alloc (θ #[ι γ 18,σ px,σ py,ς (some ⟨b,off,none⟩) n C] 24)) W→W.cell? ⟨w.heap.size,3,none⟩=some (ς (some ⟨b,off,none⟩) n C)):=fun W hW=>by
  rw[hW.cell (p:=⟨w.heap.size,3,none⟩) ψ,VV _ _ _ _ rfl];rfl
 have b1:=Qa w (θ #[ι γ 18,σ px,σ py,ς (some ⟨b,off,none⟩) n C] 24);have HP:=QA (Y0 (w.alloc (θ #[ι γ 18,σ px,σ py,ς (some ⟨b,off,none⟩) n C] 24)) 18 px py (some ⟨b,off,none⟩) n C f 2 (hf.later b1));have HB:=QA b1
 have KB:Hid (∀W,Below (w.alloc (θ #[ι γ 18,σ px,σ py,ς (some ⟨b,off,none⟩) n C] 24)).heap.size (w.alloc (θ #[ι γ 18,σ px,σ py,ς (some ⟨b,off,none⟩) n C] 24)) W→W.cell? ⟨w.heap.size,0,none⟩=some (ι γ 18)):=fun W hW=>by
  exact c55
 generalize Vm 18 px f 2=pb at *;clear b1 hf;clear c0;rcases hkk with⟨hkk,rfl⟩|⟨hkk,rfl⟩
 all_goals cases pb
 all_goals(go_enter func43,ntmps43;go_wp2_with fail;refine c₁ (HP.out) fun w1 hb=>?_;have HE:=VO HB hb;have q0:=KB.out w1 hb;have q3:=LN.out w1 hb;have qk:=zw.out w1 HE.out;clear hb KB HP;go_wp2;go_ret;exact⟨rfl,HE.out⟩)
theorem Qpn(px py:ByteArray)(A:Option Addr)(n C:Nat)(f:F)(w:World)(hf:Fs w (Lo w.heap.size) (ς A n C) f)(k p:Int)(lZ:(k==28)=false)(Rn:(k==10)=false)(PV:(k==11)=false)(UC:(k==12)=false)(TN:(k==13)=false)(qs:(k==15)=false)(qp:(k==17)=false)(Û:(k==30)=false)(br:(k==31)=false)(ya:(k==18)=false):Calls prog 43 #[ξ #[ι γ k,σ px,σ py,ς A n C],ι γ p] w fun e w'=>e = ρ (ι γ ((if Vm k px f p then 1 else 0)+0))∧Below w.heap.size w w':=by
 have b1:=Qa w (θ #[ι γ k,σ px,σ py,ς A n C] 24);have HP:=QA (Y0 (w.alloc (θ #[ι γ k,σ px,σ py,ς A n C] 24)) k px py A n C f p (hf.later b1));have HB:=QA b1
 have KB:Hid (∀W,Below (w.alloc (θ #[ι γ k,σ px,σ py,ς A n C] 24)).heap.size (w.alloc (θ #[ι γ k,σ px,σ py,ς A n C] 24)) W→W.cell? ⟨w.heap.size,0,none⟩=some (ι γ k)):=fun W hW=>by
  exact c55
 generalize Vm k px f p=pb at *;clear b1 hf;cases pb
 all_goals(go_enter func43,ntmps43;go_wp2_with fail;refine c₁ (HP.out) fun w1 hb=>?_;have HE:=VO HB hb;have q0:=KB.out w1 hb;clear hb KB HP;go_wp2;go_ret;exact⟨rfl,HE.out⟩)
theorem Qed(pk:Int)(px py:ByteArray)(A:Option Addr)(n C:Nat)(f:F)(i:Nat)(kk:Int)(kx ky:ByteArray)(kc kr:F)(w:World)(hf:Fs w (Lo w.heap.size) (ς A n C) f)(hd:f.drop i=.cons kk kx ky kc kr) :
 Calls prog 43 #[ξ #[ι γ pk,σ px,σ py,ς A n C],ι γ (i:Int)] w fun e w'=>e=ρ (ι γ ((down pk px i kk kx:Nat):Int))∧Below w.heap.size w w':=by
 have hp:Vm pk px f (i:Int)=Q6 pk px i kk kx:=by unfold Vm;rw[if_pos ω,Int.toNat_natCast,hd]
 have RP:((down pk px i kk kx:Nat):Int)=(if Vm pk px f (i:Int)then 1 else 0)+((more pk i kk:Nat):Int):=by unfold down;rw[hp];split <;> simp
 rw[RP];clear RP;by_cases EM:pk=28∨pk=10∨pk=11∨pk=12∨pk=13∨pk=15∨pk=17
 ·rw[show more pk i kk=1 by rcases EM with rfl|rfl|rfl|rfl|rfl|rfl|rfl <;> rfl];exact fT pk _ ω px py A n C f w hf
 by_cases Mp:pk=30
 ·subst Mp;by_cases hi:0<i
  ·rw[show more 30 i kk=1 by simp[more,hi]];exact fT 30 _ ω px py A n C f w hf
  ·obtain rfl:i=0:=ω
   rw[show more 30 0 kk=0 by simp[more]];exact Ō 30 δ px py A n C f w hf
 by_cases RX:pk=31
 ·subst RX;by_cases hi:0<i
  ·rw[show more 31 i kk=1 by simp[more,hi]];exact fT 31 _ ω px py A n C f w hf
  ·obtain rfl:i=0:=ω
   rw[show more 31 0 kk=0 by simp[more]];exact Ō 31 δ px py A n C f w hf
 by_cases Mu:pk=18
 ·subst Mu;by_cases hi:i=2
  ·subst hi;obtain⟨b,off,s,rfl,hb,hn,hat⟩:=hf.at_ hd;have c0:=hat.c0;rw[show off+2*4=off+8 by omega]at c0;by_cases hk:kk=18
   ·subst hk;rw[show more 18 2 18=1 from rfl];exact ĝ px py b off n C f w hf 18 1 (.inl ⟨rfl,rfl⟩) ω hb c0
   ·rw[show more 18 2 kk=0 by simp[more,hk]];exact ĝ px py b off n C f w hf kk 0 (.inr ⟨QM hk,rfl⟩) ω hb c0
  ·rw[show more 18 i kk=0 by simp[more,hi]];exact Qto px py A n C f w hf _ (by simpa using(show ¬(i:Int)=2 by omega))
 simp only[not_or]at EM;obtain⟨Pf,h10,h11,h12,Lh,vk,EM⟩:=EM;rw[show more pk i kk=0 by simp[more,Pf,h10,h11,h12,Lh,vk,EM,Mp,RX,Mu]];exact Qpn px py A n C f w hf pk _ (QM Pf) (QM h10) (QM h11) (QM h12) (QM Lh) (QM vk) (QM EM) (QM Mp) (QM RX) (QM Mu)
