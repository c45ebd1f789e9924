import Derived.Test.YtmepekognmlblaaGreatDoorS12
set_option maxHeartbeats 8000000
set_option maxRecDepth 100000
set_option linter.unusedVariables false
open Go.Proofs.Tryz Go.ChangeShapes Go.WideShapes Go.ChangeAt Go.RowKit
open _root_.List renaming getD_eq_getElem?_getD→QX,getElem?_eq_getElem→QN,mem_of_getElem?→JK,getElem?_cons_zero→Ib
open Go.Lib renaming hid→QA
open Go.World renaming cell?_alloc_at→VV
open Go.Value renaming string→σ,int→ι,slice→ς,agg→ξ
open Go.IntKind renaming i64→γ
open Go.Obj renaming cells→θ
open Go.Ending renaming returned→ρ
namespace Go.Proofs.YtmepekognmlblaaGreatDoor
namespace Match
open Tree Shape
def Pd(L:List Int)(x y:Nat):Prop:=L[x]?=some ((y:Nat):Int)
theorem Pd.lt{L:List Int}{x y:Nat}(h:Pd L x y):x<L.length:=(List.getElem?_eq_some_iff.1 h).1
theorem Pd.free{L:List Int}{x y:Nat}(h:Pd L x y):QQ L x=false:=by
 unfold QQ Pd at *;rw[QX,h];simp
theorem Pd.eq{L:List Int}{x y z:Nat}(h:Pd L x y)(h':Pd L x z):y=z:=by
 have:=h.symm.trans h';injection this with this;omega
theorem E8(M:List Int)(x y:Nat):∀c,(Kv M x y c).length=M.length
 |0=>rfl
 |c+1=>by unfold Kv;rw[List.length_set,E8 M x y c]
theorem E9(M:List Int)(x y:Nat):∀(c z:Nat),(Kv M x y c)[z]?=if x≤z∧z<x+c∧z<M.length then some ((y+(z-x):Nat):Int)else M[z]?
 |0,z=>by rw[if_neg ω];rfl
 |c+1,z=>by
  unfold Kv;rw[List.getElem?_set,E8,E9 M x y c z];by_cases hz:x+c=z
  ·subst hz;rw[if_pos rfl];by_cases hl:x+c<M.length
   ·rw[if_pos hl,if_pos ⟨ω,ω,hl⟩,Nat.add_sub_cancel_left]
   ·rw[if_neg hl,if_neg ω,List.getElem?_eq_none ω]
  ·rw[if_neg hz];by_cases h:x≤z∧z<x+c∧z<M.length
   ·rw[if_pos h,if_pos ⟨h.1,ω,h.2.2⟩]
   ·rw[if_neg h,if_neg ω]
theorem iI{M:List Int}{x y c z:Nat}(h:¬(x≤z∧z<x+c)):(Kv M x y c)[z]?=M[z]?:=by rw[E9,if_neg ω]
theorem G4{M:List Int}{x y c i:Nat}(h:i<c)(hl:x+i<M.length):Pd (Kv M x y c) (x+i) (y+i):=by
 unfold Pd;rw[E9,if_pos ⟨ω,ω,hl⟩,Nat.add_sub_cancel_left]
theorem Jm{M:List Int}{x y c z v:Nat}(hl:x+c≤M.length):Pd (Kv M x y c) z v↔(∃i,i<c∧z=x+i∧v=y+i)∨(¬(x≤z∧z<x+c)∧Pd M z v):=by
 unfold Pd;rw[E9];by_cases h:x≤z∧z<x+c
 ·rw[if_pos ⟨h.1,h.2,ω⟩]
  constructor
  ·intro e;injection e with e;exact .inl ⟨z-x,ω,ω,ω⟩
  ·rintro(⟨i,h1,h2,h3⟩|h1)
   ·congr 2;omega
   ·exact absurd h h1.1
 ·rw[if_neg ω]
  constructor
  ·exact fun e=>.inr ⟨h,e⟩
  ·rintro(⟨i,h1,h2,h3⟩|h1)
   ·omega
   ·exact h1.2
theorem Ā{M:List Int}{x y c:Nat}(h:∀i,i<c→Pd M (x+i) (y+i)):Kv M x y c=M:=by
 apply List.ext_getElem?;intro z;rw[E9];by_cases hz:x≤z∧z<x+c∧z<M.length
 ·rw[if_pos hz];have:=h (z-x) ω;unfold Pd at this;rw[←this];congr 1;omega
 ·rw[if_neg hz]
theorem Kx{M:List Int}{x y c z:Nat}(h:¬(x≤z∧z<x+c)):QQ (Kv M x y c) z=QQ M z:=by unfold QQ;rw[QX,QX,iI h]
theorem bS{M:List Int}{x y c z:Nat}(h:x≤z∧z<x+c)(hl:z<M.length):QQ (Kv M x y c) z=false:=by
 obtain⟨i,rfl⟩:∃i,z=x+i:=⟨z-x,ω⟩;exact(G4 (y:=y) (show i<c by omega) hl).free
section
variable (a b:Sd)
structure Part(M:St):Prop where
 l1:M.1.length=a.n
 l2:M.2.length=b.n
 s1:∀x,x<a.n→QQ M.1 x=true∨∃y,Pd M.1 x y
 s2:∀y,y<b.n→QQ M.2 y=true∨∃x,Pd M.2 y x
 two:∀x y,Pd M.1 x y↔Pd M.2 y x
 kind:∀x y,Pd M.1 x y→(a.at_ x).k=(b.at_ y).k
structure ZM:Prop where
 EG:a.Ok
 Hq:b.Ok
 alike:∀x y,x<a.n→y<b.n→(JU a b x y=true↔a.at_ x=b.at_ y)
def Shut(s:Sd)(L:List Int):Prop:=∀p q,q∈s.kid p→QQ L p=true→QQ L q=true
structure Inv(M:St):Prop where
 part:Part a b M
 c1:Shut a M.1
 c2:Shut b M.2
 full:∀x y,Pd M.1 x y→JU a b x y=true→∀i,i<a.sz x→Pd M.1 (x+i) (y+i)
end
def Ext(M M':St):Prop:=(∀x y,Pd M.1 x y→Pd M'.1 x y)∧(∀x y,Pd M.2 x y→Pd M'.2 x y)
theorem Ext.refl(M:St):Ext M M:=⟨fun _ _ h=>h,fun _ _ h=>h⟩
theorem Ext.trans{M M' DK:St}(h:Ext M M')(h':Ext M' DK):Ext M DK:=⟨fun x y e=>h'.1 x y (h.1 x y e),fun x y e=>h'.2 x y (h.2 x y e)⟩
section
variable {a b:Sd}{M M':St}
theorem Part.lt(h:Part a b M){x y:Nat}(e:Pd M.1 x y):x<a.n∧y<b.n:=⟨by rw[←h.l1];exact e.lt,by rw[←h.l2];exact((h.two x y).1 e).lt⟩
theorem Part.Rw(h:Part a b M){x:Nat}(hx:x<a.n)(hf:QQ M.1 x=false):∃y,Pd M.1 x y:=(h.s1 x hx).resolve_left (by rw[hf];decide)
theorem Part.js(h:Part a b M){y:Nat}(hy:y<b.n)(hf:QQ M.2 y=false):∃x,Pd M.2 y x:=(h.s2 y hy).resolve_left (by rw[hf];decide)
theorem Qo9{L:List Int}{x:Nat}(h:¬QQ L x=true):QQ L x=false:=by simpa using h
theorem Gf{s:Sd}{L:List Int}(hc:Shut s L){x:Nat}(hx:x<s.n)(hf:QQ L x=true):∀z,x≤z→z<x+s.sz x→QQ L z=true:=by
 intro z
 induction z using Nat.strongRecOn with
 |_ z ih =>
  intro h1 h2;rcases Nat.eq_or_lt_of_le h1 with rfl|h1
  ·exact hf
  ·obtain⟨p,hp1,hp2,hk⟩:=Sd.PQ hx h1 h2;exact hc p z hk (ih p hp2 hp1 ω)
theorem ZM.size(h:ZM a b){x y:Nat}(hx:x<a.n)(hy:y<b.n)(e:JU a b x y=true):a.sz x=b.sz y:=by
 unfold Sd.sz;rw[(h.alike x y hx hy).1 e]
theorem ZM.below(h:ZM a b){x y i:Nat}(hx:x<a.n)(hy:y<b.n)(e:JU a b x y=true)(hi:i<a.sz x):a.at_ (x+i)=b.at_ (y+i):=Sd.DF hx hy ((h.alike x y hx hy).1 e) hi
theorem rJ(h:ZM a b){x y:Nat}(hx:x<a.n)(hy:y<b.n):0<Q2 a b x y∧Q2 a b x y≤a.sz x∧Q2 a b x y≤b.sz y∧x+Q2 a b x y≤a.n∧y+Q2 a b x y≤b.n:=by
 have h1:=Sd.sub hx;have h2:=Sd.sub hy;have h3:=a.ES x;have h4:=b.ES y;unfold Q2;by_cases e:JU a b x y=true
 ·have:=h.size hx hy e;rw[if_pos e];omega
 ·rw[if_neg e];omega
theorem Qoo(h:ZM a b){x y i:Nat}(hx:x<a.n)(hy:y<b.n)(hk:(a.at_ x).k=(b.at_ y).k)(hi:i<Q2 a b x y):(a.at_ (x+i)).k=(b.at_ (y+i)).k:=by
 unfold Q2 at hi;by_cases e:JU a b x y=true
 ·rw[if_pos e]at hi;rw[h.below hx hy e hi]
 ·rw[if_neg e]at hi;obtain rfl:i=0:=ω
  exact hk
theorem om(hn:ZM a b)(h:Part a b M){x y:Nat}(hx:x<a.n)(hy:y<b.n)(hk:(a.at_ x).k=(b.at_ y).k)(h1:∀i,i<Q2 a b x y→QQ M.1 (x+i)=true)(h2:∀i,i<Q2 a b x y→QQ M.2 (y+i)=true) :
 Part a b (QK a b M x y)∧Ext M (QK a b M x y):=by
 obtain⟨c0,_,_,c1,c2⟩:=rJ hn hx hy;have e1:x+Q2 a b x y≤M.1.length:=by rw[h.l1];exact c1
 have e2:y+Q2 a b x y≤M.2.length:=by rw[h.l2];exact c2
 have o1:∀z v,Pd M.1 z v→¬(x≤z∧z<x+Q2 a b x y):=fun z v hp hz=>by
  have:=h1 (z-x) ω;rw[show x+(z-x)=z by omega,hp.free]at this;cases this
 have o2:∀z v,Pd M.2 z v→¬(y≤z∧z<y+Q2 a b x y):=fun z v hp hz=>by
  have:=h2 (z-y) ω;rw[show y+(z-y)=z by omega,hp.free]at this;cases this
 unfold QK;refine⟨⟨by rw[E8,h.l1],by rw[E8,h.l2],fun z hz=>?_,fun z hz=>?_,fun z v=>?_,fun z v hp=>?_⟩,fun z v hp=>?_,fun z v hp=>?_⟩
 ·by_cases hr:x≤z∧z<x+Q2 a b x y
  ·obtain⟨i,rfl⟩:∃i,z=x+i:=⟨z-x,ω⟩;exact .inr ⟨_,G4 ω ω⟩
  ·rcases h.s1 z hz with h' |⟨v,h'⟩
   ·exact .inl (by rw[Kx hr];exact h')
   ·exact .inr ⟨v,(Jm e1).2 (.inr ⟨hr,h'⟩)⟩
 ·by_cases hr:y≤z∧z<y+Q2 a b x y
  ·obtain⟨i,rfl⟩:∃i,z=y+i:=⟨z-y,ω⟩;exact .inr ⟨_,G4 ω ω⟩
  ·rcases h.s2 z hz with h' |⟨v,h'⟩
   ·exact .inl (by rw[Kx hr];exact h')
   ·exact .inr ⟨v,(Jm e2).2 (.inr ⟨hr,h'⟩)⟩
 ·rw[Jm e1,Jm e2]
  constructor
  ·rintro(⟨i,q1,q2,q3⟩|⟨q1,q2⟩)
   ·exact .inl ⟨i,q1,q3,q2⟩
   ·have:=(h.two z v).1 q2;exact .inr ⟨o2 _ _ this,this⟩
  ·rintro(⟨i,q1,q2,q3⟩|⟨q1,q2⟩)
   ·exact .inl ⟨i,q1,q3,q2⟩
   ·have:=(h.two z v).2 q2;exact .inr ⟨o1 _ _ this,this⟩
 ·rcases(Jm e1).1 hp with⟨i,q1,rfl,rfl⟩|⟨q1,q2⟩
  ·exact Qoo hn hx hy hk q1
  ·exact h.kind z v q2
 ·exact(Jm e1).2 (.inr ⟨o1 _ _ hp,hp⟩)
 ·exact(Jm e2).2 (.inr ⟨o2 _ _ hp,hp⟩)
def XN(a b:Sd)(M:St)(x y:Nat):Prop :=
 Pd M.1 x y∨(x<a.n∧y<b.n∧(a.at_ x).k=(b.at_ y).k∧QQ M.1 x=true∧QQ M.2 y=true∧(∀p,x∈a.kid p→QQ M.1 p=false)∧(∀q,y∈b.kid q→QQ M.2 q=false))
theorem Qn1(h:Inv a b M){x y:Nat}(hp:Pd M.1 x y):QK a b M x y=M:=by
 have hb:∀i,i<Q2 a b x y→Pd M.1 (x+i) (y+i):=fun i hi=>by
  unfold Q2 at hi;by_cases e:JU a b x y=true
  ·rw[if_pos e]at hi;exact h.full x y hp e i hi
  ·rw[if_neg e]at hi;obtain rfl:i=0:=ω
   exact hp
 unfold QK;rw[Ā hb,Ā fun i hi=>(h.part.two _ _).1 (hb i hi)]
theorem ő{s:Sd}{L:List Int}(hc:Shut s L){x y c:Nat}(hx:x<s.n)(hL:x+c≤L.length)(hcs:c=1∨c=s.sz x)(hp:∀p,x∈s.kid p→QQ L p=false):Shut s (Kv L x y c):=by
 intro p q hq hf;have GZ:=Sd.KE hq;have hout:¬(x≤p∧p<x+c):=fun hr=>by rw[bS hr ω]at hf;cases hf
 rw[Kx hout]at hf
 have hqo:¬(x≤q∧q<x+c):=fun hr=>by
  rcases Nat.eq_or_lt_of_le hr.1 with rfl|hlt
  ·rw[hp p hq]at hf;cases hf
  ·have hcs':c=s.sz x:=by rcases hcs with h|h <;> omega
   obtain⟨p',h1,h2,h3⟩:=Sd.PQ hx hlt ω;have:=Sd.XK hq h3;omega
 rw[Kx hqo];exact hc p q hq hf
theorem XH(hn:ZM a b)(h:Inv a b M){x y:Nat}(hs:XN a b M x y) :
 Inv a b (QK a b M x y)∧Ext M (QK a b M x y)∧Pd (QK a b M x y).1 x y∧x<a.n∧y<b.n∧
  (∀z,¬(x≤z∧z<x+a.sz x)→(QK a b M x y).1[z]?=M.1[z]?)∧(∀z,¬(y≤z∧z<y+b.sz y)→(QK a b M x y).2[z]?=M.2[z]?):=by
 rcases hs with hp|⟨hx,hy,hk,f1,f2,p1,p2⟩
 ·rw[Qn1 h hp];exact⟨h,Ext.refl _,hp,(h.part.lt hp).1,(h.part.lt hp).2,fun _ _=>rfl,fun _ _=>rfl⟩
 ·obtain⟨c0,d1,d2,c1,c2⟩:=rJ hn hx hy;have a1:=Gf h.c1 hx f1;have a2:=Gf h.c2 hy f2;obtain⟨hP,hE⟩:=om hn h.part hx hy hk (fun i hi=>a1 _ ω ω) (fun i hi=>a2 _ ω ω);have e1:x+Q2 a b x y≤M.1.length:=by rw[h.part.l1];exact c1
  have e2:y+Q2 a b x y≤M.2.length:=by rw[h.part.l2];exact c2
  have hc1:Q2 a b x y=1∨Q2 a b x y=a.sz x:=by unfold Q2;split <;> simp
  have hc2:Q2 a b x y=1∨Q2 a b x y=b.sz y:=by
   unfold Q2;by_cases e:JU a b x y=true
   ·rw[if_pos e];exact .inr (hn.size hx hy e)
   ·rw[if_neg e];exact .inl rfl
  have zP:Pd (QK a b M x y).1 x y:=G4 (i:=0) (x:=x) (y:=y) c0 ω;refine⟨⟨hP,ő h.c1 hx e1 hc1 p1,ő h.c2 hy e2 hc2 p2,?_⟩,hE,zP,hx,hy,fun z hz=>iI ω,fun z hz=>iI ω⟩;intro z v hv ha i hi;rcases(Jm e1).1 hv with⟨j,q1,rfl,rfl⟩|⟨q1,q2⟩
  ·refine(Jm e1).2 (.inl ⟨j+i,?_,ω,ω⟩);unfold Q2 at q1⊢;by_cases e:JU a b x y=true
   ·rw[if_pos e]at q1⊢;have:=Sd.nest hx (show x≤x+j by omega) ω;omega
   ·rw[if_neg e]at q1⊢;obtain rfl:j=0:=ω
    exact absurd ha e
  ·exact hE.1 _ _ (h.full z v q2 ha i hi)
end
section
variable {a b:Sd}{M M' DK:St}{xs ys xs' ys':List Nat}{x y:Nat}
/-- Kids of two partners,in order. -/
def Rows(a b:Sd)(M:St)(xs ys:List Nat):Prop:=∃p q,xs.Sublist (a.kid p)∧ys.Sublist (b.kid q)∧QQ M.1 p=false∧QQ M.2 q=false
/-- What a call that pairs trees of these rows leaves. -/
structure YS(a b:Sd)(M M':St)(xs ys:List Nat):Prop where
 inv:Inv a b M'
 ext:Ext M M'
 o1:∀z,(∀x∈xs,¬(x≤z∧z<x+a.sz x))→M'.1[z]?=M.1[z]?
 o2:∀z,(∀y∈ys,¬(y≤z∧z<y+b.sz y))→M'.2[z]?=M.2[z]?
theorem YS.refl(h:Inv a b M):YS a b M M xs ys:=⟨h,Ext.refl _,fun _ _=>rfl,fun _ _=>rfl⟩
theorem YS.trans(h:YS a b M M' xs ys)(h':YS a b M' DK xs ys):YS a b M DK xs ys :=
 ⟨h'.inv,h.ext.trans h'.ext,fun z hz=>(h'.o1 z hz).trans (h.o1 z hz),fun z hz=>(h'.o2 z hz).trans (h.o2 z hz)⟩
theorem YS.more(h:YS a b M M' xs ys)(h1:∀x∈xs,x∈xs')(h2:∀y∈ys,y∈ys'):YS a b M M' xs' ys' :=
 ⟨h.inv,h.ext,fun z hz=>h.o1 z fun x hx=>hz x (h1 x hx),fun z hz=>h.o2 z fun y hy=>hz y (h2 y hy)⟩
theorem Ext.Ox(h:Inv a b M)(he:Ext M M'){p:Nat}(hp:p<a.n)(hf:QQ M.1 p=false):QQ M'.1 p=false:=by
 obtain⟨y,hy⟩:=h.part.Rw hp hf;exact(he.1 _ _ hy).free
theorem Ext.Ow(h:Inv a b M)(he:Ext M M'){p:Nat}(hp:p<b.n)(hf:QQ M.2 p=false):QQ M'.2 p=false:=by
 obtain⟨y,hy⟩:=h.part.js hp hf;exact(he.2 _ _ hy).free
theorem RZ{L:List Int}{x:Nat}(h:L.length≤x):QQ L x=false:=by
 unfold QQ;rw[List.getD_eq_getElem?_getD,List.getElem?_eq_none h];rfl
theorem Rows.sub(h:Rows a b M xs ys)(h1:xs'.Sublist xs)(h2:ys'.Sublist ys):Rows a b M xs' ys':=by
 obtain⟨p,q,e1,e2,e3,e4⟩:=h;exact⟨p,q,h1.trans e1,h2.trans e2,e3,e4⟩
theorem Rows.ext(hi:Inv a b M)(h:Rows a b M xs ys)(he:Ext M M')(hi':Inv a b M'):Rows a b M' xs ys:=by
 obtain⟨p,q,e1,e2,e3,e4⟩:=h;refine⟨p,q,e1,e2,?_,?_⟩
 ·rcases Nat.lt_or_ge p a.n with hp|hp
  ·exact he.Ox hi hp e3
  ·exact RZ (by rw[hi'.part.l1];exact hp)
 ·rcases Nat.lt_or_ge q b.n with hp|hp
  ·exact he.Ow hi hp e4
  ·exact RZ (by rw[hi'.part.l2];exact hp)
theorem Rows.lt(h:Rows a b M xs ys):(∀x∈xs,x<a.n)∧(∀y∈ys,y<b.n):=by
 obtain⟨p,q,e1,e2,_⟩:=h;exact⟨fun x hx=>(Sd.VS (Sd.KE (e1.subset hx)) (e1.subset hx)).2.2,fun y hy=>(Sd.VS (Sd.KE (e2.subset hy)) (e2.subset hy)).2.2⟩
theorem Rows.apart(h:Rows a b M xs ys):(xs.Pairwise fun q q'=>q+a.sz q≤q')∧(ys.Pairwise fun q q'=>q+b.sz q≤q'):=by
 obtain⟨p,q,e1,e2,_⟩:=h;exact⟨(a.JT p).sublist e1,(b.JT q).sublist e2⟩
theorem Rows.step(h:Rows a b M xs ys)(hx:x∈xs)(hy:y∈ys)(f1:QQ M.1 x=true)(f2:QQ M.2 y=true)(hk:(a.at_ x).k=(b.at_ y).k):XN a b M x y:=by
 have hl:=h.lt;obtain⟨p,q,e1,e2,e3,e4⟩:=h;refine .inr ⟨hl.1 x hx,hl.2 y hy,hk,f1,f2,fun p' h'=>?_,fun q' h'=>?_⟩
 ·rwa[Sd.XK h' (e1.subset hx)]
 ·rwa[Sd.XK h' (e2.subset hy)]
theorem ET(hn:ZM a b)(h:Inv a b M)(hx:x∈xs)(hy:y∈ys)(hs:XN a b M x y):YS a b M (QK a b M x y) xs ys:=by
 obtain⟨h1,h2,_,_,_,h3,h4⟩:=XH hn h hs;exact⟨h1,h2,fun z hz=>h3 z (hz x hx),fun z hz=>h4 z (hz y hy)⟩
theorem Rx(h:0<near a b M x y):QQ M.1 x=true∧QQ M.2 y=true∧(a.at_ x).k=(b.at_ y).k:=by
 unfold near at h;by_cases e:(!QQ M.1 x||(!QQ M.2 y || !((a.at_ x).k==(b.at_ y).k)))=true
 ·rw[if_pos e]at h;omega
 ·simp only[Bool.or_eq_true,Bool.not_eq_true',not_or,Bool.not_eq_false,beq_iff_eq]at e;exact e
theorem Ry(hn:ZM a b)(h:Inv a b M)(hr:Rows a b M xs ys)(hx:x∈xs)(hy:y∈ys)(hw:0<near a b M x y):YS a b M (QK a b M x y) xs ys:=by
 obtain⟨f1,f2,hk⟩:=Rx hw;exact ET hn h hx hy (hr.step hx hy f1 f2 hk)
theorem Pg(hn:ZM a b):∀(M:St)(xs ys:List Nat),Inv a b M→Rows a b M xs ys→YS a b M (front a b M xs ys).1 xs ys∧(front a b M xs ys).2.1.Sublist xs∧(front a b M xs ys).2.2.Sublist ys
 |M,[],ys,h,_=>by unfold front;exact⟨YS.refl h,List.Sublist.refl _,List.Sublist.refl _⟩
 |M,x::xs,[],h,_=>by unfold front;exact⟨YS.refl h,List.Sublist.refl _,List.Sublist.refl _⟩
 |M,x::xs,y::ys,h,hr=>by
  unfold front;by_cases hw:near a b M x y=16
  ·rw[if_pos hw];have hd:=Ry hn h hr List.mem_cons_self List.mem_cons_self ω;have hr':=(hr.sub (List.sublist_cons_self x xs) (List.sublist_cons_self y ys)).ext h hd.ext hd.inv;obtain⟨h1,h2,h3⟩:=Pg hn _ xs ys hd.inv hr';exact⟨hd.trans (h1.more (fun _=>List.mem_cons_of_mem _) (fun _=>List.mem_cons_of_mem _)),h2.trans (List.sublist_cons_self _ _),h3.trans (List.sublist_cons_self _ _)⟩
  ·rw[if_neg hw];exact⟨YS.refl h,List.Sublist.refl _,List.Sublist.refl _⟩
theorem QJ{l:List Nat}{i:Nat}(h:i<l.length):l.getD i 0∈l:=by
 rw[List.getD_eq_getElem?_getD,List.getElem?_eq_getElem h];exact List.getElem_mem h
theorem Sb(hn:ZM a b):∀(f:Nat)(M:St)(xs ys:List Nat),Inv a b M→Rows a b M xs ys→YS a b M (back a b f M xs ys).1 xs ys∧(back a b f M xs ys).2.1.Sublist xs∧(back a b f M xs ys).2.2.Sublist ys
 |0,M,xs,ys,h,_=>⟨YS.refl h,List.Sublist.refl _,List.Sublist.refl _⟩
 |f+1,M,xs,ys,h,hr=>by
  unfold back;by_cases hw:0<xs.length∧0<ys.length∧near a b M (xs.getD (xs.length-1) 0) (ys.getD (ys.length-1) 0)=16
  ·rw[if_pos hw];have hd:=Ry hn h hr (QJ (l:=xs) (i:=xs.length-1) ω) (QJ (l:=ys) (i:=ys.length-1) ω) ω;have hr':=(hr.sub (List.take_sublist (xs.length-1) xs) (List.take_sublist (ys.length-1) ys)).ext h hd.ext hd.inv;obtain⟨h1,h2,h3⟩:=Sb hn f _ _ _ hd.inv hr';exact⟨hd.trans (h1.more (fun _=>List.mem_of_mem_take) (fun _=>List.mem_of_mem_take)),h2.trans (List.take_sublist _ _),h3.trans (List.take_sublist _ _)⟩
  ·rw[if_neg hw];exact⟨YS.refl h,List.Sublist.refl _,List.Sublist.refl _⟩
/-- A later one of a row stands behind all that is below an earlier one. -/
theorem VR{s:Sd}(h:xs.Pairwise fun q q'=>q+s.sz q≤q'){i j:Nat}(hij:i≠j)(hi:i<xs.length)(hj:j<xs.length):¬(xs.getD i 0≤xs.getD j 0∧xs.getD j 0<xs.getD i 0+s.sz (xs.getD i 0)):=by
 rw[List.getD_eq_getElem?_getD,List.getD_eq_getElem?_getD,List.getElem?_eq_getElem hi,List.getElem?_eq_getElem hj];simp only[Option.getD_some];rcases Nat.lt_or_gt_of_ne hij with h1|h1
 ·have:=List.pairwise_iff_getElem.1 h i j hi hj h1;omega
 ·have:=List.pairwise_iff_getElem.1 h j i hj hi h1;have:=s.ES xs[j];omega
theorem XU{L L':List Int}{x:Nat}(h:L'[x]?=L[x]?):QQ L' x=QQ L x:=by unfold QQ;rw[List.getD_eq_getElem?_getD,List.getD_eq_getElem?_getD,h]
theorem jF{L L':List Int}{x y:Nat}(h:L'[x]?=L[x]?):Pd L' x y↔Pd L x y:=by unfold Pd;rw[h]
theorem XR(hn:ZM a b)(v:Nat→Nat→Nat)(xs ys:List Nat)(M0:St)(hv:∀i j,i<xs.length→j<ys.length→0<v i j→QQ M0.1 (xs.getD i 0)=true∧QQ M0.2 (ys.getD j 0)=true∧(a.at_ (xs.getD i 0)).k=(b.at_ (ys.getD j 0)).k) :
 ∀(f:Nat)(M:St)(i j:Nat),Inv a b M→Rows a b M xs ys→(∀i',i≤i'→i'<xs.length→M.1[xs.getD i' 0]?=M0.1[xs.getD i' 0]?)→(∀j',j≤j'→j'<ys.length→M.2[ys.getD j' 0]?=M0.2[ys.getD j' 0]?)→YS a b M (QR a b v xs ys f M i j) xs ys
 |0,M,i,j,h,_,_,_=>YS.refl h
 |f+1,M,i,j,h,hr,k1,k2=>by
  unfold QR;by_cases hc:i<xs.length∧j<ys.length
  ·rw[if_pos hc];by_cases hw:0<v i j∧QU v xs.length ys.length (xs.length-i) (ys.length-j)=v i j+QU v xs.length ys.length (xs.length-(i+1)) (ys.length-(j+1))
   ·rw[if_pos hw];obtain⟨f1,f2,hk⟩:=hv i j hc.1 hc.2 hw.1;rw[←XU (k1 i (Nat.le_refl _) hc.1)]at f1;rw[←XU (k2 j (Nat.le_refl _) hc.2)]at f2;have hs:=hr.step (QJ hc.1) (QJ hc.2) f1 f2 hk;have hd:=ET hn h (QJ hc.1) (QJ hc.2) hs;obtain⟨_,_,_,_,_,q1,q2⟩:=XH hn h hs;refine hd.trans (XR hn v xs ys M0 hv f _ _ _ hd.inv (hr.ext h hd.ext hd.inv) (fun i' h1 h2=>?_) fun j' h1 h2=>?_)
    ·rw[q1 _ (VR hr.apart.1 ω hc.1 h2)];exact k1 i' ω h2
    ·rw[q2 _ (VR hr.apart.2 ω hc.2 h2)];exact k2 j' ω h2
   ·rw[if_neg hw];split
    ·exact XR hn v xs ys M0 hv f M (i+1) j h hr (fun i' h1 h2=>k1 i' ω h2) k2
    ·exact XR hn v xs ys M0 hv f M i (j+1) h hr k1 (fun j' h1 h2=>k2 j' ω h2)
  ·rw[if_neg hc];exact YS.refl h
theorem EX(hn:ZM a b):∀(f:Nat)(M:St)(xs ys:List Nat),Inv a b M→Rows a b M xs ys→YS a b M (pieces a b f M xs ys) xs ys
 |0,M,xs,ys,h,_=>YS.refl h
 |f+1,M,xs,ys,h,hr=>by
  unfold pieces;by_cases hc:0<xs.length∧0<ys.length
  ·rw[if_pos hc];have hr1:=hr.sub (List.take_sublist (min 256 xs.length) xs) (List.take_sublist (min 256 ys.length) ys);have hd:YS a b M (piece a b M (xs.take (min 256 xs.length)) (ys.take (min 256 ys.length))) (xs.take (min 256 xs.length)) (ys.take (min 256 ys.length)):=by
      unfold piece;exact XR hn _ _ _ M (fun i j hi hj hw=>Rx hw) _ M 0 0 h hr1 (fun _ _ _=>rfl) (fun _ _ _=>rfl)
   have hd1:=hd.more (xs':=xs) (ys':=ys) (fun _=>List.mem_of_mem_take) (fun _=>List.mem_of_mem_take);have hr2:=(hr.sub (List.drop_sublist (min 256 xs.length) xs) (List.drop_sublist (min 256 ys.length) ys)).ext h hd1.ext hd1.inv;exact hd1.trans ((EX hn f _ _ _ hd1.inv hr2).more (fun _=>List.mem_of_mem_drop) (fun _=>List.mem_of_mem_drop))
  ·rw[if_neg hc];exact YS.refl h
theorem TD(hn:ZM a b)(h:Inv a b M)(hr:Rows a b M xs ys):YS a b M (YV a b M xs ys) xs ys:=by
 obtain⟨f1,f2,f3⟩:=Pg hn M xs ys h hr;have hr1:=(hr.sub f2 f3).ext h f1.ext f1.inv;obtain⟨g1,g2,g3⟩:=Sb hn (front a b M xs ys).2.1.length _ _ _ f1.inv hr1;have hr2:=(hr1.sub g2 g3).ext f1.inv g1.ext g1.inv;have hp:=EX hn (back a b (front a b M xs ys).2.1.length (front a b M xs ys).1 (front a b M xs ys).2.1 (front a b M xs ys).2.2).2.1.length _ _ _ g1.inv hr2;unfold YV;exact(f1.trans (g1.more (fun _ h=>f2.subset h) (fun _ h=>f3.subset h))).trans (hp.more (fun _ h=>f2.subset (g2.subset h)) (fun _ h=>f3.subset (g3.subset h)))
end
theorem Ű{α:Type}(f:α→Nat)(y:Nat):∀(L:List α),(L.Pairwise fun p q=>f p<f q)→∀(i:Nat)(e:α),L[i]? = some e→(i<L.countP (fun e=>decide (f e≤y)) ↔ f e≤y)
 |[],_,i,e,h=>by simp at h
 |p::r,hp,i,e,h=>by
  rw[List.pairwise_cons]at hp;rw[List.countP_cons];by_cases hy:f p≤y
  ·rw[if_pos (by simpa using hy)];cases i with
   |zero=>simp only[Ib,Option.some.injEq]at h;subst h;exact⟨fun _=>hy,fun _=>ω⟩
   |succ i=>have:=Ű f y r hp.2 i e (by simpa using h);omega
  ·rw[if_neg (by simpa using hy)]
   have hz:r.countP (fun e=>decide (f e≤y))=0:=by
    rw[List.countP_eq_zero];intro q hq;have:=hp.1 q hq;simp;omega
   have he:f p≤f e:=by
    cases i with
    |zero=>simp only[Ib,Option.some.injEq]at h;subst h;exact Nat.le_refl _
    |succ i=>exact Nat.le_of_lt (hp.1 e (JK (by simpa using h)))
   rw[hz];omega
def vA(l:List NP):Prop:=l.Pairwise fun p q=>p.1<q.1∧p.2<q.2
def sn(l:List NP)(e:Nat):Nat:=(l.getD e (0,0)).2
def Gz(l:List NP)(before:List Nat):Nat→Nat→Prop
 |0,e=>e<l.length
 |k+1,e=>e<l.length∧before.getD e 0<e∧sn l (before.getD e 0)<sn l e∧Gz l before k (before.getD e 0)
theorem Gz.lt{l:List NP}{before:List Nat}{k e:Nat}(h:Gz l before k e):e<l.length:=by
 cases k with
 |zero=>exact h
 |succ k=>exact h.1
theorem getD_set_ne{l:List Nat}{i j v:Nat}(h:i≠j):(l.set i v).getD j 0=l.getD j 0:=by
 rw[QX,List.getElem?_set_ne h,←QX]
theorem Qev{l:List Nat}{i v:Nat}(h:i<l.length):(l.set i v).getD i 0=v:=by
 rw[QX,List.getElem?_set_self h];rfl
theorem Gz.set{l:List NP}{before:List Nat}{i v:Nat}:∀{k e:Nat},e<i→Gz l before k e→Gz l (before.set i v) k e
 |0,e,_,h=>h
 |k+1,e,he,h=>by
  unfold Gz at h⊢;rw[getD_set_ne ω];exact⟨h.1,h.2.1,h.2.2.1,h.2.2.2.set ω⟩
structure LI(l:List NP)(i:Nat)(s:List Nat×List Nat):Prop where
 lb:s.2.length=l.length
 le:s.1.length≤i
 lt:∀e∈s.1,e<i
 up:s.1.Pairwise fun p q=>sn l p<sn l q
 ch:∀k e,s.1[k]?=some e→Gz l s.2 k e
 ne:0<i→0<s.1.length
theorem Qvh{l:List NP}{i:Nat}{s:List Nat×List Nat}(hd:∀p q,p<q→q<l.length→sn l p≠sn l q)(hi:i<l.length)(h:LI l i s):LI l (i+1) (Y7 l s i):=by
 have hk:∀(j e:Nat),s.1[j]?=some e→(j<NH l s.1 (sn l i)↔sn l e≤sn l i):=fun j e he=>Ű (sn l) (sn l i) s.1 h.up j e he
 have hle:NH l s.1 (sn l i)≤s.1.length:=List.countP_le_length;unfold Y7;simp only;generalize hK:NH l s.1 (l.getD i (0,0)).2=k;have hK':NH l s.1 (sn l i)=k:=hK;rw[hK']at hk hle;have ZV:(if k=s.1.length then s.1++[i]else s.1).set k i=if k=s.1.length then s.1++[i]else s.1.set k i:=by
  by_cases e:k=s.1.length
  ·rw[if_pos e,if_pos e,e];simp
  ·rw[if_neg e,if_neg e]
 have hlen:((if k=s.1.length then s.1++[i]else s.1).set k i).length=if k=s.1.length then s.1.length+1 else s.1.length:=by rw[ZV];split <;> simp
 have hat:∀j e,((if k=s.1.length then s.1++[i]else s.1).set k i)[j]? = some e→(j=k∧e=i)∨(j≠k∧s.1[j]? = some e):=fun j e he=>by
  rw[ZV]at he;by_cases hkl:k=s.1.length
  ·rw[if_pos hkl,List.getElem?_append]at he;by_cases hjl:j<s.1.length
   ·rw[if_pos hjl]at he;exact .inr ⟨ω,he⟩
   ·rw[if_neg hjl,List.getElem?_singleton]at he;by_cases hz:j-s.1.length=0
    ·rw[if_pos hz]at he;injection he with he;exact .inl ⟨ω,he.symm⟩
    ·rw[if_neg hz]at he;cases he
  ·rw[if_neg hkl,List.getElem?_set]at he;by_cases hj:k=j
   ·rw[if_pos hj,if_pos ω]at he;injection he with he;exact .inl ⟨hj.symm,he.symm⟩
   ·rw[if_neg hj]at he;exact .inr ⟨fun e=>hj e.symm,he⟩
 have SZ:∀j e,j<k→s.1[j]? = some e→sn l e<sn l i:=fun j e hj he=>by
  have h1:=(hk j e he).1 hj;have h2:=hd e i (h.lt e (JK he)) hi;omega
 have xh:∀j e,k≤j→s.1[j]? = some e→sn l i<sn l e:=fun j e hj he=>by
  have h1:=hk j e he;omega
 have kL:0<k→∃e,s.1[k-1]? = some e∧s.1.getD (k-1) 0=e:=fun h0=>by
  have hl:k-1<s.1.length:=ω
  exact⟨s.1[k-1],QN hl,by rw[QX,QN hl];rfl⟩
 refine⟨?_,?_,fun e he=>?_,?_,fun j e he=>?_,fun _=>?_⟩
 ·simp only;split
  ·rw[List.length_set];exact h.lb
  ·exact h.lb
 ·simp only;rw[hlen];have:=h.le;split <;> omega
 ·obtain⟨j,he⟩:=List.getElem?_of_mem he;rcases hat j e he with⟨_,rfl⟩|⟨_,he⟩
  ·omega
  ·have:=h.lt e (JK he);omega
 ·simp only;rw[List.pairwise_iff_getElem];intro p q hp hq PJ;have e1:=hat p _ (QN hp);have e2:=hat q _ (QN hq);rcases e1 with⟨h1,e1⟩|⟨h1,e1⟩
  ·rcases e2 with⟨h2,e2⟩|⟨h2,e2⟩
   ·omega
   ·rw[e1];exact xh q _ ω e2
  ·rcases e2 with⟨h2,e2⟩|⟨h2,e2⟩
   ·rw[e2];exact SZ p _ ω e1
   ·obtain⟨a1,b1⟩:=List.getElem?_eq_some_iff.1 e1;obtain⟨a2,b2⟩:=List.getElem?_eq_some_iff.1 e2;rw[←b1,←b2];exact List.pairwise_iff_getElem.1 h.up p q a1 a2 PJ
 ·simp only at he⊢;rcases hat j e he with⟨rfl,rfl⟩|⟨hj,he⟩
  ·cases j with
   |zero=>exact hi
   |succ k'=>obtain⟨e',h1,h2⟩:=kL (Nat.succ_pos _);rw[if_pos (Nat.succ_pos _)];unfold Gz;have hlt:=h.lt e' (JK h1);rw[Qev (by rw[h.lb];exact hi),h2];refine⟨hi,hlt,SZ k' e' ω h1,(h.ch k' e' h1).set hlt⟩
  ·have hc:=h.ch j e he;split
   ·exact hc.set (h.lt e (JK he))
   ·exact hc
 ·simp only;rw[hlen];split <;> omega
theorem pL{l:List NP}(hd:∀p q,p<q→q<l.length→sn l p≠sn l q):∀i,i≤l.length→LI l i (Q7 l i)
 |0,_=>⟨by simp[Q7],Nat.le_refl _,fun e h=>by simp[Q7]at h,List.Pairwise.nil,fun k e h=>by simp[Q7]at h,fun h=>ω⟩
 |i+1,h=>by unfold Q7;exact Qvh hd ω (pL hd i ω)
theorem Ŷ{l:List NP}{before:List Nat}(hf:l.Pairwise fun p q=>p.1<q.1):∀(k e:Nat)(out:List NP),Gz l before k e→(∀p∈out,p∈l)→vA out→(∀p∈out,(l.getD e (0,0)).1<p.1∧(l.getD e (0,0)).2<p.2)→vA (Yo l before (k+1) e out)∧∀p∈Yo l before (k+1) e out,p∈l
 |k,e,out,hc,hm,hr,hb=>by
  have hl:=hc.lt;have hat:l.getD e (0,0)=l[e]:=by rw[QX,QN hl];rfl
  have hm':∀p∈l.getD e (0,0)::out,p∈l:=fun p hp=>by
   rcases List.mem_cons.1 hp with rfl|hp
   ·rw[hat];exact List.getElem_mem hl
   ·exact hm p hp
  have hr':vA (l.getD e (0,0)::out):=List.pairwise_cons.2 ⟨hb,hr⟩;unfold Yo;cases k with
  |zero=>exact⟨hr',hm'⟩
  |succ k =>
   obtain⟨_,h2,h3,h4⟩:=hc;refine Ŷ hf k _ _ h4 hm' hr' fun p hp=>?_
   have hlt:=h4.lt;have h1:(l.getD (before.getD e 0) (0,0)).1<(l.getD e (0,0)).1:=by rw[hat,QX,QN hlt];exact List.pairwise_iff_getElem.1 hf _ _ hlt hl h2
   rcases List.mem_cons.1 hp with rfl|hp
   ·exact⟨h1,h3⟩
   ·have:=hb p hp;exact⟨ω,by unfold sn at h3;omega⟩
theorem Qdz{l:List NP}(hf:l.Pairwise fun p q=>p.1<q.1)(hs:l.Pairwise fun p q=>p.2≠q.2):vA (Vo l)∧∀p∈Vo l,p∈l:=by
 have hd:∀p q,p<q→q<l.length→sn l p≠sn l q:=fun p q PJ hq=>by
  unfold sn;rw[QX,QX,QN hq,QN (show p<l.length by omega)];exact List.pairwise_iff_getElem.1 hs p q ω hq PJ
 have h:=pL hd l.length (Nat.le_refl _);unfold Vo;simp only;cases hn:(Q7 l l.length).1.length with
 |zero=>unfold Yo;exact⟨List.Pairwise.nil,fun p hp=>by cases hp⟩
 |succ k =>
  have hk:k<(Q7 l l.length).1.length:=ω
  have e1:=QN hk;rw[Nat.add_sub_cancel,QX,e1];exact Ŷ hf k _ [] (h.ch k _ e1) (fun p hp=>by cases hp) List.Pairwise.nil (fun p hp=>by cases hp)
end Match
namespace Tree
open Mem
theorem fT(k p:Int)(hk:k=28∨k=10∨k=11∨k=12∨k=13∨k=15∨k=17∨k=30∧(0:Int)<p∨k=31∧(0:Int)<p)(px py:ByteArray)(A:Option Addr)(n C:Nat)(f:F)(w:World)(hf:Fs w (Lo w.heap.size) (ς A n C) f):Calls prog 43 #[ξ #[ι γ k,σ px,σ py,ς A n C],ι γ p] w fun e w'=>e = ρ (ι γ ((if Vm k px f p then 1 else 0)+1))∧Below w.heap.size w w':=by
 have b1:=Qa w (θ #[ι γ k,σ px,σ py,ς A n C] 24);have HP:=QA (Y0 (w.alloc (θ #[ι γ k,σ px,σ py,ς A n C] 24)) k px py A n C f p (hf.later b1));have HB:=QA b1
 have KB:Hid (∀W,Below (w.alloc (θ #[ι γ k,σ px,σ py,ς A n C] 24)).heap.size (w.alloc (θ #[ι γ k,σ px,σ py,ς A n C] 24)) W→W.cell? ⟨w.heap.size,0,none⟩=some (ι γ k)):=fun W hW=>by
  exact c55
 generalize Vm k px f p=pb at *;clear b1 hf;rcases hk with rfl|rfl|rfl|rfl|rfl|rfl|rfl|⟨rfl,hp⟩|⟨rfl,hp⟩
 all_goals cases pb
 all_goals(go_enter func43,ntmps43;go_wp2_with fail;refine c₁ (HP.out) fun w1 hb=>?_;have HE:=VO HB hb;have q0:=KB.out w1 hb;clear hb KB HP;go_wp2;go_ret;exact⟨rfl,HE.out⟩)
theorem ĝ(k:Int)(hk:k=30∨k=31)(px py:ByteArray)(A:Option Addr)(n C:Nat)(f:F)(w:World)(hf:Fs w (Lo w.heap.size) (ς A n C) f):Calls prog 43 #[ξ #[ι γ k,σ px,σ py,ς A n C],ι γ 0] w fun e w'=>e = ρ (ι γ ((if Vm k px f 0 then 1 else 0)+0))∧Below w.heap.size w w':=by
 have b1:=Qa w (θ #[ι γ k,σ px,σ py,ς A n C] 24);have HP:=QA (Y0 (w.alloc (θ #[ι γ k,σ px,σ py,ς A n C] 24)) k px py A n C f 0 (hf.later b1));have HB:=QA b1
 have KB:Hid (∀W,Below (w.alloc (θ #[ι γ k,σ px,σ py,ς A n C] 24)).heap.size (w.alloc (θ #[ι γ k,σ px,σ py,ς A n C] 24)) W→W.cell? ⟨w.heap.size,0,none⟩=some (ι γ k)):=fun W hW=>by
  exact c55
 generalize Vm k px f 0=pb at *;clear b1 hf;rcases hk with rfl|rfl
 all_goals cases pb
 all_goals(go_enter func43,ntmps43;go_wp2_with fail;refine c₁ (HP.out) fun w1 hb=>?_;have HE:=VO HB hb;have q0:=KB.out w1 hb;clear hb KB HP;go_wp2;go_ret;exact⟨rfl,HE.out⟩)
theorem Qto(px py:ByteArray)(A:Option Addr)(n C:Nat)(f:F)(w:World)(hf:Fs w (Lo w.heap.size) (ς A n C) f)(p:Int)(hp:(p==2)=false):Calls prog 43 #[ξ #[ι γ 18,σ px,σ py,ς A n C],ι γ p] w fun e w'=>e = ρ (ι γ ((if Vm 18 px f p then 1 else 0)+0))∧Below w.heap.size w w':=by
 have b1:=Qa w (θ #[ι γ 18,σ px,σ py,ς A n C] 24);have HP:=QA (Y0 (w.alloc (θ #[ι γ 18,σ px,σ py,ς A n C] 24)) 18 px py A n C f p (hf.later b1));have HB:=QA b1
 have KB:Hid (∀W,Below (w.alloc (θ #[ι γ 18,σ px,σ py,ς A n C] 24)).heap.size (w.alloc (θ #[ι γ 18,σ px,σ py,ς A n C] 24)) W→W.cell? ⟨w.heap.size,0,none⟩=some (ι γ 18)):=fun W hW=>by
  exact c55
 generalize Vm 18 px f p=pb at *;clear b1 hf;cases pb
 all_goals(go_enter func43,ntmps43;go_wp2_with fail;refine c₁ (HP.out) fun w1 hb=>?_;have HE:=VO HB hb;have q0:=KB.out w1 hb;clear hb KB HP;go_wp2;go_ret;exact⟨rfl,HE.out⟩)
theorem í(px py:ByteArray)(b off n C:Nat)(f:F)(w:World)(hf:Fs w (Lo w.heap.size) (ς (some ⟨b,off,none⟩) n C) f)(kk:Int)(m:Int)(hkk:(kk==18)=true∧m=1∨(kk==18)=false∧m=0)(hn:(2:Int)<(n:Int))(hbl:b<w.heap.size)(c0:w.cell? ⟨b,off+8,none⟩=some (ι γ kk)):Calls prog 43 #[ξ #[ι γ 18,σ px,σ py,ς (some ⟨b,off,none⟩) n C],ι γ 2] w fun e w'=>e = ρ (ι γ ((if Vm 18 px f 2 then 1 else 0)+m))∧Below w.heap.size w w':=by
 have zw:Hid (∀W,Below w.heap.size w W→W.cell? ⟨b,off+8,none⟩=some (ι γ kk)):=fun W hW=>(hW.cell (p:=⟨b,off+8,none⟩) hbl).trans c0
 have LN:Hid (∀W,Below (w.alloc (θ #[ι γ 18,σ px,σ py,ς (some ⟨b,off,none⟩) n C] 24)).heap.size (w.alloc (θ #[ι γ 18,σ px,σ py,ς (some ⟨b,off,none⟩) n C] 24)) W→W.cell? ⟨w.heap.size,3,none⟩=some (ς (some ⟨b,off,none⟩) n C)):=fun W hW=>by
  rw[hW.cell (p:=⟨w.heap.size,3,none⟩) ψ,VV _ _ _ _ rfl];rfl
 have b1:=Qa w (θ #[ι γ 18,σ px,σ py,ς (some ⟨b,off,none⟩) n C] 24);have HP:=QA (Y0 (w.alloc (θ #[ι γ 18,σ px,σ py,ς (some ⟨b,off,none⟩) n C] 24)) 18 px py (some ⟨b,off,none⟩) n C f 2 (hf.later b1));have HB:=QA b1
 have KB:Hid (∀W,Below (w.alloc (θ #[ι γ 18,σ px,σ py,ς (some ⟨b,off,none⟩) n C] 24)).heap.size (w.alloc (θ #[ι γ 18,σ px,σ py,ς (some ⟨b,off,none⟩) n C] 24)) W→W.cell? ⟨w.heap.size,0,none⟩=some (ι γ 18)):=fun W hW=>by
  exact c55
 generalize Vm 18 px f 2=pb at *;clear b1 hf;clear c0;rcases hkk with⟨hkk,rfl⟩|⟨hkk,rfl⟩
 all_goals cases pb
 all_goals(go_enter func43,ntmps43;go_wp2_with fail;refine c₁ (HP.out) fun w1 hb=>?_;have HE:=VO HB hb;have q0:=KB.out w1 hb;have q3:=LN.out w1 hb;have qk:=zw.out w1 HE.out;clear hb KB HP;go_wp2;go_ret;exact⟨rfl,HE.out⟩)
theorem Qpn(px py:ByteArray)(A:Option Addr)(n C:Nat)(f:F)(w:World)(hf:Fs w (Lo w.heap.size) (ς A n C) f)(k p:Int)(lZ:(k==28)=false)(Rn:(k==10)=false)(PV:(k==11)=false)(UC:(k==12)=false)(TN:(k==13)=false)(qs:(k==15)=false)(qp:(k==17)=false)(gU:(k==30)=false)(br:(k==31)=false)(ya:(k==18)=false):Calls prog 43 #[ξ #[ι γ k,σ px,σ py,ς A n C],ι γ p] w fun e w'=>e = ρ (ι γ ((if Vm k px f p then 1 else 0)+0))∧Below w.heap.size w w':=by
 have b1:=Qa w (θ #[ι γ k,σ px,σ py,ς A n C] 24);have HP:=QA (Y0 (w.alloc (θ #[ι γ k,σ px,σ py,ς A n C] 24)) k px py A n C f p (hf.later b1));have HB:=QA b1
 have KB:Hid (∀W,Below (w.alloc (θ #[ι γ k,σ px,σ py,ς A n C] 24)).heap.size (w.alloc (θ #[ι γ k,σ px,σ py,ς A n C] 24)) W→W.cell? ⟨w.heap.size,0,none⟩=some (ι γ k)):=fun W hW=>by
  exact c55
 generalize Vm k px f p=pb at *;clear b1 hf;cases pb
 all_goals(go_enter func43,ntmps43;go_wp2_with fail;refine c₁ (HP.out) fun w1 hb=>?_;have HE:=VO HB hb;have q0:=KB.out w1 hb;clear hb KB HP;go_wp2;go_ret;exact⟨rfl,HE.out⟩)
theorem ź(pk:Int)(px py:ByteArray)(A:Option Addr)(n C:Nat)(f:F)(i:Nat)(kk:Int)(kx ky:ByteArray)(kc kr:F)(w:World)(hf:Fs w (Lo w.heap.size) (ς A n C) f)(hd:f.drop i=.cons kk kx ky kc kr) :
 Calls prog 43 #[ξ #[ι γ pk,σ px,σ py,ς A n C],ι γ (i:Int)] w fun e w'=>e=ρ (ι γ ((down pk px i kk kx:Nat):Int))∧Below w.heap.size w w':=by
 have hp:Vm pk px f (i:Int)=Q6 pk px i kk kx:=by unfold Vm;rw[if_pos ω,Int.toNat_natCast,hd]
 have RP:((down pk px i kk kx:Nat):Int)=(if Vm pk px f (i:Int)then 1 else 0)+((more pk i kk:Nat):Int):=by unfold down;rw[hp];split <;> simp
 rw[RP];clear RP;by_cases EM:pk=28∨pk=10∨pk=11∨pk=12∨pk=13∨pk=15∨pk=17
 ·rw[show more pk i kk=1 by rcases EM with rfl|rfl|rfl|rfl|rfl|rfl|rfl <;> rfl];exact fT pk _ ω px py A n C f w hf
 by_cases Mp:pk=30
 ·subst Mp;by_cases hi:0<i
  ·rw[show more 30 i kk=1 by simp[more,hi]];exact fT 30 _ ω px py A n C f w hf
  ·obtain rfl:i=0:=ω
   rw[show more 30 0 kk=0 by simp[more]];exact ĝ 30 δ px py A n C f w hf
 by_cases RX:pk=31
 ·subst RX;by_cases hi:0<i
  ·rw[show more 31 i kk=1 by simp[more,hi]];exact fT 31 _ ω px py A n C f w hf
  ·obtain rfl:i=0:=ω
   rw[show more 31 0 kk=0 by simp[more]];exact ĝ 31 δ px py A n C f w hf
 by_cases Mu:pk=18
 ·subst Mu;by_cases hi:i=2
  ·subst hi;obtain⟨b,off,s,rfl,hb,hn,hat⟩:=hf.at_ hd;have c0:=hat.c0;rw[show off+2*4=off+8 by omega]at c0;by_cases hk:kk=18
   ·subst hk;rw[show more 18 2 18=1 from rfl];exact í px py b off n C f w hf 18 1 (.inl ⟨rfl,rfl⟩) ω hb c0
   ·rw[show more 18 2 kk=0 by simp[more,hk]];exact í px py b off n C f w hf kk 0 (.inr ⟨QM hk,rfl⟩) ω hb c0
  ·rw[show more 18 i kk=0 by simp[more,hi]];exact Qto px py A n C f w hf _ (by simpa using(show ¬(i:Int)=2 by omega))
 simp only[not_or]at EM;obtain⟨Pf,h10,h11,h12,Lh,vk,EM⟩:=EM;rw[show more pk i kk=0 by simp[more,Pf,h10,h11,h12,Lh,vk,EM,Mp,RX,Mu]];exact Qpn px py A n C f w hf pk _ (QM Pf) (QM h10) (QM h11) (QM h12) (QM Lh) (QM vk) (QM EM) (QM Mp) (QM RX) (QM Mu)
