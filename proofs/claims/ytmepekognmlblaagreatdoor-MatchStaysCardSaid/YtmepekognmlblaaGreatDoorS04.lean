import Derived.Test.YtmepekognmlblaaGreatDoorS02
import Derived.Test.YtmepekognmlblaaGreatDoorS03
import Derived.Shelf.Bytes.SlIndexSmall
import Derived.Shelf.Bytes.SlSmallAll
import Derived.Shelf.Bytes.SlCut
import Derived.Shelf.Bytes.SlTrim
import Derived.Test.YtmepekognmlblaaGreatDoorProg
set_option maxHeartbeats 1000000
set_option linter.unusedVariables false
open Go.Proofs.Tryz Go.ChangeShapes Go.WideShapes Go.ChangeAt Go.RowKit Go.Shelf
open _root_.List renaming length_cons→GW,length_append→ZU,getElem?_eq_getElem→QN,getElem?_append_right→GK,getElem?_cons_succ→GV,getElem?_append_left→PX,mem_cons→Tg,length_take→JS
open _root_.Nat renaming le_refl→QI
open Go.Lib renaming hid→QA
open Go.Value renaming string→σ,int→ι,slice→ς,bool→τ
open Go.IntKind renaming i64→γ
open Go.Ending renaming returned→ρ
namespace Go.Proofs.YtmepekognmlblaaGreatDoor
namespace Shape
open Tree
def places(a:Nat):F→List Nat
 | .nil=>[]
 | .cons _ _ _ c r=>a::places (a+1+c.size) r
def Jn(p:Int)(a:Nat):F→List Int
 | .nil=>[]
 | .cons _ _ _ c r=>p::(Jn a (a+1) c++Jn p (a+1+c.size) r)
def Zt:F→List Int
 | .nil=>[]
 | .cons _ _ _ c r=>((c.size+1:Nat):Int)::(Zt c++Zt r)
def Z7(a:Nat):F→List (List Nat)
 | .nil=>[]
 | .cons _ _ _ c r=>places (a+1) c::(Z7 (a+1) c++Z7 (a+1+c.size) r)
theorem Y1:∀(p:Int)(a:Nat)(f:F),(Jn p a f).length=f.size
 |_,_,.nil=>rfl
 |p,a,.cons _ _ _ c r=>by simp only[Jn,F.size,GW,ZU,Y1]
theorem E6:∀f:F,(Zt f).length=f.size
 | .nil=>rfl
 | .cons _ _ _ c r=>by simp only[Zt,F.size,GW,ZU,E6]
theorem Vh:∀(a:Nat)(f:F),(Z7 a f).length=f.size
 |_,.nil=>rfl
 |a,.cons _ _ _ c r=>by simp only[Z7,F.size,GW,ZU,Vh]
theorem Jc:∀(a:Nat)(f:F),(places a f).length=f.len
 |_,.nil=>rfl
 |a,.cons _ _ _ c r=>by simp only[places,F.len,GW,Jc]
theorem Xe:∀f:F,Zt f=(nodes f).map fun n=>((n.size:Nat):Int)
 | .nil=>rfl
 | .cons k x y c r=>by
   simp only[Zt,nodes,List.map_cons,List.map_append,Xe c,Xe r];rfl
theorem Vw{α:Type}{h:α}{l m:List α}{n q:Nat}(hl:l.length=n):(h::(l++m))[q]?=if q=0 then some h else if q≤n then l[q-1]? else m[q-1-n]?:=by
 subst hl;cases q with
 |zero=>simp
 |succ q =>
  simp only[GV,Nat.add_sub_cancel];rw[if_neg (Nat.succ_ne_zero q)];by_cases h:q<l.length
  ·rw[PX h,if_pos ω]
  ·rw[GK ω,if_neg ω]
theorem Ux:∀(f:F)(a q:Nat)(n:Nd),(nodes f)[q]?=some n→(Z7 a f)[q]?=some (places (a+q+1) n.c)
 | .nil,a,q,n,h=>by simp[nodes]at h
 | .cons k x y c r,a,q,n,h=>by
   simp only[nodes,Z7]at h⊢;rw[Vw (Qj c)]at h;rw[Vw (Vh (a+1) c)];by_cases h0:q=0
   ·rw[if_pos h0]at h⊢;injection h with h;subst h;subst h0;rfl
   ·rw[if_neg h0]at h⊢;by_cases h1:q≤c.size
    ·rw[if_pos h1]at h⊢;rw[Ux c (a+1) (q-1) n h,show a+1+(q-1)+1=a+q+1 by omega]
    ·rw[if_neg h1]at h⊢;rw[Ux r (a+1+c.size) (q-1-c.size) n h,show a+1+c.size+(q-1-c.size)+1=a+q+1 by omega]
theorem Jw:∀(f:F)(a q:Nat),q∈places a f→a≤q∧q<a+f.size
 | .nil,a,q,h=>by simp[places]at h
 | .cons k x y c r,a,q,h=>by
   simp only[places,Tg]at h;simp only[F.size];rcases h with rfl|h
   ·omega
   ·have:=Jw r _ q h;omega
theorem Qbt:∀(f:F)(a j:Nat)(k:Int)(x y:ByteArray)(c r:F),f.drop j=.cons k x y c r→∃q,(places a f)[j]?=some q∧places a f=(places a f).take j++q::places (q+1+c.size) r∧(nodes f)[q-a]?=some ⟨k,x,y,c⟩∧a≤q
 | .nil,a,j,k,x,y,c,r,h=>by rw[F.drop_nil]at h;cases h
 | .cons k' x' y' c' r',a,0,k,x,y,c,r,h=>by
   simp only[F.drop,F.cons.injEq]at h;obtain⟨rfl,rfl,rfl,rfl,rfl⟩:=h;exact⟨a,rfl,rfl,by simp[nodes],Nat.le_refl _⟩
 | .cons k' x' y' c' r',a,j+1,k,x,y,c,r,h=>by
   obtain⟨q,h1,h2,h3,h4⟩:=Qbt r' (a+1+c'.size) j k x y c r h;refine⟨q,by simpa[places]using h1,?_,?_,ω⟩
   ·simp only[places,List.take_succ_cons,List.cons_append];rw[←h2]
   ·simp only[nodes];rw[Vw (Qj c'),if_neg ω,if_neg ω,←h3]
    congr 1
    omega
theorem û:∀(f:F)(p:Int)(a q:Nat),q∈places a f→(Jn p a f)[q-a]?=some p
 | .nil,p,a,q,h=>by simp[places]at h
 | .cons k x y c r,p,a,q,h=>by
   simp only[places,Tg]at h;simp only[Jn];rcases h with rfl|h
   ·simp
   ·have h':=Jw r _ q h;rw[Vw (Y1 (a:Int) (a+1) c),if_neg ω,if_neg ω,←û r p _ q h]
    congr 1
    omega
theorem fg:∀(f:F)(p:Int)(a i q:Nat)(l:List Nat),(Z7 a f)[i]?=some l→q∈l→(Jn p a f)[q-a]?=some ((a+i:Nat):Int)∧a+i<q∧q<a+f.size
 | .nil,p,a,i,q,l,h,_=>by simp[Z7]at h
 | .cons k x y c r,p,a,i,q,l,h,hq=>by
   simp only[Z7]at h;simp only[Jn,F.size];rw[Vw (Vh (a+1) c)]at h;rw[Vw (Y1 (a:Int) (a+1) c)];by_cases h0:i=0
   ·rw[if_pos h0]at h;injection h with h;subst h;subst h0;have hg:=Jw c _ q hq;refine⟨?_,ω,ω⟩;rw[if_neg ω,if_pos ω,show q-a-1=q-(a+1)by omega,û c _ _ q hq];rfl
   ·rw[if_neg h0]at h;by_cases h1:i≤c.size
    ·rw[if_pos h1]at h;obtain⟨e1,e2,e3⟩:=fg c a (a+1) (i-1) q l h hq;refine⟨?_,ω,ω⟩;rw[if_neg ω,if_pos ω,show q-a-1=q-(a+1)by omega,e1]
     congr 2
     omega
    ·rw[if_neg h1]at h;obtain⟨e1,e2,e3⟩:=fg r p (a+1+c.size) (i-1-c.size) q l h hq;refine⟨?_,ω,ω⟩;rw[if_neg ω,if_neg ω,show q-a-1-c.size=q-(a+1+c.size)by omega,e1]
     congr 2
     omega
theorem fB:∀(f:F)(a q:Nat),a≤q→q<a+f.size→q∈places a f∨∃(i:Nat)(l:List Nat),(Z7 a f)[i]?=some l∧q∈l
 | .nil,a,q,h1,h2=>by simp only[F.size]at h2;omega
 | .cons k x y c r,a,q,h1,h2=>by
   simp only[F.size]at h2;by_cases h0:q=a
   ·exact .inl (by simp[places,h0])
   ·by_cases hc:q<a+1+c.size
    ·rcases fB c (a+1) q ω ω with h|⟨i,l,h,hq⟩
     ·exact .inr ⟨0,places (a+1) c,by simp[Z7],h⟩
     ·refine .inr ⟨i+1,l,?_,hq⟩;have hi:i<(Z7 (a+1) c).length:=(List.getElem?_eq_some_iff.1 h).1;simp only[Z7,GV];rw[PX hi,h]
    ·rcases fB r (a+1+c.size) q ω ω with h|⟨i,l,h,hq⟩
     ·exact .inl (by simp only[places,Tg];exact .inr h)
     ·refine .inr ⟨c.size+i+1,l,?_,hq⟩;simp only[Z7,GV];rw[GK (by rw[Vh];omega),Vh,show c.size+i-c.size=i by omega,h]
theorem Jv:∀(f:F)(i:Nat)(n:Nd),(nodes f)[i]?=some n→i+1+n.c.size≤f.size∧∀r,r<n.c.size→(nodes f)[i+1+r]?=(nodes n.c)[r]?
 | .nil,i,n,h=>by simp[nodes]at h
 | .cons k x y c r,i,n,h=>by
   simp only[nodes,F.size]at h⊢;rw[Vw (Qj c)]at h;by_cases h0:i=0
   ·rw[if_pos h0]at h;injection h with h;subst h;subst h0;refine⟨by simp only;omega,fun r hr=>?_⟩;simp only at hr;rw[Vw (Qj c),if_neg ω,if_pos ω]
    congr 1
    omega
   ·rw[if_neg h0]at h;by_cases h1:i≤c.size
    ·rw[if_pos h1]at h;obtain⟨e1,e2⟩:=Jv c (i-1) n h;refine⟨ω,fun r hr=>?_⟩;rw[Vw (Qj c),if_neg ω,if_pos ω,←e2 r hr]
     congr 1
     omega
    ·rw[if_neg h1]at h;obtain⟨e1,e2⟩:=Jv r (i-1-c.size) n h;refine⟨ω,fun r hr=>?_⟩;rw[Vw (Qj c),if_neg ω,if_neg ω,←e2 r hr]
     congr 1
     omega
def one(k:Int)(x y:ByteArray)(c:F):F:=.cons k x y c .nil
theorem Q4(k:Int)(x y:ByteArray)(c:F):(one k x y c).size=c.size+1:=by simp[one,F.size]
theorem Gm(k:Int)(x y:ByteArray)(c:F):nodes (one k x y c)=⟨k,x,y,c⟩::nodes c:=by simp[one,nodes]
def Xw(a b:Nd):Bool:=a.k==b.k&&(a.x.toList==b.x.toList&&(a.y.toList==b.y.toList&&same a.c b.c))
theorem Vy{a b:Nd}:Xw a b=true↔a=b:=by
 obtain⟨k,x,y,c⟩:=a;obtain⟨k',x',y',c'⟩:=b
 constructor
 ·intro h;simp only[Xw,Bool.and_eq_true,beq_iff_eq]at h;obtain⟨h1,h2,h3,h4⟩:=h;rw[h1,U3 h2,U3 h3,same_eq h4]
 ·intro h;injection h with h1 h2 h3 h4;subst h1;subst h2;subst h3;subst h4;simp[Xw,iY]
def Qs(seen:List Nd)(n:Nd):Nat:=seen.findIdx fun s=>Xw s n
def Xq(seen:List Nd)(n:Nd):List Nd:=if Qs seen n=seen.length then seen++[n]else seen
def Qk:List Nd→List Nd→List Nat×List Nd
 |seen,[]=>([],seen)
 |seen,n::L=>(Qs seen n::(Qk (Xq seen n) L).1,(Qk (Xq seen n) L).2)
def Kl:List Nd→F→List (List Nat)
 |_,.nil=>[]
 |seen,.cons k x y c r=>(Qk seen (nodes (one k x y c))).1::Kl (Qk seen (nodes (one k x y c))).2 r
theorem Z0:∀(L seen:List Nd),(Qk seen L).1.length=L.length
 |[],_=>rfl
 |n::L,seen=>by simp only[Qk,GW,Z0 L]
theorem Qrl(seen:List Nd)(n:Nd):(Xq seen n).length≤seen.length+1:=by
 unfold Xq;split
 ·simp
 ·omega
theorem Gh:∀(L seen:List Nd),(Qk seen L).2.length≤seen.length+L.length
 |[],_=>Nat.le_refl _
 |n::L,seen=>by
  have h1:=Gh L (Xq seen n);have h2:=Qrl seen n;simp only[Qk,GW];omega
theorem Qlw{seen:List Nd}{n:Nd}{a:Nat}(ha:a≤seen.length)(h:∀b,b<a→∀s,seen[b]?=some s→Xw s n=false)(h':a=seen.length∨∃s,seen[a]?=some s∧Xw s n=true):Qs seen n=a:=by
 unfold Qs;rcases h' with rfl|⟨s,hs,ht⟩
 ·rw[List.findIdx_eq_length];intro s hs;obtain⟨b,hb,e⟩:=List.getElem_of_mem hs;exact h b hb s (by rw[QN hb,e])
 ·have hlt:=(List.getElem?_eq_some_iff.1 hs).1;rw[List.findIdx_eq hlt];refine⟨?_,fun b hb=>?_⟩
  ·rw[(List.getElem?_eq_some_iff.1 hs).2];exact ht
  ·exact h b hb _ (QN ω)
theorem Quo(seen:List Nd)(n:Nd):(Xq seen n)[Qs seen n]?=some n:=by
 unfold Xq;by_cases h:Qs seen n=seen.length
 ·rw[if_pos h,h];simp
 ·rw[if_neg h];have hlt:Qs seen n<seen.length:=Nat.lt_of_le_of_ne List.findIdx_le_length h;have ht:Xw (seen[Qs seen n]'hlt) n=true:=List.findIdx_getElem (w:=hlt);rw[QN hlt,Vy.1 ht]
theorem Qkm{seen:List Nd}{n:Nd}(h:seen.Nodup):(Xq seen n).Nodup:=by
 unfold Xq;by_cases hl:Qs seen n=seen.length
 ·rw[if_pos hl,List.nodup_append];refine⟨h,ψ,fun a ha b hb e=>?_⟩;rw[List.mem_singleton.1 hb]at e;subst e;have:=(List.findIdx_eq_length.1 hl) a ha;rw[Vy.2 rfl]at this;cases this
 ·rw[if_neg hl];exact h
theorem Qrk(seen:List Nd)(n:Nd):seen <+: Xq seen n:=by
 unfold Xq;split
 ·exact List.prefix_append _ _
 ·exact List.prefix_refl _
theorem og:∀(L seen:List Nd),seen <+: (Qk seen L).2
 |[],_=>List.prefix_refl _
 |n::L,seen=>(Qrk seen n).trans (og L (Xq seen n))
theorem Y5:∀(L seen:List Nd),seen.Nodup→(Qk seen L).2.Nodup
 |[],_,h=>h
 |n::L,seen,h=>Y5 L (Xq seen n) (Qkm h)
theorem pM{l m:List Nd}(h:l <+: m){i:Nat}{n:Nd}(hi:l[i]?=some n):m[i]?=some n:=by
 obtain⟨t,rfl⟩:=h;rw[PX (List.getElem?_eq_some_iff.1 hi).1,hi]
theorem rG:∀(L seen:List Nd)(i:Nat)(n:Nd)(q:Nat),L[i]?=some n→(Qk seen L).1[i]?=some q→(Qk seen L).2[q]?=some n
 |[],_,i,n,q,h,_=>by simp at h
 |m::L,seen,0,n,q,h,hq=>by
  simp only[List.getElem?_cons_zero,Option.some.injEq,Qk]at h hq;subst h;subst hq;exact pM (og L _) (Quo seen m)
 |m::L,seen,i+1,n,q,h,hq=>rG L (Xq seen m) i n q (by simpa using h) (by simpa[Qk]using hq)
theorem Qiw{L M:List Nd}{i j p q:Nat}{a b:Nd}(ha:L[i]?=some a)(hb:M[j]?=some b)(hp:(Qk [] L).1[i]?=some p)(hq:(Qk (Qk [] L).2 M).1[j]?=some q):(p=q)↔a=b:=by
 have h1:=pM (og M (Qk [] L).2) (rG L [] i a p ha hp);have h2:=rG M (Qk [] L).2 j b q hb hq;have hn:=Y5 M (Qk [] L).2 (Y5 L [] List.nodup_nil)
 constructor
 ·intro e;subst e;exact Option.some.inj (h1.symm.trans h2)
 ·intro e;subst e;obtain⟨l1,e1⟩:=List.getElem?_eq_some_iff.1 h1;obtain⟨l2,e2⟩:=List.getElem?_eq_some_iff.1 h2;exact(List.getElem_inj hn).1 (e1.trans e2.symm)
end Shape
namespace Lex
structure Tok where
 kind:Int
 text:List Int
 place:Nat
 first:Bool
deriving DecidableEq
theorem Qdg(c:Int)(r:List Int):piece (c::r) =
 if kd c=1 then(1,Xu (c::r))
 else if kd c=2 then(2,OE (c::r))
 else if kd c=3 then(3,DI (c::r))
 else if kd c=4 then(if(c::r).take 2=[47,47]then(5,Bw (c::r))else(4,Qk (c::r)))
 else(kd c,1):=rfl
theorem ie:∀l,(piece l).2≤l.length
 |[]=>QI _
 |c::r=>by
  have h1:Xu (c::r)≤(c::r).length:=Yd _ _;have h2:OE (c::r)≤(c::r).length:=by unfold OE bC;have:=Yd NB (c::r);split <;> omega
  have h3:DI (c::r)≤(c::r).length:=by have:=fG r.length r (QI _);simp only[DI,List.length_cons];split <;> omega
  have h5:Bw (c::r)≤(c::r).length:=by unfold Bw;have:=AX ((c::r).take (Kc (c::r)));rw[JS]at this;omega
  have h4:Qk (c::r)≤(c::r).length:=by
   unfold Qk;split
   ·rename_i h
    cases r with
    |nil=>simp[Y4]at h
    |cons d r'=>simp
   ·split <;> simp
  rw[Qdg];split
  ·exact h1
  split
  ·exact h2
  split
  ·exact h3
  split
  ·split
   ·exact h5
   ·exact h4
  ·simp
def Nf:Nat→List Int→List (Int×List Int)×List Int
 |0,l=>([],l)
 |f+1,l=>if(piece l).2=0 then([],l)else(((piece l).1,l.take (piece l).2)::(Nf f (l.drop (piece l).2)).1,(Nf f (l.drop (piece l).2)).2)
def pF:List Int→List (Int×List Int)→List Int→Prop
 |l,[],z=>l=z∧(piece z).2=0
 |l,(k,t)::ps,z=>∃r,l=t++r∧piece l=(k,t.length)∧t.length≠0∧pF r ps z
theorem Qe6:∀(f:Nat)(l:List Int),l.length≤f→pF l (Nf f l).1 (Nf f l).2
 |0,l,h=>by
  have:l=[]:=List.eq_nil_of_length_eq_zero ω;subst this;exact⟨rfl,rfl⟩
 |f+1,l,h=>by
  unfold Nf;split
  ·rename_i h0;exact⟨rfl,h0⟩
  ·rename_i h0
   have hle:=ie l;have hlen:(l.take (piece l).2).length=(piece l).2:=by rw[JS];omega
   exact⟨l.drop (piece l).2,(List.take_append_drop _ _).symm,by rw[hlen],ω,Qe6 f _ (by rw[List.length_drop];omega)⟩
def pieces(l:List Int):List (Int×List Int):=(Nf l.length l).1
def left(l:List Int):List Int:=(Nf l.length l).2
theorem Qqn(l:List Int):pF l (pieces l) (left l):=Qe6 _ _ (QI _)
def cat:List (Int×List Int)→List Int
 |[]=>[]
 |(_,t)::ps=>t++cat ps
theorem Qe7:∀{ps:List (Int×List Int)}{l z:List Int},pF l ps z→l=cat ps++z
 |[],_,_,h=>h.1
 |(k,t)::ps,l,z,⟨r,h1,_,_,h3⟩=>by
  rw[h1,Qe7 h3];simp[cat]
def words:List (List Int):=[[112,97,99,107,97,103,101],[105,109,112,111,114,116],[99,111,110,115,116],[118,97,114],[116,121,112,101],[102,117,110,99],[109,97,112],[115,116,114,117,99,116],
 [105,102],[101,108,115,101],[102,111,114],[114,101,116,117,114,110],[98,114,101,97,107],[99,111,110,116,105,110,117,101]]
def bG:List Int:=[114,101,116,117,114,110]
def bE:List Int:=[98,114,101,97,107]
def bF:List Int:=[99,111,110,116,105,110,117,101]
def isWord(t:List Int):Bool:=decide (t∈words)
def bO:List (List Int):=[[41],[93],[125],[43,43],[45,45]]
def closes(k:Int)(t:List Int):Bool :=
 if k=2∨k=3 then true
 else if k=1 then !isWord t||decide (t=bG)||decide (t=bE)||decide (t=bF)
 else if k=4 then decide (t∈bO)
 else false
structure St where
 ZH:List Tok
 first:Bool
 opn:Bool
 Mx:Nat
def Xj(s:St):St:=⟨s.ZH++[⟨6,[],s.Mx,false⟩],s.first,false,s.Mx⟩
def keep(s:St)(k:Int)(t:List Int)(at_:Nat):St :=
 let s1:=if s.opn=true∧(k=8∨k=5)then Xj s else s
 if k=8 then⟨s1.ZH,true,s1.opn,s1.Mx⟩
 else if k=7 then s1
 else⟨s1.ZH++[⟨k,t,at_,s1.first⟩],false,closes k t,at_+t.length⟩
def Uc:St→Nat→List (Int×List Int)→St
 |s,_,[]=>s
 |s,n,(k,t)::ps=>Uc (keep s k t n) (n+t.length) ps
def over:List (Int×List Int)→Bool
 |[]=>true
 |(k,_)::ps=>if k=7 then over ps else decide (k=8∨k=5)
def fin:List (Int×List Int)→Nat→Bool→List Tok
 |[],_,_=>[]
 |(k,t)::ps,n,f =>
  if k=8 then fin ps (n+t.length) true
  else if k=7 then fin ps (n+t.length) f
  else⟨k,t,n,f⟩::((if closes k t&&over ps then[⟨6,[],n+t.length,false⟩]else[])++fin ps (n+t.length) false)
theorem Qg3(t:List Int)(k:Int)(h:k=7∨k=8∨k=5∨k=6):closes k t=false:=by
 unfold closes;rw[if_neg ω,if_neg ω,if_neg ω]
theorem ŵ:∀(ps:List (Int×List Int))(s:St)(n:Nat),
 (keep (Uc s n ps) 8 [] 0).ZH=s.ZH++((if s.opn&&over ps then[⟨6,[],s.Mx,false⟩]else[])++fin ps n s.first)
 |[],s,n=>by
  cases ho:s.opn <;> simp[Uc,keep,fin,over,Xj,ho]
 |(k,t)::ps,s,n=>by
  simp only[Uc];rw[ŵ ps];by_cases h8:k=8
  ·subst h8;cases ho:s.opn <;> simp[keep,fin,over,Xj,ho]
  ·by_cases h7:k=7
   ·subst h7;cases ho:s.opn <;> simp[keep,fin,over,ho]
   ·by_cases h5:k=5
    ·subst h5;have hc:=Qg3 t 5 ω;cases ho:s.opn <;> simp[keep,fin,over,Xj,ho,hc]
    ·cases ho:s.opn <;> simp[keep,fin,over,ho,h8,h7,h5]
def st0:St:=⟨[],true,false,0⟩
def ZH(l:List Int):List Tok:=fin (pieces l) 0 true
theorem Qpa(l:List Int):(keep (Uc st0 0 (pieces l)) 8 [] 0).ZH=ZH l:=by
 rw[ŵ];simp[st0,ZH]
def Yn:Nat→List Int→Nat→St→St×Nat
 |0,_,n,s=>(s,n)
 |f+1,l,n,s=>if(piece l).2=0 then(s,n)else Yn f (l.drop (piece l).2) (n+(piece l).2) (keep s (piece l).1 (l.take (piece l).2) n)
theorem Qe0:∀(f:Nat)(l:List Int)(n:Nat)(s:St),Yn f l n s=(Uc s n (Nf f l).1,n+(l.length-(Nf f l).2.length))
 |0,l,n,s=>by simp[Yn,Nf,Uc]
 |f+1,l,n,s=>by
  unfold Yn Nf;split
  ·simp[Uc]
  ·rename_i h0
   have hle:=ie l;have hlen:(l.take (piece l).2).length=(piece l).2:=by rw[JS];omega
   have hl2:(Nf f (l.drop (piece l).2)).2.length≤(l.drop (piece l).2).length:=by
    generalize l.drop (piece l).2=r;clear h0 hle hlen
    induction f generalizing r with
    |zero=>exact QI _
    |succ f ih =>
     unfold Nf;split
     ·exact QI _
     ·have:=ih (r.drop (piece r).2);rw[List.length_drop]at this;simp only;omega
   rw[Qe0 f];simp only[Uc,hlen];rw[List.length_drop]at hl2⊢
   congr 1
   omega
theorem Qqg(l:List Int):Yn l.length l 0 st0=(Uc st0 0 (pieces l),l.length-(left l).length):=by
 rw[Qe0];simp[pieces,left]
theorem Qvk(l:List Int):(left l).length≤l.length:=by
 have:=congrArg List.length (Qe7 (Qqn l));rw[List.length_append]at this;omega
def plain:List (Int×List Int)→Nat→Nat→Bool→List (Tok×Nat)
 |[],_,_,_=>[]
 |(k,t)::ps,n,ln,f =>
  if k=8 then plain ps (n+t.length) (ln+1) true
  else if k=7 then plain ps (n+t.length) ln f
  else(⟨k,t,n,f⟩,ln)::plain ps (n+t.length) ln false
def Q3(ln:Nat):List (Tok×Nat)→Bool
 |[]=>true
 |(t,m)::r=>if t.kind=5∧m=ln then Q3 ln r else decide (ln<m)
theorem getD_drop(l:List Int)(n i:Nat):(l.drop n).getD i 0=l.getD (n+i) 0:=by simp[List.getD,List.getElem?_drop]
theorem getD_take{l:List Int}{n i:Nat}(h:i<n):(l.take n).getD i 0=l.getD i 0:=by simp[List.getD,h]
open Ro
theorem Zc{a b:Int}(h:a≠b):(a==b)=false:=beq_eq_false_iff_ne.2 h
theorem Jj(c:Int)(w:World)(h0:0≤c)(h1:c<256) :
 Calls prog 110 #[ι .u8 c] w fun e w'=>e=ρ (ι γ (kd c))∧w=w':=by
 by_cases dZ:c=95
 ·subst dZ;rw[show kd 95=1 from rfl];go_enter func110,ntmps110;go_wp2;go_ret;exact⟨rfl,rfl⟩
 by_cases bh:c=34
 ·subst bh;rw[show kd 34=3 from rfl];go_enter func110,ntmps110;go_wp2;go_ret;exact⟨rfl,rfl⟩
 by_cases bg:c=59
 ·subst bg;rw[show kd 59=6 from rfl];go_enter func110,ntmps110;go_wp2;go_ret;exact⟨rfl,rfl⟩
 by_cases bj:c=32
 ·subst bj;rw[show kd 32=7 from rfl];go_enter func110,ntmps110;go_wp2;go_ret;exact⟨rfl,rfl⟩
 by_cases c9:c=9
 ·subst c9;rw[show kd 9=7 from rfl];go_enter func110,ntmps110;go_wp2;go_ret;exact⟨rfl,rfl⟩
 by_cases c13:c=13
 ·subst c13;rw[show kd 13=7 from rfl];go_enter func110,ntmps110;go_wp2;go_ret;exact⟨rfl,rfl⟩
 by_cases c10:c=10
 ·subst c10;rw[show kd 10=8 from rfl];go_enter func110,ntmps110;go_wp2;go_ret;exact⟨rfl,rfl⟩
 have b95:=Zc dZ;have b34:=Zc bh;have b59:=Zc bg;have b32:=Zc bj;have b9:=Zc c9;have TN:=Zc c13;have Rn:=Zc c10;have hk:(c<48∧kd c=4)∨(48≤c∧c≤57∧kd c=2)∨(57<c∧c<65∧kd c=4)∨(65≤c∧c≤90∧kd c=1)∨(90<c∧c<97∧kd c=4)∨(97≤c∧c≤122∧kd c=1)∨(122<c∧kd c=4):=by
  unfold kd;repeat' split
  all_goals omega
 generalize kd c=q at *;clear dZ bh bg bj c9 c13 c10;rcases hk with⟨d1,rfl⟩|⟨d1,d2,rfl⟩|⟨d1,d2,rfl⟩|⟨d1,d2,rfl⟩|⟨d1,d2,rfl⟩|⟨d1,d2,rfl⟩|⟨d1,rfl⟩
 all_goals
  go_enter func110,ntmps110;go_wp2;go_ret;exact⟨rfl,rfl⟩
theorem iW{p:Int→Bool}{l:List Int}{k:Nat}(h:k≤lead p l)(hk:k<l.length)(hp:p (l.getD k 0)=true):k+1≤lead p l:=by
 rcases Nat.lt_or_ge k (lead p l)with h' |h'
 ·exact h'
 ·have e:lead p l=k:=ω
  have:=ŝ p l ω;rw[e,hp]at this;cases this
theorem Đ{p:Int→Bool}{l:List Int}{k:Nat}(h:k≤lead p l)(hp:p (l.getD k 0)=false):lead p l=k:=by
 rcases Nat.lt_or_ge k (lead p l)with h' |h'
 ·have:=Ļ p l k h';rw[hp]at this;cases this
 ·omega
theorem ļ{p:Int→Bool}{l:List Int}{k:Nat}(h:k≤lead p l)(hk:l.length≤k):lead p l=k:=by
 have:=Yd p l;omega
theorem yE{w:World}{b off:Nat}{xs:List Int}{k:Nat}(hc:∀i,i<xs.length→w.cell? ⟨b,off+i,none⟩=some (ι .u8 (xs.getD i 0)))(hb:KC xs)(hk:k<xs.length) :
 ∃d,xs.getD k 0=d∧w.cell? ⟨b,off+k,none⟩=some (ι .u8 d)∧0≤d∧d<256 :=
 ⟨_,rfl,hc k hk,(hb.getD k).1,(hb.getD k).2⟩
theorem Ŋ(A:Option Addr)(n cap:Nat)(xs:List Int)(w:World)(B:Nat)(h:RB w B A xs)(hn:xs.length=n)(hn0:0<n)(hcap:n≤cap)(QT:cap≤maxLen) :
 Calls prog 111 #[ς A n cap] w fun e w'=>e=ρ (ι γ (Xu xs))∧w=w':=by
 obtain⟨b,off,rfl,_,hc⟩:=h.cell (by intro e;rw[e]at hn;simp at hn;omega);have HC:=QA hc;clear hc;have HB:=QA h.Bu;clear h;have Hn:=QA hn;clear hn;unfold maxLen at QT;have hL:Xu xs=lead qu xs:=rfl;go_enter func111,ntmps111;go_wp2
 go_loop [3,4,5,8] (fun _ _ _ i=>∃k:Nat,k≤n∧i=ι γ k∧Hid (k≤lead qu xs)) (fun _ _ _ i=>n-(intOf i).toNat)
 case atStart=>exact⟨0,ω,rfl,Nat.zero_le _⟩
 case round =>
  obtain⟨k,hk,rfl,hle⟩:=hrel;by_cases hlt:k<n
  ·obtain⟨d,hd,hcell,hd0,hd1⟩:=yE HC.out HB.out (k:=k) (by rw[Hn.out];exact hlt);have UZ:=QA (Jj d w hd0 hd1);have HS:Hid (qu d=true→k+1≤lead qu xs):=fun hp=>iW hle.out (by rw[Hn.out];exact hlt) (by rw[hd];exact hp)
   have HE:Hid (qu d=false→Xu xs=k):=fun hp=>Đ hle.out (by rw[hd];exact hp)
   have hl:qu d=(kd d==1||kd d==2):=rfl;rw[hl]at HS HE;generalize kd d=q at *;clear hl hd hle hL;by_cases q1:q=1
   ·subst q1;have SA:=QA (HS.out rfl);clear HS HE;go_wp2_with (go_at_call 110;refine UZ.out.mono ?_;rintro e w' ⟨rfl,rfl⟩)
    go_round
    case rel=>exact⟨k+1,ω,by go_num,SA.out⟩
    case measure=>simp[intOf];omega
   by_cases q2:q=2
   ·subst q2;have SA:=QA (HS.out rfl);clear HS HE;go_wp2_with (go_at_call 110;refine UZ.out.mono ?_;rintro e w' ⟨rfl,rfl⟩)
    go_round
    case rel=>exact⟨k+1,ω,by go_num,SA.out⟩
    case measure=>simp[intOf];omega
   ·have Sq:=QA (HE.out (by rw[Zc q1,Zc q2];rfl));clear HS HE;have n1:(q != 1)=true:=by rw[bne_iff_ne];exact q1
    have n2:(q != 2)=true:=by rw[bne_iff_ne];exact q2
    clear q1 q2;go_wp2_with (go_at_call 110;refine UZ.out.mono ?_;rintro e w' ⟨rfl,rfl⟩);go_ret;rw[Sq.out];exact⟨rfl,rfl⟩
  ·have HE:=QA (ļ hle.out (by rw[Hn.out];omega));obtain rfl:n=k:=ω
   clear hL hle;go_wp2;go_ret;exact⟨r7 (by unfold Xu;rw[HE.out]),rfl⟩
theorem Qk9(A:Option Addr)(n cap:Nat)(xs:List Int)(w:World)(B:Nat)(h:RB w B A xs)(hn:xs.length=n)(hn0:0<n)(hd0:NB (xs.getD 0 0)=true)(hcap:n≤cap)(QT:cap≤maxLen) :
 Calls Tryz.prog 161 #[ς A n cap] w fun e w'=>e=ρ (ι γ (OE xs))∧w=w':=by
 obtain⟨b,off,rfl,_,hc⟩:=h.cell (by intro e;rw[e]at hn;simp at hn;omega);have HC:=QA hc;clear hc;have HB:=QA h.Bu;clear h;have H1:Hid (1≤lead NB xs):=iW (Nat.zero_le _) ω hd0;obtain⟨z,hz,hz0,hz1,hz2⟩:=yE HC.out HB.out (k:=0) ω;rw[Nat.add_zero]at hz0;have HN:Hid (OE xs=if 1<lead NB xs∧z=48 then 0 else lead NB xs):=by rw[←hz];rfl
 have Hn:=QA hn;clear hn hd0 hz;unfold maxLen at QT;go_enter Tryz.func161,Tryz.ntmps161;go_wp2
 go_loop [3] (fun i=>∃k:Nat,1≤k∧k≤n∧i=ι γ k∧Hid (k≤lead NB xs)) (fun i=>n-(intOf i).toNat)
 case atStart=>exact⟨1,ω,ω,rfl,H1.out⟩
 case round =>
  obtain⟨k,hk1,hk,rfl,hle⟩:=hrel;have JM:Hid (lead NB xs=k→OE xs=if 1<k∧z=48 then 0 else k):=fun e=>by rw[HN.out,e]
  by_cases hlt:k<n
  ·obtain⟨d,hd,hcell,hd0,hd1⟩:=yE HC.out HB.out (k:=k) (by rw[Hn.out];exact hlt);have UZ:=QA (Jj d w hd0 hd1);have HS:Hid (kd d=2→k+1≤lead NB xs):=fun hp=>iW hle.out (by rw[Hn.out];exact hlt) (by rw[hd];unfold NB;rw[hp];rfl)
   have HE:Hid (kd d≠2→lead NB xs=k):=fun hp=>Đ hle.out (by rw[hd];unfold NB;exact Zc hp)
   generalize kd d=q at *;clear hd hle;by_cases q2:q=2
   ·subst q2;have SA:=QA (HS.out rfl);clear HS HE;go_wp2_with (go_at_call 110;refine UZ.out.mono ?_;rintro e w' ⟨rfl,rfl⟩)
    go_round
    case rel=>exact⟨k+1,ω,ω,by go_num,SA.out⟩
    case measure=>simp[intOf];omega
   ·have Sq:=QA (JM.out (HE.out q2));clear HS HE JM;have n2:=Zc q2;clear q2;by_cases hk2:1<k
    ·by_cases BM:z=48
     ·subst BM;rw[if_pos ⟨hk2,rfl⟩]at Sq;go_wp2_with (go_at_call 110;refine UZ.out.mono ?_;rintro e w' ⟨rfl,rfl⟩);go_ret;rw[Sq.out];exact⟨rfl,rfl⟩
     ·rw[if_neg (fun h=>BM h.2)]at Sq;have zb:=Zc BM;clear BM;go_wp2_with (go_at_call 110;refine UZ.out.mono ?_;rintro e w' ⟨rfl,rfl⟩);go_ret;rw[Sq.out];exact⟨rfl,rfl⟩
    ·rw[if_neg (fun h=>hk2 h.1)]at Sq;go_wp2_with (go_at_call 110;refine UZ.out.mono ?_;rintro e w' ⟨rfl,rfl⟩);go_ret;rw[Sq.out];exact⟨rfl,rfl⟩
  ·have Sq:=QA (JM.out (ļ hle.out (by rw[Hn.out];omega)));clear hle JM HN H1;by_cases hk2:1<k
   ·by_cases BM:z=48
    ·subst BM;rw[if_pos ⟨hk2,rfl⟩]at Sq;go_wp2;go_ret;rw[Sq.out];exact⟨rfl,rfl⟩
    ·rw[if_neg (fun h=>BM h.2)]at Sq;have zb:=Zc BM;clear BM;go_wp2;go_ret;rw[Sq.out];exact⟨rfl,rfl⟩
   ·rw[if_neg (fun h=>hk2 h.1)]at Sq;go_wp2;go_ret;rw[Sq.out];exact⟨rfl,rfl⟩
def PW(xs:List Int)(i:Nat):Prop:=DI xs=if Zb (xs.drop i)=0 then 0 else i+Zb (xs.drop i)
theorem Qkj(r:List Int):Zb (34::r)=1:=by unfold Zb;rw[if_pos rfl]
theorem Qq5(r:List Int):Zb (92::10::r)=0:=by unfold Zb;rfl
theorem Qn0:Zb [92]=0:=by unfold Zb;rfl
theorem Qxu{d:Int}(r:List Int)(h:d≠10):Zb (92::d::r)=if Zb r=0 then 0 else Zb r+2:=by
 conv=>lhs;unfold Zb
 rw[if_neg ω,if_neg ω,if_pos rfl];simp only[if_neg h]
theorem Qq6{c:Int}(r:List Int)(h1:c≠34)(h2:c≠10)(h3:c≠92):Zb (c::r)=if Zb r=0 then 0 else Zb r+1:=by
 conv=>lhs;unfold Zb
 rw[if_neg h1,if_neg h2,if_neg h3]
theorem Quv{xs:List Int}(h:xs≠[]):PW xs 1:=by
 cases xs with
 |nil=>exact absurd rfl h
 |cons c r=>show(if Zb r=0 then 0 else Zb r+1)=_;simp only[List.drop_succ_cons,List.drop_zero];split <;> omega
theorem drop_at{xs:List Int}{i:Nat}(h:i<xs.length):xs.drop i=xs.getD i 0::xs.drop (i+1):=by
 rw[List.drop_eq_getElem_cons h];simp[List.getD,h]
theorem Quw{xs:List Int}{i:Nat}(h:PW xs i)(hi:i<xs.length)(hc:xs.getD i 0=34):DI xs=i+1:=by
 have e:Zb (xs.drop i)=1:=by rw[drop_at hi,hc,Qkj]
 unfold PW at h;rw[e]at h;exact h
theorem Q0a{xs:List Int}{i:Nat}(h:PW xs i)(hi:i<xs.length)(hc:xs.getD i 0=10):DI xs=0:=by
 have e:Zb (xs.drop i)=0:=by rw[drop_at hi,hc,Qq4]
 unfold PW at h;rw[e]at h;exact h
theorem Qx2{xs:List Int}{i:Nat}(h:PW xs i)(hi:xs.length≤i):DI xs=0:=by
 unfold PW at h;rw[List.drop_eq_nil_of_le hi]at h;exact h
theorem Qx3{xs:List Int}{i:Nat}(h:PW xs i)(hi:i<xs.length)(h1:xs.getD i 0≠34)(h2:xs.getD i 0≠10)(h3:xs.getD i 0≠92):PW xs (i+1):=by
 have e:=Qq6 (xs.drop (i+1)) h1 h2 h3;rw[←drop_at hi]at e;unfold PW at h⊢;rw[h,e];generalize Zb (xs.drop (i+1))=k;by_cases hk:k=0
 ·simp[hk]
 ·simp[hk];omega
theorem Qoc{xs:List Int}{i:Nat}(h:PW xs i)(hi:i+1<xs.length)(h3:xs.getD i 0=92)(h4:xs.getD (i+1) 0=10):DI xs=0:=by
 have e:Zb (xs.drop i)=0:=by rw[drop_at (show i<xs.length by omega),h3,drop_at hi,h4,Qq5]
 unfold PW at h;rw[e]at h;exact h
theorem Qx4{xs:List Int}{i:Nat}(h:PW xs i)(hi:i+1<xs.length)(h3:xs.getD i 0=92)(h4:xs.getD (i+1) 0≠10):PW xs (i+1+1):=by
 have e:=Qxu (xs.drop (i+1+1)) h4;rw[←drop_at hi,←h3,←drop_at (show i<xs.length by omega)]at e;unfold PW at h⊢;rw[h,e];generalize Zb (xs.drop (i+1+1))=k;by_cases hk:k=0
 ·simp[hk]
 ·simp[hk];omega
theorem Qkz{xs:List Int}{i:Nat}(h:PW xs i)(hi:i+1=xs.length)(h3:xs.getD i 0=92):PW xs (i+1+1):=by
 have e:Zb (xs.drop i)=0:=by rw[drop_at (show i<xs.length by omega),h3,List.drop_eq_nil_of_le (show xs.length≤i+1 by omega),Qn0]
 unfold PW at h⊢;rw[e]at h;rw[List.drop_eq_nil_of_le (show xs.length≤i+1+1 by omega)];exact h
theorem Qky(A:Option Addr)(n cap:Nat)(xs:List Int)(w:World)(B:Nat)(h:RB w B A xs)(hn:xs.length=n)(hn0:0<n)(hcap:n≤cap)(QT:cap≤maxLen)(hsm:n≤1000000) :
 Calls Tryz.prog 162 #[ς A n cap] w fun e w'=>e=ρ (ι γ (DI xs))∧w=w':=by
 have hne:xs≠[]:=by intro e;rw[e]at hn;simp at hn;omega
 obtain⟨b,off,rfl,_,hc⟩:=h.cell hne;have HC:=QA hc;clear hc;have HB:=QA h.Bu;clear h;have H1:=QA (Quv hne);clear hne;have Hn:=QA hn;clear hn;unfold maxLen at QT;go_enter Tryz.func162,Tryz.ntmps162;go_wp2
 go_loop [3] (fun i=>∃k:Nat,1≤k∧k≤n+1∧i=ι γ k∧Hid (PW xs k)) (fun i=>n+1-(intOf i).toNat)
 case atStart=>exact⟨1,ω,ω,rfl,H1.out⟩
 case round =>
  obtain⟨k,hk1,hk,rfl,hq⟩:=hrel;by_cases hlt:k<n
  ·obtain⟨d,hd,hcell,hd0,hd1⟩:=yE HC.out HB.out (k:=k) (by rw[Hn.out];exact hlt);have HD:=QA hd;clear hd;by_cases d34:d=34
   ·have HE:=QA (Quw hq.out (by rw[Hn.out];exact hlt) (by rw[HD.out,d34]));subst d34;clear HD hq;go_wp2;go_ret;rw[HE.out];exact⟨rfl,rfl⟩
   by_cases d10:d=10
   ·have HE:=QA (Q0a hq.out (by rw[Hn.out];exact hlt) (by rw[HD.out,d10]));subst d10;clear HD hq;go_wp2;go_ret;rw[HE.out];exact⟨rfl,rfl⟩
   by_cases d92:d=92
   ·by_cases FA:k+1<n
    ·obtain⟨d',hd',cJ,Q27,Q26⟩:=yE HC.out HB.out (k:=k+1) (by rw[Hn.out];exact FA);have sP:=QA hd';clear hd';by_cases e10:d'=10
     ·have HE:=QA (Qoc hq.out (by rw[Hn.out];exact FA) (by rw[HD.out,d92]) (by rw[sP.out,e10]));subst d92;subst e10;clear HD sP hq d34 d10;go_wp2;go_ret;rw[HE.out];exact⟨rfl,rfl⟩
     ·have HE:=QA (Qx4 hq.out (by rw[Hn.out];exact FA) (by rw[HD.out,d92]) (by rw[sP.out];exact e10));have Rn:=Zc e10;subst d92;clear HD sP hq d34 d10 e10;go_wp2
      go_round
      case rel=>exact⟨k+1+1,ω,ω,by go_num,HE.out⟩
      case measure=>simp[intOf];omega
    ·have HE:=QA (Qkz hq.out (by rw[Hn.out];omega) (by rw[HD.out,d92]));subst d92;clear HD hq d34 d10;go_wp2
     go_round
     case rel=>exact⟨k+1+1,ω,ω,by go_num,HE.out⟩
     case measure=>simp[intOf];omega
   ·have HE:=QA (Qx3 hq.out (by rw[Hn.out];exact hlt) (by rw[HD.out];exact d34) (by rw[HD.out];exact d10) (by rw[HD.out];exact d92));have b34:=Zc d34;have Rn:=Zc d10;have b92:=Zc d92;clear HD hq d34 d10 d92;go_wp2
    go_round
    case rel=>exact⟨k+1,ω,ω,by go_num,HE.out⟩
    case measure=>simp[intOf];omega
  ·have HE:=QA (Qx2 hq.out (by rw[Hn.out];omega));clear hq;go_wp2;go_ret;rw[HE.out];exact⟨rfl,rfl⟩
end Lex
end Go.Proofs.YtmepekognmlblaaGreatDoor
namespace Go.Proofs
def Tryz.RD:Go.Shelf.Ren:=⟨fun|185=>171|187=>176|115=>168|253=>177|224=>178|254=>179|255=>183|291=>184|n=>n,fun|37=>103|3=>3|4=>4|0=>0|5=>5|46=>148|9=>9|146=>202|51=>176|n=>n,fun|1=>4|n=>n⟩
theorem Tryz.Fe:Go.Proofs.Lays.n185 prog Tryz.RD:={
 mixed:=by kernel_rfl
 f115:=func168.trans (congrArg some (by kernel_rfl))
 f185:=func171.trans (congrArg some (by kernel_rfl))
 f187:=func176.trans (congrArg some (by kernel_rfl))
 f224:=func178.trans (congrArg some (by kernel_rfl))
 f253:=func177.trans (congrArg some (by kernel_rfl))
 f254:=func179.trans (congrArg some (by kernel_rfl))
 f255:=func183.trans (congrArg some (by kernel_rfl))
 f291:=func184.trans (congrArg some (by kernel_rfl))
 t0:=underlying0
 a0:=Tryz.isAgg0
 z0:=Tryz.sizeOf0
 v0:=Tryz.zeroValue0
 t3:=underlying3
 a3:=Tryz.isAgg3
 z3:=Tryz.sizeOf3
 v3:=Tryz.zeroValue3
 t4:=underlying4
 a4:=Tryz.isAgg4
 z4:=Tryz.sizeOf4
 v4:=Tryz.zeroValue4
 t5:=underlying5
 a5:=Tryz.isAgg5
 z5:=Tryz.sizeOf5
 v5:=Tryz.zeroValue5
 t9:=underlying9
 a9:=Tryz.isAgg9
 z9:=Tryz.sizeOf9
 v9:=Tryz.zeroValue9
 t37:=underlying103
 a37:=Tryz.isAgg103
 z37:=Tryz.sizeOf103
 v37:=Tryz.zeroValue103
 t46:=underlying148
 a46:=Tryz.isAgg148
 z46:=Tryz.sizeOf148
 v46:=Tryz.zeroValue148
 t51:=underlying176
 a51:=Tryz.isAgg176
 z51:=Tryz.sizeOf176
 v51:=Tryz.zeroValue176
 t146:=underlying202
 a146:=Tryz.isAgg202
 z146:=Tryz.sizeOf202
 v146:=Tryz.zeroValue202
 g1:=by kernel_rfl }
open Go.RowKit Go.Lib in
/-- bytes.Index at a separator of one byte: "Index returns the index of the first instance of sep in s, or -1 if sep is not present in s.": 'Lib.AH of s's bytes and that byte; the world is as it was. 'xs': s's elements; 'cv': the IU one byte. (LAID: no walk: one application.) -/
theorem Tryz.bytes_Index_one(b o n c b2 o2 d:Nat)(xs:List Int)(cv:Int)(w:World)(hx:xs.length=n)(hc:∀i,i<n→w.cell? ⟨b,o+i,none⟩=some (ι .u8 (xs.getD i 0)))(hc2:w.cell? ⟨b2,o2,none⟩=some (ι .u8 cv)) :
 Calls prog 171 #[ς (some ⟨b,o,none⟩) n c,ς (some ⟨b2,o2,none⟩) 1 d] w fun e w'=>e=ρ (ι γ (Lib.indexByte (Lib.bytesOf xs) cv.toNat.toUInt8))∧w'=w:=Any.bytes_Index_one Tryz.Fe b o n c b2 o2 d xs cv w hx hc hc2
def Tryz.LQ:Go.Shelf.Ren:=⟨fun|116=>163|115=>168|n=>n,fun|37=>103|4=>4|3=>3|9=>9|5=>5|n=>n,fun|n=>n⟩
theorem Tryz.Nl:Go.Proofs.Lays.nb116 prog Tryz.LQ:={
 mixed:=by kernel_rfl
 f115:=func168.trans (congrArg some (by kernel_rfl))
 f116:=func163.trans (congrArg some (by kernel_rfl))
 t3:=underlying3
 a3:=Tryz.isAgg3
 z3:=Tryz.sizeOf3
 v3:=Tryz.zeroValue3
 t4:=underlying4
 a4:=Tryz.isAgg4
 z4:=Tryz.sizeOf4
 v4:=Tryz.zeroValue4
 t9:=underlying9
 a9:=Tryz.isAgg9
 z9:=Tryz.sizeOf9
 v9:=Tryz.zeroValue9
 t37:=underlying103
 a37:=Tryz.isAgg103
 z37:=Tryz.sizeOf103
 v37:=Tryz.zeroValue103
 t5:=underlying5
 a5:=Tryz.isAgg5
 z5:=Tryz.sizeOf5
 v5:=Tryz.zeroValue5 }
/-- bytes.vL: WHOLE: each argument nil,or of no byte at whatever address,or at an address with its cells. (LAID: no walk: one application.) -/
theorem Tryz.bytes_HasPrefix_all(p1 p2:Option Addr)(n c m d:Nat)(xs ys:List Int)(w:World)(hx:xs.length=n)(hy:ys.length=m)(hnc:n≤c)(h1:Lib.BytesIn w p1 n xs)(h2:Lib.BytesIn w p2 m ys) :
 Calls prog 163 #[ς p1 n c,ς p2 m d] w fun e w'=>e=ρ (τ (Lib.hasPrefix (Lib.bytesOf xs) (Lib.bytesOf ys)))∧w'=w:=Any.bytes_HasPrefix_all Tryz.Nl p1 p2 n c m d xs ys w hx hy hnc h1 h2
def Tryz.PD:Go.Shelf.Ren:=⟨fun|4=>169|5=>171|6=>176|7=>168|8=>177|9=>178|10=>179|11=>183|12=>184|n=>n,fun|22=>103|4=>4|3=>3|0=>0|5=>5|29=>148|9=>9|31=>202|30=>176|n=>n,fun|0=>4|n=>n⟩
theorem Tryz.MV:Go.Proofs.SlLaysT.n4 prog Tryz.PD:={
 mixed:=by kernel_rfl
 f4:=func169.trans (congrArg some (by kernel_rfl))
 f5:=func171.trans (congrArg some (by kernel_rfl))
 f6:=func176.trans (congrArg some (by kernel_rfl))
 f7:=func168.trans (congrArg some (by kernel_rfl))
 f8:=func177.trans (congrArg some (by kernel_rfl))
 f9:=func178.trans (congrArg some (by kernel_rfl))
 f10:=func179.trans (congrArg some (by kernel_rfl))
 f11:=func183.trans (congrArg some (by kernel_rfl))
 f12:=func184.trans (congrArg some (by kernel_rfl))
 t0:=underlying0
 a0:=Tryz.isAgg0
 z0:=Tryz.sizeOf0
 v0:=Tryz.zeroValue0
 t3:=underlying3
 a3:=Tryz.isAgg3
 z3:=Tryz.sizeOf3
 v3:=Tryz.zeroValue3
 t4:=underlying4
 a4:=Tryz.isAgg4
 z4:=Tryz.sizeOf4
 v4:=Tryz.zeroValue4
 t5:=underlying5
 a5:=Tryz.isAgg5
 z5:=Tryz.sizeOf5
 v5:=Tryz.zeroValue5
 t9:=underlying9
 a9:=Tryz.isAgg9
 z9:=Tryz.sizeOf9
 v9:=Tryz.zeroValue9
 t22:=underlying103
 a22:=Tryz.isAgg103
 z22:=Tryz.sizeOf103
 v22:=Tryz.zeroValue103
 t29:=underlying148
 a29:=Tryz.isAgg148
 z29:=Tryz.sizeOf148
 v29:=Tryz.zeroValue148
 t30:=underlying176
 a30:=Tryz.isAgg176
 z30:=Tryz.sizeOf176
 v30:=Tryz.zeroValue176
 t31:=underlying202
 a31:=Tryz.isAgg202
 z31:=Tryz.sizeOf202
 v31:=Tryz.zeroValue202
 g0:=by kernel_rfl }
/-- THE WALK,bytes.Index's answer a premise: whatever the two eQ addresses. (LAID: no walk: one application.) -/
theorem Tryz.bytes_Cut_of(p1 p2:Option Addr)(n c1 k c2:Nat)(i:Int)(w:World)(hcap:n≤c1)(hlo : -1≤i)(hroom:0≤i→i+k≤n)(hn:n≤4611686018427387904)(Dj:Calls prog 171 #[ς p1 n c1,ς p2 k c2] w fun e w'=>e = ρ (ι γ i)∧∃q,w'=w.drewN q) :
 Calls prog 169 #[ς p1 n c1,ς p2 k c2] w fun e w'=>e=ρ (Lib.cutV p1 n c1 k i)∧∃q,w'=w.drewN q:=Any.bytes_Cut_of Tryz.MV p1 p2 n c1 k c2 i w hcap hlo hroom hn Dj
def Tryz.PC:Go.Shelf.Ren:=⟨fun|7=>170|10=>172|11=>173|13=>174|15=>175|16=>180|19=>181|18=>182|21=>185|17=>186|20=>187|n=>n,fun|22=>103|9=>9|3=>3|4=>4|5=>5|28=>194|27=>193|0=>0|31=>197|21=>21|33=>199|36=>204|37=>148|40=>207|39=>206|n=>n,fun|0=>5|1=>6|n=>n⟩
theorem Tryz.MU:Go.Proofs.SlLaysV.n7 prog Tryz.PC:={
 mixed:=by kernel_rfl
 f7:=func170.trans (congrArg some (by kernel_rfl))
 f10:=func172.trans (congrArg some (by kernel_rfl))
 f11:=func173.trans (congrArg some (by kernel_rfl))
 f13:=func174.trans (congrArg some (by kernel_rfl))
 f15:=func175.trans (congrArg some (by kernel_rfl))
 f16:=func180.trans (congrArg some (by kernel_rfl))
 f17:=func186.trans (congrArg some (by kernel_rfl))
 f18:=func182.trans (congrArg some (by kernel_rfl))
 f19:=func181.trans (congrArg some (by kernel_rfl))
 f20:=func187.trans (congrArg some (by kernel_rfl))
 f21:=func185.trans (congrArg some (by kernel_rfl))
 t0:=underlying0
 a0:=Tryz.isAgg0
 z0:=Tryz.sizeOf0
 v0:=Tryz.zeroValue0
 t3:=underlying3
 a3:=Tryz.isAgg3
 z3:=Tryz.sizeOf3
 v3:=Tryz.zeroValue3
 t4:=underlying4
 a4:=Tryz.isAgg4
 z4:=Tryz.sizeOf4
 v4:=Tryz.zeroValue4
 t5:=underlying5
 a5:=Tryz.isAgg5
 z5:=Tryz.sizeOf5
 v5:=Tryz.zeroValue5
 t9:=underlying9
 a9:=Tryz.isAgg9
 z9:=Tryz.sizeOf9
 v9:=Tryz.zeroValue9
 t21:=underlying21
 a21:=Tryz.isAgg21
 z21:=Tryz.sizeOf21
 v21:=Tryz.zeroValue21
 t22:=underlying103
 a22:=Tryz.isAgg103
 z22:=Tryz.sizeOf103
 v22:=Tryz.zeroValue103
 t27:=underlying193
 a27:=Tryz.isAgg193
 z27:=Tryz.sizeOf193
 t28:=underlying194
 a28:=Tryz.isAgg194
 z28:=Tryz.sizeOf194
 v28:=Tryz.zeroValue194
 t31:=underlying197
 a31:=Tryz.isAgg197
 z31:=Tryz.sizeOf197
 v31:=Tryz.zeroValue197
 t33:=underlying199
 a33:=Tryz.isAgg199
 z33:=Tryz.sizeOf199
 v33:=Tryz.zeroValue199
 t36:=underlying204
 a36:=Tryz.isAgg204
 z36:=Tryz.sizeOf204
 t37:=underlying148
 a37:=Tryz.isAgg148
 z37:=Tryz.sizeOf148
 v37:=Tryz.zeroValue148
 t39:=underlying206
 a39:=Tryz.isAgg206
 z39:=Tryz.sizeOf206
 v39:=Tryz.zeroValue206
 t40:=underlying207
 a40:=Tryz.isAgg207
 z40:=Tryz.sizeOf207
 v40:=Tryz.zeroValue207 }
open Go.RowKit in
theorem Tryz.bytes_TrimRight_laid(p:Option Addr)(n c:Nat)(xs:List Int)(Li:ByteArray)(w:World)
 (hx:xs.length=n) (hnc:n≤c) (hbig:c≤9223372036854775807) (h1:Lib.BytesIn w p n xs) (hr:∀x∈xs,0≤x∧x<256) (hcs:Li.size<4294967281) (hascii:∀(j:Nat) b,Li.data.toList[j]?=some b→b.toNat<128) :
 Calls prog 170 #[ς p n c,σ Li] w fun e w'=>e=ρ (ς p (Lib.trimRightS (Lib.bytesOf xs) Li.data.toList).length c)∧Below w.heap.size w w':=Any.bytes_TrimRight_laid Tryz.MU (by kernel_rfl) p n c xs Li w hx hnc hbig h1 hr hcs hascii
