import Derived.Test.YtmepekognmlblaaGreatDoorS02
import Derived.Laws.OwnMore
import Derived.Maps.AppendAt
import Derived.Maps.Own
import Derived.Deep.RegionHeld3
import Derived.Laws.BytesArg
set_option maxHeartbeats 4000000
set_option linter.unusedVariables false
open Go.RowKit Go.Proofs.Tryz Go.ChangeShapes Go.WideShapes Go.ChangeAt
open _root_.Nat renaming le_trans→QW,zero_le→ZR,le_refl→QI
open _root_.List renaming getElem?_eq_getElem→QN,mem_of_getElem?→JK
open Go.RowKit.Below renaming refl→QE
open Go.Lib renaming hid→QA
open Go.Value renaming string→σ,int→ι,slice→ς,bool→τ,agg→ξ
open Go.IntKind renaming i64→γ
open Go.Obj renaming cells→θ
open Go.Ending renaming returned→ρ
namespace Go.Proofs.YtmepekognmlblaaGreatDoor
namespace Mem
structure QC where
 b:Option Nat
 H:World→Prop
 lt:∀w k,H w→b=some k→k<w.heap.size
 kept:∀w w' row,H w→w.grownBy w' row→(b=none∨b≠row)→H w'
def Qb(e:TypeId)(sz:Nat)(v:Value)(n:Nat)(xs:List Value):QC :=
 ⟨v.ownBlock,fun w=>w.ownsRow 0 e sz v n xs,fun _ k h hk=>(h.lt k hk).2,fun _ _ _ h hg hne=>h.kept hg hne⟩
def Kf(e:TypeId)(g:Nat)(xs:List Value):QC:=Qb e xs.length (ς (some ⟨g,0,none⟩) 1 1) 1 xs
structure QH(w:World)(B:Nat)(R:List QC):Prop where
 h:∀t∈R,t.H w
 ge:∀t∈R,∀k,t.b=some k→B≤k
 ap:R.Pairwise fun s t=>s.b=none∨s.b≠t.b
 B:B≤w.heap.size
section
variable {w w':World}{B:Nat}{R:List QC}{t t':QC}{i j:Nat}
theorem QH.get(h:QH w B R)(hi:R[i]?=some t):t.H w:=h.h t (JK hi)
theorem QH.lt(h:QH w B R)(ht:t∈R){k:Nat}(hk:t.b=some k):B≤k∧k<w.heap.size:=⟨h.ge t ht k hk,t.lt w k (h.h t ht) hk⟩
theorem Yk{s t:QC}(h:s.b=none∨s.b≠t.b):t.b=none∨t.b≠s.b:=by
 rcases h with h|h
 ·cases ht:t.b with
  |none=>exact .inl rfl
  |some k=>exact .inr (by rw[h];simp)
 ·exact .inr fun e=>h e.symm
theorem QH.ne(h:QH w B R){s:QC}(hi:R[i]?=some s)(hj:R[j]?=some t)(hij:i≠j):s.b=none∨s.b≠t.b:=by
 obtain⟨hi',ei⟩:=List.getElem?_eq_some_iff.1 hi;obtain⟨hj',ej⟩:=List.getElem?_eq_some_iff.1 hj;rcases Nat.lt_or_gt_of_ne hij with hlt|hlt
 ·have:=List.pairwise_iff_getElem.1 h.ap i j hi' hj' hlt;rwa[ei,ej]at this
 ·have:=List.pairwise_iff_getElem.1 h.ap j i hj' hi' hlt;rw[ei,ej]at this;exact Yk this
theorem QH.YH(h:QH w B R)(hg:w.grownBy w' none):QH w' B R :=
 ⟨fun t ht=>t.kept w w' none (h.h t ht) hg (by cases hb:t.b with|none=>exact .inl rfl|some k=>exact .inr ψ),h.ge,h.ap,QW h.B hg.size⟩
theorem Qd8{w w':World}(h:Below w.heap.size w w'):w.grownBy w' none:=⟨h.os,h.tape,h.output,h.size,fun k hk _=>h.block k hk⟩
theorem QH.later(h:QH w B R)(hb:Below w.heap.size w w'):QH w' B R:=h.YH (Qd8 hb)
theorem QH.set(h:QH w B R)(hi:R[i]?=some t)(hg:w.grownBy w' t.b)(ht:t'.H w')(hb:t'.b=t.b∨t'.b=none∨∃k,t'.b=some k∧w.heap.size≤k):QH w' B (R.set i t'):=by
 obtain⟨hi',ei⟩:=List.getElem?_eq_some_iff.1 hi;have hmem:t∈R:=JK hi;refine⟨fun s hs=>?_,fun s hs k hk=>?_,?_,QW h.B hg.size⟩
 ·obtain⟨j,hj,e⟩:=List.getElem_of_mem hs;rw[List.getElem_set]at e;by_cases VK:i=j
  ·rw[if_pos VK]at e;subst e;exact ht
  ·rw[if_neg VK]at e;have hj':j<R.length:=by simpa using hj
   have hjs:R[j]?=some s:=by rw[QN hj',e]
   exact s.kept w w' _ (h.get hjs) hg (h.ne hjs hi (fun e=>VK e.symm))
 ·rcases List.mem_or_eq_of_mem_set hs with hs|rfl
  ·exact h.ge s hs k hk
  ·rcases hb with hb|hb|⟨k',hb,hk'⟩
   ·exact h.ge t hmem k (hb ▸ hk)
   ·rw[hb]at hk;cases hk
   ·rw[hb]at hk;injection hk with hk;subst hk;exact QW h.B hk'
 ·have new:∀s,s∈R→(∀j,R[j]? = some s→j≠i→True)→∀j,R[j]? = some s→j≠i→(s.b=none∨s.b≠t'.b):=fun s hs _ j hj VK=>by
   rcases hb with hb|hb|⟨k',hb,hk'⟩
   ·rw[hb];exact h.ne hj hi VK
   ·cases Hw:s.b with
    |none=>exact .inl rfl
    |some k=>exact .inr (by rw[hb];simp)
   ·cases Hw:s.b with
    |none=>exact .inl rfl
    |some k=>have:=s.lt w k (h.h s hs) Hw;exact .inr (by rw[hb];intro e;injection e with e;omega)
  rw[List.pairwise_iff_getElem];intro a c ha hc cT;have ha':a<R.length:=by simpa using ha
  have hc':c<R.length:=by simpa using hc
  rw[List.getElem_set,List.getElem_set];by_cases Oi:i=a
  ·rw[if_pos Oi,if_neg ω];exact Yk (new _ (List.getElem_mem hc') (fun _ _ _=>trivial) c (QN hc') ω)
  ·rw[if_neg Oi];by_cases hic:i=c
   ·rw[if_pos hic];exact new _ (List.getElem_mem ha') (fun _ _ _=>trivial) a (QN ha') ω
   ·rw[if_neg hic];exact List.pairwise_iff_getElem.1 h.ap a c ha' hc' cT
theorem QH.snoc(h:QH w B R)(hb:w.grownBy w' none)(ht:t.H w')(hn:∀k,t.b=some k→w.heap.size≤k):QH w' B (R++[t]):=by
 refine⟨fun s hs=>?_,fun s hs k hk=>?_,?_,QW h.B hb.size⟩
 ·rcases List.mem_append.1 hs with hs|hs
  ·exact(h.YH hb).h s hs
  ·obtain rfl:=List.mem_singleton.1 hs;exact ht
 ·rcases List.mem_append.1 hs with hs|hs
  ·exact h.ge s hs k hk
  ·obtain rfl:=List.mem_singleton.1 hs;exact QW h.B (hn k hk)
 ·rw[List.pairwise_append];refine⟨h.ap,List.pairwise_singleton _ _,fun s hs u hu=>?_⟩;obtain rfl:=List.mem_singleton.1 hu;cases Hw:s.b with
  |none=>exact .inl rfl
  |some k =>
   have:=s.lt w k (h.h s hs) Hw;refine .inr fun e=>?_
   have:=hn k e.symm;omega
theorem QH.cons(h:QH w B R)(hb:w.grownBy w' none)(ht:t.H w')(hn:∀k,t.b=some k→w.heap.size≤k):QH w' B (t::R):=by
 refine⟨fun s hs=>?_,fun s hs k hk=>?_,?_,QW h.B hb.size⟩
 ·rcases List.mem_cons.1 hs with rfl|hs
  ·exact ht
  ·exact(h.YH hb).h s hs
 ·rcases List.mem_cons.1 hs with rfl|hs
  ·exact QW h.B (hn k hk)
  ·exact h.ge s hs k hk
 ·rw[List.pairwise_cons];refine⟨fun s hs=>?_,h.ap⟩;cases htb:t.b with
  |none=>exact .inl rfl
  |some k =>
   cases Hw:s.b with
   |none=>exact .inr ψ
   |some j=>have h1:=s.lt w j (h.h s hs) Hw;have h2:=hn k htb;exact .inr (by intro e;injection e with e;omega)
theorem QH.perm{R':List QC}(h:QH w B R)(hp:R.Perm R'):QH w B R' :=
 ⟨fun t ht=>h.h t (hp.symm.subset ht),fun t ht=>h.ge t (hp.symm.subset ht),(hp.pairwise_iff (fun{a b} hab=>Yk hab)).1 h.ap,h.B⟩
theorem QH.sub{R':List QC}(h:QH w B R)(hs:R'.Sublist R):QH w B R':=⟨fun t ht=>h.h t (hs.subset ht),fun t ht=>h.ge t (hs.subset ht),h.ap.sublist hs,h.B⟩
theorem QH.nil(w:World):QH w w.heap.size []:=⟨fun t h=>(by cases h),fun t h=>(by cases h),List.Pairwise.nil,Nat.le_refl _⟩
theorem QH.QF(h:QH w B R)(hi:R[i]?=some t)(hg:w.grownBy w' t.b):Below B w w' :=
 ⟨hg.os,hg.tape,hg.output,hg.size,fun k hk=>hg.block k (Nat.lt_of_lt_of_le hk h.B) fun e=>by have:=h.ge t (JK hi) k e.symm;omega⟩
theorem QH.Pz(h:QH w B R){g:Nat}(hg:g<B)(j:Nat)(u:Value):QH (w.setCell ⟨g,j,none⟩ u) B R :=
 have hG:w.grownBy (w.setCell ⟨g,j,none⟩ u) (some g):=⟨rfl,rfl,rfl,ψ,fun k _ hk=>heap_setCell_other w ⟨g,j,none⟩ k u (fun e=>hk (by simp[e]))⟩
 ⟨fun t ht=>t.kept w _ (some g) (h.h t ht) hG (by cases hb:t.b with|none=>exact .inl rfl|some k=>exact .inr (by have:=h.ge t ht k hb;intro e;injection e with e;omega)),h.ge,h.ap,QW h.B hG.size⟩
theorem E7{w:World}{g:Nat}{cs:Array Value}{T:TypeId}(h:w.heap[g]?=some (θ cs T (0,0)))(i:Nat)(v:Value):(w.setCell ⟨g,i,none⟩ v).heap[g]?=some (θ (cs.setIfInBounds i v) T (0,0)) :=
 heap_setCell_same w g i cs T v h
end
section
variable {w w':World}{B:Nat}{R:List QC}{i:Nat}{e:TypeId}{sz n c g:Nat}{v:Value}{xs:List Value}
theorem QH.cell(h:QH w B R)(hi:R[i]?=some (Qb e sz (ς (some ⟨g,0,none⟩) n c) n xs)){j:Nat}{u:Value}(hj:xs[j]?=some u):w.cell? ⟨g,j,none⟩=some u:=by
 have ho:w.ownsRow 0 e sz (ς (some ⟨g,0,none⟩) n c) n xs:=h.get hi;rw[ho.cellAt j (by rw[←ho.1];exact(List.getElem?_eq_some_iff.1 hj).1),hj]
theorem QH.JO(h:QH w B R)(hi:R[i]?=some (Qb e sz (ς (some ⟨g,0,none⟩) n c) n xs))(j:Nat):w.frozen? ⟨g,j,none⟩=false :=
 (show w.ownsRow 0 e sz (ς (some ⟨g,0,none⟩) n c) n xs from h.get hi).frozenAt j
theorem QH.slice(h:QH w B R)(hi:R[i]?=some (Qb e sz v n xs)):∃a c,v=ς a n c∧n≤c∧c≤maxLen:=by
 have ho:w.ownsRow 0 e sz v n xs:=h.get hi;rcases ho.2 with⟨rfl,rfl⟩|⟨g,cap,cur,rfl,_,_,h1,h2,_⟩
 ·exact⟨none,0,rfl,Nat.le_refl _,by unfold maxLen;omega⟩
 ·exact⟨_,cap,rfl,h1,h2⟩
theorem QH.sliceAt(h:QH w B R)(hi:R[i]?=some (Qb e sz v n xs))(hn:0<n):∃g c,v=ς (some ⟨g,0,none⟩) n c∧n≤c∧c≤maxLen:=by
 have ho:w.ownsRow 0 e sz v n xs:=h.get hi;rcases ho.2 with⟨rfl,rfl⟩|⟨g,cap,cur,rfl,_,_,h1,h2,_⟩
 ·exact absurd hn (Nat.lt_irrefl _)
 ·exact⟨g,cap,rfl,h1,h2⟩
theorem QH.store(h:QH w B R)(hi:R[i]?=some (Qb e sz (ς (some ⟨g,0,none⟩) n c) n xs))(j:Nat)(u:Value) :
 QH (w.setCell ⟨g,j,none⟩ u) B (R.set i (Qb e sz (ς (some ⟨g,0,none⟩) n c) n (xs.set j u)))∧Below B w (w.setCell ⟨g,j,none⟩ u):=by
 have ho:w.ownsRow 0 e sz (ς (some ⟨g,0,none⟩) n c) n xs:=h.get hi;obtain⟨h1,h2⟩:=ho.stored j u;exact⟨h.set hi h2 h1 (.inl rfl),h.QF hi h2⟩
theorem QH.box(h:QH w B R)(cs:Array Value)(n:Nat)(hm:n≤maxLen)(hs:cs.size=n*sz):QH (w.alloc (θ cs e)) B (R++[Qb e sz (ς (some ⟨w.heap.size,0,none⟩) n n) n cs.toList]) :=
 h.snoc (World.grownBy_alloc w _ none) (World.ownsRow_lit w cs n (ZR _) hm hs) fun k hk=>by
  have hk:some w.heap.size=some k:=hk;injection hk with hk;omega
theorem QH.VQ(h:QH w B R):QH w B (R++[Qb e sz (ς none 0 0) 0 []]) :=
 h.snoc (World.grownBy.refl w none) (World.ownsRow_nil w 0 e sz) fun k hk=>by cases hk
end
section
variable {P:Program}{T E:TypeId}{i0:TypeInfo}{z:Value}{sz Hd:Nat}
theorem QH.BU{w:World}{B:Nat}{R:List QC}{i n m c:Nat}{v:Value}{xs news:List Value}{ad:Addr}(h:QH w B R)(hi:R[i]?=some (Qb E sz v n xs))(ty:TypeId)
 (hT:P.underlying T=some (.slice E)) (hi0:P.info? E=some i0) (hz0:i0.zero=some z) (hz1:i0.size=sz) (hz2:i0.bytes=Hd) (Np:z.cells.size=sz) (hsz:0<sz) (hby:Hd≤1000)
 (hl:news.length=m*sz) (hnews:∀j u,news[j]?=some u→w.cell? (ad.add j)=some u) (h1:∀u∈news,u.oneCell'=true) (hn:n+m≤100000000) :
 ∃v' w',(Builtin.append_ #[T,T] ty #[v,ς (some ad) m c]).run P w=.ok v' w'∧QH w' B (R.set i (Qb E sz v' (n+m) (xs++news)))∧Below B w w'∧w.grownBy w' v.ownBlock∧(v'.ownBlock=v.ownBlock∨v'.ownBlock=some w.heap.size):=by
 have ho:w.ownsRow 0 E sz v n xs:=h.get hi;have hmul:(n+m)*Hd≤100000000*1000:=Nat.mul_le_mul hn hby
 obtain⟨v',w',hr,h2,h3,_,h5⟩:=run_append_own_at (P:=P) w 0 T ty E i0 z sz Hd hT hi0 hz0 hz1 hz2 Np hsz v n xs ho ad m c news hl hnews h1 (by unfold maxLen;omega) ω (ZR _);refine⟨v',w',hr,h.set hi h3 h2 ?_,h.QF hi h3,h3,h5⟩;rcases h5 with h5|h5
 ·exact .inl h5
 ·exact .inr (.inr ⟨_,h5,Nat.le_refl _⟩)
theorem QH.VT{w:World}{B:Nat}{R:List QC}{i n g c:Nat}{v:Value}{xs cs:List Value}(h:QH w B R)(hi:R[i]?=some (Qb E sz v n xs))(ty:TypeId)
 (hT:P.underlying T=some (.slice E)) (hi0:P.info? E=some i0) (hz0:i0.zero=some z) (hz1:i0.size=sz) (hz2:i0.bytes=Hd) (Np:z.cells.size=sz) (hsz:0<sz) (hby:Hd≤1000)
 (hl:cs.length=sz) (hc:∀j u,cs[j]?=some u→w.cell? ⟨g,j,none⟩=some u) (h1:∀u∈cs,u.oneCell'=true) (hn:n≤10000000) :
 ∃v' w',(Builtin.append_ #[T,T] ty #[v,ς (some ⟨g,0,none⟩) 1 c]).run P w=.ok v' w'∧QH w' B (R.set i (Qb E sz v' (n+1) (xs++cs)))∧Below B w w'∧w.grownBy w' v.ownBlock∧(v'.ownBlock=v.ownBlock∨v'.ownBlock=some w.heap.size) :=
 h.BU (m:=1) hi ty hT hi0 hz0 hz1 hz2 Np hsz hby ω (fun j u hj=>by
  have ad:(⟨g,0,none⟩:Addr).add j=⟨g,j,none⟩:=by unfold Addr.add;split <;> simp_all
  rw[ad];exact hc j u hj) h1 ω
end
theorem K6{P:Program}{o:Oper}{a:Act}{W W':World}{K:Act→World→Prop}{Q:Exit→Act→World→Prop}{s x:Operand}{t1 t2:TypeId}{vs vx v':Value}(ho:o.op=.call { callee:=.builtin .append,args:=#[s,x],argTypes:=#[t1,t2] })
 (hs:a.eval s=vs) (hx:a.eval x=vx) (hrun:(Builtin.append_ #[t1,t2] o.type #[vs,vx]).run P W=.ok v' W') (h:K (a.put o.dst v') W'):o.wp P a W K Q:=by
 unfold Oper.wp execOp;simp only[ho,resolve,invoke,builtin,Sem.run_bind,Sem.run_pure,Result.andThen_ok,List.map_toArray,List.map_cons,List.map_nil,hs,hx,hrun];exact h
theorem Y8{P:Program}{ops:Array Oper}{rest:List Oper}{o:Oper}{a:Act}{W:World}{Q:Exit→Act→World→Prop}(hgd:o.guard=none)(s x:Operand){t1 t2:TypeId}{vs vx v':Value}{W':World}(ho:o.op=.call { callee:=.builtin .append,args:=#[s,x],argTypes:=#[t1,t2] })
 (hs:a.eval s=vs) (hx:a.eval x=vx) (hrun:(Builtin.append_ #[t1,t2] o.type #[vs,vx]).run P W=.ok v' W') (h:wpList P ops Q rest (a.put o.dst v') W'):wpList P ops Q (o::rest) a W:=by
 refine wpList_plain hgd fun K hK=>?_
 exact K6 ho hs hx hrun (hK _ _ h)
def Vx(w:World)(S:Nat→Prop)(A:Option Addr)(xs:List Value):Prop :=
 xs=[]∨∃b off,A=some ⟨b,off,none⟩∧S b∧∀i u,xs[i]?=some u→w.cell? ⟨b,off+i,none⟩=some u
def U7(w:World)(S:Nat→Prop)(v:Value)(xs:List Value):Prop:=∃A c,v=ς A xs.length c∧xs.length≤c∧c≤maxLen∧Vx w S A xs
def Jr(w:World)(S:Nat→Prop)(v:Value)(K:List (List Int)):Prop:=∃us:List Value,us.length=K.length∧U7 w S v us∧∀(i:Nat)(u:Value)(l:List Int),us[i]?=some u→K[i]?=some l→U7 w S u (l.map (ι γ))
def In(s t:Nat):Nat→Prop:=fun b=>s≤b∧b<t
section
variable {w w':World}{S S':Nat→Prop}{A:Option Addr}{xs:List Value}{v:Value}{K:List (List Int)}
theorem Vx.keep(h:Vx w S A xs)(hb:∀b,S b→w'.heap[b]?=w.heap[b]?):Vx w' S A xs:=by
 rcases h with h|⟨b,off,e,hS,hc⟩
 ·exact .inl h
 ·exact .inr ⟨b,off,e,hS,fun i u hi=>(World.cell?_of_block (w:=w) (hb b hS)).trans (hc i u hi)⟩
theorem Vx.more(h:Vx w S A xs)(hs:∀b,S b→S' b):Vx w S' A xs:=by
 rcases h with h|⟨b,off,e,hS,hc⟩
 ·exact .inl h
 ·exact .inr ⟨b,off,e,hs b hS,hc⟩
theorem Vx.at_(h:Vx w S A xs){i:Nat}{u:Value}(hi:xs[i]?=some u):∃b off,A=some ⟨b,off,none⟩∧S b∧w.cell? ⟨b,off+i,none⟩=some u:=by
 rcases h with h|⟨b,off,e,hS,hc⟩
 ·rw[h]at hi;simp at hi
 ·exact⟨b,off,e,hS,hc i u hi⟩
theorem U7.keep(h:U7 w S v xs)(hb:∀b,S b→w'.heap[b]?=w.heap[b]?):U7 w' S v xs:=by
 obtain⟨A,c,e,h1,h2,h3⟩:=h;exact⟨A,c,e,h1,h2,h3.keep hb⟩
theorem U7.more(h:U7 w S v xs)(hs:∀b,S b→S' b):U7 w S' v xs:=by
 obtain⟨A,c,e,h1,h2,h3⟩:=h;exact⟨A,c,e,h1,h2,h3.more hs⟩
theorem Jr.keep(h:Jr w S v K)(hb:∀b,S b→w'.heap[b]?=w.heap[b]?):Jr w' S v K:=by
 obtain⟨us,h1,h2,h3⟩:=h;exact⟨us,h1,h2.keep hb,fun i u l hu hl=>(h3 i u l hu hl).keep hb⟩
theorem Jr.more(h:Jr w S v K)(hs:∀b,S b→S' b):Jr w S' v K:=by
 obtain⟨us,h1,h2,h3⟩:=h;exact⟨us,h1,h2.more hs,fun i u l hu hl=>(h3 i u l hu hl).more hs⟩
theorem QH.Nb{B:Nat}{R:List QC}{i n:Nat}{e:TypeId}(h:QH w B R)(hi:R[i]?=some (Qb e 1 v n xs)):U7 w (In B w.heap.size) v xs:=by
 have ho:w.ownsRow 0 e 1 v n xs:=h.get hi;have hl:xs.length=n:=by rw[ho.1,Nat.mul_one]
 rcases ho.2 with⟨rfl,rfl⟩|⟨g,cap,cur,rfl,_,hg,h1,h2,_⟩
 ·exact⟨none,0,by rw[hl],ω,by unfold maxLen;omega,.inl (List.eq_nil_of_length_eq_zero hl)⟩
 ·refine⟨some ⟨g,0,none⟩,cap,by rw[hl],ω,h2,.inr ⟨g,0,rfl,?_,fun j u hj=>?_⟩⟩
  ·exact h.lt (List.mem_of_getElem? hi) (t:=Qb e 1 (ς (some ⟨g,0,none⟩) n cap) n xs) rfl
  ·rw[Nat.zero_add];exact h.cell hi hj
end
end Mem
namespace Tree
theorem QM{k j:Int}(h:¬k=j):(k==j)=false:=by simpa using h
theorem Qo5(k:Int)(x y:ByteArray)(A:Option Addr)(n C:Nat)(w:World):Calls prog 91 #[ξ #[ι γ k,σ x,σ y,ς A n C]] w fun e w'=>e = ρ (τ (Qp k x))∧Below w.heap.size w w':=by
 by_cases h9:k=9
 ·subst h9;rw[show Qp 9 x=true from rfl];go_enter func91,ntmps91;go_wp2;go_ret;exact⟨rfl,(QE _ _).alloc (QI _) _⟩
 by_cases h10:k=10
 ·subst h10;rw[show Qp 10 x=true from rfl];go_enter func91,ntmps91;go_wp2;go_ret;exact⟨rfl,(QE _ _).alloc (QI _) _⟩
 by_cases h11:k=11
 ·subst h11;rw[show Qp 11 x=true from rfl];go_enter func91,ntmps91;go_wp2;go_ret;exact⟨rfl,(QE _ _).alloc (QI _) _⟩
 by_cases h12:k=12
 ·subst h12;rw[show Qp 12 x=true from rfl];go_enter func91,ntmps91;go_wp2;go_ret;exact⟨rfl,(QE _ _).alloc (QI _) _⟩
 by_cases Lh:k=13
 ·subst Lh;rw[show Qp 13 x=true from rfl];go_enter func91,ntmps91;go_wp2;go_ret;exact⟨rfl,(QE _ _).alloc (QI _) _⟩
 rw[show Qp k x=false by unfold Qp;simp[h9,h10,h11,h12,Lh]];have b9:=QM h9;have Rn:=QM h10;have PV:=QM h11;have UC:=QM h12;have TN:=QM Lh;clear h9 h10 h11 h12 Lh;go_enter func91,ntmps91;go_wp2;go_ret;exact⟨rfl,(QE _ _).alloc (QI _) _⟩
theorem Qo4(k:Int)(x y:ByteArray)(A:Option Addr)(n C:Nat)(w:World):Calls prog 90 #[ξ #[ι γ k,σ x,σ y,ς A n C]] w fun e w'=>e = ρ (τ (Qf k x))∧Below w.heap.size w w':=by
 by_cases h9:k=9
 ·subst h9;rw[show Qf 9 x=true from rfl];go_enter func90,ntmps90;go_wp2;go_ret;exact⟨rfl,(QE _ _).alloc (QI _) _⟩
 by_cases Mt:k=26
 ·subst Mt;rw[show Qf 26 x=true from rfl];go_enter func90,ntmps90;go_wp2;go_ret;exact⟨rfl,(QE _ _).alloc (QI _) _⟩
 by_cases Mr:k=27
 ·subst Mr;rw[show Qf 27 x=true from rfl];go_enter func90,ntmps90;go_wp2;go_ret;exact⟨rfl,(QE _ _).alloc (QI _) _⟩
 by_cases Pf:k=28
 ·subst Pf;rw[show Qf 28 x=true from rfl];go_enter func90,ntmps90;go_wp2;go_ret;exact⟨rfl,(QE _ _).alloc (QI _) _⟩
 by_cases Mq:k=29
 ·subst Mq;rw[show Qf 29 x=true from rfl];go_enter func90,ntmps90;go_wp2;go_ret;exact⟨rfl,(QE _ _).alloc (QI _) _⟩
 by_cases Mp:k=30
 ·subst Mp;rw[show Qf 30 x=true from rfl];go_enter func90,ntmps90;go_wp2;go_ret;exact⟨rfl,(QE _ _).alloc (QI _) _⟩
 by_cases RX:k=31
 ·subst RX;rw[show Qf 31 x=true from rfl];go_enter func90,ntmps90;go_wp2;go_ret;exact⟨rfl,(QE _ _).alloc (QI _) _⟩
 by_cases RV:k=32
 ·subst RV;rw[show Qf 32 x=true from rfl];go_enter func90,ntmps90;go_wp2;go_ret;exact⟨rfl,(QE _ _).alloc (QI _) _⟩
 rw[show Qf k x=false by unfold Qf;simp[h9,Mt,Mr,Pf,Mq,Mp,RX,RV]];have b9:=QM h9;have u9:=QM Mt;have u6:=QM Mr;have lZ:=QM Pf;have u5:=QM Mq;have gU:=QM Mp;have br:=QM RX;have b32:=QM RV;clear h9 Mt Mr Pf Mq Mp RX RV;go_enter func90,ntmps90;go_wp2;go_ret;exact⟨rfl,(QE _ _).alloc (QI _) _⟩
theorem Qo6(k:Int)(x y:ByteArray)(A:Option Addr)(n C:Nat)(w:World):Calls prog 92 #[ξ #[ι γ k,σ x,σ y,ς A n C]] w fun e w'=>e = ρ (τ (V0 k x))∧Below w.heap.size w w':=by
 by_cases h5:k=5
 ·subst h5;rw[show V0 5 x=true from rfl];go_enter func92,ntmps92;go_wp2;go_ret;exact⟨rfl,(QE _ _).alloc (QI _) _⟩
 by_cases h8:k=8
 ·subst h8;rw[show V0 8 x=true from rfl];go_enter func92,ntmps92;go_wp2;go_ret;exact⟨rfl,(QE _ _).alloc (QI _) _⟩
 by_cases EM:k=17
 ·subst EM;rw[show V0 17 x=true from rfl];go_enter func92,ntmps92;go_wp2;go_ret;exact⟨rfl,(QE _ _).alloc (QI _) _⟩
 by_cases Mu:k=18
 ·subst Mu;rw[show V0 18 x=true from rfl];go_enter func92,ntmps92;go_wp2;go_ret;exact⟨rfl,(QE _ _).alloc (QI _) _⟩
 by_cases h19:k=19
 ·subst h19;rw[show V0 19 x=true from rfl];go_enter func92,ntmps92;go_wp2;go_ret;exact⟨rfl,(QE _ _).alloc (QI _) _⟩
 by_cases h20:k=20
 ·subst h20;rw[show V0 20 x=true from rfl];go_enter func92,ntmps92;go_wp2;go_ret;exact⟨rfl,(QE _ _).alloc (QI _) _⟩
 by_cases h21:k=21
 ·subst h21;rw[show V0 21 x=true from rfl];go_enter func92,ntmps92;go_wp2;go_ret;exact⟨rfl,(QE _ _).alloc (QI _) _⟩
 by_cases h22:k=22
 ·subst h22;rw[show V0 22 x=true from rfl];go_enter func92,ntmps92;go_wp2;go_ret;exact⟨rfl,(QE _ _).alloc (QI _) _⟩
 by_cases h23:k=23
 ·subst h23;rw[show V0 23 x=true from rfl];go_enter func92,ntmps92;go_wp2;go_ret;exact⟨rfl,(QE _ _).alloc (QI _) _⟩
 by_cases Ov:k=24
 ·subst Ov;rw[show V0 24 x=true from rfl];go_enter func92,ntmps92;go_wp2;go_ret;exact⟨rfl,(QE _ _).alloc (QI _) _⟩
 by_cases Ou:k=25
 ·subst Ou;rw[show V0 25 x=true from rfl];go_enter func92,ntmps92;go_wp2;go_ret;exact⟨rfl,(QE _ _).alloc (QI _) _⟩
 rw[show V0 k x=false by unfold V0;simp[h5,h8,EM,Mu,h19,h20,h21,h22,h23,Ov,Ou]];have b5:=QM h5;have b8:=QM h8;have qp:=QM EM;have ya:=QM Mu;have b19:=QM h19;have b20:=QM h20;have l9:=QM h21;have l7:=QM h22;have b23:=QM h23;have b24:=QM Ov;have b25:=QM Ou;clear h5 h8 EM Mu h19 h20 h21 h22 h23 Ov Ou;go_enter func92,ntmps92;go_wp2;go_ret;exact⟨rfl,(QE _ _).alloc (QI _) _⟩
theorem Qln(k:Int)(x y:ByteArray)(A:Option Addr)(n C:Nat)(w:World):Calls prog 89 #[ξ #[ι γ k,σ x,σ y,ς A n C]] w fun e w'=>e = ρ (τ (V5 k x))∧Below w.heap.size w w':=by
 by_cases h4:k=4
 ·subst h4;rw[show V5 4 x=true from rfl];go_enter func89,ntmps89;go_wp2;go_ret;exact⟨rfl,(QE _ _).alloc (QI _) _⟩
 by_cases h5:k=5
 ·subst h5;rw[show V5 5 x=true from rfl];go_enter func89,ntmps89;go_wp2;go_ret;exact⟨rfl,(QE _ _).alloc (QI _) _⟩
 by_cases h6:k=6
 ·subst h6;rw[show V5 6 x=true from rfl];go_enter func89,ntmps89;go_wp2;go_ret;exact⟨rfl,(QE _ _).alloc (QI _) _⟩
 by_cases h7:k=7
 ·subst h7;rw[show V5 7 x=true from rfl];go_enter func89,ntmps89;go_wp2;go_ret;exact⟨rfl,(QE _ _).alloc (QI _) _⟩
 by_cases h8:k=8
 ·subst h8;rw[show V5 8 x=true from rfl];go_enter func89,ntmps89;go_wp2;go_ret;exact⟨rfl,(QE _ _).alloc (QI _) _⟩
 rw[show V5 k x=false by unfold V5;simp[h4,h5,h6,h7,h8]];have b4:=QM h4;have b5:=QM h5;have b6:=QM h6;have b7:=QM h7;have b8:=QM h8;clear h4 h5 h6 h7 h8;go_enter func89,ntmps89;go_wp2;go_ret;exact⟨rfl,(QE _ _).alloc (QI _) _⟩
theorem Qo7(k:Int)(x y:ByteArray)(A:Option Addr)(n C:Nat)(w:World):Calls prog 93 #[ξ #[ι γ k,σ x,σ y,ς A n C]] w fun e w'=>e = ρ (τ (Vi k x))∧Below w.heap.size w w':=by
 by_cases h9:k=9
 ·subst h9;rw[show Vi 9 x=true from rfl];go_enter func93,ntmps93;go_wp2;go_ret;exact⟨rfl,(QE _ _).alloc (QI _) _⟩
 by_cases RX:k=31
 ·subst RX;rw[show Vi 31 x=true from rfl];go_enter func93,ntmps93;go_wp2;go_ret;exact⟨rfl,(QE _ _).alloc (QI _) _⟩
 by_cases RV:k=32
 ·subst RV;rw[show Vi 32 x=true from rfl];go_enter func93,ntmps93;go_wp2;go_ret;exact⟨rfl,(QE _ _).alloc (QI _) _⟩
 by_cases Pf:k=28
 ·subst Pf;cases hx:(x.toList==[42])with
  |true=>rw[show Vi 28 x=true by unfold Vi;rw[hx];rfl];go_enter func93,ntmps93;go_wp2;go_ret;exact⟨rfl,(QE _ _).alloc (QI _) _⟩
  |false=>rw[show Vi 28 x=false by unfold Vi;rw[hx];rfl];go_enter func93,ntmps93;go_wp2;go_ret;exact⟨rfl,(QE _ _).alloc (QI _) _⟩
 rw[show Vi k x=false by unfold Vi;simp[h9,RX,RV,Pf]];have b9:=QM h9;have br:=QM RX;have b32:=QM RV;have lZ:=QM Pf;clear h9 RX RV Pf;go_enter func93,ntmps93;go_wp2;go_ret;exact⟨rfl,(QE _ _).alloc (QI _) _⟩
theorem Qo8(k:Int)(w:World):Calls prog 42 #[ι γ k] w fun e w'=>e = ρ (τ (holds k))∧w'=w:=by
 by_cases h1:k=1
 ·subst h1;rw[show holds 1=true from rfl];go_enter func42,ntmps42;go_wp2;go_ret;exact⟨rfl,rfl⟩
 by_cases EM:k=17
 ·subst EM;rw[show holds 17=true from rfl];go_enter func42,ntmps42;go_wp2;go_ret;exact⟨rfl,rfl⟩
 by_cases Lh:k=13
 ·subst Lh;rw[show holds 13=true from rfl];go_enter func42,ntmps42;go_wp2;go_ret;exact⟨rfl,rfl⟩
 rw[show holds k=false by unfold holds;simp[h1,EM,Lh]];have b1:=QM h1;have qp:=QM EM;have TN:=QM Lh;clear h1 EM Lh;go_enter func42,ntmps42;go_wp2;go_ret;exact⟨rfl,rfl⟩
theorem fR{α:Type}{p:α→Bool}{l:List α}{k:Nat}{u:α}(hu:l[k]?=some u)(h:(l.take k).any p=false)(hp:p u=false):(l.take (k+1)).any p=false:=by
 rw[List.take_add_one,hu,List.any_append,h];simp[hp]
theorem fJ{α:Type}{p:α→Bool}{l:List α}{k:Nat}{u:α}(hu:l[k]?=some u)(hp:p u=true):l.any p=true :=
 List.any_eq_true.2 ⟨u,List.mem_of_getElem? hu,hp⟩
theorem fI{α:Type}{p:α→Bool}{l:List α}{n:Nat}(hn:l.length≤n)(h:(l.take n).any p=false):l.any p=false:=by
 rwa[List.take_of_length_le hn]at h
theorem Qyw(x:ByteArray)(b n C:Nat)(l:List ByteArray)(w:World)(hl:l.length=n)(hn:n≤1000000)(hc:∀i u,l[i]?=some u→w.cell? ⟨b,i,none⟩=some (σ u)) :
 Calls prog 114 #[ς (some ⟨b,0,none⟩) n C,σ x] w fun e w'=>(∃r:Int,e=ρ (ι γ r)∧decide (0≤r)=l.any (fun u:ByteArray=>x.toList==u.toList))∧w'=w:=by
 have Hl:=QA hl;have Hc:=QA hc;clear hl hc;go_enter func114,ntmps114;go_wp2
 go_loop [8] (fun i=>∃k:Nat,k≤n∧i=ι γ k∧Hid ((l.take k).any (fun u:ByteArray=>x.toList==u.toList)=false)) (fun i=>n-(intOf i).toNat)
 case atStart=>exact⟨0,Nat.zero_le _,rfl,by show _=_;simp⟩
 case round =>
  obtain⟨k,hk,rfl,hno⟩:=hrel;by_cases hlt:k<n
  ·obtain⟨u,hu⟩:∃u,l[k]?=some u:=⟨_,List.getElem?_eq_getElem (by rw[Hl.out];exact hlt)⟩;have hcell:=Hc.out k u hu;have hlt':(k:Int)<(n:Int):=ω
   have ZW:(0:Int)≤(k:Int):=ω
   cases hx:(x.toList==u.toList)with
   |true=>have HH:=QA (fJ (p:=fun u:ByteArray=>x.toList==u.toList) hu hx);clear hu;go_wp2;go_ret;exact⟨⟨_,rfl,by rw[HH.out];exact decide_eq_true ω⟩,rfl⟩
   |false =>
    have HH:=QA (fR (p:=fun u:ByteArray=>x.toList==u.toList) hu hno.out hx);clear hu hno;go_wp2
    go_round
    case rel=>exact⟨k+1,ω,by go_num,HH.out⟩
    case measure=>simp[intOf];omega
  ·have hn':¬(k:Int)<(n:Int):=ω
   obtain rfl:k=n:=ω
   have HH:=QA (fI (by rw[Hl.out];exact Nat.le_refl _) hno.out);clear hno;go_wp2;go_ret;exact⟨⟨_,rfl,by rw[HH.out];rfl⟩,rfl⟩
theorem Pj(x:ByteArray)(b n C:Nat)(l:List ByteArray)(w:World)(hl:l.length=n)(hn:n≤1000000)(hc:∀i u,l[i]?=some u→w.cell? ⟨b,i,none⟩=some (σ u)) :
 Calls prog 83 #[ς (some ⟨b,0,none⟩) n C,σ x] w fun e w'=>e=ρ (τ (l.any (fun u:ByteArray=>x.toList==u.toList)))∧w'=w:=by
 have HX:=QA (Qyw x b n C l w hl hn hc);generalize l.any (fun u:ByteArray=>x.toList==u.toList)=bb at *;clear hl hc;go_enter func83,ntmps83;go_wp2_with fail;refine HX.out.mono ?_;rintro e w' ⟨⟨r,rfl,hr⟩,rfl⟩;have Hr:=QA hr;clear hr;go_wp2;go_ret;exact⟨by rw[←Hr.out];rfl,rfl⟩
theorem Qyx(x:Int)(b n C:Nat)(l:List Int)(w:World)(hl:l.length=n)(hn:n≤1000000)(hc:∀i u,l[i]?=some u→w.cell? ⟨b,i,none⟩=some (ι γ u)) :
 Calls prog 135 #[ς (some ⟨b,0,none⟩) n C,ι γ x] w fun e w'=>(∃r:Int,e=ρ (ι γ r)∧decide (0≤r)=l.any (fun u:Int=>x==u))∧w'=w:=by
 have Hl:=QA hl;have Hc:=QA hc;clear hl hc;go_enter func135,ntmps135;go_wp2
 go_loop [8] (fun i=>∃k:Nat,k≤n∧i=ι γ k∧Hid ((l.take k).any (fun u:Int=>x==u)=false)) (fun i=>n-(intOf i).toNat)
 case atStart=>exact⟨0,Nat.zero_le _,rfl,by show _=_;simp⟩
 case round =>
  obtain⟨k,hk,rfl,hno⟩:=hrel;by_cases hlt:k<n
  ·obtain⟨u,hu⟩:∃u,l[k]?=some u:=⟨_,List.getElem?_eq_getElem (by rw[Hl.out];exact hlt)⟩;have hcell:=Hc.out k u hu;have hlt':(k:Int)<(n:Int):=ω
   have ZW:(0:Int)≤(k:Int):=ω
   cases hx:(x==u)with
   |true=>have HH:=QA (fJ (p:=fun u:Int=>x==u) hu hx);clear hu;go_wp2;go_ret;exact⟨⟨_,rfl,by rw[HH.out];exact decide_eq_true ω⟩,rfl⟩
   |false =>
    have HH:=QA (fR (p:=fun u:Int=>x==u) hu hno.out hx);clear hu hno;go_wp2
    go_round
    case rel=>exact⟨k+1,ω,by go_num,HH.out⟩
    case measure=>simp[intOf];omega
  ·have hn':¬(k:Int)<(n:Int):=ω
   obtain rfl:k=n:=ω
   have HH:=QA (fI (by rw[Hl.out];exact Nat.le_refl _) hno.out);clear hno;go_wp2;go_ret;exact⟨⟨_,rfl,by rw[HH.out];rfl⟩,rfl⟩
theorem Qpp(x:Int)(b n C:Nat)(l:List Int)(w:World)(hl:l.length=n)(hn:n≤1000000)(hc:∀i u,l[i]?=some u→w.cell? ⟨b,i,none⟩=some (ι γ u)) :
 Calls prog 116 #[ς (some ⟨b,0,none⟩) n C,ι γ x] w fun e w'=>e=ρ (τ (l.any (fun u:Int=>x==u)))∧w'=w:=by
 have HX:=QA (Qyx x b n C l w hl hn hc);generalize l.any (fun u:Int=>x==u)=bb at *;clear hl hc;go_enter func116,ntmps116;go_wp2_with fail;refine HX.out.mono ?_;rintro e w' ⟨⟨r,rfl,hr⟩,rfl⟩;have Hr:=QA hr;clear hr;go_wp2;go_ret;exact⟨by rw[←Hr.out];rfl,rfl⟩
end Tree
namespace oC
def RC{α:Type}(f:α→Value)(d:α)(w:World)(B:Nat)(A:Option Addr)(xs:List α):Prop :=
 xs=[]∨∃b off,A=some ⟨b,off,none⟩∧b<B∧∀i,i<xs.length→w.cell? ⟨b,off+i,none⟩=some (f (xs.getD i d))
section
variable {α:Type}{f:α→Value}{d:α}{w w':World}{B B':Nat}{A:Option Addr}{xs:List α}
end
theorem below_drewN{B:Nat}{a w:World}(h:Below B a w)(n:Nat):Below B a (w.drewN n):=⟨h.os,h.tape,h.output,h.size,h.block⟩
theorem Qc2{a b:ByteArray}(h:a.toList=b.toList):a=b:=by
 rw[ByteArray.toList_eq,ByteArray.toList_eq]at h;cases a;cases b;simp at h;rw[h]
theorem Zq:(Tryz.prog.info? 3).map (fun i=>(i.zero,i.size,i.bytes))=some (some (.int γ 0),1,8):=χ
theorem Ť{w:World}{base:Nat}{e:TypeId}{size:Nat}{v:Value}{n:Nat}{xs:List Value}(h:w.ownsRow base e size v n xs):∃a cap,v=ς a n cap∧n≤cap∧cap≤maxLen:=by
 rcases h.2 with⟨hv,h0⟩|⟨g,cap,_,hv,_,_,h1,h2,_⟩
 ·exact⟨none,0,by rw[hv,h0],ω,by unfold maxLen;omega⟩
 ·exact⟨_,cap,hv,h1,h2⟩
theorem ĳ{w:World}{base base':Nat}{e:TypeId}{size:Nat}{v:Value}{n:Nat}{xs:List Value}(h:w.ownsRow base e size v n xs)(hb:base'≤base):w.ownsRow base' e size v n xs :=
 ⟨h.1,by
  rcases h.2 with h' |⟨g,cap,cur,a,b,c⟩
  ·exact .inl h'
  ·exact .inr ⟨g,cap,cur,a,ω,c⟩⟩
section
variable {w w':World}{base:Nat}{e:TypeId}{size:Nat}{v:Value}{n:Nat}{vs:List Value}
theorem YW(h:w.ownsRow base e size v n vs){B:Nat}(hb:Below B w w')(hB:w.heap.size≤B):w'.ownsRow base e size v n vs :=
 ⟨h.1,by
  rcases h.2 with h' |⟨g,cap,cur,a,b,hg,r⟩
  ·exact .inl h'
  ·exact .inr ⟨g,cap,cur,a,b,(hb.block g (by have:=lt_of_block hg;omega)).trans hg,r⟩⟩
end
section
variable {P:Program}{T E:TypeId}{i0:TypeInfo}{z:Value}{Hd:Nat}
end
abbrev RI(w:World)(B:Nat)(A:Option Addr)(xs:List Int):Prop:=RC (Value.int γ) 0 w B A xs
theorem r7{k:IntKind}{a b:Int}(h:a=b):ρ (.int k a)=ρ (.int k b):=by rw[h]
