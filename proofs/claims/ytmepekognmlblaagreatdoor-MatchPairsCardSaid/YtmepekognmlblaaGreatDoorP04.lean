import Derived.Test.YtmepekognmlblaaGreatDoorP01
import Derived.Below
import Derived.Laws.OwnMore
import Derived.Maps.AppendAt
import Derived.OwnWalk
import Derived.Maps.Own
import Derived.BigQuiet
import Derived.Deep.RegionHeld3
import Derived.Test.YtmepekognmlblaaGreatDoorProg
import Derived.RangeFuncWrites
import Derived.RangeFuncBox
import Derived.RangeFuncLeaves
set_option linter.unusedVariables false
open Go.RowKit
open _root_.Nat renaming le_trans→QW,zero_le→ZR
open _root_.List renaming getElem?_eq_getElem→QN,mem_of_getElem?→JK
open Go.Value renaming slice→ς,bool→τ
open Go.Obj renaming cells→θ
open Go.Ending renaming returned→ρ
namespace Go.Proofs.YtmepekognmlblaaGreatDoor
namespace Mem
structure QC where
 b:Option Nat
 H:World→Prop
 lt:∀w k,H w→b=some k→k<w.heap.size
 kept:∀w w' row,H w→w.grownBy w' row→(b=none∨b≠row)→H w'
def Qb(e:TypeId)(sz:Nat)(v:Value)(n:Nat)(xs:List Value):QC :=
 ⟨v.ownBlock,fun w=>w.ownsRow 0 e sz v n xs,fun _ k h hk=>(h.lt k hk).2,fun _ _ _ h hg hne=>h.kept hg hne⟩
def Kf(e:TypeId)(g:Nat)(xs:List Value):QC:=Qb e xs.length (ς (some ⟨g,0,none⟩) 1 1) 1 xs
structure QH(w:World)(B:Nat)(R:List QC):Prop where
 h:∀t∈R,t.H w
 ge:∀t∈R,∀k,t.b=some k→B≤k
 ap:R.Pairwise fun s t=>s.b=none∨s.b≠t.b
 B:B≤w.heap.size
section
variable {w w':World}{B:Nat}{R:List QC}{t t':QC}{i j:Nat}
theorem QH.get(h:QH w B R)(hi:R[i]?=some t):t.H w:=h.h t (JK hi)
theorem QH.lt(h:QH w B R)(ht:t∈R){k:Nat}(hk:t.b=some k):B≤k∧k<w.heap.size:=⟨h.ge t ht k hk,t.lt w k (h.h t ht) hk⟩
theorem Yk{s t:QC}(h:s.b=none∨s.b≠t.b):t.b=none∨t.b≠s.b:=by
 rcases h with h|h
 ·cases ht:t.b with
  |none=>exact .inl rfl
  |some k=>exact .inr (by rw[h];simp)
 ·exact .inr fun e=>h e.symm
theorem QH.ne(h:QH w B R){s:QC}(hi:R[i]?=some s)(hj:R[j]?=some t)(hij:i≠j):s.b=none∨s.b≠t.b:=by
 obtain⟨hi',ei⟩:=List.getElem?_eq_some_iff.1 hi;obtain⟨hj',ej⟩:=List.getElem?_eq_some_iff.1 hj;rcases Nat.lt_or_gt_of_ne hij with hlt|hlt
 ·have:=List.pairwise_iff_getElem.1 h.ap i j hi' hj' hlt;rwa[ei,ej]at this
 ·have:=List.pairwise_iff_getElem.1 h.ap j i hj' hi' hlt;rw[ei,ej]at this;exact Yk this
theorem QH.YH(h:QH w B R)(hg:w.grownBy w' none):QH w' B R :=
 ⟨fun t ht=>t.kept w w' none (h.h t ht) hg (by cases hb:t.b with|none=>exact .inl rfl|some k=>exact .inr ψ),h.ge,h.ap,QW h.B hg.size⟩
theorem Qd8{w w':World}(h:Below w.heap.size w w'):w.grownBy w' none:=⟨h.os,h.tape,h.output,h.size,fun k hk _=>h.block k hk⟩
theorem QH.later(h:QH w B R)(hb:Below w.heap.size w w'):QH w' B R:=h.YH (Qd8 hb)
theorem QH.set(h:QH w B R)(hi:R[i]?=some t)(hg:w.grownBy w' t.b)(ht:t'.H w')(hb:t'.b=t.b∨t'.b=none∨∃k,t'.b=some k∧w.heap.size≤k):QH w' B (R.set i t'):=by
 obtain⟨hi',ei⟩:=List.getElem?_eq_some_iff.1 hi;have hmem:t∈R:=JK hi;refine⟨fun s hs=>?_,fun s hs k hk=>?_,?_,QW h.B hg.size⟩
 ·obtain⟨j,hj,e⟩:=List.getElem_of_mem hs;rw[List.getElem_set]at e;by_cases VK:i=j
  ·rw[if_pos VK]at e;subst e;exact ht
  ·rw[if_neg VK]at e;have hj':j<R.length:=by simpa using hj
   have hjs:R[j]?=some s:=by rw[QN hj',e]
   exact s.kept w w' _ (h.get hjs) hg (h.ne hjs hi (fun e=>VK e.symm))
 ·rcases List.mem_or_eq_of_mem_set hs with hs|rfl
  ·exact h.ge s hs k hk
  ·rcases hb with hb|hb|⟨k',hb,hk'⟩
   ·exact h.ge t hmem k (hb ▸ hk)
   ·rw[hb]at hk;cases hk
   ·rw[hb]at hk;injection hk with hk;subst hk;exact QW h.B hk'
 ·have new:∀s,s∈R→(∀j,R[j]? = some s→j≠i→True)→∀j,R[j]? = some s→j≠i→(s.b=none∨s.b≠t'.b):=fun s hs _ j hj VK=>by
   rcases hb with hb|hb|⟨k',hb,hk'⟩
   ·rw[hb];exact h.ne hj hi VK
   ·cases Hw:s.b with
    |none=>exact .inl rfl
    |some k=>exact .inr (by rw[hb];simp)
   ·cases Hw:s.b with
    |none=>exact .inl rfl
    |some k=>have:=s.lt w k (h.h s hs) Hw;exact .inr (by rw[hb];intro e;injection e with e;omega)
  rw[List.pairwise_iff_getElem];intro a c ha hc cT;have ha':a<R.length:=by simpa using ha
  have hc':c<R.length:=by simpa using hc
  rw[List.getElem_set,List.getElem_set];by_cases Oi:i=a
  ·rw[if_pos Oi,if_neg ω];exact Yk (new _ (List.getElem_mem hc') (fun _ _ _=>trivial) c (QN hc') ω)
  ·rw[if_neg Oi];by_cases hic:i=c
   ·rw[if_pos hic];exact new _ (List.getElem_mem ha') (fun _ _ _=>trivial) a (QN ha') ω
   ·rw[if_neg hic];exact List.pairwise_iff_getElem.1 h.ap a c ha' hc' cT
theorem QH.snoc(h:QH w B R)(hb:w.grownBy w' none)(ht:t.H w')(hn:∀k,t.b=some k→w.heap.size≤k):QH w' B (R++[t]):=by
 refine⟨fun s hs=>?_,fun s hs k hk=>?_,?_,QW h.B hb.size⟩
 ·rcases List.mem_append.1 hs with hs|hs
  ·exact(h.YH hb).h s hs
  ·obtain rfl:=List.mem_singleton.1 hs;exact ht
 ·rcases List.mem_append.1 hs with hs|hs
  ·exact h.ge s hs k hk
  ·obtain rfl:=List.mem_singleton.1 hs;exact QW h.B (hn k hk)
 ·rw[List.pairwise_append];refine⟨h.ap,List.pairwise_singleton _ _,fun s hs u hu=>?_⟩;obtain rfl:=List.mem_singleton.1 hu;cases Hw:s.b with
  |none=>exact .inl rfl
  |some k =>
   have:=s.lt w k (h.h s hs) Hw;refine .inr fun e=>?_
   have:=hn k e.symm;omega
theorem QH.cons(h:QH w B R)(hb:w.grownBy w' none)(ht:t.H w')(hn:∀k,t.b=some k→w.heap.size≤k):QH w' B (t::R):=by
 refine⟨fun s hs=>?_,fun s hs k hk=>?_,?_,QW h.B hb.size⟩
 ·rcases List.mem_cons.1 hs with rfl|hs
  ·exact ht
  ·exact(h.YH hb).h s hs
 ·rcases List.mem_cons.1 hs with rfl|hs
  ·exact QW h.B (hn k hk)
  ·exact h.ge s hs k hk
 ·rw[List.pairwise_cons];refine⟨fun s hs=>?_,h.ap⟩;cases htb:t.b with
  |none=>exact .inl rfl
  |some k =>
   cases Hw:s.b with
   |none=>exact .inr ψ
   |some j=>have h1:=s.lt w j (h.h s hs) Hw;have h2:=hn k htb;exact .inr (by intro e;injection e with e;omega)
theorem QH.perm{R':List QC}(h:QH w B R)(hp:R.Perm R'):QH w B R' :=
 ⟨fun t ht=>h.h t (hp.symm.subset ht),fun t ht=>h.ge t (hp.symm.subset ht),(hp.pairwise_iff (fun{a b} hab=>Yk hab)).1 h.ap,h.B⟩
theorem QH.sub{R':List QC}(h:QH w B R)(hs:R'.Sublist R):QH w B R':=⟨fun t ht=>h.h t (hs.subset ht),fun t ht=>h.ge t (hs.subset ht),h.ap.sublist hs,h.B⟩
theorem QH.nil(w:World):QH w w.heap.size []:=⟨fun t h=>(by cases h),fun t h=>(by cases h),List.Pairwise.nil,Nat.le_refl _⟩
theorem QH.less{B':Nat}(h:QH w B R)(hB:B'≤B):QH w B' R:=⟨h.h,fun t ht k hk=>QW hB (h.ge t ht k hk),h.ap,QW hB h.B⟩
theorem QH.QF(h:QH w B R)(hi:R[i]?=some t)(hg:w.grownBy w' t.b):Below B w w' :=
 ⟨hg.os,hg.tape,hg.output,hg.size,fun k hk=>hg.block k (Nat.lt_of_lt_of_le hk h.B) fun e=>by have:=h.ge t (JK hi) k e.symm;omega⟩
theorem QH.Pz(h:QH w B R){g:Nat}(hg:g<B)(j:Nat)(u:Value):QH (w.setCell ⟨g,j,none⟩ u) B R :=
 have hG:w.grownBy (w.setCell ⟨g,j,none⟩ u) (some g):=⟨rfl,rfl,rfl,ψ,fun k _ hk=>heap_setCell_other w ⟨g,j,none⟩ k u (fun e=>hk (by simp[e]))⟩
 ⟨fun t ht=>t.kept w _ (some g) (h.h t ht) hG (by cases hb:t.b with|none=>exact .inl rfl|some k=>exact .inr (by have:=h.ge t ht k hb;intro e;injection e with e;omega)),h.ge,h.ap,QW h.B hG.size⟩
theorem E7{w:World}{g:Nat}{cs:Array Value}{T:TypeId}(h:w.heap[g]?=some (θ cs T (0,0)))(i:Nat)(v:Value):(w.setCell ⟨g,i,none⟩ v).heap[g]?=some (θ (cs.setIfInBounds i v) T (0,0)) :=
 heap_setCell_same w g i cs T v h
end
section
variable {w w':World}{B:Nat}{R:List QC}{i:Nat}{e:TypeId}{sz n c g:Nat}{v:Value}{xs:List Value}
theorem QH.cell(h:QH w B R)(hi:R[i]?=some (Qb e sz (ς (some ⟨g,0,none⟩) n c) n xs)){j:Nat}{u:Value}(hj:xs[j]?=some u):w.cell? ⟨g,j,none⟩=some u:=by
 have ho:w.ownsRow 0 e sz (ς (some ⟨g,0,none⟩) n c) n xs:=h.get hi;rw[ho.cellAt j (by rw[←ho.1];exact(List.getElem?_eq_some_iff.1 hj).1),hj]
theorem QH.JO(h:QH w B R)(hi:R[i]?=some (Qb e sz (ς (some ⟨g,0,none⟩) n c) n xs))(j:Nat):w.frozen? ⟨g,j,none⟩=false :=
 (show w.ownsRow 0 e sz (ς (some ⟨g,0,none⟩) n c) n xs from h.get hi).frozenAt j
theorem QH.slice(h:QH w B R)(hi:R[i]?=some (Qb e sz v n xs)):∃a c,v=ς a n c∧n≤c∧c≤maxLen:=by
 have ho:w.ownsRow 0 e sz v n xs:=h.get hi;rcases ho.2 with⟨rfl,rfl⟩|⟨g,cap,cur,rfl,_,_,h1,h2,_⟩
 ·exact⟨none,0,rfl,Nat.le_refl _,by unfold maxLen;omega⟩
 ·exact⟨_,cap,rfl,h1,h2⟩
theorem QH.sliceAt(h:QH w B R)(hi:R[i]?=some (Qb e sz v n xs))(hn:0<n):∃g c,v=ς (some ⟨g,0,none⟩) n c∧n≤c∧c≤maxLen:=by
 have ho:w.ownsRow 0 e sz v n xs:=h.get hi;rcases ho.2 with⟨rfl,rfl⟩|⟨g,cap,cur,rfl,_,_,h1,h2,_⟩
 ·exact absurd hn (Nat.lt_irrefl _)
 ·exact⟨g,cap,rfl,h1,h2⟩
theorem QH.store(h:QH w B R)(hi:R[i]?=some (Qb e sz (ς (some ⟨g,0,none⟩) n c) n xs))(j:Nat)(u:Value) :
 QH (w.setCell ⟨g,j,none⟩ u) B (R.set i (Qb e sz (ς (some ⟨g,0,none⟩) n c) n (xs.set j u)))∧Below B w (w.setCell ⟨g,j,none⟩ u):=by
 have ho:w.ownsRow 0 e sz (ς (some ⟨g,0,none⟩) n c) n xs:=h.get hi;obtain⟨h1,h2⟩:=ho.stored j u;exact⟨h.set hi h2 h1 (.inl rfl),h.QF hi h2⟩
theorem QH.box(h:QH w B R)(cs:Array Value)(n:Nat)(hm:n≤maxLen)(hs:cs.size=n*sz):QH (w.alloc (θ cs e)) B (R++[Qb e sz (ς (some ⟨w.heap.size,0,none⟩) n n) n cs.toList]) :=
 h.snoc (World.grownBy_alloc w _ none) (World.ownsRow_lit w cs n (ZR _) hm hs) fun k hk=>by
  have hk:some w.heap.size=some k:=hk;injection hk with hk;omega
theorem QH.VQ(h:QH w B R):QH w B (R++[Qb e sz (ς none 0 0) 0 []]) :=
 h.snoc (World.grownBy.refl w none) (World.ownsRow_nil w 0 e sz) fun k hk=>by cases hk
end
section
variable {P:Program}{T E:TypeId}{i0:TypeInfo}{z:Value}{sz Hd:Nat}
theorem QH.BU{w:World}{B:Nat}{R:List QC}{i n m c:Nat}{v:Value}{xs news:List Value}{ad:Addr}(h:QH w B R)(hi:R[i]?=some (Qb E sz v n xs))(ty:TypeId)
 (hT:P.underlying T=some (.slice E)) (hi0:P.info? E=some i0) (hz0:i0.zero=some z) (hz1:i0.size=sz) (hz2:i0.bytes=Hd) (Np:z.cells.size=sz) (hsz:0<sz) (hby:Hd≤1000)
 (hl:news.length=m*sz) (hnews:∀j u,news[j]?=some u→w.cell? (ad.add j)=some u) (h1:∀u∈news,u.oneCell'=true) (hn:n+m≤100000000) :
 ∃v' w',(Builtin.append_ #[T,T] ty #[v,ς (some ad) m c]).run P w=.ok v' w'∧QH w' B (R.set i (Qb E sz v' (n+m) (xs++news)))∧Below B w w'∧w.grownBy w' v.ownBlock∧(v'.ownBlock=v.ownBlock∨v'.ownBlock=some w.heap.size):=by
 have ho:w.ownsRow 0 E sz v n xs:=h.get hi;have hmul:(n+m)*Hd≤100000000*1000:=Nat.mul_le_mul hn hby
 obtain⟨v',w',hr,h2,h3,_,h5⟩:=run_append_own_at (P:=P) w 0 T ty E i0 z sz Hd hT hi0 hz0 hz1 hz2 Np hsz v n xs ho ad m c news hl hnews h1 (by unfold maxLen;omega) ω (ZR _);refine⟨v',w',hr,h.set hi h3 h2 ?_,h.QF hi h3,h3,h5⟩;rcases h5 with h5|h5
 ·exact .inl h5
 ·exact .inr (.inr ⟨_,h5,Nat.le_refl _⟩)
theorem QH.VT{w:World}{B:Nat}{R:List QC}{i n g c:Nat}{v:Value}{xs cs:List Value}(h:QH w B R)(hi:R[i]?=some (Qb E sz v n xs))(ty:TypeId)
 (hT:P.underlying T=some (.slice E)) (hi0:P.info? E=some i0) (hz0:i0.zero=some z) (hz1:i0.size=sz) (hz2:i0.bytes=Hd) (Np:z.cells.size=sz) (hsz:0<sz) (hby:Hd≤1000)
 (hl:cs.length=sz) (hc:∀j u,cs[j]?=some u→w.cell? ⟨g,j,none⟩=some u) (h1:∀u∈cs,u.oneCell'=true) (hn:n≤10000000) :
 ∃v' w',(Builtin.append_ #[T,T] ty #[v,ς (some ⟨g,0,none⟩) 1 c]).run P w=.ok v' w'∧QH w' B (R.set i (Qb E sz v' (n+1) (xs++cs)))∧Below B w w'∧w.grownBy w' v.ownBlock∧(v'.ownBlock=v.ownBlock∨v'.ownBlock=some w.heap.size) :=
 h.BU (m:=1) hi ty hT hi0 hz0 hz1 hz2 Np hsz hby ω (fun j u hj=>by
  have ad:(⟨g,0,none⟩:Addr).add j=⟨g,j,none⟩:=by unfold Addr.add;split <;> simp_all
  rw[ad];exact hc j u hj) h1 ω
end
theorem K6{P:Program}{o:Oper}{a:Act}{W W':World}{K:Act→World→Prop}{Q:Exit→Act→World→Prop}{s x:Operand}{t1 t2:TypeId}{vs vx v':Value}(ho:o.op=.call { callee:=.builtin .append,args:=#[s,x],argTypes:=#[t1,t2] })
 (hs:a.eval s=vs) (hx:a.eval x=vx) (hrun:(Builtin.append_ #[t1,t2] o.type #[vs,vx]).run P W=.ok v' W') (h:K (a.put o.dst v') W'):o.wp P a W K Q:=by
 unfold Oper.wp execOp;simp only[ho,resolve,invoke,builtin,Sem.run_bind,Sem.run_pure,Result.andThen_ok,List.map_toArray,List.map_cons,List.map_nil,hs,hx,hrun];exact h
theorem Y8{P:Program}{ops:Array Oper}{rest:List Oper}{o:Oper}{a:Act}{W:World}{Q:Exit→Act→World→Prop}(hgd:o.guard=none)(s x:Operand){t1 t2:TypeId}{vs vx v':Value}{W':World}(ho:o.op=.call { callee:=.builtin .append,args:=#[s,x],argTypes:=#[t1,t2] })
 (hs:a.eval s=vs) (hx:a.eval x=vx) (hrun:(Builtin.append_ #[t1,t2] o.type #[vs,vx]).run P W=.ok v' W') (h:wpList P ops Q rest (a.put o.dst v') W'):wpList P ops Q (o::rest) a W:=by
 refine wpList_plain hgd fun K hK=>?_
 exact K6 ho hs hx hrun (hK _ _ h)
variable {P:Program}{n:Nat}
def iP{α:Type}(n:Nat)(P:Program)(g:Nat)(lb:Array Value)(ZI:α→Array Value)(R:α→World→Prop)(Kp:World→World→Prop)(S Sp:List α→Prop)(N:Nat)(w:World):Prop :=
 ∀(l:Nat)(J Jx:List α→World→Prop)(W:World),Below w.heap.size w W→AbidesFrom W.heap.size J→AbidesFrom W.heap.size Jx→
  (∀pre x W1,J pre W1→R x W1→Sp (pre++[x])→pre.length<N→YieldAt Fence.wide (n-1) P l (ZI x) W1 fun e W' =>
   (e=ρ (τ true)∧J (pre++[x]) W'∧Kp W1 W')∨(e=ρ (τ false)∧Jx (pre++[x]) W'))→
  J [] W→
  CallsIn Fence.wide n P g (#[.func (.yield l) #[] #[]]++lb) W fun e W'=>(∃v,e=ρ v)∧((∃xs,S xs∧J xs W')∨(∃pre,Sp pre∧Jx pre W'))
def recAt(fn:FuncId)(a:Act)(ps:Array Tmp)(assign body:Code)(D:Nat)(st:LoopState)(pe:Option Code):Loop:={ state:=st,pending:=pe,fn,tmps:=a.tmps,params:=ps,assign,body,defers:=D }
theorem Qid{α:Type}{g:Operand}{ps:Array Tmp}{assign body:Code}{Q:Exit→Act→World→Prop}{a:Act}{w:World}
 (h1:1≤n) {gf:Nat} {lb:Array Value} (hg:a.eval g=.func (.func gf) #[] lb) (eg:∀args w,(callFunc gf args).run P w=.ok (.enter gf args) w)
 {ZI:α→Array Value} {R:α→World→Prop} {Kp:World→World→Prop} {S Sp:List α→Prop} {N:Nat} (hseq:iP (n-1) P gf lb ZI R Kp S Sp N w)
 (gz:∀{A B C:World},Kp A B→Kp B C→Kp A C) (lM:∀(W:World)(l:Nat)(o o':Obj),w.heap.size≤l→W.heap[l]?=some o→o.isCells=false→o.isWalk=false→Kp W (W.putObj l o')) (hps:∀x,(ZI x).size=ps.size)
 (I:List α→World→Prop) (Ix:Code→List α→World→Prop) (hI:OwnFrom w.heap.size I) (gF:∀c,OwnFrom w.heap.size (Ix c)) (h0:I [] w) (Ax:α→Act→World→Prop) (gH:∀x a',OwnFrom w.heap.size (fun(_:Unit) W=>Ax x a' W))
 (FM:∀(l:Nat)(pre:List α)(x:α)(W:World)(K:Act→World→Prop),I pre W→R x W→Sp (pre++[x])→pre.length<N→(∀a' W',KeepsFrom w.heap.size W W'→Kp W W'→I pre W'→Ax x a' W'→K a' W')→
  assign.wpIn (Fence.wide.inRound l) (n-1-1) P (Exit.then K (fun _ _ _=>False)) { tmps:=(ps.zip (ZI x)).foldl (fun t (p,v)=>t.setIfInBounds p v) a.tmps,defers:=[] } W)
 (hbody:∀(l:Nat)(pre:List α)(x:α)(a':Act)(W:World),I pre W→Ax x a' W→Sp (pre++[x])→pre.length<N→body.wpIn (Fence.wide.inRound l) (n-1-1) P (ownPostG w.heap.size Kp I Ix (pre++[x]) W) a' W)
 (hdone:∀(D:Nat)(xs:List α)(W:World),w.heap.size≤D→S xs→I xs W→W.heap[D]?=some (.deferred (some []))→Q .normal { a with defers:={ target:=.collected D,args:=#[] }::a.defers } W)
 (kD:∀(D:Nat)(c:Code)(pre:List α)(W:World),w.heap.size≤D→Sp pre→Ix c pre W→W.heap[D]?=some (.deferred (some []))→c.wpIn Fence.wide n P Q { a with defers:={ target:=.collected D,args:=#[] }::a.defers } W) :
 (Code.rangeFunc g ps assign body).wpIn Fence.wide n P Q a w:=by
 refine wpIn_rangeFunc fun fn hfn=>?_
 generalize hB:w.heap.size=B at *;have eJ:(w.alloc (.deferred (some []))).heap.size=B+1:=by rw[World.size_alloc,hB]
 -- the block for the eT deferred calls (B) and the loop's record (B+1)
 have own:∀{st:LoopState}{pe:Option Code}{W:World},W.heap[B+1]?=some (.loop (recAt fn a ps assign body B st pe))→B+1<W.heap.size:=fun h=>(Array.getElem?_eq_some_iff.1 h).1
 have start:∃W1,(w.alloc (.deferred (some []))).alloc (.loop (recAt fn a ps assign body B .ready none))=W1∧Below B w W1∧W1.heap.size=B+2∧
  W1.heap[B+1]?=some (.loop (recAt fn a ps assign body B .ready none))∧W1.heap[B]?=some (.deferred (some []))∧I [] W1:=by
  refine⟨_,rfl,((Below.refl B w).alloc (Nat.le_of_eq hB.symm) _).alloc (by rw[eJ];omega) _,by rw[World.size_alloc,eJ],?_,?_,hI.alloc _ (hI.alloc _ h0)⟩
  ·have:=World.alloc_heap_new (w.alloc (.deferred (some []))) (.loop (recAt fn a ps assign body B .ready none));rwa[eJ]at this
  ·have:=World.alloc_heap_new w (.deferred (some []));rw[hB]at this;exact(Below.heap_alloc _ _ _ (by rw[eJ];omega)).trans this
 obtain⟨W1,hW1,hbW,hsz,hrec,hdef,hI1⟩:=start;have yg:∀{β:Type}{J:β→World→Prop},OwnFrom B J→∀(s:β)(X Y:World)(row:Option Nat),J s X→X.grownBy Y row→(∀r,row=some r→W1.heap.size≤r∧∃o:Obj,X.heap[r]?=some o∧o.isWalk=true)→J s Y:=fun hJ s X Y row hs hgr hr =>
  hJ s X Y row hs hgr fun r e=>by
   obtain⟨q1,o,q2,q3⟩:=hr r e;exact⟨ω,o,q2,Obj.not_cells_of_walk q3⟩
 have still:∀{X Y:World}{row:Option Nat}{k:Nat}{o:Obj},X.grownBy Y row→(∀r,row=some r→W1.heap.size≤r∧∃o:Obj,X.heap[r]?=some o∧o.isWalk=true)→X.heap[k]?=some o→o.isWalk=false→Y.heap[k]?=some o:=fun hgr hr hk hw =>
  (grownBy_keeps hgr (fun r e=>(hr r e).2) hk hw).trans hk
 rw[show Fence.wide.round=none from rfl];refine⟨B+1,[{ target:=.collected B,args:=#[] }],W1,{ target:=.fn (.func gf) lb,args:=#[.func (.yield (B+1)) #[] #[]] },W1,gf,#[.func (.yield (B+1)) #[] #[]]++lb,W1,?_,?_,fun f' _=>trivial,?_,fun _=>h1,?_⟩
 ·have:=run_enterLoop_outer (P:=P) (w:=w) fn a.tmps ps assign body;rw[←hW1];rw[hB]at this;exact this
 ·simp only[resolve,hg];simp[go_sem]
 ·simp[invoke,go_sem,eg]
 refine(hseq (B+1)
  (fun pre W=>I pre W∧W.heap[B+1]?=some (.loop (recAt fn a ps assign body B .ready none))∧W.heap[B]?=some (.deferred (some [])))
  (fun pre W=>∃c,Ix c pre W∧W.heap[B+1]?=some (.loop (recAt fn a ps assign body B .done (some c)))∧W.heap[B]?=some (.deferred (some [])))
  W1 (hB ▸ hbW)
  (fun s X Y row hs hgr hr=>⟨yg hI s X Y row hs.1 hgr hr,still hgr hr hs.2.1 rfl,still hgr hr hs.2.2 rfl⟩)
  (fun s X Y row hs hgr hr=>by
   obtain⟨c,q1,q2,q3⟩:=hs;exact⟨c,yg (gF c) s X Y row q1 hgr hr,still hgr hr q2 rfl,still hgr hr q3 rfl⟩)
  ?round ⟨hI1,hrec,hdef⟩).mono ?rest
 case round =>
  rintro pre x W ⟨hi,hl,hk⟩ hR hsp hlen;refine⟨fn,_,assign,body,run_yield (P:=P) (args:=ZI x) hl (hps x),roundIn_of_wpIn hfn (FM _ pre x W _ hi hR hsp hlen ?_)⟩;intro a' Wa FB Wv Oi cR;replace hl:=FB.same _ _ ω hl rfl;replace hk:=FB.same _ _ (Nat.le_refl _) hk rfl;replace hi:=Oi;clear Oi hR
  revert Wv FB
  generalize W=Wb;intro FB Wv;obtain⟨W,rfl⟩:∃W,W=Wa:=⟨_,rfl⟩;refine⟨_,run_beginRound hl rfl,?_⟩;have hlt:=own hl;have hl2:(W.putObj (B+1) (.loop (recAt fn a ps assign body B .busy none))).heap[B+1]?=some (.loop (recAt fn a ps assign body B .busy none)):=World.putObj_heap_same hlt;have hk2:(W.putObj (B+1) (.loop (recAt fn a ps assign body B .busy none))).heap[B]?=some (.deferred (some [])):=(World.putObj_heap_other ω).trans hk;refine wpIn_mono (hbody _ pre x a' _ (hI.putObj _ hi ω hl rfl) ((gH x a').putObj (s:=()) _ cR ω hl rfl) hsp hlen) fun e a3 W3 hp=>?_
  have Xj:∀(jump:Option Code),KeepsFrom B (W.putObj (B+1) (.loop (recAt fn a ps assign body B .busy none))) W3→
   (Instr.endRound (B+1) jump).run P W3=.ok (τ jump.isNone) (W3.putObj (B+1) (.loop (recAt fn a ps assign body B (if jump.isNone then .ready else .done) jump)))∧
   W3.heap[B+1]?=some (.loop (recAt fn a ps assign body B .busy none))∧
   (W3.putObj (B+1) (.loop (recAt fn a ps assign body B (if jump.isNone then .ready else .done) jump))).heap[B+1]?=some (.loop (recAt fn a ps assign body B (if jump.isNone then .ready else .done) jump))∧
   (W3.putObj (B+1) (.loop (recAt fn a ps assign body B (if jump.isNone then .ready else .done) jump))).heap[B]?=some (.deferred (some [])):=fun jump hk3=>by
   have lC:=hk3.same _ _ ω hl2 rfl;exact⟨run_endRound (P:=P) jump lC,lC,World.putObj_heap_same (own lC),(World.putObj_heap_other ω).trans (hk3.same _ _ (Nat.le_refl _) hk2 rfl)⟩
  have left:∀c:Code,KeepsFrom B (W.putObj (B+1) (.loop (recAt fn a ps assign body B .busy none))) W3→Ix c (pre++[x]) W3→
   ∃v W4,(Instr.endRound (B+1) (some c)).run P W3=.ok v W4∧
    ((ρ v=ρ (τ true)∧(I (pre++[x]) W4∧W4.heap[B+1]?=some (.loop (recAt fn a ps assign body B .ready none))∧W4.heap[B]?=some (.deferred (some [])))∧Kp Wb W4)∨
     (ρ v=ρ (τ false)∧∃c,Ix c (pre++[x]) W4∧W4.heap[B+1]?=some (.loop (recAt fn a ps assign body B .done (some c)))∧W4.heap[B]?=some (.deferred (some [])))):=fun c hk3 PL=>by
   obtain⟨q1,q2,q3,q4⟩:=Xj (some c) hk3;exact⟨_,_,q1,.inr ⟨rfl,c,(gF _).putObj _ PL ω q2 rfl,q3,q4⟩⟩
  cases e with
  |normal=>obtain⟨hk3,lD,PL⟩:=hp;obtain⟨q1,q2,q3,q4⟩:=Xj none hk3;exact⟨_,_,q1,.inl ⟨rfl,⟨hI.putObj _ PL ω q2 rfl,q3,q4⟩,gz (gz (gz Wv (lM _ _ _ _ ω hl rfl rfl)) lD) (lM _ _ _ _ ω q2 rfl rfl)⟩⟩
  |ret=>exact left .ret hp.1 hp.2
  |exit id=>exact left (.exit id) hp.1 hp.2
  |goto t=>exact left (.goto t) hp.1 hp.2
  |panic ch=>exact hp.elim
  |outgrown=>exact hp.elim
 case rest =>
  rintro e W2 ⟨⟨v,rfl⟩,(⟨xs,hS,hi,hl,hk⟩|⟨pre,hSp,c,hi,hl,hk⟩)⟩
  ·exact⟨none,_,run_endLoop (P:=P) hl (by simp[recAt]),hdone _ xs _ (Nat.le_refl _) hS (hI.putObj _ hi ω hl rfl) ((World.putObj_heap_other ω).trans hk)⟩
  ·exact⟨some c,_,run_endLoop (P:=P) hl (by simp[recAt]),kD _ c pre _ (Nat.le_refl _) hSp ((gF c).putObj _ hi ω hl rfl) ((World.putObj_heap_other ω).trans hk)⟩
theorem Qkx{α:Type}{g:Operand}{ps:Array Tmp}{assign body:Code}{Q:Exit→Act→World→Prop}{a:Act}{w:World}
 (h1:1≤n) {gf:Nat} {lb:Array Value} (hg:a.eval g=.func (.func gf) #[] lb) (eg:∀args w,(callFunc gf args).run P w=.ok (.enter gf args) w)
 {ZI:α→Array Value} {R:α→World→Prop} {Kp:World→World→Prop} {S Sp:List α→Prop} {N:Nat} (hseq:iP (n-1) P gf lb ZI R Kp S Sp N w)
 (gz:∀{A B C:World},Kp A B→Kp B C→Kp A C) (lM:∀(W:World)(l:Nat)(o o':Obj),w.heap.size≤l→W.heap[l]?=some o→o.isCells=false→o.isWalk=false→Kp W (W.putObj l o')) (hps:∀x,(ZI x).size=ps.size)
 (I:List α→World→Prop) (Ix:Code→List α→World→Prop) (J:World→Prop) (hI:OwnFrom w.heap.size I) (gF:∀c,OwnFrom w.heap.size (Ix c)) (h0:I [] w) (Ax:α→Nat→World→Prop) (gH:∀x b,OwnFrom w.heap.size (fun(_:Unit) W=>Ax x b W))
 (hd:∀ys W,S ys→I ys W→J W)
 (hs:∀c pre W,Sp pre→Ix c pre W→J W∧∀a',Q .normal a' W→c.wpIn Fence.wide n P Q a' W)
 (SU:∀(x:α)(b:Nat),∃a₁:Act,(∀(l:Nat)(pre:List α)(W:World)(K:Act→World→Prop),W.heap.size=b→I pre W→R x W→Sp (pre++[x])→pre.length<N→(∀W',KeepsFrom w.heap.size W W'→Kp W W'→I pre W'→Ax x b W'→K a₁ W')→
  assign.wpIn (Fence.wide.inRound l) (n-1-1) P (Exit.then K (fun _ _ _=>False)) { tmps:=(ps.zip (ZI x)).foldl (fun t (p,v)=>t.setIfInBounds p v) a.tmps,defers:=[] } W)∧
  (∀(l:Nat)(pre:List α)(W:World),I pre W→Ax x b W→Sp (pre++[x])→pre.length<N→body.wpIn (Fence.wide.inRound l) (n-1-1) P (ownPostG w.heap.size Kp I Ix (pre++[x]) W) a₁ W))
 (hrest:∀(D:Nat)(W:World),w.heap.size≤D→J W→W.heap[D]?=some (.deferred (some []))→Q .normal { a with defers:={ target:=.collected D,args:=#[] }::a.defers } W) :
 (Code.rangeFunc g ps assign body).wpIn Fence.wide n P Q a w :=
 Qid h1 hg eg hseq gz lM hps I Ix hI gF h0 (fun x a' W=>∃b,a'=(SU x b).choose∧Ax x b W)
  (fun x a' s X Y row hs hg hr=>by obtain⟨b,e,h⟩:=hs;exact⟨b,e,gH x b () X Y row h hg hr⟩)
  (fun l pre x W K hi hR hsp hlt hK=>(SU x W.heap.size).choose_spec.1 l pre W K rfl hi hR hsp hlt fun W' q1 q2 q3 q4=>hK _ W' q1 q2 q3 ⟨_,rfl,q4⟩)
  (fun l pre x a' W hi cR hsp hlt=>by obtain⟨b,rfl,h⟩:=cR;exact(SU x b).choose_spec.2 l pre W hi h hsp hlt)
  (fun D ys W hD hS hi hK=>hrest D W hD (hd ys W hS hi) hK) (fun D c pre W hD hS hi hK=>(hs c pre W hS hi).2 _ (hrest D W hD (hs c pre W hS hi).1 hK))
