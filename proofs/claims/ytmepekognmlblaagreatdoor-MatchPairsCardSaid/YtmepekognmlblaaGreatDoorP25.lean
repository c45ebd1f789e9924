import Derived.Test.YtmepekognmlblaaGreatDoorP23
import Derived.Test.YtmepekognmlblaaGreatDoorP24
set_option maxHeartbeats 16000000
set_option maxRecDepth 100000
set_option linter.unusedVariables false
open Go.ChangeShapes Go.WideShapes Go.ChangeAt Go.RowKit
open _root_.Nat renaming lt_of_lt_of_le→VE,le_trans→QW
open _root_.List renaming length_map→VD,getElem?_eq_none→YP
open Go.Lib renaming hid→QA
open Go.Value renaming string→σ,int→ι,slice→ς,agg→ξ
open Go.IntKind renaming i64→γ
open Go.Obj renaming cells→θ
open Go.Ending renaming returned→ρ
namespace Go.Proofs.YtmepekognmlblaaGreatDoor
namespace Tree
open Mem
theorem Ů:∀{c:F},∀nd∈KH c,nd.c.size<c.size
 | .nil,nd,h=>by cases h
 | .cons k x y c r,nd,h=>by
   rcases List.mem_cons.1 h with rfl|h
   ·exact c160
   ·have:=Ů (c:=r) nd h;exact c160
def OD(w:World)(N:Nat)(wr:World)(v:Value)(f:F)(vt:Value)(ct:F):Prop:=∀(W':World)(S':Nat→Prop),(∀b,w.heap.size+2≤b→b<N→some b≠v.ownBlock→W'.heap[b]?=wr.heap[b]?)→(∀b,w.heap.size+2≤b→b<N→S' b)→Fs W' S' v f→Fs W' S' vt ct
section
variable {w wr W:World}{N:Nat}{v vt:Value}{f ct:F}
theorem OD.later(h:OD w N wr v f vt ct)(hN:N≤wr.heap.size)(hb:Below wr.heap.size wr W):OD w N W v f vt ct:=fun W' S' h1 h2 h3=>h W' S' (fun b hb0 hb' hne=>(h1 b hb0 hb' hne).trans (hb.block b ω)) h2 h3
theorem OD.grown(h:OD w N wr v f vt ct)(hN:N≤wr.heap.size)(hg:wr.grownBy W v.ownBlock):OD w N W v f vt ct:=fun W' S' h1 h2 h3=>h W' S' (fun b hb0 hb' hne=>(h1 b hb0 hb' hne).trans (hg.block b ω hne)) h2 h3
end
structure Tz(w wr:World)(k:Int)(x y:ByteArray)(vt:Value)(ct:F)(v:Value)(f:F):Prop where
 QF:Below w.heap.size w wr
 b1:Boxed wr w.heap.size k x y vt
 b2:Boxed wr (w.heap.size+1) 0 ⟨#[]⟩ ⟨#[]⟩ (ς none 0 0)
 o:Zs wr (Lo w.heap.size) v (KH f)
 d:∀g,v.ownBlock=some g→w.heap.size+2≤g
 sz:w.heap.size+2≤wr.heap.size
 TZ:OD w wr.heap.size wr v f vt ct
structure YM(w W:World)(N g n C:Nat)(k:Int)(x y:ByteArray)(vt:Value)(ct:F)(v0:Value)(f c0:F)(i:Nat):Prop where
 QF:Below w.heap.size w W
 b1:Boxed W w.heap.size k x y vt
 b2:Boxed W (w.heap.size+1) 0 ⟨#[]⟩ ⟨#[]⟩ (ς none 0 0)
 row:∃ps:List (Nd×Value),ps.map (·.1)=KH f∧W.ownsRow 0 24 4 (ς (some ⟨g,0,none⟩) n C) n (ps.flatMap VC)∧(∀p,ps[0]?=some p→p.2=v0)∧
  (∀j p,1≤j→j≤i→ps[j]?=some p→Fs W (fun b=>N≤b∧b<W.heap.size∧some b≠v0.ownBlock) p.2 p.1.c)∧(∀j p,i<j→ps[j]?=some p→Fs W (Lo w.heap.size) p.2 p.1.c)
 o0:Zs W (Lo w.heap.size) v0 (KH c0)
 d0:∀g0,v0.ownBlock=some g0→N≤g0
 hg:w.heap.size+2≤g∧g<N
 hN:N≤W.heap.size
 TZ:OD w N W (ς (some ⟨g,0,none⟩) n C) f vt ct
theorem Qpb(p:Nd×Value)(ps:List (Nd×Value))(v0:Value):((p::ps).flatMap VC).set 3 v0=((p.1,v0)::ps).flatMap VC:=by simp[VC]
section
variable {w wr W W':World}{N g n C:Nat}{k:Int}{x y:ByteArray}{vt v v0:Value}{ct f c0:F}{i:Nat}
theorem Tz.start{w1:World}{k0:Int}{x0 y0:ByteArray}{r:F}(h:Tz w wr k x y vt ct (ς (some ⟨g,0,none⟩) n C) (.cons k0 x0 y0 c0 r))(hb:Below wr.heap.size wr w1)(ho:Zs w1 (Lo w.heap.size) v0 (KH c0))(hd:∀g0,v0.ownBlock=some g0→wr.heap.size≤g0) :
 YM w (w1.setCell ⟨g,3,none⟩ v0) wr.heap.size g n C k x y vt ct v0 (.cons k0 x0 y0 c0 r) c0 0:=by
 have hg2:=h.d g rfl;have hgl:=h.o.lt (g:=g) rfl;have q1:=h.b1.lt;have q2:=h.b2.lt;have hgr:=Uo w1 g 3 v0;have hor:Zs w1 (Lo w.heap.size) (ς (some ⟨g,0,none⟩) n C) (KH (.cons k0 x0 y0 c0 r)):=h.o.later hb fun b hb'=>VE hb' h.QF.size
 have hlo:∀b,Lo w.heap.size b→b<w1.heap.size∧some b≠some g:=fun b hb'=>by
  have cQ:b<w.heap.size:=hb';have:=h.QF.size;have:=hb.size;exact⟨ω,fun e=>by have:=Option.some.inj e;omega⟩
 have hle:=hb.size;refine⟨(h.QF.trans (hb.mono h.QF.size)).setCell (p:=⟨g,3,none⟩) (show w.heap.size≤g by omega) _,(Below.heap_setCell _ _ _ _ (show w.heap.size≠g by omega)).trans (h.b1.below hb q1),(Below.heap_setCell _ _ _ _ (show w.heap.size+1≠g by omega)).trans (h.b2.below hb q2),?_,ho.grown hgr (.inr fun e=>by have:=hd _ e;omega) hlo,hd,⟨hg2,hgl⟩,QW hle hgr.size,(h.TZ.later (Nat.le_refl _) hb).grown hle hgr⟩;obtain⟨ps,e1,hown,VX⟩:=hor;obtain⟨a',c',e,_,_⟩:=Q0 hown;injection e with _ e2 _;rw[←e2]at hown
 match ps,e1 with
 |p::ps,e1=>have hst:=(hown.stored 3 v0).1;rw[Qpb]at hst;refine⟨(p.1,v0)::ps,e1,hst,fun q hq=>by simp at hq;rw[←hq],fun j q h1 h2=>ω,fun j q hj hq=>?_⟩;obtain⟨j',rfl⟩:∃j',j=j'+1:=⟨j-1,ω⟩;have hm:q∈p::ps:=List.mem_cons_of_mem _ (List.mem_of_getElem? (by simpa using hq));exact(VX q hm).keep fun b hb'=>hgr.block b (hlo b hb').1 (hlo b hb').2
theorem YM.later(h:YM w W N g n C k x y vt ct v0 f c0 i)(hb:Below W.heap.size W W'):YM w W' N g n C k x y vt ct v0 f c0 i:=by
 have hs:=h.QF.size;obtain⟨ps,e1,ho,e0,h1,h2⟩:=h.row;refine⟨h.QF.trans (hb.mono hs),h.b1.below hb h.b1.lt,h.b2.below hb h.b2.lt,⟨ps,e1,?_,e0,fun j p a b c=>((h1 j p a b c).keep fun q hq=>hb.block q hq.2.1).more fun q hq=>⟨hq.1,VE hq.2.1 hb.size,hq.2.2⟩,fun j p a b=>(h2 j p a b).below hb hs⟩,h.o0.later hb fun b hb'=>VE hb' hs,h.d0,h.hg,QW h.hN hb.size,h.TZ.later h.hN hb⟩;exact ho.kept (Jh hb none) (.inr (by simp[Value.ownBlock]))
theorem YM.put{nd:Nd}{s':Value}(h:YM w W N g n C k x y vt ct v0 f c0 i)(hnd:(KH f)[i+1]? = some nd)(hf:Fs W (fun b=>N≤b∧b<W.heap.size∧some b≠v0.ownBlock) s' nd.c) :
 YM w (KD W g (i+1) nd.k nd.x nd.y s') N g n C k x y vt ct v0 f c0 (i+1):=by
 have hg2:=h.hg;have hN:=h.hN;have hgr:=El W g (i+1) nd.k nd.x nd.y s';obtain⟨ps,e1,ho,e0,h1,h2⟩:=h.row;have hil:i+1<ps.length:=by have:=(List.getElem?_eq_some_iff.1 hnd).1;rw[←e1,VD]at this;exact this
 have r1:=(ho.stored ((i+1)*4) (ι γ nd.k)).1;have r2:=(r1.stored ((i+1)*4+1) (σ nd.x)).1;have r3:=(r2.stored ((i+1)*4+2) (σ nd.y)).1;have r4:=(r3.stored ((i+1)*4+3) s').1;rw[Gw (nd,s') ps (i+1) hil]at r4
 have hlo:∀b,Lo w.heap.size b→b<W.heap.size∧some b≠some g:=fun b hb'=>by
  have cQ:b<w.heap.size:=hb';have:=h.QF.size;exact⟨ω,fun e=>by have:=Option.some.inj e;omega⟩
 have XM:∀b,(N≤b∧b<W.heap.size∧some b≠v0.ownBlock)→b<W.heap.size∧some b≠some g:=fun b hb'=>⟨hb'.2.1,fun e=>by have:=Option.some.inj e;have:=hb'.1;omega⟩
 refine⟨h.QF.trans (UL hgr h.QF.size fun q e=>by have:=Option.some.inj e;omega),(hgr.block _ h.b1.lt fun e=>by have:=Option.some.inj e;omega).trans h.b1,(hgr.block _ h.b2.lt fun e=>by have:=Option.some.inj e;omega).trans h.b2,⟨ps.set (i+1) (nd,s'),?_,r4,?_,fun j p a b c=>?_,fun j p a b=>?_⟩,h.o0.grown hgr (.inr fun e=>by have:=h.d0 _ e;omega) hlo,h.d0,h.hg,QW h.hN hgr.size,h.TZ.grown h.hN hgr⟩
 ·rw[List.map_set,e1];apply List.ext_getElem?;intro j;rw[List.getElem?_set];split
  ·rename_i hj
   subst hj;rw[if_pos (by rw[←e1,VD];exact hil)];exact hnd.symm
  ·rfl
 ·intro p hp;rw[List.getElem?_set_ne ω]at hp;exact e0 p hp
 ·by_cases hj:j=i+1
  ·subst hj;rw[List.getElem?_set_self hil]at c;obtain rfl:=Option.some.inj c;exact(hf.keep fun b hb'=>hgr.block b (XM b hb').1 (XM b hb').2).more fun b hb'=>⟨hb'.1,VE hb'.2.1 hgr.size,hb'.2.2⟩
  ·rw[List.getElem?_set_ne (Ne.symm hj)]at c;exact((h1 j p a ω c).keep fun b hb'=>hgr.block b (XM b hb').1 (XM b hb').2).more fun b hb'=>⟨hb'.1,VE hb'.2.1 hgr.size,hb'.2.2⟩
 ·rw[List.getElem?_set_ne ω]at b;exact(h2 j p ω b).keep fun q hq=>hgr.block q (hlo q hq).1 (hlo q hq).2
theorem YM.done{k0:Int}{x0 y0:ByteArray}{r:F}(h:YM w W N g n C k x y vt ct v0 (.cons k0 x0 y0 c0 r) c0 i)(hi:r.len≤i):Tz w W k x y vt ct v0 c0:=by
 have hg2:=h.hg;have hN:=h.hN;refine⟨h.QF,h.b1,h.b2,h.o0,fun g0 e=>by have:=h.d0 g0 e;omega,ω,fun W' S' hw hS hf=>?_⟩;obtain⟨ps,e1,ho,e0,h1,h2⟩:=h.row;obtain⟨a',C',e,Ld,RS⟩:=Q0 ho;have hlen:ps.length=r.len+1:=by
  have:(ps.map (·.1)).length=(KH (.cons k0 x0 y0 c0 r)).length:=by rw[e1]
  rw[VD,Ul]at this;exact this
 have Db:(ps.flatMap VC).length=n*4:=ho.1;rw[Lm.rE Vn]at Db;have hn:ps.length=n:=ω
 have ck:some g≠v0.ownBlock:=fun e=>by have:=h.d0 g e.symm;omega
 have cC:W'.heap[g]?=W.heap[g]?:=hw g hg2.1 ω ck;refine h.TZ W' S' (fun b hb hb' hne=>hw b hb ω fun e=>?_) (fun b hb hb'=>hS b hb ω) ?_
 ·have:=h.d0 b e.symm;omega
 ·have ad:∀j,(⟨g,0,none⟩:Addr).add j=⟨g,j,none⟩:=fun j=>by unfold Addr.add;split <;> simp_all
  have hc:=ho.cells (g:=g) rfl;injection e with _ _ e3
  have hrow:=Yf (w:=W') (S:=S') g (hS g hg2.1 ω) ps 0 n C hn (by rw[←e3]at Ld;exact Ld) (by rw[e3];exact RS) (fun j u hu=>by
   have:=hc j u hu;rw[ad]at this;rw[Nat.zero_add]
   exact(World.cell?_of_block (a:=⟨g,j,none⟩) cC).trans this) (fun p hp=>by
    obtain⟨j,hj⟩:=List.getElem?_of_mem hp;have hjl:j<ps.length:=(List.getElem?_eq_some_iff.1 hj).1;by_cases Mf:j=0
    ·subst Mf;have hp1:p.1=⟨k0,x0,y0,c0⟩:=by
      have:(ps.map (·.1))[0]?=some p.1:=by rw[List.getElem?_map,hj];rfl
      rw[e1]at this;exact(Option.some.inj this).symm
     rw[e0 p hj,hp1];exact hf
    ·exact((h1 j p ω ω hj).keep fun b hb'=>hw b (by have:=hb'.1;omega) hb'.2.1 hb'.2.2).more fun b hb'=>hS b (by have:=hb'.1;omega) hb'.2.1) _ (.inr rfl)
  have e4:YG (ps.map (·.1))=.cons k0 x0 y0 c0 r:=by rw[e1,yK]
  rwa[e4]at hrow
theorem Tz.fin{A:Option Addr}{m M:Nat}(h:Tz w wr k x y vt ct (ς A m M) .nil):Fs wr (fun b=>w.heap.size+2≤b∧b<wr.heap.size) vt ct:=by
 obtain⟨a',c',e,_,hc⟩:=h.o.slice;injection e with e1 e2 e3;exact h.TZ wr _ (fun _ _ _ _=>rfl) (fun b hb hb'=>⟨hb,hb'⟩) ⟨A,M,by rw[e2];rfl,by rw[e3];exact hc⟩
theorem YM.at_(h:YM w W N g n C k x y vt ct v0 f c0 i){j:Nat}{nd:Nd}(hj:(KH f)[j]?=some nd) :
 ∃s,W.cell? ⟨g,j*4,none⟩=some (ι γ nd.k)∧W.cell? ⟨g,j*4+1,none⟩=some (σ nd.x)∧W.cell? ⟨g,j*4+2,none⟩=some (σ nd.y)∧W.cell? ⟨g,j*4+3,none⟩=some s∧(i<j→Fs W (Lo w.heap.size) s nd.c)∧(j=0→s=v0):=by
 obtain⟨ps,e1,ho,e0,h1,h2⟩:=h.row;have hjl:j<ps.length:=by have:=(List.getElem?_eq_some_iff.1 hj).1;rw[←e1,VD]at this;exact this
 obtain⟨p,hp⟩:∃p,ps[j]?=some p:=⟨_,List.getElem?_eq_getElem hjl⟩;have GZ:p.1=nd:=by
  have:(ps.map (·.1))[j]?=some p.1:=by rw[List.getElem?_map,hp];rfl
  rw[e1,hj]at this;exact(Option.some.inj this).symm
 have hc:=ho.cells (g:=g) rfl;have ad:∀j,(⟨g,0,none⟩:Addr).add j=⟨g,j,none⟩:=fun j=>by unfold Addr.add;split <;> simp_all
 have at_:∀t u,(VC p)[t]? = some u→W.cell? ⟨g,j*4+t,none⟩=some u:=fun t u hu=>by
  have:=hc (j*4+t) u (Lm.Uz (sz:=4) Vn ps j p hp t u hu);rwa[ad]at this
 refine⟨p.2,?_,?_,?_,at_ 3 _ rfl,fun hij=>?_,fun h0=>by subst h0;exact e0 p hp⟩
 ·have:=at_ 0 _ rfl;rwa[GZ]at this
 ·have:=at_ 1 _ rfl;rwa[GZ]at this
 ·have:=at_ 2 _ rfl;rwa[GZ]at this
 ·have:=h2 j p hij hp;rwa[GZ]at this
theorem YM.dL(h:YM w W N g n C k x y vt ct v0 f c0 i)(j:Nat):W.frozen? ⟨g,j*4,none⟩=false∧W.frozen? ⟨g,j*4+1,none⟩=false∧W.frozen? ⟨g,j*4+2,none⟩=false∧W.frozen? ⟨g,j*4+3,none⟩=false:=by
 obtain⟨ps,_,ho,_⟩:=h.row;exact⟨ho.frozenAt _,ho.frozenAt _,ho.frozenAt _,ho.frozenAt _⟩
end
theorem Zs.JO{w:World}{S:Nat→Prop}{g n c:Nat}{L:List Nd}(h:Zs w S (ς (some ⟨g,0,none⟩) n c) L)(j:Nat):w.frozen? ⟨g,j,none⟩=false:=by
 obtain⟨ps,_,ho,_⟩:=h;obtain⟨_,_,e,_,_⟩:=Q0 ho;injection e with _ e2 _;rw[←e2]at ho;exact ho.frozenAt j
def Qp3(w:World)(k:Int)(x y:ByteArray)(c:F)(e:Ending)(w':World):Prop:=Below w.heap.size w w'∧∃(Ar:Option Addr)(nr Cr:Nat),e=ρ (ξ #[ι γ k,σ x,σ y,ς Ar nr Cr])∧Fs w' (Ll w.heap.size w') (ς Ar nr Cr) c
def TF(W:World)(v:Value):Prop:=∀g,v.ownBlock=some g→∃vals,W.heap[g]?=some (θ vals 24 (0,0))
theorem TF.below{W W':World}{v:Value}(h:TF W v)(hb:Below W.heap.size W W'):TF W' v:=fun g e=>by
 obtain⟨vals,q⟩:=h g e;exact⟨vals,(hb.block g (lt_of_block q)).trans q⟩
theorem TF.set{W:World}{v:Value}(h:TF W v)(b off:Nat)(u:Value):TF (W.setCell ⟨b,off,none⟩ u) v:=fun g e=>by
 obtain⟨vals,q⟩:=h g e;by_cases hb:g=b
 ·subst hb;exact⟨_,Z8 q off u⟩
 ·exact⟨vals,(Below.heap_setCell _ _ _ _ hb).trans q⟩
theorem Zs.tf{w:World}{S:Nat→Prop}{v:Value}{L:List Nd}(h:Zs w S v L):TF w v:=fun g e=>by
 obtain⟨ps,h1,ho,hf⟩:=h;rcases ho.2 with⟨e0,h0⟩|⟨g',cap,cur,hv,hg0,hg,q1,q2,q3,q4⟩
 ·rw[e0]at e;cases e
 ·rw[hv]at e;obtain rfl:=Option.some.inj e;exact⟨_,hg⟩
def Ql7(w:World)(k:Int)(x y:ByteArray)(c:F)(e:Ending)(w':World):Prop:=Below w.heap.size w w'∧∃(Ar:Option Addr)(nr Cr:Nat),e=ρ (ξ #[ι γ k,σ x,σ y,ς Ar nr Cr])∧Fs w' (Ll w.heap.size w') (ς Ar nr Cr) c∧TF w' (ς Ar nr Cr)
def Yl(N:Nat):Prop:=∀(k:Int)(x y:ByteArray)(A:Option Addr)(n C:Nat)(c:F)(w:World),c.size≤N→c.size≤100000→Fs w (Lo w.heap.size) (ς A n C) c→
 Calls Tryz.prog 56 #[ξ #[ι γ k,σ x,σ y,ς A n C]] w fun e w'=>Ql7 w k x y c e w'
def iQ(N:Nat):Prop:=∀(k:Int)(x y:ByteArray)(A:Option Addr)(n C:Nat)(c:F)(w:World),c.size≤N→c.size≤100000→Fs w (Lo w.heap.size) (ς A n C) c→
 Calls Tryz.prog 56 #[ξ #[ι γ k,σ x,σ y,ς A n C]] w fun e w'=>Qp3 w k x y c e w'
theorem Qkg(N:Nat)(ih:∀M,M<N→iQ M):Yl N:=by
 intro k x y A n C c w hN hbig hf;have Sm:=QA ih;have b1:=Qt w (θ #[ι γ k,σ x,σ y,ς A n C] 24) (θ #[ι γ 0,σ ⟨#[]⟩,σ ⟨#[]⟩,ς none 0 0] 24);have MM:=QA (Qf6 w.heap.size A n C c _ (hf.below b1 (Nat.le_refl _)) b1.size (QW (F.QL c) ω));have Pn:Hid (Boxed ((w.alloc (θ #[ι γ k,σ x,σ y,ς A n C] 24)).alloc (θ #[ι γ 0,σ ⟨#[]⟩,σ ⟨#[]⟩,ς none 0 0] 24)) w.heap.size k x y (ς A n C)):=(Below.heap_alloc _ _ _ ψ).trans (heap_alloc_new _ _);have oU:Hid (Boxed ((w.alloc (θ #[ι γ k,σ x,σ y,ς A n C] 24)).alloc (θ #[ι γ 0,σ ⟨#[]⟩,σ ⟨#[]⟩,ς none 0 0] 24)) (w.heap.size+1) 0 ⟨#[]⟩ ⟨#[]⟩ (ς none 0 0)):=by
  have e:w.heap.size+1=(w.alloc (θ #[ι γ k,σ x,σ y,ς A n C] 24)).heap.size:=ψ
  rw[e];exact heap_alloc_new _ _
 have Hi:Hid (((w.alloc (θ #[ι γ k,σ x,σ y,ς A n C] 24)).alloc (θ #[ι γ 0,σ ⟨#[]⟩,σ ⟨#[]⟩,ς none 0 0] 24)).heap.size=w.heap.size+2):=by show _=_;simp
 have JP:=QA b1;clear ih hf b1;go_enter Tryz.func56,Tryz.ntmps56;go_wp2_with fail;refine MM.out.mono ?_;rintro e w3 ⟨hb3,At,nt,Ct,rfl,UY,hd3⟩;have hx1:=Pn.out.below hb3 Pn.out.lt;have hx2:=oU.out.below hb3 oU.out.lt;have HM:Hid (Tz w (w3.setCell ⟨w.heap.size,3,none⟩ (ς At nt Ct)) k x y (ς At nt Ct) c (ς At nt Ct) c):=by
  have hs:=hb3.size;have hs2:=Hi.out;have hgr:=Uo w3 w.heap.size 3 (ς At nt Ct);refine⟨(JP.out.trans (hb3.mono JP.out.size)).setCell (p:=⟨w.heap.size,3,none⟩) (Nat.le_refl _) _,?_,(Below.heap_setCell _ _ _ _ (show w.heap.size+1≠w.heap.size by omega)).trans hx2,UY.grown hgr (.inr fun e=>by have:=hd3 _ e;omega) fun b hb=>?_,fun g e=>by have:=hd3 g e;omega,QW ω hgr.size,fun W' S' _ _ h=>h⟩
  ·have:=Z8 hx1 3 (ς At nt Ct);unfold Boxed;simpa using this
  ·have hb':b<w.heap.size:=hb;exact⟨ω,fun e=>by have:=Option.some.inj e;omega⟩
 have yV:Hid (TF (w3.setCell ⟨w.heap.size,3,none⟩ (ς At nt Ct)) (ς At nt Ct)):=UY.tf.set _ _ _;obtain⟨y0,y1,y2,y3⟩:=JO hx1;obtain⟨I5,I4,I3,I2⟩:=hx1.cells;obtain⟨p0,p1,p2,p3⟩:=HM.out.b1.cells;clear hx1 hx2 UY hd3 hb3 MM Pn oU Hi JP;go_wp2;clear p0 p1 p2 p3 I5 I4 I3 I2 y0 y1 y2 y3
 go_loopg [3] (c.size+1) (fun p s3 wr=>∃(A:Option Addr)(n C:Nat)(f:F),f.size<p∧f.size≤N∧f.size≤100000∧s3=ς A n C∧Hid (Tz w wr k x y (ς At nt Ct) c (ς A n C) f)∧Hid (TF wr (ς At nt Ct)))
 case atStart=>exact⟨At,nt,Ct,c,ω,hN,hbig,rfl,HM.out,yV.out⟩
 case round =>
  clear HM hN hbig yV;obtain⟨A1,n1,C1,f,hsz,hN,hbig,rfl,HM,aq⟩:=hrel;cases Rj:f with
  |nil=>rw[Rj]at HM;obtain⟨a',c',e,_,_⟩:=HM.out.o.slice;injection e with e1 e2 e3;have hn0:n1=0:=e2;subst hn0;have VX:=HM.out.fin;obtain⟨p0,p1,p2,p3⟩:=HM.out.b1.cells;obtain⟨y0,y1,y2,y3⟩:=JO HM.out.b2;obtain⟨I5,I4,I3,I2⟩:=HM.out.b2.cells;have QP:=QA VX;clear e1 e2 e3 Rj VX;go_wp2;refine bodyPost_ret (results_cell_row rfl _ _ (w.heap.size+1) 24 _ (0,0) _ rfl (X3 HM.out.b2) Tryz.underlying24 rfl pY) rfl ?_;have hbb:=Ji wr (w.heap.size+1) (ι γ k) (σ x) (σ y) (ς At nt Ct);exact⟨HM.out.QF.trans (hbb.mono (Nat.le_succ _)),At,nt,Ct,rfl,(QP.out.keep fun b hb=>Vr _ _ _ _ _ _ _ (by have:=hb.1;omega)).more fun b hb=>⟨QW ω hb.1,Nat.lt_of_lt_of_le hb.2 hbb.size⟩,(((aq.out.set _ _ _).set _ _ _).set _ _ _).set _ _ _⟩
  |cons k0 x0 y0 c0 r =>
   rw[Rj]at HM hsz hN hbig;have kQ:(KH (.cons k0 x0 y0 c0 r))[0]?=some ⟨k0,x0,y0,c0⟩:=rfl;have hlen:n1=r.len+1:=by obtain⟨a',c',e,_,_⟩:=HM.out.o.slice;injection e with e1 e2 e3;rw[e2,Ul];rfl
   have hcap:n1≤C1∧C1≤9223372036854775807:=by obtain⟨a',c',e,h1,h2⟩:=HM.out.o.slice;injection e with e1 e2 e3;exact⟨ω,by rw[e3];exact h2⟩
   obtain⟨Ld,RS⟩:=hcap;obtain⟨g,s0,rfl,hgl,d0,d1,d2,d3,EK⟩:=HM.out.o.at_ kQ;obtain⟨A0,C0,rfl,_,_⟩:=EK.slice;simp only[F.size]at hsz hN hbig;obtain⟨n0,hn0⟩:=Mem.QD (c0.len);rw[hn0]at d3 EK;have hl0:=F.QL c0;have hlr:=F.QL r;have MM:=QA (Qf6 w.heap.size A0 n0 C0 c0 wr EK HM.out.QF.size ω);have Ô:wr.cell? ⟨g,3,none⟩=some (ς A0 n0 C0):=by simpa using d3
   obtain⟨A',n',C',hsl,en,eC,hA'⟩:=Ju g 0 n1 C1 ω Ld;have hn':n'=r.len:=ω
   have FT:C'≤9223372036854775807:=ω
   have Q2j:n'≤C':=ω
   have Ri:(0:Int)<(n1:Int):=ω
   have Dz:Hid (n'=0∨A'=some ⟨g,4,none⟩):=by rcases hA' with h|h;exact .inl ω;exact .inr (by rw[h])
   have Q2k:n'≤100000:=ω
   have ja:=QA hn';have J':=QA hlen;clear Rj kQ d0 d1 d2 d3 EK hn0 hl0 hA' en eC hn' hlr hlen;go_wp2_with fail;refine MM.out.mono ?_;rintro e w4 ⟨hb4,A4,n4,C4,rfl,p9,À⟩;have HI:=QA (HM.out.start hb4 p9 À);have yU:=QA ((aq.out.below hb4).set g 3 (ς A4 n4 C4));have hz:=HM.out.o.later hb4 fun b hb=>Nat.lt_of_lt_of_le hb HM.out.QF.size
   have hzf:=hz.JO 3;have Np:=(hb4.cell (p:=⟨g,3,none⟩) hgl).trans Ô;have uQ:=QA hgl;clear hb4 p9 À hz MM HM hgl Ô;go_wp2;clear hzf Np
   go_loopw [30] (fun jv W=>∃i:Nat,i≤n'∧jv=ι γ (i:Int)∧Hid (YM w W wr.heap.size g n1 C1 k x y (ς At nt Ct) c (ς A4 n4 C4) (.cons k0 x0 y0 c0 r) c0 i)∧Hid (TF W (ς At nt Ct))) (fun jv _=>n'-(intOf jv).toNat)
   case atStart=>exact⟨0,Nat.zero_le _,rfl,HI.out,yU.out⟩
   case round =>
    clear HI yU aq;obtain⟨i,hi,rfl,HI,yU⟩:=hrel
    rename World=>W
    by_cases hlt:i<n'
    ·obtain rfl:=Dz.out.resolve_left ω;have hlt':(i:Int)<(n':Int):=ω
     have hi0:(0:Int)≤(i:Int):=ω
     have hi1:(i:Int)+1<(n1:Int):=by have:=J'.out;have:=ja.out;omega
     obtain⟨⟨kk,kx,ky,kc⟩,hnd⟩:∃nd,(KH (.cons k0 x0 y0 c0 r))[i+1]?=some nd:=⟨_,List.getElem?_eq_getElem (by rw[Ul];have:=ja.out;simp only[F.len];omega)⟩;obtain⟨s,e0,e1,e2,e3,FF,_⟩:=HI.out.at_ hnd;have FF:=FF (Nat.lt_succ_self _);dsimp only at e0 e1 e2 FF;obtain⟨Ak,Ck,rfl,_,_⟩:=FF.slice;obtain⟨kn,hkn⟩:=Mem.QD (kc.len);rw[hkn]at e3 FF;rw[show(i+1)*4=4+i*4 by omega]at e0 e1 e2 e3;have hmem:=Ů _ (List.mem_of_getElem? hnd);dsimp only[F.size]at hmem;have b5:=Qa W (θ #[ι γ kk,σ kx,σ ky,ς Ak kn Ck] 24);have HC:=QA (Sm.out kc.size ω kk kx ky Ak kn Ck kc _ (Nat.le_refl _) ω (((FF.below b5 HI.out.QF.size).up (QW HI.out.QF.size b5.size))));have sI:=QA (HI.out.later b5);have ar:=QA (yU.out.below b5);have ME:=QA hnd;have II:Hid (W.heap.size≤(W.alloc (θ #[ι γ kk,σ kx,σ ky,ς Ak kn Ck] 24)).heap.size):=b5.size;clear hnd FF hkn hmem b5;go_wp2_with fail;refine HC.out.mono ?_;rintro e w6 ⟨VH,Ar,nr,Cr,rfl,Sy⟩;have lQ:=sI.out.later VH;obtain⟨s6,u0,u1,u2,u3,_,_⟩:=lQ.at_ ME.out;obtain⟨z0,z1,z2,z3⟩:=lQ.dL (i+1);have HP:=lQ.put ME.out (Sy.more fun b hb=>⟨QW sI.out.hN hb.1,hb.2,fun e=>by have:=sI.out.o0.lt e.symm;have:=hb.1;omega⟩);unfold KD at HP;have LG:=QA (ar.out.below VH);have rW:=QA HP;clear lQ HP Sy VH HI sI HC e0 e1 e2 e3;go_wp2
     go_roundw
     case rel=>exact⟨i+1,ω,by go_num,rW.out,(((LG.out.set _ _ _).set _ _ _).set _ _ _).set _ _ _⟩
     case measure=>simp[intOf];omega
    ·have hlt':¬(i:Int)<(n':Int):=ω
     obtain⟨s,e0,e1,e2,e3,_,hs⟩:=HI.out.at_ (j:=0) (nd:=⟨k0,x0,y0,c0⟩) rfl;obtain rfl:=hs rfl;have e3':W.cell? ⟨g,3,none⟩=some (ς A4 n4 C4):=by simpa using e3
     have HD:=QA (HI.out.done (by have:=ja.out;omega));clear e0 e1 e2 e3 hs hlt;go_wp2
     go_roundg (c0.size+1)
     case measure=>omega
     case rel=>exact⟨A4,n4,C4,c0,ω,ω,ω,rfl,HD.out,yU.out⟩
theorem Yl.plain{N:Nat}(h:Yl N):iQ N:=fun k x y A n C c w h1 h2 h3=>(h k x y A n C c w h1 h2 h3).mono fun e w' hp=>by
 obtain⟨hb,Ar,nr,Cr,e1,hf,_⟩:=hp;exact⟨hb,Ar,nr,Cr,e1,hf⟩
theorem Ei(N:Nat):Yl N:=by
 induction N using Nat.strongRecOn with
 |_ N ih=>exact Qkg N fun M hM=>(ih M hM).plain
theorem Qe8(N:Nat):iQ N:=(Ei N).plain
def Qzq(k:Int)(x y:ByteArray)(c:F)(k':Int)(x' y':ByteArray)(c':F):Bool:=k==k'&&(x.toList==x'.toList&&(y.toList==y'.toList&&same c c'))
structure MAt(w W:World)(k:Int)(x y:ByteArray)(s:Value)(c:F)(k':Int)(x' y':ByteArray)(s':Value)(c':F):Prop where
 QF:Below w.heap.size w W
 b2:Boxed W w.heap.size k x y s
 b3:Boxed W (w.heap.size+1) k' x' y' s'
 f2:Fs W (Lo w.heap.size) s c
 f3:Fs W (Lo w.heap.size) s' c'
structure MQ(w W:World)(k:Int)(x y:ByteArray)(s:Value)(kb:Int)(xb yb:ByteArray)(sb:Value)(k2:Int)(x2 y2:ByteArray)(s2:Value)(q:Bool):Prop where
 QF:Below w.heap.size w W
 b2:Boxed W w.heap.size k x y s
 b3:q=false→Boxed W (w.heap.size+1) k2 x2 y2 s2
 b4:q=true→Boxed W (w.heap.size+1) kb xb yb sb
section
variable {w W W':World}{k kb k2:Int}{x y xb yb x2 y2:ByteArray}{s sb s2:Value}{q:Bool}
end
theorem Qbr(k:Int)(x y:ByteArray)(A:Option Addr)(n C:Nat)(c:F)(m:Nat)(w:World)(hf:Fs w (Lo w.heap.size) (ς A n C) c)(EJ:1≤m)(hm2:m≤100000) :
 Calls Tryz.prog 16 #[ξ #[ι γ k,σ x,σ y,ς A n C],ι γ (m:Int)] w fun e w'=>e=ρ (ι γ ((min (c.size+1) m:Nat):Int))∧Below w.heap.size w w':=by
 have b1:=Qa w (θ #[ι γ k,σ x,σ y,ς A n C] 24);have HC:=Lib.hid (D8 c.size k x y A n C c m w.heap.size (w.alloc (θ #[ι γ k,σ x,σ y,ς A n C] 24)) (Nat.le_refl _) (hf.below b1 (Nat.le_refl _)) b1.size EJ hm2);have Z':=Lib.hid b1;have HL:Hid (((⟨k,x,y,c⟩::nodes c:List Nd).take m).length=min (c.size+1) m):=by show _=_;rw[List.length_take,List.length_cons,Qj,Nat.min_comm]
 generalize((⟨k,x,y,c⟩::nodes c:List Nd).take m)=T at *;generalize min (c.size+1) m=s at *;clear hf EJ hm2 b1;go_enter Tryz.func16,Tryz.ntmps16;go_wp2_with fail;refine HC.out.mono ?_;rintro e w1 ⟨⟨v1,rfl,XD⟩,hb1⟩;obtain⟨a1,c1,rfl,hc1,Nw⟩:=XD.slice;have HB:=VO Z' hb1;rw[HL.out]at hc1⊢;clear XD hb1 HC HL Nw;exact c23
end Tree
namespace Shape
open Mem Tree
theorem Zq:(Tryz.prog.info? 3).map (fun i=>(i.zero,i.size,i.bytes))=some (some (ι γ 0),1,8):=χ
theorem Gs:(Tryz.prog.info? 32).map (fun i=>(i.zero,i.size,i.bytes))=some (some (ς none 0 0),1,24):=χ
abbrev iv(z:Int):Value:=ι γ z
abbrev nv(q:Nat):Value:=ι γ (q:Int)
abbrev FN(v:Value)(zs:List Int):QC:=Qb 3 1 v zs.length (zs.map iv)
def VW:List Value→List (List Nat)→List QC
 |v::vs,l::ks=>Qb 3 1 v l.length (l.map nv)::VW vs ks
 |_,_=>[]
theorem Ye:∀(vs:List Value)(ks:List (List Nat)),vs.length=ks.length→(VW vs ks).length=ks.length
 |[],[],_=>rfl
 |[],_::_,h=>by simp at h
 |_::_,[],h=>by simp at h
 |v::vs,l::ks,h=>by
  simp only[VW,List.length_cons];rw[Ye vs ks (by simpa using h)]
theorem Xg:∀{vs:List Value}{ks:List (List Nat)}{i:Nat}{v:Value}{l:List Nat},vs[i]?=some v→ks[i]?=some l→(VW vs ks)[i]?=some (Qb 3 1 v l.length (l.map nv))
 |[],_,i,_,_,h,_=>by simp at h
 |_::_,[],i,_,_,_,h=>by simp at h
 |u::vs,m::ks,0,v,l,h,h'=>by
  simp only[List.getElem?_cons_zero,Option.some.injEq]at h h';subst h;subst h';rfl
 |u::vs,m::ks,i+1,v,l,h,h'=>by
  simp only[List.getElem?_cons_succ]at h h';simpa[VW]using Xg h h'
theorem Uy:∀(vs:List Value)(ks:List (List Nat))(i:Nat)(v:Value)(l:List Nat),vs.length=ks.length→(VW vs ks).set i (Qb 3 1 v l.length (l.map nv))=VW (vs.set i v) (ks.set i l)
 |[],[],_,_,_,_=>rfl
 |[],_::_,_,_,_,h=>by simp at h
 |_::_,[],_,_,_,h=>by simp at h
 |u::vs,m::ks,0,v,l,_=>rfl
 |u::vs,m::ks,i+1,v,l,h=>by
  simp only[VW,List.set_cons_succ];rw[Uy vs ks i v l (by simpa using h)]
theorem D4:∀(vs:List Value)(ks:List (List Nat))(v:Value)(l:List Nat),vs.length=ks.length→VW vs ks++[Qb 3 1 v l.length (l.map nv)]=VW (vs++[v]) (ks++[l])
 |[],[],_,_,_=>rfl
 |[],_::_,_,_,h=>by simp at h
 |_::_,[],_,_,h=>by simp at h
 |u::vs,m::ks,v,l,h=>by
  simp only[VW,List.cons_append];rw[D4 vs ks v l (by simpa using h)]
def D3(vN vP vS vK:Value)(nps:List (Nd×Value))(ps zs:List Int)(us vs:List Value)(ks:List (List Nat)):List QC :=
 [Qb 24 4 vN nps.length (nps.flatMap VC),FN vP ps,FN vS zs,Qb 32 1 vK us.length us]++VW vs ks
section
variable {W:World}{B:Nat}{R:List QC}
theorem yJ{j g n c:Nat}{nps:List (Nd×Value)}(h:QH W B R)(hj:R[j]?=some (Qb 24 4 (ς (some ⟨g,0,none⟩) n c) n (nps.flatMap VC))){i:Nat}{nd:Nd}{s:Value}(hi:nps[i]?=some (nd,s)) :
 W.cell? ⟨g,i*4,none⟩=some (ι γ nd.k)∧W.cell? ⟨g,i*4+1,none⟩=some (σ nd.x)∧W.cell? ⟨g,i*4+2,none⟩=some (σ nd.y)∧W.cell? ⟨g,i*4+3,none⟩=some s:=by
 have H:∀r u,(VC (nd,s))[r]?=some u→W.cell? ⟨g,i*4+r,none⟩=some u:=fun r u hr=>h.cell hj (Lm.Uz Vn nps i (nd,s) hi r u hr)
 exact⟨H 0 _ rfl,H 1 _ rfl,H 2 _ rfl,H 3 _ rfl⟩
theorem Zr{j g:Nat}{T:TypeId}{a b c d:Value}(h:QH W B R)(hj:R[j]?=some (Kf T g [a,b,c,d])) :
 (W.cell? ⟨g,0,none⟩=some a∧W.cell? ⟨g,1,none⟩=some b∧W.cell? ⟨g,2,none⟩=some c∧W.cell? ⟨g,3,none⟩=some d)∧W.frozen? ⟨g,0,none⟩=false∧W.frozen? ⟨g,1,none⟩=false∧W.frozen? ⟨g,2,none⟩=false∧W.frozen? ⟨g,3,none⟩=false :=
 ⟨⟨h.cell hj rfl,h.cell hj rfl,h.cell hj rfl,h.cell hj rfl⟩,h.JO hj 0,h.JO hj 1,h.JO hj 2,h.JO hj 3⟩
end
def told(K:List (List Nat))(i j q:Nat):Prop:=(∃(a:Nat)(l:List Nat),a<i∧K[a]?=some l∧q∈l)∨∃l,K[i]?=some l∧q∈l.take j
structure Q1w(P:List Int)(K:List (List Nat))(i j:Nat)(ps:List Int):Prop where
 len:ps.length=P.length
 yes:∀q,q<P.length→told K i j q→ps[q]?=P[q]?
 no:∀q,q<P.length→¬told K i j q→ps[q]?=some (-1)
theorem Q1w.start(P:List Int)(K:List (List Nat)):Q1w P K 0 0 (List.replicate P.length (-1)) :=
 ⟨List.length_replicate ..,fun q hq h=>by
  rcases h with⟨a,l,h,_⟩|⟨l,_,h⟩
  ·omega
  ·simp at h,fun q hq _=>by rw[List.getElem?_replicate,if_pos hq]⟩
theorem Q1w.step{P:List Int}{K:List (List Nat)}{i j q:Nat}{ps:List Int}{l:List Nat}(h:Q1w P K i j ps)(hl:K[i]?=some l)(hq:l[j]?=some q)(hP:P[q]?=some (i:Int)):Q1w P K i (j+1) (ps.set q (i:Int)):=by
 have hq':q<P.length:=(List.getElem?_eq_some_iff.1 hP).1;refine⟨by rw[List.length_set,h.len],fun r hr ht=>?_,fun r hr ht=>?_⟩
 ·by_cases e:q=r
  ·subst e;rw[List.getElem?_set_self (by rw[h.len];exact hq'),hP]
  ·rw[List.getElem?_set_ne e];refine h.yes r hr ?_;rcases ht with ht|⟨l',hl',hm⟩
   ·exact .inl ht
   ·rw[hl]at hl';injection hl' with hl';subst hl';rw[List.take_add_one,hq]at hm;rcases List.mem_append.1 hm with hm|hm
    ·exact .inr ⟨l,hl,hm⟩
    ·simp at hm;exact absurd hm.symm e
 ·have e:q≠r:=fun e=>ht (.inr ⟨l,hl,by rw[List.take_add_one,hq];subst e;simp⟩)
  rw[List.getElem?_set_ne e];refine h.no r hr fun ht'=>ht ?_
  rcases ht' with ht' |⟨l',hl',hm⟩
  ·exact .inl ht'
  ·rw[hl]at hl';injection hl' with hl';subst hl';exact .inr ⟨l,hl,by rw[List.take_add_one];exact List.mem_append_left _ hm⟩
theorem Q1w.next{P:List Int}{K:List (List Nat)}{i:Nat}{ps:List Int}{l:List Nat}(h:Q1w P K i l.length ps)(hl:K[i]?=some l):Q1w P K (i+1) 0 ps:=by
 have ht:∀q,told K (i+1) 0 q ↔ told K i l.length q:=fun q=>by
  constructor
  ·rintro(⟨a,m,ha,hm,hq⟩|⟨m,_,hq⟩)
   ·by_cases e:a=i
    ·subst e;rw[hl]at hm;injection hm with hm;subst hm;exact .inr ⟨l,hl,by rw[List.take_length];exact hq⟩
    ·exact .inl ⟨a,m,ω,hm,hq⟩
   ·simp at hq
  ·rintro(⟨a,m,ha,hm,hq⟩|⟨m,hm,hq⟩)
   ·exact .inl ⟨a,m,ω,hm,hq⟩
   ·rw[hl]at hm;injection hm with hm;subst hm;exact .inl ⟨i,l,ω,hl,by rw[List.take_length]at hq;exact hq⟩
 exact⟨h.len,fun q hq a=>h.yes q hq ((ht q).1 a),fun q hq a=>h.no q hq fun b=>a ((ht q).2 b)⟩
theorem Q1w.all{k:Int}{x y:ByteArray}{c:F}{ps:List Int}(h:Q1w (Jn (-1) 0 (one k x y c)) (Z7 0 (one k x y c)) (one k x y c).size 0 ps):ps=Jn (-1) 0 (one k x y c):=by
 apply List.ext_getElem?;intro q;by_cases hq:q<(Jn (-1) 0 (one k x y c)).length
 ·by_cases hq0:q=0
  ·subst hq0;rw[h.no 0 hq]
   ·rfl
   ·rintro(⟨a,l,_,hl,hm⟩|⟨l,_,hm⟩)
    ·have:=(fg _ (-1) 0 a 0 l hl hm).2.1;omega
    ·simp at hm
  ·refine h.yes q hq ?_;rcases fB (one k x y c) 0 q (Nat.zero_le _) (by rw[Y1]at hq;omega)with h' |⟨i,l,hl,hm⟩
   ·simp[one,places]at h';exact absurd h' hq0
   ·exact .inl ⟨i,l,by have:=(List.getElem?_eq_some_iff.1 hl).1;rwa[Vh]at this,hl,hm⟩
 ·rw[YP (by rw[h.len];omega),YP ω]
def Xt(K:List (List Nat))(i j:Nat):List (List Nat):=K.mapIdx fun a l=>if a<i then l else if a=i then l.take j else[]
theorem Qet(K:List (List Nat))(i j:Nat):(Xt K i j).length=K.length:=by simp[Xt]
theorem Qiq(K:List (List Nat)):Xt K 0 0=List.replicate K.length []:=by
 apply List.ext_getElem?;intro q;unfold Xt;rw[List.getElem?_mapIdx,List.getElem?_replicate];by_cases h:q<K.length
 ·rw[List.getElem?_eq_getElem h,if_pos h];simp
 ·rw[YP ω,if_neg h];rfl
theorem ń{K:List (List Nat)}{i j:Nat}{l:List Nat}(h:K[i]?=some l):(Xt K i j)[i]?=some (l.take j):=by
 unfold Xt;rw[List.getElem?_mapIdx,h];simp
theorem Qmy{K:List (List Nat)}{i j q:Nat}{l:List Nat}(h:K[i]?=some l)(hq:l[j]?=some q):(Xt K i j).set i (l.take j++[q])=Xt K i (j+1):=by
 apply List.ext_getElem?;intro a;rw[List.getElem?_set,Qet];have hi:=(List.getElem?_eq_some_iff.1 h).1;by_cases e:i=a
 ·subst e;rw[if_pos rfl,if_pos hi,ń h,List.take_add_one,hq];rfl
 ·rw[if_neg e];unfold Xt;rw[List.getElem?_mapIdx,List.getElem?_mapIdx];have:¬a=i:=fun h=>e h.symm
  simp[this]
theorem Qm1{K:List (List Nat)}{i:Nat}{l:List Nat}(h:K[i]?=some l):Xt K i l.length=Xt K (i+1) 0:=by
 apply List.ext_getElem?;intro a;unfold Xt;rw[List.getElem?_mapIdx,List.getElem?_mapIdx];cases ha:K[a]? with
 |none=>rfl
 |some m =>
  simp only[Option.map_some,Option.some.injEq];by_cases e:a=i
  ·subst e;rw[h]at ha;injection ha with ha;subst ha;simp
  ·by_cases h1:a<i
   ·rw[if_pos h1,if_pos ω]
   ·rw[if_neg h1,if_neg e,if_neg ω];by_cases h2:a=i+1
    ·rw[if_pos h2];simp
    ·rw[if_neg h2]
theorem Qqb(K:List (List Nat))(i:Nat)(h:K.length≤i):Xt K i 0=K:=by
 apply List.ext_getElem?;intro a;unfold Xt;rw[List.getElem?_mapIdx];cases ha:K[a]? with
 |none=>rfl
 |some m=>have:=(List.getElem?_eq_some_iff.1 ha).1;simp only[Option.map_some,if_pos (show a<i by omega)]
