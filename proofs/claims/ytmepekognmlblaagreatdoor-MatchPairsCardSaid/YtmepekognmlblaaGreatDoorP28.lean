import Derived.Test.YtmepekognmlblaaGreatDoorP26
import Derived.Test.YtmepekognmlblaaGreatDoorP27
import Derived.Lib.AppendIntMem
import Derived.Deep.DeepCutAuto
import Derived.Deep.CutRange
set_option maxHeartbeats 16000000
set_option maxRecDepth 100000
set_option linter.unusedVariables false
open Go.ChangeShapes Go.WideShapes Go.ChangeAt Go.RowKit Go.Proofs.Tryz
open _root_.List renaming getElem?_eq_getElem→QN,getD_eq_getElem?_getD→QX,getElem?_map→VP,length_map→VD,mem_of_getElem?→JK
open Go.World renaming cell?_of_block→JW
open Go.Value renaming string→σ,int→ι,slice→ς,pointer→π,bool→τ,agg→ξ
open Go.IntKind renaming i64→γ
open Go.Obj renaming cells→θ
open Go.Ending renaming returned→ρ
namespace Go.Proofs.YtmepekognmlblaaGreatDoor
namespace Shape
open Mem Tree
def M2(vS:Value)(nS:Nat)(cS:List Value)(vO:Value)(nO:Nat)(us:List Value)(K:List (List Nat)):List QC :=
 Qb 24 4 vS nS cS::Qb 32 1 vO nO us::VW us K
def ints(l:List Nat):List Int:=l.map fun(q:Nat)=>(q:Int)
def yl(T:F):List (List Int):=(Z7 0 T).map ints
def Ă(l:F):List (List Int):=(Kl [] l).map ints
def Vg(w:World)(S:Nat→Prop)(T:F)(v:Value):Prop :=
 ∃vN vP vS vK,v=ξ #[vN,vP,vS,vK]∧Fs w S vN (YG (nodes T))∧U7 w S vP ((Jn (-1) 0 T).map iv)∧U7 w S vS ((Zt T).map iv)∧Jr w S vK (yl T)
theorem Vg.keep{w w':World}{S:Nat→Prop}{T:F}{v:Value}(h:Vg w S T v)(hb:∀b,S b→w'.heap[b]?=w.heap[b]?):Vg w' S T v:=by
 obtain⟨vN,vP,vS,vK,e,h1,h2,h3,h4⟩:=h;exact⟨vN,vP,vS,vK,e,h1.keep hb,h2.keep hb,h3.keep hb,h4.keep hb⟩
theorem Vg.more{w:World}{S S':Nat→Prop}{T:F}{v:Value}(h:Vg w S T v)(hs:∀b,S b→S' b):Vg w S' T v:=by
 exact c108
theorem Qy1(W:World)(ps:List (Nd×Value))(h:∀p∈ps,Fs W (Lo W.heap.size) p.2 p.1.c)(hn:ps.length≤45000) :
 Fs (W.alloc (θ (ps.flatMap VC).toArray 24)) (Lo (W.heap.size+1)) (ς (some ⟨W.heap.size,0,none⟩) ps.length ps.length) (YG (ps.map (·.1))):=by
 have hb:=Qz W (θ (ps.flatMap VC).toArray 24);refine Yf W.heap.size (by show _<_;omega) ps 0 ps.length ps.length rfl (Nat.le_refl _) ω (fun j u hu=>?_) (fun p hp=>?_) _ (.inr rfl)
 ·rw[Nat.zero_add];exact Vk W _ _ j u hu
 ·exact((h p hp).later hb).up ψ
def Pow (w:World):Prop:=Lib.TabIs Tryz.prog w "internal/strconv.uint64pow10" .u64 Lib.pow10Tab
theorem Pow.on{w w':World}(h:Pow w)(hb:Below w.heap.size w w'):Pow w':=(Lib.tabBelow_of_tabIs h) w' hb
def Hg(k:Int):Prop:=-9223372036854775808≤k∧k≤9223372036854775807
def Vf:F→Prop
 | .nil=>True
 | .cons k x y c r=>Hg k∧Vf c∧Vf r
def Qp6:Prop:=∀(A:Option Addr)(n C:Nat)(l:F)(w:World),Pow w→Fs w (Lo w.heap.size) (ς A n C) l→l.size≤45000→Zp l→Vf l→
 Calls Tryz.prog 38 #[ς A n C] w fun e w'=>Below w.heap.size w w'∧∃v,e=ρ v∧Jr w' (In w.heap.size w'.heap.size) v (Ă l)
theorem Ĭ{w:World}{B:Nat}{R:List QC}{e:TypeId}{v:Value}{us:List Value}{K:List (List Nat)}{i m:Nat}(h:QH w B R)(hi:R[i]?=some (Qb e 1 v us.length us))(hu:us.length=K.length)
 (hk:∀(j:Nat)(u:Value)(l:List Nat),us[j]?=some u→K[j]?=some l→∃q:Nat,R[q]?=some (Qb 3 1 u l.length (l.map nv))):Jr w (In B w.heap.size) v (K.map ints):=by
 refine⟨us,by rw[List.length_map,hu],h.Nb hi,fun j u l hj hl=>?_⟩;rw[List.getElem?_map]at hl;cases hK:K[j]? with
 |none=>rw[hK]at hl;cases hl
 |some m=>rw[hK]at hl;injection hl with hl;subst hl;obtain⟨q,hq⟩:=hk j u m hj hK;have:=h.Nb hq;rwa[show(ints m).map (ι γ)=m.map nv by unfold ints;rw[List.map_map];rfl]
theorem ď{w:World}{base:Nat}{e:TypeId}{size n:Nat}{v:Value}{xs:List Value}(h:w.ownsRow 0 e size v n xs)(hb:∀k,v.ownBlock=some k→base≤k):w.ownsRow base e size v n xs:=by
 refine⟨h.1,?_⟩;rcases h.2 with h' |⟨g,cap,cur,a,b,r⟩
 ·exact .inl h'
 ·exact .inr ⟨g,cap,cur,a,hb g (by rw[a];rfl),r⟩
end Shape
namespace Match
open Mem Tree Shape
def eI(s:Sd):List Int:=Zt s.T
def Je(w:World)(S:Nat→Prop)(g o:Nat)(s:Sd):Prop :=
 ∃AN CN AP CP AZ CZ AK CK,(w.cell? ⟨g,o,none⟩=some (ς AN s.n CN)∧w.cell? ⟨g,o+1,none⟩=some (ς AP s.n CP)∧w.cell? ⟨g,o+2,none⟩=some (ς AZ s.n CZ)∧w.cell? ⟨g,o+3,none⟩=some (ς AK s.n CK))∧
  Fs w S (ς AN s.n CN) (YG s.nd)∧U7 w S (ς AP s.n CP) (s.par.map iv)∧U7 w S (ς AZ s.n CZ) ((eI s).map iv)∧Jr w S (ς AK s.n CK) (yl s.T)
def U5(w:World)(S:Nat→Prop)(W:Nat)(s:Sd):Prop :=
 S W∧∃val:Nat→Value,(∀w':World,w'.heap[W]?=w.heap[W]?→∀m:Nat,m<1000000→(Instr.lookup 63 (.map (some W)) (ι γ (m:Int)) false).run Tryz.prog w'=.ok (val m) w')∧∀m:Nat,m<1000000→U7 w S (val m) ((ints (s.wh m)).map iv)
def pE(w:World)(S:Nat→Prop)(g:Nat)(a b:Sd):Prop:=∃AM CM,w.cell? ⟨g,8,none⟩=some (ς AM 2 CM)∧Jr w S (ς AM 2 CM) [ints a.ns,ints b.ns]
structure RO(w:World)(S:Nat→Prop)(g:Nat)(a b:Sd):Prop where
 own:S g
 pa:Je w S g 0 a
 pb:Je w S g 4 b
 Nj:pE w S g a b
 wa:∃W,w.cell? ⟨g,9,none⟩=some (.map (some W))∧U5 w S W a
 wb:∃W,w.cell? ⟨g,10,none⟩=some (.map (some W))∧U5 w S W b
def Ia(L:List Int):Obj:=θ (L.map iv).toArray 3 (0,0)
structure MS(w:World)(S:Nat→Prop)(g gA gB:Nat)(a b:Sd)(M:St):Prop where
 ro:RO w S g a b
 cA:∃C,w.cell? ⟨g,11,none⟩=some (ς (some ⟨gA,0,none⟩) a.n C)
 cB:∃C,w.cell? ⟨g,12,none⟩=some (ς (some ⟨gB,0,none⟩) b.n C)
 mA:w.heap[gA]?=some (Ia M.1)
 mB:w.heap[gB]?=some (Ia M.2)
 lA:M.1.length=a.n
 lB:M.2.length=b.n
 ne:gA≠gB
 safe:∀k,S k→k<w.heap.size∧k≠gA∧k≠gB
structure Fit(a b:Sd):Prop where
 nums:ZM a b
 na:a.n≤20000
 nb:b.n≤20000
 la:a.ns.length=a.n
 lb:b.ns.length=b.n
 fa:∀m∈a.ns,m<1000000
 fb:∀m∈b.ns,m<1000000
 ka:∀x,Hg (a.at_ x).k
 kb:∀x,Hg (b.at_ x).k
section
variable {w w':World}{S:Nat→Prop}{g gA gB o:Nat}{a b s:Sd}{M:St}
theorem Je.keep(h:Je w S g o s)(hg:S g)(hb:∀k,S k→w'.heap[k]?=w.heap[k]?):Je w' S g o s:=by
 obtain⟨AN,CN,AP,CP,AZ,CZ,AK,CK,⟨c0,c1,c2,c3⟩,h1,h2,h3,h4⟩:=h;have e:∀i,w'.cell? ⟨g,i,none⟩=w.cell? ⟨g,i,none⟩:=fun i=>JW (w:=w) (hb g hg)
 exact⟨AN,CN,AP,CP,AZ,CZ,AK,CK,⟨by rw[e];exact c0,by rw[e];exact c1,by rw[e];exact c2,by rw[e];exact c3⟩,h1.keep hb,h2.keep hb,h3.keep hb,h4.keep hb⟩
theorem U5.keep{W:Nat}(h:U5 w S W s)(hb:∀k,S k→w'.heap[k]?=w.heap[k]?):U5 w' S W s:=by
 obtain⟨hS,val,h1,h2⟩:=h;exact⟨hS,val,fun w2 e m hm=>h1 w2 (e.trans (hb W hS)) m hm,fun m hm=>(h2 m hm).keep hb⟩
theorem RO.keep(h:RO w S g a b)(hb:∀k,S k→w'.heap[k]?=w.heap[k]?):RO w' S g a b:=by
 have e:∀i,w'.cell? ⟨g,i,none⟩=w.cell? ⟨g,i,none⟩:=fun i=>JW (w:=w) (hb g h.own)
 obtain⟨AM,CM,h1,h2⟩:=h.Nj;obtain⟨W0,h3,h4⟩:=h.wa;obtain⟨W1,h5,h6⟩:=h.wb;exact⟨h.own,h.pa.keep h.own hb,h.pb.keep h.own hb,⟨AM,CM,by rw[e];exact h1,h2.keep hb⟩,⟨W0,by rw[e];exact h3,h4.keep hb⟩,⟨W1,by rw[e];exact h5,h6.keep hb⟩⟩
theorem MS.later(h:MS w S g gA gB a b M)(hb:Below w.heap.size w w'):MS w' S g gA gB a b M:=by
 have hk:∀k,S k→w'.heap[k]?=w.heap[k]?:=fun k hk=>hb.block k (h.safe k hk).1
 have e:∀i,w'.cell? ⟨g,i,none⟩=w.cell? ⟨g,i,none⟩:=fun i=>JW (w:=w) (hk g h.ro.own)
 have lt:∀{k:Nat}{o:Obj},w.heap[k]? = some o→k<w.heap.size:=fun{k o} hh=>by
  rcases Nat.lt_or_ge k w.heap.size with h1|h1
  ·exact h1
  ·rw[Array.getElem?_eq_none h1]at hh;cases hh
 obtain⟨CA,hA⟩:=h.cA;obtain⟨CB,hB⟩:=h.cB;exact⟨h.ro.keep hk,⟨CA,by rw[e];exact hA⟩,⟨CB,by rw[e];exact hB⟩,(hb.block _ (lt h.mA)).trans h.mA,(hb.block _ (lt h.mB)).trans h.mB,h.lA,h.lB,h.ne,fun k hk=>⟨Nat.lt_of_lt_of_le (h.safe k hk).1 hb.size,(h.safe k hk).2⟩⟩
theorem MS.drewN(h:MS w S g gA gB a b M)(q:Nat):MS (w.drewN q) S g gA gB a b M:=h.later ⟨rfl,rfl,rfl,Nat.le_refl _,fun _ _=>rfl⟩
structure QB(gA gB:Nat)(w w':World):Prop where
 os:w'.os=w.os
 tape:w'.tape=w.tape
 output:w'.output=w.output
 size:w.heap.size≤w'.heap.size
 block:∀k,k<w.heap.size→k≠gA→k≠gB→w'.heap[k]?=w.heap[k]?
theorem QB.refl(gA gB:Nat)(w:World):QB gA gB w w:=⟨rfl,rfl,rfl,Nat.le_refl _,fun _ _ _ _=>rfl⟩
theorem QB.trans{w1 w2:World}(h:QB gA gB w w1)(h':QB gA gB w1 w2):QB gA gB w w2 :=
 ⟨h'.os.trans h.os,h'.tape.trans h.tape,h'.output.trans h.output,Nat.le_trans h.size h'.size,fun k hk h1 h2=>(h'.block k (Nat.lt_of_lt_of_le hk h.size) h1 h2).trans (h.block k hk h1 h2)⟩
theorem QB.of_below(h:Below w.heap.size w w'):QB gA gB w w':=⟨h.os,h.tape,h.output,h.size,fun k hk _ _=>h.block k hk⟩
theorem QB.drewN(w:World)(q:Nat):QB gA gB w (w.drewN q):=⟨rfl,rfl,rfl,Nat.le_refl _,fun _ _ _ _=>rfl⟩
theorem QB.below(h:QB gA gB w w'){B:Nat}(hB:B≤w.heap.size)(hA:B≤gA)(hG:B≤gB):Below B w w':=⟨h.os,h.tape,h.output,h.size,fun k hk=>h.block k ω ω ω⟩
theorem vD{l:List Int}{i:Nat}{z:Int}(h:l[i]?=some z):(l.map iv)[i]?=some (ι γ z):=by rw[VP,h];rfl
theorem Je.node(h:Je w S g o s){x:Nat}(hx:x<s.n):∃gN oN CN sl,w.cell? ⟨g,o,none⟩=some (ς (some ⟨gN,oN,none⟩) s.n CN)∧(w.cell? ⟨gN,oN+x*4,none⟩=some (ι γ (s.at_ x).k)∧w.cell? ⟨gN,oN+x*4+1,none⟩=some (σ (s.at_ x).x)∧w.cell? ⟨gN,oN+x*4+2,none⟩=some (σ (s.at_ x).y)∧w.cell? ⟨gN,oN+x*4+3,none⟩=some sl)∧Fs w S sl (s.at_ x).c:=by
 obtain⟨AN,CN,AP,CP,AZ,CZ,AK,CK,⟨c0,c1,c2,c3⟩,h1,h2,h3,h4⟩:=h;obtain⟨b',off,sl,e,_,_,hat⟩:=h1.at_ (D9 s.nd x (s.at_ x) (Sd.ZK hx));subst e;exact⟨b',off,CN,sl,c0,⟨hat.c0,hat.c1,hat.c2,hat.c3⟩,hat.kids⟩
theorem Je.parent(h:Je w S g o s){x:Nat}(hx:x<s.n):∃gP oP CP,w.cell? ⟨g,o+1,none⟩=some (ς (some ⟨gP,oP,none⟩) s.n CP)∧w.cell? ⟨gP,oP+x,none⟩=some (ι γ (s.par.getD x 0)):=by
 obtain⟨AN,CN,AP,CP,AZ,CZ,AK,CK,⟨c0,c1,c2,c3⟩,h1,h2,h3,h4⟩:=h;obtain⟨A,c,e,_,_,hr⟩:=h2;injection e with e1 e2 e3;subst e1;have hl:x<s.par.length:=by rw[Sd.YF];exact hx
 obtain⟨gP,oP,rfl,_,hc⟩:=hr.at_ (vD (z:=s.par.getD x 0) (by rw[QX,QN hl];rfl));exact⟨gP,oP,CP,c1,hc⟩
theorem Qxs{x:Nat}(hx:x<s.n):(eI s)[x]?=some ((s.sz x:Nat):Int):=by
 unfold eI;rw[Xe,VP];have:=Sd.ZK hx;unfold Sd.nd at this;rw[this];rfl
theorem Je.size(h:Je w S g o s){x:Nat}(hx:x<s.n):∃gZ oZ CZ,w.cell? ⟨g,o+2,none⟩=some (ς (some ⟨gZ,oZ,none⟩) s.n CZ)∧w.cell? ⟨gZ,oZ+x,none⟩=some (ι γ ((s.sz x:Nat):Int)):=by
 obtain⟨AN,CN,AP,CP,AZ,CZ,AK,CK,⟨c0,c1,c2,c3⟩,h1,h2,h3,h4⟩:=h;obtain⟨A,c,e,_,_,hr⟩:=h3;injection e with e1 e2 e3;subst e1;obtain⟨gP,oP,rfl,_,hc⟩:=hr.at_ (vD (Qxs hx));exact⟨gP,oP,CZ,c2,hc⟩
theorem Qv9{x:Nat}(hx:x<s.n):(yl s.T)[x]?=some (ints (s.kid x)):=by
 unfold yl Sd.kid;have hl:x<(Z7 0 s.T).length:=by rw[Vh,←Sd.GN];exact hx
 rw[VP,QX,QN hl];rfl
theorem Je.kids(h:Je w S g o s){x:Nat}(hx:x<s.n):∃gK oK CK A C,w.cell? ⟨g,o+3,none⟩=some (ς (some ⟨gK,oK,none⟩) s.n CK)∧w.cell? ⟨gK,oK+x,none⟩=some (ς A (s.kid x).length C)∧(s.kid x).length≤C∧C≤maxLen∧Vx w S A ((ints (s.kid x)).map iv):=by
 obtain⟨AN,CN,AP,CP,AZ,CZ,AK,CK,⟨c0,c1,c2,c3⟩,h1,h2,h3,h4⟩:=h;obtain⟨us,hl,hs,hr⟩:=h4;obtain⟨A,c,e,_,_,Lb⟩:=hs;injection e with e1 e2 e3;subst e1;have hu:x<us.length:=by rw[←e2];exact hx
 obtain⟨gK,oK,rfl,_,hc⟩:=Lb.at_ (QN hu);obtain⟨A',C',e',k1,k2,k3⟩:=hr x _ _ (QN hu) (Qv9 hx);have el:((ints (s.kid x)).map (ι γ)).length=(s.kid x).length:=by rw[VD];unfold ints;rw[VD]
 rw[el]at e' k1;rw[e']at hc;exact⟨gK,oK,CK,A',C',c3,hc,k1,k2,k3⟩
theorem ints_at{l:List Nat}{i v:Nat}(h:l[i]?=some v):((ints l).map iv)[i]?=some (ι γ ((v:Nat):Int)):=vD (by unfold ints;rw[VP,h];rfl)
theorem Jo{x:Nat}(hl:s.ns.length=s.n)(hx:x<s.n):s.ns[x]?=some (s.no x):=by
 unfold Sd.no;rw[QX,QN ω];rfl
theorem pE.two(h:pE w S g a b):∃gM oM CM A0 C0 A1 C1,w.cell? ⟨g,8,none⟩=some (ς (some ⟨gM,oM,none⟩) 2 CM)∧w.cell? ⟨gM,oM,none⟩=some (ς A0 a.ns.length C0)∧w.cell? ⟨gM,oM+1,none⟩=some (ς A1 b.ns.length C1)∧Vx w S A0 ((ints a.ns).map iv)∧Vx w S A1 ((ints b.ns).map iv):=by
 obtain⟨AM,CM,hc,us,hl,hs,hr⟩:=h;obtain⟨A,c,e,_,_,Lb⟩:=hs;injection e with e1 e2 e3;subst e1;have hl:us.length=2:=hl;obtain⟨gM,oM,rfl,_,h0⟩:=Lb.at_ (i:=0) (QN ω);obtain⟨g',o',e',_,h1⟩:=Lb.at_ (i:=1) (QN ω);injection e' with e';injection e' with e4 e5;subst e4;subst e5;obtain⟨A0,C0,e0,_,_,r0⟩:=hr 0 _ _ (QN ω) rfl;obtain⟨A1,C1,e1,_,_,r1⟩:=hr 1 _ _ (QN ω) rfl;have el:∀l:List Nat,((ints l).map (ι γ)).length=l.length:=fun l=>by rw[VD];unfold ints;rw[VD]
 rw[el]at e0 e1;rw[e0]at h0;rw[e1]at h1;exact⟨gM,oM,CM,A0,C0,A1,C1,hc,h0,h1,r0,r1⟩
theorem X4{k:Nat}{L:List Int}(h:w.heap[k]?=some (Ia L)){x:Nat}(hx:x<L.length):w.cell? ⟨k,x,none⟩=some (ι γ (L.getD x 0))∧w.frozen? ⟨k,x,none⟩=false:=by
 have e:(L.map iv).toArray[x]?=some (ι γ (L.getD x 0)):=by rw[List.getElem?_toArray];exact vD (by rw[QX,QN hx];rfl)
 constructor
 ·simp only[World.cell?,h,Ia];exact e
 ·simp[World.frozen?,h,Ia]
end
variable {w:World}{S:Nat→Prop}{g gA gB:Nat}{a b:Sd}{M:St}
theorem U4(h:MS w S g gA gB a b M)(hf:Fit a b)(x y:Nat)(hx:x<a.n)(hy:y<b.n) :
 Calls prog 39 #[π (some ⟨g,0,none⟩),ι γ (x:Int),ι γ (y:Int)] w fun e w'=>e=ρ (τ (JU a b x y))∧∃q,w'=w.drewN q:=by
 obtain⟨gM,oM,CM,A0,C0,A1,C1,q0,q1,q2,r0,r1⟩:=h.ro.Nj.two;rw[hf.la]at q1;rw[hf.lb]at q2;obtain⟨g0,o0,rfl,_,c0⟩:=r0.at_ (ints_at (Jo hf.la hx));obtain⟨g1,o1,rfl,_,c1⟩:=r1.at_ (ints_at (Jo hf.lb hy));have hx0:(0:Int)≤(x:Int):=ω
 have hy0:(0:Int)≤(y:Int):=ω
 have hx1:(x:Int)<(a.n:Int):=ω
 have hy1:(y:Int)<(b.n:Int):=ω
 have HV:Hid (JU a b x y=(((a.no x:Nat):Int)==((b.no y:Nat):Int))):=by
  show _=_;unfold JU;by_cases e:a.no x=b.no y
  ·rw[e,beq_self_eq_true,beq_self_eq_true]
  ·rw[beq_eq_false_iff_ne.2 e,beq_eq_false_iff_ne.2 ω]
 generalize JU a b x y=R at *;generalize a.no x=n0 at *;generalize b.no y=n1 at *;clear h hf hx hy r0 r1;go_enter func39,ntmps39;go_wp2
 go_quiet (fail)
 go_wp2;go_ret;exact⟨by rw[HV.out];rfl,_,rfl⟩
theorem Gv(h:MS w S g gA gB a b M)(x:Nat)(hx:x<a.n) :
 Calls prog 49 #[π (some ⟨g,0,none⟩),ι γ 0,ι γ (x:Int)] w fun e w'=>e=ρ (τ (QQ M.1 x))∧∃q,w'=w.drewN q:=by
 obtain⟨C,q0⟩:=h.cA;have q1:=(X4 h.mA (x:=x) (by rw[h.lA];exact hx)).1;have hx0:(0:Int)≤(x:Int):=ω
 have hx1:(x:Int)<(a.n:Int):=ω
 have HV:Hid (QQ M.1 x=decide (M.1.getD x 0<0)):=rfl;generalize QQ M.1 x=R at *;generalize M.1.getD x 0=z at *;clear h hx;go_enter func49,ntmps49;go_wp2;go_ret;exact⟨by rw[HV.out];rfl,0,rfl⟩
theorem Gu(h:MS w S g gA gB a b M)(x:Nat)(hx:x<b.n) :
 Calls prog 49 #[π (some ⟨g,0,none⟩),ι γ 1,ι γ (x:Int)] w fun e w'=>e=ρ (τ (QQ M.2 x))∧∃q,w'=w.drewN q:=by
 obtain⟨C,q0⟩:=h.cB;have q1:=(X4 h.mB (x:=x) (by rw[h.lB];exact hx)).1;have hx0:(0:Int)≤(x:Int):=ω
 have hx1:(x:Int)<(b.n:Int):=ω
 have HV:Hid (QQ M.2 x=decide (M.2.getD x 0<0)):=rfl;generalize QQ M.2 x=R at *;generalize M.2.getD x 0=z at *;clear h hx;go_enter func49,ntmps49;go_wp2;go_ret;exact⟨by rw[HV.out];rfl,0,rfl⟩
end Match
namespace Match
open Mem Tree Shape
section
variable {w w':World}{S:Nat→Prop}{g gA gB:Nat}{a b:Sd}{M:St}
theorem Qtu(L:List Int)(j:Nat)(v:Int):(L.map iv).toArray.setIfInBounds j (ι γ v)=((L.set j v).map iv).toArray:=by
 rw[List.setIfInBounds_toArray,List.map_set]
theorem ņ{k:Nat}{L:List Int}(h:w.heap[k]?=some (Ia L))(j:Nat)(v:Int):(w.setCell ⟨k,j,none⟩ (ι γ v)).heap[k]?=some (Ia (L.set j v)):=by
 have:=heap_setCell_same w k j _ _ (ι γ v) h;rw[this,Qtu];rfl
theorem rL(k j:Nat)(v:Value)(hk:k=gA∨k=gB):QB gA gB w (w.setCell ⟨k,j,none⟩ v) :=
 ⟨rfl,rfl,rfl,ψ,fun q _ h1 h2=>heap_setCell_other w ⟨k,j,none⟩ q v (fun e=>by have e:q=k:=e;rcases hk with hk|hk <;> omega)⟩
theorem MS.EW(h:MS w S g gA gB a b M)(j:Nat)(v:Int):MS (w.setCell ⟨gA,j,none⟩ (ι γ v)) S g gA gB a b (M.1.set j v,M.2)∧QB gA gB w (w.setCell ⟨gA,j,none⟩ (ι γ v)):=by
 have ht:QB gA gB w (w.setCell ⟨gA,j,none⟩ (ι γ v)):=rL gA j _ (.inl rfl);have hk:∀k,S k→(w.setCell ⟨gA,j,none⟩ (ι γ v)).heap[k]?=w.heap[k]?:=fun k hk=>ht.block k (h.safe k hk).1 (h.safe k hk).2.1 (h.safe k hk).2.2
 have e:∀i,(w.setCell ⟨gA,j,none⟩ (ι γ v)).cell? ⟨g,i,none⟩=w.cell? ⟨g,i,none⟩:=fun i=>World.cell?_of_block (w:=w) (hk g h.ro.own)
 obtain⟨CA,hA⟩:=h.cA;obtain⟨CB,hB⟩:=h.cB;exact⟨⟨h.ro.keep hk,⟨CA,by rw[e];exact hA⟩,⟨CB,by rw[e];exact hB⟩,ņ h.mA j v,(heap_setCell_other w ⟨gA,j,none⟩ gB _ (fun e=>h.ne e.symm)).trans h.mB,by rw[List.length_set];exact h.lA,h.lB,h.ne,fun k hk'=>⟨Nat.lt_of_lt_of_le (h.safe k hk').1 ht.size,(h.safe k hk').2⟩⟩,ht⟩
theorem MS.Nc(h:MS w S g gA gB a b M)(j:Nat)(v:Int):MS (w.setCell ⟨gB,j,none⟩ (ι γ v)) S g gA gB a b (M.1,M.2.set j v)∧QB gA gB w (w.setCell ⟨gB,j,none⟩ (ι γ v)):=by
 have ht:QB gA gB w (w.setCell ⟨gB,j,none⟩ (ι γ v)):=rL gB j _ (.inr rfl);have hk:∀k,S k→(w.setCell ⟨gB,j,none⟩ (ι γ v)).heap[k]?=w.heap[k]?:=fun k hk=>ht.block k (h.safe k hk).1 (h.safe k hk).2.1 (h.safe k hk).2.2
 have e:∀i,(w.setCell ⟨gB,j,none⟩ (ι γ v)).cell? ⟨g,i,none⟩=w.cell? ⟨g,i,none⟩:=fun i=>World.cell?_of_block (w:=w) (hk g h.ro.own)
 obtain⟨CA,hA⟩:=h.cA;obtain⟨CB,hB⟩:=h.cB;exact⟨⟨h.ro.keep hk,⟨CA,by rw[e];exact hA⟩,⟨CB,by rw[e];exact hB⟩,(heap_setCell_other w ⟨gB,j,none⟩ gA _ (fun e=>h.ne e)).trans h.mA,ņ h.mB j v,h.lA,by rw[List.length_set];exact h.lB,h.ne,fun k hk'=>⟨Nat.lt_of_lt_of_le (h.safe k hk').1 ht.size,(h.safe k hk').2⟩⟩,ht⟩
end
variable {w w':World}{S:Nat→Prop}{g gA gB:Nat}{a b:Sd}{M:St}
def Js(S:Nat→Prop)(g gA gB:Nat)(a b:Sd)(w:World)(M':St)(e:Ending)(w':World):Prop :=
 e=ρ (.tuple #[])∧QB gA gB w w'∧MS w' S g gA gB a b M'
theorem J9(h:MS w S g gA gB a b M)(hf:Fit a b)(x y:Nat)(hx:x<a.n)(hy:y<b.n) :
 Calls Tryz.prog 27 #[π (some ⟨g,0,none⟩),ι γ (x:Int),ι γ (y:Int)] w (Js S g gA gB a b w (QK a b M x y)):=by
 have IL:=Lib.hid (fun q=>U4 (h.drewN q) hf x y hx hy);obtain⟨c0,_,_,c1,c2⟩:=rJ hf.nums hx hy;obtain⟨gZ,oZ,CZ,z0,z1⟩:=h.ro.pa.size hx;have RL:=hf.na;have hnb:=hf.nb;have HC:Hid (Q2 a b x y=if JU a b x y then a.sz x else 1):=rfl;have HP:Hid (QK a b M x y=(Kv M.1 x y (Q2 a b x y),Kv M.2 y x (Q2 a b x y))):=rfl;have HM:=Lib.hid h;have hx0:(0:Int)≤(x:Int):=ω
 have hx1:(x:Int)<(a.n:Int):=ω
 generalize QK a b M x y=MR at *;generalize hcc:Q2 a b x y=cc at *;generalize JU a b x y=al at *;generalize hsz:a.sz x=sz at *;generalize hn:a.n=n at *;generalize hm:b.n=m at *;clear h hf hcc hsz hy;go_enter Tryz.func27,Tryz.ntmps27
 go_upto_if 11 with(go_at_call 39;refine(IL.out 0).mono ?_;rintro e w1 ⟨rfl,q,rfl⟩)
 go_cut [6]from 12 to 20 (fun s6 W=>s6=ι γ (cc:Int)∧W=w.drewN q)
 case first =>
  cases al with
  |false =>
   have hc:Hid ((1:Int)=(cc:Int)):=by show _=_;rw[HC.out];rfl
   go_wp2
   go_meet
   case rel=>exact⟨by rw[hc.out],rfl⟩
  |true =>
   have hc:Hid ((sz:Int)=(cc:Int)):=by show _=_;rw[HC.out];rfl
   go_wp2
   go_meet
   case rel=>exact⟨by rw[hc.out],rfl⟩
 case rest =>
  obtain⟨rfl,hw⟩:=hcut;subst hw;go_wp2
  go_loopw [22] (fun jw wr=>∃i:Nat,i≤cc∧jw=ι γ (i:Int)∧Hid (MS wr S g gA gB a b (Kv M.1 x y i,Kv M.2 y x i)∧QB gA gB w wr)) (fun s _=>cc-(intOf s).toNat)
  case atStart=>exact⟨0,Nat.zero_le _,rfl,HM.out.drewN q,QB.drewN w q⟩
  case round =>
   obtain⟨i,hi,rfl,KL⟩:=hrel;by_cases hlt:i<cc
   ·obtain⟨C1,d1⟩:=KL.out.1.cA;obtain⟨C2,d2⟩:=KL.out.1.cB;have Wo:=KL.out.1.EW (x+i) ((y+i:Nat):Int);have SX:=Wo.1.Nc (y+i) ((x+i:Nat):Int);obtain⟨p1,f1⟩:=X4 KL.out.1.mA (x:=x+i) (by rw[KL.out.1.lA];omega);obtain⟨p2,f2⟩:=X4 KL.out.1.mB (x:=y+i) (by rw[KL.out.1.lB];omega);obtain⟨xi,IX⟩:=Mem.QD (x+i);obtain⟨yi,eZ⟩:=Mem.QD (y+i);have HT:=Lib.hid ((KL.out.2.trans Wo.2).trans SX.2);have HE:=Lib.hid SX.1;rw[hn]at d1;rw[hm]at d2;rw[IX]at f1 p1;rw[eZ]at f2 p2;rw[IX,eZ]at HT HE;have n1:=(KL.out.1.safe g KL.out.1.ro.own).2.1;have n2:=(KL.out.1.safe g KL.out.1.ro.own).2.2;have n3:=KL.out.1.ne;have n4:gB≠gA:=fun e=>n3 e.symm
    have HX:Hid (Kv M.1 x y (i+1)=(Kv M.1 x y i).set xi (yi:Int)∧Kv M.2 y x (i+1)=(Kv M.2 y x i).set yi (xi:Int)):=by subst IX;subst eZ;exact⟨rfl,rfl⟩
    have w1:IntKind.i64.wrap ((x:Int)+(i:Int))=(xi:Int):=by rw[IntKind.wrap_i64];omega
    have w2:IntKind.i64.wrap ((y:Int)+(i:Int))=(yi:Int):=by rw[IntKind.wrap_i64];omega
    have t1:(0:Int)≤(xi:Int):=ω
    have t2:(xi:Int)<(n:Int):=ω
    have t3:(0:Int)≤(yi:Int):=ω
    have t4:(yi:Int)<(m:Int):=ω
    have hlt':(i:Int)<(cc:Int):=ω
    have XW:=Lib.hid hlt;clear KL Wo SX IX eZ hlt;go_wp2
    go_roundw
    case rel=>exact⟨i+1,by have:=XW.out;omega,by go_num,by rw[HX.out.1,HX.out.2];exact HE.out,HT.out⟩
    case measure=>have:=XW.out;simp[intOf];omega
   ·obtain rfl:i=cc:=ω
    have hlt':¬(i:Int)<(i:Int):=ω
    go_wp2
    go_end0
    rw[←HP.out]at KL;exact⟨rfl,KL.out.2,KL.out.1⟩
end Match
namespace Match
open Mem Tree Shape
variable {w:World}{S:Nat→Prop}{g gA gB:Nat}{a b:Sd}{M:St}
theorem Qjd(k:Int)(w:World):Calls Tryz.prog 124 #[ι γ k] w fun e w'=>e = ρ (τ (En k))∧∃q,w'=w.drewN q:=by
 have HV:Hid (En k=(k==4||(k==5||(k==6||(k==7||(k==14||k==16)))))):=by show _=_;unfold En;simp only[Bool.or_assoc]
 generalize En k=R at *;obtain⟨b1,h1⟩:∃b,(k==(4:Int))=b:=⟨_,rfl⟩;obtain⟨b2,h2⟩:∃b,(k==(5:Int))=b:=⟨_,rfl⟩;obtain⟨b3,h3⟩:∃b,(k==(6:Int))=b:=⟨_,rfl⟩;obtain⟨b4,h4⟩:∃b,(k==(7:Int))=b:=⟨_,rfl⟩;obtain⟨b5,h5⟩:∃b,(k==(14:Int))=b:=⟨_,rfl⟩;obtain⟨b6,h6⟩:∃b,(k==(16:Int))=b:=⟨_,rfl⟩;have HR:Hid (R=(b1||(b2||(b3||(b4||(b5||b6)))))):=by show _=_;rw[HV.out,h1,h2,h3,h4,h5,h6]
 clear HV;go_enter Tryz.func124,Tryz.ntmps124;cases b1 with
 |true=>exact c39
 |false=>cases b2 with
  |true=>exact c39
  |false=>cases b3 with
   |true=>exact c39
   |false=>cases b4 with
    |true=>exact c39
    |false=>cases b5 with
     |true=>exact c39
     |false=>cases b6 with
      |true=>exact c39
      |false=>exact c39
theorem Qej(h:MS w S g gA gB a b M)(hf:Fit a b)(x y:Nat)(hx:x<a.n)(hy:y<b.n) :
 Calls Tryz.prog 125 #[π (some ⟨g,0,none⟩),ι γ (x:Int),ι γ (y:Int)] w fun e w'=>e=ρ (τ (Xm a b x y))∧∃q,w'=w.drewN q:=by
 obtain⟨g0,o0,C0,A0,c0,q0,q1,n0,m0,r0⟩:=h.ro.pa.kids hx;obtain⟨g1,o1,C1,A1,c1,q2,q3,n1,m1,r1⟩:=h.ro.pb.kids hy;unfold maxLen at m0 m1;have hx0:(0:Int)≤(x:Int):=ω
 have hy0:(0:Int)≤(y:Int):=ω
 have hx1:(x:Int)<(a.n:Int):=ω
 have hy1:(y:Int)<(b.n:Int):=ω
 have kx:∀q∈a.kid x,q<a.n:=fun q hq=>(Sd.VS hx hq).2.2
 have ky:∀q∈b.kid y,q<b.n:=fun q hq=>(Sd.VS hy hq).2.2
 have HV:Hid (Xm a b x y=(decide (0<(a.kid x).length)&&decide (0<(b.kid y).length)&&JU a b ((a.kid x).getD ((a.kid x).length-1) 0) ((b.kid y).getD ((b.kid y).length-1) 0))):=rfl;generalize Xm a b x y=R at *;generalize hka:a.kid x=ka at *;generalize hkb:b.kid y=kb at *;clear hka hkb hx hy;go_enter Tryz.func125,Tryz.ntmps125;by_cases ha:ka.length=0
 ·have d0:decide (0<ka.length)=false:=by rw[decide_eq_false_iff_not];omega
  have HR:Hid (R=false):=by show _=_;rw[HV.out,ha];rfl
  clear ha;go_wp2
  go_quiet (fail)
  go_wp2
  go_quiet (fail)
  exact c88
 ·have d0:0<ka.length:=ω
  by_cases hb:kb.length=0
  ·have d1:decide (0<kb.length)=false:=by rw[decide_eq_false_iff_not];omega
   have HR:Hid (R=false):=by show _=_;rw[HV.out,hb];simp
   clear hb;go_wp2
   go_quiet (fail)
   go_wp2
   go_quiet (fail)
   exact c88
  ·have d1:0<kb.length:=ω
   have la:ka.length-1<ka.length:=ω
   have lb:kb.length-1<kb.length:=ω
   obtain⟨u0,hu0⟩:∃u,ka.getD (ka.length-1) 0=u:=⟨_,rfl⟩;obtain⟨u1,hu1⟩:∃u,kb.getD (kb.length-1) 0=u:=⟨_,rfl⟩;have e0:ka[ka.length-1]?=some u0:=by rw[←hu0,List.getD_eq_getElem?_getD,List.getElem?_eq_getElem la];rfl
   have e1:kb[kb.length-1]?=some u1:=by rw[←hu1,List.getD_eq_getElem?_getD,List.getElem?_eq_getElem lb];rfl
   obtain⟨p0,s0,rfl,_,z0⟩:=r0.at_ (ints_at e0);obtain⟨p1,s1,rfl,_,z1⟩:=r1.at_ (ints_at e1);have IL:=Lib.hid (fun q=>U4 (h.drewN q) hf u0 u1 (kx _ (List.mem_of_getElem? e0)) (ky _ (List.mem_of_getElem? e1)));have HR:Hid (R=JU a b u0 u1):=by show _=_;rw[HV.out,hu0,hu1,decide_eq_true ω,decide_eq_true ω];rfl
   obtain⟨t0,ht0⟩:∃t,ka.length-1=t:=⟨_,rfl⟩;obtain⟨t1,ht1⟩:∃t,kb.length-1=t:=⟨_,rfl⟩;rw[ht0]at z0;rw[ht1]at z1;have w0:IntKind.i64.wrap ((ka.length:Int)-1)=(t0:Int):=by rw[IntKind.wrap_i64];omega
   have w1:IntKind.i64.wrap ((kb.length:Int)-1)=(t1:Int):=by rw[IntKind.wrap_i64];omega
   have i0:(0:Int)≤(t0:Int):=ω
   have i1:(0:Int)≤(t1:Int):=ω
   have j0:(t0:Int)<(ka.length:Int):=ω
   have j1:(t1:Int)<(kb.length:Int):=ω
   clear kx ky HV hu0 hu1 e0 e1 r0 r1 ha hb la lb ht0 ht1 h hf;go_wp2
   go_quiet (fail)
   go_wp2
   go_quiet ((go_at_call 39;refine(IL.out _).mono ?_;rintro e w9 ⟨he,m9,JC⟩;exact⟨he,_,by rw[JC,World.drewN_drewN,Nat.add_assoc]⟩))
   exact c88
end Match
namespace Match
open Mem Tree Shape
theorem Er(p s:Nat):∀(l:List Nat),l.Pairwise (·<·)→
 (l.any fun r=>decide (p+1≤r)&&decide (r<p+s))=(decide ((ints l).countP (fun z=>decide (z<(p:Int)+1))<l.length)&&decide (l.getD ((ints l).countP (fun z=>decide (z<(p:Int)+1))) 0<p+s))
 |[],_=>rfl
 |r::l,h=>by
  rw[List.pairwise_cons]at h;have ih:=Er p s l h.2;unfold ints at ih⊢;rw[List.map_cons,List.countP_cons,List.any_cons];by_cases hr:p+1≤r
  ·have hz:(l.map fun(q:Nat)=>(q:Int)).countP (fun z=>decide (z<(p:Int)+1))=0:=by
    rw[List.countP_eq_zero];intro z hz;obtain⟨q,hq,rfl⟩:=List.mem_map.1 hz;have:=h.1 q hq;simp;omega
   rw[hz,if_neg (by simp;omega),decide_eq_true hr];by_cases hs:r<p+s
   ·simp[hs]
   ·have:(l.any fun r=>decide (p+1≤r)&&decide (r<p+s))=false:=by
     rw[List.any_eq_false];intro q hq;have:=h.1 q hq;simp;omega
    rw[this];simp[hs]
  ·rw[if_pos (by simp;omega),decide_eq_false hr,Bool.false_and,Bool.false_or,ih,List.length_cons,List.getD_cons_succ]
   congr 1
   rw[decide_eq_decide];omega
theorem õ(s:Sd)(m:Nat):(s.wh m).Pairwise (·<·):=List.pairwise_lt_range.filter _
theorem ġ{l:List Nat}(h:l.Pairwise (·<·)):(ints l).Pairwise (·≤·):=by
 unfold ints;rw[List.pairwise_map];exact h.imp fun{x y} h=>ω
theorem Ē(s:Sd)(m:Nat):(s.wh m).length≤s.n:=by
 unfold Sd.wh;exact Nat.le_trans (List.length_filter_le _ _) ψ
variable {w:World}{S:Nat→Prop}{g gA gB:Nat}{a b:Sd}{M:St}
theorem Qjj(h:MS w S g gA gB a b M)(hf:Fit a b)(x y:Nat)(hx:x<a.n)(hy:y<b.n) :
 Calls Tryz.prog 123 #[π (some ⟨g,0,none⟩),ι γ 0,ι γ (x:Int),ι γ 1,ι γ (y:Int)] w fun e w'=>e=ρ (τ (Kn a b x y))∧∃q,w'=w.drewN q:=by
 obtain⟨gZ,oZ,CZ,z0,z1⟩:=h.ro.pb.size hy;obtain⟨gY,oY,CY,y0,y1⟩:=h.ro.pa.size hx;obtain⟨gM,oM,CM,A0,C0,A1,C1,m0,m1,m2,r0,r1⟩:=h.ro.Nj.two;rw[hf.la]at m1;rw[hf.lb]at m2;obtain⟨gn,on,rfl,_,nc⟩:=r1.at_ (ints_at (Jo hf.lb hy));obtain⟨W,c9,_,val,hlk,hsl⟩:=h.ro.wa;have hm:b.no y<1000000:=hf.fb _ (by have:=Jo hf.lb hy;exact JK this)
 have hL:=fun q=>hlk (w.drewN q) rfl _ hm
 obtain⟨AV,CV,ev,v1,v2,rv⟩:=hsl _ hm;rw[VD,show(ints (a.wh (b.no y))).length=(a.wh (b.no y)).length by simp[ints]]at ev v1;rw[ev]at hL;have Nq:=Ē a (b.no y);have Cn:=õ a (b.no y);have RL:=hf.na;have hnb:=hf.nb;have hsz1:=Sd.sub hx;have hx0:(0:Int)≤(x:Int):=ω
 have hy0:(0:Int)≤(y:Int):=ω
 have hx1:(x:Int)<(a.n:Int):=ω
 have hy1:(y:Int)<(b.n:Int):=ω
 have HV:Hid (Kn a b x y=(!(b.sz y==1)&&(a.wh (b.no y)).any fun r=>decide (x+1≤r)&&decide (r<x+a.sz x))):=rfl;generalize Kn a b x y=R at *;generalize a.wh (b.no y)=l at *;generalize a.sz x=sx at *;generalize b.sz y=sy at *;generalize b.no y=m at *;generalize Bl:a.n=sn at *;generalize mF:b.n=on_ at *;have mh:sn≤20000:=ω
 have ws:IntKind.i64.wrap ((x:Int)+(sx:Int))=(x:Int)+(sx:Int):=by rw[IntKind.wrap_i64];omega
 have wx:IntKind.i64.wrap ((x:Int)+1)=(x:Int)+1:=by rw[IntKind.wrap_i64];omega
 clear hlk hsl h hf hm RL hnb ev Bl mF r0 r1;go_enter Tryz.func123,Tryz.ntmps123;by_cases hs:sy=1
 ·have hs':((sy:Int)==1)=true:=by rw[hs];rfl
  have HR:Hid (R=false):=by show _=_;rw[HV.out,hs];rfl
  clear hs;exact c39
 ·have hs':((sy:Int)==1)=false:=by rw[beq_eq_false_iff_ne];omega
  have HR:Hid (R=(decide ((ints l).countP (fun z=>decide (z<(x:Int)+1))<l.length)&&decide (l.getD ((ints l).countP (fun z=>decide (z<(x:Int)+1))) 0<x+sx))):=by
   show _=_;rw[HV.out,Er x sx l Cn,beq_eq_false_iff_ne.2 hs];rfl
  by_cases hl:l.length=0
  ·have RU:=fun q=>Tryz.ZF AV CV ((x:Int)+1) (w.drewN q)
   have LN:=Lib.hid RU;have HF:Hid (R=false):=by show _=_;rw[HR.out,hl];simp
   rw[hl]at hL;have hd:decide (0<0)=false:=rfl;clear hs HR HV Cn Nq hl rv v1 v2 RU;go_wp2
   go_quiet (fail)
   go_wp2_with fail;refine(LN.out _).mono ?_;rintro e w1 ⟨rfl,rfl⟩;go_wp2
   go_quiet (fail)
   go_wp2;go_ret;exact⟨by rw[HF.out];rfl,_,World.drewN_drewN _ _ _⟩
  ·obtain⟨gV,oV,rfl,-,-⟩:=rv.at_ (i:=0) (ints_at (QN ω))
   have hcl:∀j,j<(ints l).length→∀q,(w.drewN q).cell? ⟨gV,oV+j,none⟩=some (ι γ ((ints l).getD j 0)):=fun j hj q=>by
    obtain⟨g',o',e,_,hc⟩:=rv.at_ (i:=j) (vD (z:=(ints l).getD j 0) (by rw[QX,QN hj];rfl));exact c89
   have hil:(ints l).length=l.length:=by simp[ints]
   have RU:=fun q=>Tryz.ZG gV oV l.length CV (ints l) ((x:Int)+1) (w.drewN q) (by rw[hil];exact Nat.le_refl _) ω (fun j hj=>hcl j hj q) (by rw[List.take_of_length_le ω];exact ġ Cn)
   rw[List.take_of_length_le ω]at RU;obtain⟨i,hi⟩:=Mem.QD ((ints l).countP (fun z=>decide (z<(x:Int)+1)));rw[hi]at RU HR;have LN:=Lib.hid RU;by_cases hlt:i<l.length
   ·have hc:=hcl i ω 0;have hgd:(ints l).getD i 0=((l.getD i 0:Nat):Int):=by unfold ints;rw[QX,QX,VP,QN hlt];rfl
    rw[hgd]at hc;have hc:w.cell? ⟨gV,oV+i,none⟩=some (ι γ ((l.getD i 0:Nat):Int)):=hc;have HF:Hid (R=decide (((l.getD i 0:Nat):Int)<(x:Int)+(sx:Int))):=by show _=_;rw[HR.out,decide_eq_true hlt,Bool.true_and,decide_eq_decide];omega
    generalize l.getD i 0=r at *;have i0:(0:Int)≤(i:Int):=ω
    have i1:(i:Int)<(l.length:Int):=ω
    clear hs HR HV Cn Nq hl rv v1 v2 RU hcl hil hi hgd hsz1;go_wp2
    go_quiet (fail)
    go_wp2_with fail;refine(LN.out _).mono ?_;rintro e w1 ⟨rfl,q1,rfl⟩;go_wp2
    go_quiet (fail)
    exact c58
   ·have hlt':decide (i<l.length)=false:=decide_eq_false hlt;have HF:Hid (R=false):=by show _=_;rw[HR.out,hlt'];rfl
    clear hs HR HV Cn Nq hl rv v1 v2 RU hcl hil hi hsz1 hlt;go_wp2
    go_quiet (fail)
    go_wp2_with fail;refine(LN.out _).mono ?_;rintro e w1 ⟨rfl,q1,rfl⟩;go_wp2
    go_quiet (fail)
    exact c58
theorem Qji(h:MS w S g gA gB a b M)(hf:Fit a b)(x y:Nat)(hx:x<b.n)(hy:y<a.n) :
 Calls Tryz.prog 123 #[π (some ⟨g,0,none⟩),ι γ 1,ι γ (x:Int),ι γ 0,ι γ (y:Int)] w fun e w'=>e=ρ (τ (Kn b a x y))∧∃q,w'=w.drewN q:=by
 obtain⟨gZ,oZ,CZ,z0,z1⟩:=h.ro.pa.size hy;obtain⟨gY,oY,CY,y0,y1⟩:=h.ro.pb.size hx;obtain⟨gM,oM,CM,A0,C0,A1,C1,m0,m1,m2,r0,r1⟩:=h.ro.Nj.two;rw[hf.la]at m1;rw[hf.lb]at m2;obtain⟨gn,on,rfl,_,nc⟩:=r0.at_ (ints_at (Jo hf.la hy));obtain⟨W,c9,_,val,hlk,hsl⟩:=h.ro.wb;have hm:a.no y<1000000:=hf.fa _ (by have:=Jo hf.la hy;exact JK this)
 have hL:=fun q=>hlk (w.drewN q) rfl _ hm
 obtain⟨AV,CV,ev,v1,v2,rv⟩:=hsl _ hm;rw[VD,show(ints (b.wh (a.no y))).length=(b.wh (a.no y)).length by simp[ints]]at ev v1;rw[ev]at hL;have Nq:=Ē b (a.no y);have Cn:=õ b (a.no y);have RL:=hf.na;have hnb:=hf.nb;have hsz1:=Sd.sub hx;have hx0:(0:Int)≤(x:Int):=ω
 have hy0:(0:Int)≤(y:Int):=ω
 have hx1:(x:Int)<(b.n:Int):=ω
 have hy1:(y:Int)<(a.n:Int):=ω
 have HV:Hid (Kn b a x y=(!(a.sz y==1)&&(b.wh (a.no y)).any fun r=>decide (x+1≤r)&&decide (r<x+b.sz x))):=rfl;generalize Kn b a x y=R at *;generalize b.wh (a.no y)=l at *;generalize b.sz x=sx at *;generalize a.sz y=sy at *;generalize a.no y=m at *;generalize Bl:b.n=sn at *;generalize mF:a.n=on_ at *;have mh:sn≤20000:=ω
 have ws:IntKind.i64.wrap ((x:Int)+(sx:Int))=(x:Int)+(sx:Int):=by rw[IntKind.wrap_i64];omega
 have wx:IntKind.i64.wrap ((x:Int)+1)=(x:Int)+1:=by rw[IntKind.wrap_i64];omega
 clear hlk hsl h hf hm RL hnb ev Bl mF r0 r1;go_enter Tryz.func123,Tryz.ntmps123;by_cases hs:sy=1
 ·have hs':((sy:Int)==1)=true:=by rw[hs];rfl
  have HR:Hid (R=false):=by show _=_;rw[HV.out,hs];rfl
  clear hs;exact c39
 ·have hs':((sy:Int)==1)=false:=by rw[beq_eq_false_iff_ne];omega
  have HR:Hid (R=(decide ((ints l).countP (fun z=>decide (z<(x:Int)+1))<l.length)&&decide (l.getD ((ints l).countP (fun z=>decide (z<(x:Int)+1))) 0<x+sx))):=by
   show _=_;rw[HV.out,Er x sx l Cn,beq_eq_false_iff_ne.2 hs];rfl
  by_cases hl:l.length=0
  ·have RU:=fun q=>Tryz.ZF AV CV ((x:Int)+1) (w.drewN q)
   have LN:=Lib.hid RU;have HF:Hid (R=false):=by show _=_;rw[HR.out,hl];simp
   rw[hl]at hL;have hd:decide (0<0)=false:=rfl;clear hs HR HV Cn Nq hl rv v1 v2 RU;go_wp2
   go_quiet (fail)
   go_wp2_with fail;refine(LN.out _).mono ?_;rintro e w1 ⟨rfl,rfl⟩;go_wp2
   go_quiet (fail)
   go_wp2;go_ret;exact⟨by rw[HF.out];rfl,_,World.drewN_drewN _ _ _⟩
  ·obtain⟨gV,oV,rfl,-,-⟩:=rv.at_ (i:=0) (ints_at (QN ω))
   have hcl:∀j,j<(ints l).length→∀q,(w.drewN q).cell? ⟨gV,oV+j,none⟩=some (ι γ ((ints l).getD j 0)):=fun j hj q=>by
    obtain⟨g',o',e,_,hc⟩:=rv.at_ (i:=j) (vD (z:=(ints l).getD j 0) (by rw[QX,QN hj];rfl));exact c89
   have hil:(ints l).length=l.length:=by simp[ints]
   have RU:=fun q=>Tryz.ZG gV oV l.length CV (ints l) ((x:Int)+1) (w.drewN q) (by rw[hil];exact Nat.le_refl _) ω (fun j hj=>hcl j hj q) (by rw[List.take_of_length_le ω];exact ġ Cn)
   rw[List.take_of_length_le ω]at RU;obtain⟨i,hi⟩:=Mem.QD ((ints l).countP (fun z=>decide (z<(x:Int)+1)));rw[hi]at RU HR;have LN:=Lib.hid RU;by_cases hlt:i<l.length
   ·have hc:=hcl i ω 0;have hgd:(ints l).getD i 0=((l.getD i 0:Nat):Int):=by unfold ints;rw[QX,QX,VP,QN hlt];rfl
    rw[hgd]at hc;have hc:w.cell? ⟨gV,oV+i,none⟩=some (ι γ ((l.getD i 0:Nat):Int)):=hc;have HF:Hid (R=decide (((l.getD i 0:Nat):Int)<(x:Int)+(sx:Int))):=by show _=_;rw[HR.out,decide_eq_true hlt,Bool.true_and,decide_eq_decide];omega
    generalize l.getD i 0=r at *;have i0:(0:Int)≤(i:Int):=ω
    have i1:(i:Int)<(l.length:Int):=ω
    clear hs HR HV Cn Nq hl rv v1 v2 RU hcl hil hi hgd hsz1;go_wp2
    go_quiet (fail)
    go_wp2_with fail;refine(LN.out _).mono ?_;rintro e w1 ⟨rfl,q1,rfl⟩;go_wp2
    go_quiet (fail)
    exact c58
   ·have hlt':decide (i<l.length)=false:=decide_eq_false hlt;have HF:Hid (R=false):=by show _=_;rw[HR.out,hlt'];rfl
    clear hs HR HV Cn Nq hl rv v1 v2 RU hcl hil hi hsz1 hlt;go_wp2
    go_quiet (fail)
    go_wp2_with fail;refine(LN.out _).mono ?_;rintro e w1 ⟨rfl,q1,rfl⟩;go_wp2
    go_quiet (fail)
    exact c58
