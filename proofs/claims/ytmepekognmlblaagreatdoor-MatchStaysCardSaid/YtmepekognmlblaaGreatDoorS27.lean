import Derived.Test.YtmepekognmlblaaGreatDoorS26
import Derived.Deep.DeepCutAuto
import Derived.Deep.CutRange
import Derived.BigRegion
import Derived.Deep.RegionHeldLaw
set_option maxHeartbeats 16000000
set_option maxRecDepth 100000
set_option linter.unusedVariables false
open Go.ChangeShapes Go.WideShapes Go.ChangeAt Go.RowKit Go.Proofs.Tryz
open _root_.List renaming getElem?_eq_getElem→QN,getD_eq_getElem?_getD→QX,getElem?_map→VP,length_map→VD,mem_of_getElem?→JK,getElem?_append_right→GK,getElem?_append_left→PX
open Go.World renaming cell?_of_block→JW
open Go.Lib renaming hid→QA
open Go.RowKit.Below renaming refl→QE
open _root_.Nat renaming le_refl→QI
open Go.Value renaming string→σ,int→ι,slice→ς,pointer→π,bool→τ
open Go.IntKind renaming i64→γ
open Go.Obj renaming cells→θ
open Go.Ending renaming returned→ρ
namespace Go.Proofs.YtmepekognmlblaaGreatDoor
namespace Match
open Mem Tree Shape
def eI(s:Sd):List Int:=Zt s.T
def Je(w:World)(S:Nat→Prop)(g o:Nat)(s:Sd):Prop :=
 ∃AN CN AP CP AZ CZ AK CK,(w.cell? ⟨g,o,none⟩=some (ς AN s.n CN)∧w.cell? ⟨g,o+1,none⟩=some (ς AP s.n CP)∧w.cell? ⟨g,o+2,none⟩=some (ς AZ s.n CZ)∧w.cell? ⟨g,o+3,none⟩=some (ς AK s.n CK))∧
  Fs w S (ς AN s.n CN) (YG s.nd)∧U7 w S (ς AP s.n CP) (s.par.map iv)∧U7 w S (ς AZ s.n CZ) ((eI s).map iv)∧Jr w S (ς AK s.n CK) (yl s.T)
def U5(w:World)(S:Nat→Prop)(W:Nat)(s:Sd):Prop :=
 S W∧∃val:Nat→Value,(∀w':World,w'.heap[W]?=w.heap[W]?→∀m:Nat,m<1000000→(Instr.lookup 63 (.map (some W)) (ι γ (m:Int)) false).run Tryz.prog w'=.ok (val m) w')∧∀m:Nat,m<1000000→U7 w S (val m) ((ints (s.wh m)).map iv)
def pE(w:World)(S:Nat→Prop)(g:Nat)(a b:Sd):Prop:=∃AM CM,w.cell? ⟨g,8,none⟩=some (ς AM 2 CM)∧Jr w S (ς AM 2 CM) [ints a.ns,ints b.ns]
structure RO(w:World)(S:Nat→Prop)(g:Nat)(a b:Sd):Prop where
 own:S g
 pa:Je w S g 0 a
 pb:Je w S g 4 b
 Nj:pE w S g a b
 wa:∃W,w.cell? ⟨g,9,none⟩=some (.map (some W))∧U5 w S W a
 wb:∃W,w.cell? ⟨g,10,none⟩=some (.map (some W))∧U5 w S W b
def Ia(L:List Int):Obj:=θ (L.map iv).toArray 3 (0,0)
structure MS(w:World)(S:Nat→Prop)(g gA gB:Nat)(a b:Sd)(M:St):Prop where
 ro:RO w S g a b
 cA:∃C,w.cell? ⟨g,11,none⟩=some (ς (some ⟨gA,0,none⟩) a.n C)
 cB:∃C,w.cell? ⟨g,12,none⟩=some (ς (some ⟨gB,0,none⟩) b.n C)
 mA:w.heap[gA]?=some (Ia M.1)
 mB:w.heap[gB]?=some (Ia M.2)
 lA:M.1.length=a.n
 lB:M.2.length=b.n
 ne:gA≠gB
 safe:∀k,S k→k<w.heap.size∧k≠gA∧k≠gB
structure Fit(a b:Sd):Prop where
 nums:ZM a b
 na:a.n≤20000
 nb:b.n≤20000
 la:a.ns.length=a.n
 lb:b.ns.length=b.n
 fa:∀m∈a.ns,m<1000000
 fb:∀m∈b.ns,m<1000000
 ka:∀x,Hg (a.at_ x).k
 kb:∀x,Hg (b.at_ x).k
section
variable {w w':World}{S:Nat→Prop}{g gA gB o:Nat}{a b s:Sd}{M:St}
theorem Je.keep(h:Je w S g o s)(hg:S g)(hb:∀k,S k→w'.heap[k]?=w.heap[k]?):Je w' S g o s:=by
 obtain⟨AN,CN,AP,CP,AZ,CZ,AK,CK,⟨c0,c1,c2,c3⟩,h1,h2,h3,h4⟩:=h;have e:∀i,w'.cell? ⟨g,i,none⟩=w.cell? ⟨g,i,none⟩:=fun i=>JW (w:=w) (hb g hg)
 exact⟨AN,CN,AP,CP,AZ,CZ,AK,CK,⟨by rw[e];exact c0,by rw[e];exact c1,by rw[e];exact c2,by rw[e];exact c3⟩,h1.keep hb,h2.keep hb,h3.keep hb,h4.keep hb⟩
theorem U5.keep{W:Nat}(h:U5 w S W s)(hb:∀k,S k→w'.heap[k]?=w.heap[k]?):U5 w' S W s:=by
 obtain⟨hS,val,h1,h2⟩:=h;exact⟨hS,val,fun w2 e m hm=>h1 w2 (e.trans (hb W hS)) m hm,fun m hm=>(h2 m hm).keep hb⟩
theorem RO.keep(h:RO w S g a b)(hb:∀k,S k→w'.heap[k]?=w.heap[k]?):RO w' S g a b:=by
 have e:∀i,w'.cell? ⟨g,i,none⟩=w.cell? ⟨g,i,none⟩:=fun i=>JW (w:=w) (hb g h.own)
 obtain⟨AM,CM,h1,h2⟩:=h.Nj;obtain⟨W0,h3,h4⟩:=h.wa;obtain⟨W1,h5,h6⟩:=h.wb;exact⟨h.own,h.pa.keep h.own hb,h.pb.keep h.own hb,⟨AM,CM,by rw[e];exact h1,h2.keep hb⟩,⟨W0,by rw[e];exact h3,h4.keep hb⟩,⟨W1,by rw[e];exact h5,h6.keep hb⟩⟩
theorem MS.later(h:MS w S g gA gB a b M)(hb:Below w.heap.size w w'):MS w' S g gA gB a b M:=by
 have hk:∀k,S k→w'.heap[k]?=w.heap[k]?:=fun k hk=>hb.block k (h.safe k hk).1
 have e:∀i,w'.cell? ⟨g,i,none⟩=w.cell? ⟨g,i,none⟩:=fun i=>JW (w:=w) (hk g h.ro.own)
 have lt:∀{k:Nat}{o:Obj},w.heap[k]? = some o→k<w.heap.size:=fun{k o} hh=>by
  rcases Nat.lt_or_ge k w.heap.size with h1|h1
  ·exact h1
  ·rw[Array.getElem?_eq_none h1]at hh;cases hh
 obtain⟨CA,hA⟩:=h.cA;obtain⟨CB,hB⟩:=h.cB;exact⟨h.ro.keep hk,⟨CA,by rw[e];exact hA⟩,⟨CB,by rw[e];exact hB⟩,(hb.block _ (lt h.mA)).trans h.mA,(hb.block _ (lt h.mB)).trans h.mB,h.lA,h.lB,h.ne,fun k hk=>⟨Nat.lt_of_lt_of_le (h.safe k hk).1 hb.size,(h.safe k hk).2⟩⟩
theorem MS.drewN(h:MS w S g gA gB a b M)(q:Nat):MS (w.drewN q) S g gA gB a b M:=h.later ⟨rfl,rfl,rfl,Nat.le_refl _,fun _ _=>rfl⟩
structure QB(gA gB:Nat)(w w':World):Prop where
 os:w'.os=w.os
 tape:w'.tape=w.tape
 output:w'.output=w.output
 size:w.heap.size≤w'.heap.size
 block:∀k,k<w.heap.size→k≠gA→k≠gB→w'.heap[k]?=w.heap[k]?
theorem QB.refl(gA gB:Nat)(w:World):QB gA gB w w:=⟨rfl,rfl,rfl,Nat.le_refl _,fun _ _ _ _=>rfl⟩
theorem QB.trans{w1 w2:World}(h:QB gA gB w w1)(h':QB gA gB w1 w2):QB gA gB w w2 :=
 ⟨h'.os.trans h.os,h'.tape.trans h.tape,h'.output.trans h.output,Nat.le_trans h.size h'.size,fun k hk h1 h2=>(h'.block k (Nat.lt_of_lt_of_le hk h.size) h1 h2).trans (h.block k hk h1 h2)⟩
theorem QB.of_below(h:Below w.heap.size w w'):QB gA gB w w':=⟨h.os,h.tape,h.output,h.size,fun k hk _ _=>h.block k hk⟩
theorem QB.drewN(w:World)(q:Nat):QB gA gB w (w.drewN q):=⟨rfl,rfl,rfl,Nat.le_refl _,fun _ _ _ _=>rfl⟩
theorem QB.below(h:QB gA gB w w'){B:Nat}(hB:B≤w.heap.size)(hA:B≤gA)(hG:B≤gB):Below B w w':=⟨h.os,h.tape,h.output,h.size,fun k hk=>h.block k ω ω ω⟩
theorem vD{l:List Int}{i:Nat}{z:Int}(h:l[i]?=some z):(l.map iv)[i]?=some (ι γ z):=by rw[VP,h];rfl
theorem Je.node(h:Je w S g o s){x:Nat}(hx:x<s.n):∃gN oN CN sl,w.cell? ⟨g,o,none⟩=some (ς (some ⟨gN,oN,none⟩) s.n CN)∧(w.cell? ⟨gN,oN+x*4,none⟩=some (ι γ (s.at_ x).k)∧w.cell? ⟨gN,oN+x*4+1,none⟩=some (σ (s.at_ x).x)∧w.cell? ⟨gN,oN+x*4+2,none⟩=some (σ (s.at_ x).y)∧w.cell? ⟨gN,oN+x*4+3,none⟩=some sl)∧Fs w S sl (s.at_ x).c:=by
 obtain⟨AN,CN,AP,CP,AZ,CZ,AK,CK,⟨c0,c1,c2,c3⟩,h1,h2,h3,h4⟩:=h;obtain⟨b',off,sl,e,_,_,hat⟩:=h1.at_ (Ţ s.nd x (s.at_ x) (Sd.ZK hx));subst e;exact⟨b',off,CN,sl,c0,⟨hat.c0,hat.c1,hat.c2,hat.c3⟩,hat.kids⟩
theorem Je.parent(h:Je w S g o s){x:Nat}(hx:x<s.n):∃gP oP CP,w.cell? ⟨g,o+1,none⟩=some (ς (some ⟨gP,oP,none⟩) s.n CP)∧w.cell? ⟨gP,oP+x,none⟩=some (ι γ (s.par.getD x 0)):=by
 obtain⟨AN,CN,AP,CP,AZ,CZ,AK,CK,⟨c0,c1,c2,c3⟩,h1,h2,h3,h4⟩:=h;obtain⟨A,c,e,_,_,hr⟩:=h2;injection e with e1 e2 e3;subst e1;have hl:x<s.par.length:=by rw[Sd.YF];exact hx
 obtain⟨gP,oP,rfl,_,hc⟩:=hr.at_ (vD (z:=s.par.getD x 0) (by rw[QX,QN hl];rfl));exact⟨gP,oP,CP,c1,hc⟩
theorem Qxs{x:Nat}(hx:x<s.n):(eI s)[x]?=some ((s.sz x:Nat):Int):=by
 unfold eI;rw[Xe,VP];have:=Sd.ZK hx;unfold Sd.nd at this;rw[this];rfl
theorem Je.size(h:Je w S g o s){x:Nat}(hx:x<s.n):∃gZ oZ CZ,w.cell? ⟨g,o+2,none⟩=some (ς (some ⟨gZ,oZ,none⟩) s.n CZ)∧w.cell? ⟨gZ,oZ+x,none⟩=some (ι γ ((s.sz x:Nat):Int)):=by
 obtain⟨AN,CN,AP,CP,AZ,CZ,AK,CK,⟨c0,c1,c2,c3⟩,h1,h2,h3,h4⟩:=h;obtain⟨A,c,e,_,_,hr⟩:=h3;injection e with e1 e2 e3;subst e1;obtain⟨gP,oP,rfl,_,hc⟩:=hr.at_ (vD (Qxs hx));exact⟨gP,oP,CZ,c2,hc⟩
theorem Qv9{x:Nat}(hx:x<s.n):(yl s.T)[x]?=some (ints (s.kid x)):=by
 unfold yl Sd.kid;have hl:x<(Z7 0 s.T).length:=by rw[Vh,←Sd.GN];exact hx
 rw[VP,QX,QN hl];rfl
theorem Je.kids(h:Je w S g o s){x:Nat}(hx:x<s.n):∃gK oK CK A C,w.cell? ⟨g,o+3,none⟩=some (ς (some ⟨gK,oK,none⟩) s.n CK)∧w.cell? ⟨gK,oK+x,none⟩=some (ς A (s.kid x).length C)∧(s.kid x).length≤C∧C≤maxLen∧Vx w S A ((ints (s.kid x)).map iv):=by
 obtain⟨AN,CN,AP,CP,AZ,CZ,AK,CK,⟨c0,c1,c2,c3⟩,h1,h2,h3,h4⟩:=h;obtain⟨us,hl,hs,hr⟩:=h4;obtain⟨A,c,e,_,_,Lb⟩:=hs;injection e with e1 e2 e3;subst e1;have hu:x<us.length:=by rw[←e2];exact hx
 obtain⟨gK,oK,rfl,_,hc⟩:=Lb.at_ (QN hu);obtain⟨A',C',e',k1,k2,k3⟩:=hr x _ _ (QN hu) (Qv9 hx);have el:((ints (s.kid x)).map (ι γ)).length=(s.kid x).length:=by rw[VD];unfold ints;rw[VD]
 rw[el]at e' k1;rw[e']at hc;exact⟨gK,oK,CK,A',C',c3,hc,k1,k2,k3⟩
theorem ints_at{l:List Nat}{i v:Nat}(h:l[i]?=some v):((ints l).map iv)[i]?=some (ι γ ((v:Nat):Int)):=vD (by unfold ints;rw[VP,h];rfl)
theorem Jo{x:Nat}(hl:s.ns.length=s.n)(hx:x<s.n):s.ns[x]?=some (s.no x):=by
 unfold Sd.no;rw[QX,QN ω];rfl
theorem pE.two(h:pE w S g a b):∃gM oM CM A0 C0 A1 C1,w.cell? ⟨g,8,none⟩=some (ς (some ⟨gM,oM,none⟩) 2 CM)∧w.cell? ⟨gM,oM,none⟩=some (ς A0 a.ns.length C0)∧w.cell? ⟨gM,oM+1,none⟩=some (ς A1 b.ns.length C1)∧Vx w S A0 ((ints a.ns).map iv)∧Vx w S A1 ((ints b.ns).map iv):=by
 obtain⟨AM,CM,hc,us,hl,hs,hr⟩:=h;obtain⟨A,c,e,_,_,Lb⟩:=hs;injection e with e1 e2 e3;subst e1;have hl:us.length=2:=hl;obtain⟨gM,oM,rfl,_,h0⟩:=Lb.at_ (i:=0) (QN ω);obtain⟨g',o',e',_,h1⟩:=Lb.at_ (i:=1) (QN ω);injection e' with e';injection e' with e4 e5;subst e4;subst e5;obtain⟨A0,C0,e0,_,_,r0⟩:=hr 0 _ _ (QN ω) rfl;obtain⟨A1,C1,e1,_,_,r1⟩:=hr 1 _ _ (QN ω) rfl;have el:∀l:List Nat,((ints l).map (ι γ)).length=l.length:=fun l=>by rw[VD];unfold ints;rw[VD]
 rw[el]at e0 e1;rw[e0]at h0;rw[e1]at h1;exact⟨gM,oM,CM,A0,C0,A1,C1,hc,h0,h1,r0,r1⟩
theorem X4{k:Nat}{L:List Int}(h:w.heap[k]?=some (Ia L)){x:Nat}(hx:x<L.length):w.cell? ⟨k,x,none⟩=some (ι γ (L.getD x 0))∧w.frozen? ⟨k,x,none⟩=false:=by
 have e:(L.map iv).toArray[x]?=some (ι γ (L.getD x 0)):=by rw[List.getElem?_toArray];exact vD (by rw[QX,QN hx];rfl)
 constructor
 ·simp only[World.cell?,h,Ia];exact e
 ·simp[World.frozen?,h,Ia]
end
variable {w:World}{S:Nat→Prop}{g gA gB:Nat}{a b:Sd}{M:St}
theorem U4(h:MS w S g gA gB a b M)(hf:Fit a b)(x y:Nat)(hx:x<a.n)(hy:y<b.n) :
 Calls prog 39 #[π (some ⟨g,0,none⟩),ι γ (x:Int),ι γ (y:Int)] w fun e w'=>e=ρ (τ (JU a b x y))∧∃q,w'=w.drewN q:=by
 obtain⟨gM,oM,CM,A0,C0,A1,C1,q0,q1,q2,r0,r1⟩:=h.ro.Nj.two;rw[hf.la]at q1;rw[hf.lb]at q2;obtain⟨g0,o0,rfl,_,c0⟩:=r0.at_ (ints_at (Jo hf.la hx));obtain⟨g1,o1,rfl,_,c1⟩:=r1.at_ (ints_at (Jo hf.lb hy));have hx0:(0:Int)≤(x:Int):=ω
 have hy0:(0:Int)≤(y:Int):=ω
 have hx1:(x:Int)<(a.n:Int):=ω
 have hy1:(y:Int)<(b.n:Int):=ω
 have HV:Hid (JU a b x y=(((a.no x:Nat):Int)==((b.no y:Nat):Int))):=by
  show _=_;unfold JU;by_cases e:a.no x=b.no y
  ·rw[e,beq_self_eq_true,beq_self_eq_true]
  ·rw[beq_eq_false_iff_ne.2 e,beq_eq_false_iff_ne.2 ω]
 generalize JU a b x y=R at *;generalize a.no x=n0 at *;generalize b.no y=n1 at *;clear h hf hx hy r0 r1;go_enter func39,ntmps39;go_wp2
 go_quiet (fail)
 go_wp2;go_ret;exact⟨by rw[HV.out];rfl,_,rfl⟩
theorem Gv(h:MS w S g gA gB a b M)(x:Nat)(hx:x<a.n) :
 Calls prog 49 #[π (some ⟨g,0,none⟩),ι γ 0,ι γ (x:Int)] w fun e w'=>e=ρ (τ (QQ M.1 x))∧∃q,w'=w.drewN q:=by
 obtain⟨C,q0⟩:=h.cA;have q1:=(X4 h.mA (x:=x) (by rw[h.lA];exact hx)).1;have hx0:(0:Int)≤(x:Int):=ω
 have hx1:(x:Int)<(a.n:Int):=ω
 have HV:Hid (QQ M.1 x=decide (M.1.getD x 0<0)):=rfl;generalize QQ M.1 x=R at *;generalize M.1.getD x 0=z at *;clear h hx;go_enter func49,ntmps49;go_wp2;go_ret;exact⟨by rw[HV.out];rfl,0,rfl⟩
theorem Gu(h:MS w S g gA gB a b M)(x:Nat)(hx:x<b.n) :
 Calls prog 49 #[π (some ⟨g,0,none⟩),ι γ 1,ι γ (x:Int)] w fun e w'=>e=ρ (τ (QQ M.2 x))∧∃q,w'=w.drewN q:=by
 obtain⟨C,q0⟩:=h.cB;have q1:=(X4 h.mB (x:=x) (by rw[h.lB];exact hx)).1;have hx0:(0:Int)≤(x:Int):=ω
 have hx1:(x:Int)<(b.n:Int):=ω
 have HV:Hid (QQ M.2 x=decide (M.2.getD x 0<0)):=rfl;generalize QQ M.2 x=R at *;generalize M.2.getD x 0=z at *;clear h hx;go_enter func49,ntmps49;go_wp2;go_ret;exact⟨by rw[HV.out];rfl,0,rfl⟩
end Match
namespace Match
open Mem Tree Shape
section
variable {w w':World}{S:Nat→Prop}{g gA gB:Nat}{a b:Sd}{M:St}
theorem Qtu(L:List Int)(j:Nat)(v:Int):(L.map iv).toArray.setIfInBounds j (ι γ v)=((L.set j v).map iv).toArray:=by
 rw[List.setIfInBounds_toArray,List.map_set]
theorem Ę{k:Nat}{L:List Int}(h:w.heap[k]?=some (Ia L))(j:Nat)(v:Int):(w.setCell ⟨k,j,none⟩ (ι γ v)).heap[k]?=some (Ia (L.set j v)):=by
 have:=heap_setCell_same w k j _ _ (ι γ v) h;rw[this,Qtu];rfl
theorem rL(k j:Nat)(v:Value)(hk:k=gA∨k=gB):QB gA gB w (w.setCell ⟨k,j,none⟩ v) :=
 ⟨rfl,rfl,rfl,ψ,fun q _ h1 h2=>heap_setCell_other w ⟨k,j,none⟩ q v (fun e=>by have e:q=k:=e;rcases hk with hk|hk <;> omega)⟩
theorem MS.EW(h:MS w S g gA gB a b M)(j:Nat)(v:Int):MS (w.setCell ⟨gA,j,none⟩ (ι γ v)) S g gA gB a b (M.1.set j v,M.2)∧QB gA gB w (w.setCell ⟨gA,j,none⟩ (ι γ v)):=by
 have ht:QB gA gB w (w.setCell ⟨gA,j,none⟩ (ι γ v)):=rL gA j _ (.inl rfl);have hk:∀k,S k→(w.setCell ⟨gA,j,none⟩ (ι γ v)).heap[k]?=w.heap[k]?:=fun k hk=>ht.block k (h.safe k hk).1 (h.safe k hk).2.1 (h.safe k hk).2.2
 have e:∀i,(w.setCell ⟨gA,j,none⟩ (ι γ v)).cell? ⟨g,i,none⟩=w.cell? ⟨g,i,none⟩:=fun i=>World.cell?_of_block (w:=w) (hk g h.ro.own)
 obtain⟨CA,hA⟩:=h.cA;obtain⟨CB,hB⟩:=h.cB;exact⟨⟨h.ro.keep hk,⟨CA,by rw[e];exact hA⟩,⟨CB,by rw[e];exact hB⟩,Ę h.mA j v,(heap_setCell_other w ⟨gA,j,none⟩ gB _ (fun e=>h.ne e.symm)).trans h.mB,by rw[List.length_set];exact h.lA,h.lB,h.ne,fun k hk'=>⟨Nat.lt_of_lt_of_le (h.safe k hk').1 ht.size,(h.safe k hk').2⟩⟩,ht⟩
theorem MS.Nc(h:MS w S g gA gB a b M)(j:Nat)(v:Int):MS (w.setCell ⟨gB,j,none⟩ (ι γ v)) S g gA gB a b (M.1,M.2.set j v)∧QB gA gB w (w.setCell ⟨gB,j,none⟩ (ι γ v)):=by
 have ht:QB gA gB w (w.setCell ⟨gB,j,none⟩ (ι γ v)):=rL gB j _ (.inr rfl);have hk:∀k,S k→(w.setCell ⟨gB,j,none⟩ (ι γ v)).heap[k]?=w.heap[k]?:=fun k hk=>ht.block k (h.safe k hk).1 (h.safe k hk).2.1 (h.safe k hk).2.2
 have e:∀i,(w.setCell ⟨gB,j,none⟩ (ι γ v)).cell? ⟨g,i,none⟩=w.cell? ⟨g,i,none⟩:=fun i=>World.cell?_of_block (w:=w) (hk g h.ro.own)
 obtain⟨CA,hA⟩:=h.cA;obtain⟨CB,hB⟩:=h.cB;exact⟨⟨h.ro.keep hk,⟨CA,by rw[e];exact hA⟩,⟨CB,by rw[e];exact hB⟩,(heap_setCell_other w ⟨gB,j,none⟩ gA _ (fun e=>h.ne e)).trans h.mA,Ę h.mB j v,h.lA,by rw[List.length_set];exact h.lB,h.ne,fun k hk'=>⟨Nat.lt_of_lt_of_le (h.safe k hk').1 ht.size,(h.safe k hk').2⟩⟩,ht⟩
end
variable {w w':World}{S:Nat→Prop}{g gA gB:Nat}{a b:Sd}{M:St}
def Js(S:Nat→Prop)(g gA gB:Nat)(a b:Sd)(w:World)(M':St)(e:Ending)(w':World):Prop :=
 e=ρ (.tuple #[])∧QB gA gB w w'∧MS w' S g gA gB a b M'
theorem J9(h:MS w S g gA gB a b M)(hf:Fit a b)(x y:Nat)(hx:x<a.n)(hy:y<b.n) :
 Calls Tryz.prog 27 #[π (some ⟨g,0,none⟩),ι γ (x:Int),ι γ (y:Int)] w (Js S g gA gB a b w (QK a b M x y)):=by
 have IL:=Lib.hid (fun q=>U4 (h.drewN q) hf x y hx hy);obtain⟨c0,_,_,c1,c2⟩:=rJ hf.nums hx hy;obtain⟨gZ,oZ,CZ,z0,z1⟩:=h.ro.pa.size hx;have RL:=hf.na;have hnb:=hf.nb;have HC:Hid (Q2 a b x y=if JU a b x y then a.sz x else 1):=rfl;have HP:Hid (QK a b M x y=(Kv M.1 x y (Q2 a b x y),Kv M.2 y x (Q2 a b x y))):=rfl;have HM:=Lib.hid h;have hx0:(0:Int)≤(x:Int):=ω
 have hx1:(x:Int)<(a.n:Int):=ω
 generalize QK a b M x y=MR at *;generalize hcc:Q2 a b x y=cc at *;generalize JU a b x y=al at *;generalize hsz:a.sz x=sz at *;generalize hn:a.n=n at *;generalize hm:b.n=m at *;clear h hf hcc hsz hy;go_enter Tryz.func27,Tryz.ntmps27
 go_upto_if 11 with(go_at_call 39;refine(IL.out 0).mono ?_;rintro e w1 ⟨rfl,q,rfl⟩)
 go_cut [6]from 12 to 20 (fun s6 W=>s6=ι γ (cc:Int)∧W=w.drewN q)
 case first =>
  cases al with
  |false =>
   have hc:Hid ((1:Int)=(cc:Int)):=by show _=_;rw[HC.out];rfl
   go_wp2
   go_meet
   case rel=>exact⟨by rw[hc.out],rfl⟩
  |true =>
   have hc:Hid ((sz:Int)=(cc:Int)):=by show _=_;rw[HC.out];rfl
   go_wp2
   go_meet
   case rel=>exact⟨by rw[hc.out],rfl⟩
 case rest =>
  obtain⟨rfl,hw⟩:=hcut;subst hw;go_wp2
  go_loopw [22] (fun jw wr=>∃i:Nat,i≤cc∧jw=ι γ (i:Int)∧Hid (MS wr S g gA gB a b (Kv M.1 x y i,Kv M.2 y x i)∧QB gA gB w wr)) (fun s _=>cc-(intOf s).toNat)
  case atStart=>exact⟨0,Nat.zero_le _,rfl,HM.out.drewN q,QB.drewN w q⟩
  case round =>
   obtain⟨i,hi,rfl,KL⟩:=hrel;by_cases hlt:i<cc
   ·obtain⟨C1,d1⟩:=KL.out.1.cA;obtain⟨C2,d2⟩:=KL.out.1.cB;have Wo:=KL.out.1.EW (x+i) ((y+i:Nat):Int);have SX:=Wo.1.Nc (y+i) ((x+i:Nat):Int);obtain⟨p1,f1⟩:=X4 KL.out.1.mA (x:=x+i) (by rw[KL.out.1.lA];omega);obtain⟨p2,f2⟩:=X4 KL.out.1.mB (x:=y+i) (by rw[KL.out.1.lB];omega);obtain⟨xi,IX⟩:=Mem.QD (x+i);obtain⟨yi,eZ⟩:=Mem.QD (y+i);have HT:=Lib.hid ((KL.out.2.trans Wo.2).trans SX.2);have HE:=Lib.hid SX.1;rw[hn]at d1;rw[hm]at d2;rw[IX]at f1 p1;rw[eZ]at f2 p2;rw[IX,eZ]at HT HE;have n1:=(KL.out.1.safe g KL.out.1.ro.own).2.1;have n2:=(KL.out.1.safe g KL.out.1.ro.own).2.2;have n3:=KL.out.1.ne;have n4:gB≠gA:=fun e=>n3 e.symm
    have HX:Hid (Kv M.1 x y (i+1)=(Kv M.1 x y i).set xi (yi:Int)∧Kv M.2 y x (i+1)=(Kv M.2 y x i).set yi (xi:Int)):=by subst IX;subst eZ;exact⟨rfl,rfl⟩
    have w1:IntKind.i64.wrap ((x:Int)+(i:Int))=(xi:Int):=by rw[IntKind.wrap_i64];omega
    have w2:IntKind.i64.wrap ((y:Int)+(i:Int))=(yi:Int):=by rw[IntKind.wrap_i64];omega
    have t1:(0:Int)≤(xi:Int):=ω
    have t2:(xi:Int)<(n:Int):=ω
    have t3:(0:Int)≤(yi:Int):=ω
    have t4:(yi:Int)<(m:Int):=ω
    have hlt':(i:Int)<(cc:Int):=ω
    have XW:=Lib.hid hlt;clear KL Wo SX IX eZ hlt;go_wp2
    go_roundw
    case rel=>exact⟨i+1,by have:=XW.out;omega,by go_num,by rw[HX.out.1,HX.out.2];exact HE.out,HT.out⟩
    case measure=>have:=XW.out;simp[intOf];omega
   ·obtain rfl:i=cc:=ω
    have hlt':¬(i:Int)<(i:Int):=ω
    go_wp2
    go_end0
    rw[←HP.out]at KL;exact⟨rfl,KL.out.2,KL.out.1⟩
end Match
namespace Match
open Mem Tree Shape
variable {w:World}{S:Nat→Prop}{g gA gB:Nat}{a b:Sd}{M:St}
theorem Qjd(k:Int)(w:World):Calls Tryz.prog 124 #[ι γ k] w fun e w'=>e = ρ (τ (En k))∧∃q,w'=w.drewN q:=by
 have HV:Hid (En k=(k==4||(k==5||(k==6||(k==7||(k==14||k==16)))))):=by show _=_;unfold En;simp only[Bool.or_assoc]
 generalize En k=R at *;obtain⟨b1,h1⟩:∃b,(k==(4:Int))=b:=⟨_,rfl⟩;obtain⟨b2,h2⟩:∃b,(k==(5:Int))=b:=⟨_,rfl⟩;obtain⟨b3,h3⟩:∃b,(k==(6:Int))=b:=⟨_,rfl⟩;obtain⟨b4,h4⟩:∃b,(k==(7:Int))=b:=⟨_,rfl⟩;obtain⟨b5,h5⟩:∃b,(k==(14:Int))=b:=⟨_,rfl⟩;obtain⟨b6,h6⟩:∃b,(k==(16:Int))=b:=⟨_,rfl⟩;have HR:Hid (R=(b1||(b2||(b3||(b4||(b5||b6)))))):=by show _=_;rw[HV.out,h1,h2,h3,h4,h5,h6]
 clear HV;go_enter Tryz.func124,Tryz.ntmps124;cases b1 with
 |true=>exact c39
 |false=>cases b2 with
  |true=>exact c39
  |false=>cases b3 with
   |true=>exact c39
   |false=>cases b4 with
    |true=>exact c39
    |false=>cases b5 with
     |true=>exact c39
     |false=>cases b6 with
      |true=>exact c39
      |false=>exact c39
theorem ŷ(h:MS w S g gA gB a b M)(hf:Fit a b)(x y:Nat)(hx:x<a.n)(hy:y<b.n) :
 Calls Tryz.prog 125 #[π (some ⟨g,0,none⟩),ι γ (x:Int),ι γ (y:Int)] w fun e w'=>e=ρ (τ (Xm a b x y))∧∃q,w'=w.drewN q:=by
 obtain⟨g0,o0,C0,A0,c0,q0,q1,n0,m0,r0⟩:=h.ro.pa.kids hx;obtain⟨g1,o1,C1,A1,c1,q2,q3,n1,m1,r1⟩:=h.ro.pb.kids hy;unfold maxLen at m0 m1;have hx0:(0:Int)≤(x:Int):=ω
 have hy0:(0:Int)≤(y:Int):=ω
 have hx1:(x:Int)<(a.n:Int):=ω
 have hy1:(y:Int)<(b.n:Int):=ω
 have kx:∀q∈a.kid x,q<a.n:=fun q hq=>(Sd.VS hx hq).2.2
 have ky:∀q∈b.kid y,q<b.n:=fun q hq=>(Sd.VS hy hq).2.2
 have HV:Hid (Xm a b x y=(decide (0<(a.kid x).length)&&decide (0<(b.kid y).length)&&JU a b ((a.kid x).getD ((a.kid x).length-1) 0) ((b.kid y).getD ((b.kid y).length-1) 0))):=rfl;generalize Xm a b x y=R at *;generalize hka:a.kid x=ka at *;generalize hkb:b.kid y=kb at *;clear hka hkb hx hy;go_enter Tryz.func125,Tryz.ntmps125;by_cases ha:ka.length=0
 ·have d0:decide (0<ka.length)=false:=by rw[decide_eq_false_iff_not];omega
  have HR:Hid (R=false):=by show _=_;rw[HV.out,ha];rfl
  clear ha;go_wp2
  go_quiet (fail)
  go_wp2
  go_quiet (fail)
  exact c88
 ·have d0:0<ka.length:=ω
  by_cases hb:kb.length=0
  ·have d1:decide (0<kb.length)=false:=by rw[decide_eq_false_iff_not];omega
   have HR:Hid (R=false):=by show _=_;rw[HV.out,hb];simp
   clear hb;go_wp2
   go_quiet (fail)
   go_wp2
   go_quiet (fail)
   exact c88
  ·have d1:0<kb.length:=ω
   have la:ka.length-1<ka.length:=ω
   have lb:kb.length-1<kb.length:=ω
   obtain⟨u0,hu0⟩:∃u,ka.getD (ka.length-1) 0=u:=⟨_,rfl⟩;obtain⟨u1,hu1⟩:∃u,kb.getD (kb.length-1) 0=u:=⟨_,rfl⟩;have e0:ka[ka.length-1]?=some u0:=by rw[←hu0,List.getD_eq_getElem?_getD,List.getElem?_eq_getElem la];rfl
   have e1:kb[kb.length-1]?=some u1:=by rw[←hu1,List.getD_eq_getElem?_getD,List.getElem?_eq_getElem lb];rfl
   obtain⟨p0,s0,rfl,_,z0⟩:=r0.at_ (ints_at e0);obtain⟨p1,s1,rfl,_,z1⟩:=r1.at_ (ints_at e1);have IL:=Lib.hid (fun q=>U4 (h.drewN q) hf u0 u1 (kx _ (List.mem_of_getElem? e0)) (ky _ (List.mem_of_getElem? e1)));have HR:Hid (R=JU a b u0 u1):=by show _=_;rw[HV.out,hu0,hu1,decide_eq_true ω,decide_eq_true ω];rfl
   obtain⟨t0,ht0⟩:∃t,ka.length-1=t:=⟨_,rfl⟩;obtain⟨t1,ht1⟩:∃t,kb.length-1=t:=⟨_,rfl⟩;rw[ht0]at z0;rw[ht1]at z1;have w0:IntKind.i64.wrap ((ka.length:Int)-1)=(t0:Int):=by rw[IntKind.wrap_i64];omega
   have w1:IntKind.i64.wrap ((kb.length:Int)-1)=(t1:Int):=by rw[IntKind.wrap_i64];omega
   have i0:(0:Int)≤(t0:Int):=ω
   have i1:(0:Int)≤(t1:Int):=ω
   have j0:(t0:Int)<(ka.length:Int):=ω
   have j1:(t1:Int)<(kb.length:Int):=ω
   clear kx ky HV hu0 hu1 e0 e1 r0 r1 ha hb la lb ht0 ht1 h hf;go_wp2
   go_quiet (fail)
   go_wp2
   go_quiet ((go_at_call 39;refine(IL.out _).mono ?_;rintro e w9 ⟨he,m9,JC⟩;exact⟨he,_,by rw[JC,World.drewN_drewN,Nat.add_assoc]⟩))
   exact c88
end Match
namespace Match
open Mem Tree Shape
theorem Er(p s:Nat):∀(l:List Nat),l.Pairwise (·<·)→
 (l.any fun r=>decide (p+1≤r)&&decide (r<p+s))=(decide ((ints l).countP (fun z=>decide (z<(p:Int)+1))<l.length)&&decide (l.getD ((ints l).countP (fun z=>decide (z<(p:Int)+1))) 0<p+s))
 |[],_=>rfl
 |r::l,h=>by
  rw[List.pairwise_cons]at h;have ih:=Er p s l h.2;unfold ints at ih⊢;rw[List.map_cons,List.countP_cons,List.any_cons];by_cases hr:p+1≤r
  ·have hz:(l.map fun(q:Nat)=>(q:Int)).countP (fun z=>decide (z<(p:Int)+1))=0:=by
    rw[List.countP_eq_zero];intro z hz;obtain⟨q,hq,rfl⟩:=List.mem_map.1 hz;have:=h.1 q hq;simp;omega
   rw[hz,if_neg (by simp;omega),decide_eq_true hr];by_cases hs:r<p+s
   ·simp[hs]
   ·have:(l.any fun r=>decide (p+1≤r)&&decide (r<p+s))=false:=by
     rw[List.any_eq_false];intro q hq;have:=h.1 q hq;simp;omega
    rw[this];simp[hs]
  ·rw[if_pos (by simp;omega),decide_eq_false hr,Bool.false_and,Bool.false_or,ih,List.length_cons,List.getD_cons_succ]
   congr 1
   rw[decide_eq_decide];omega
theorem Ä(s:Sd)(m:Nat):(s.wh m).Pairwise (·<·):=List.pairwise_lt_range.filter _
theorem ñ{l:List Nat}(h:l.Pairwise (·<·)):(ints l).Pairwise (·≤·):=by
 unfold ints;rw[List.pairwise_map];exact h.imp fun{x y} h=>ω
theorem á(s:Sd)(m:Nat):(s.wh m).length≤s.n:=by
 unfold Sd.wh;exact Nat.le_trans (List.length_filter_le _ _) ψ
variable {w:World}{S:Nat→Prop}{g gA gB:Nat}{a b:Sd}{M:St}
theorem Qjj(h:MS w S g gA gB a b M)(hf:Fit a b)(x y:Nat)(hx:x<a.n)(hy:y<b.n) :
 Calls Tryz.prog 123 #[π (some ⟨g,0,none⟩),ι γ 0,ι γ (x:Int),ι γ 1,ι γ (y:Int)] w fun e w'=>e=ρ (τ (Kn a b x y))∧∃q,w'=w.drewN q:=by
 obtain⟨gZ,oZ,CZ,z0,z1⟩:=h.ro.pb.size hy;obtain⟨gY,oY,CY,y0,y1⟩:=h.ro.pa.size hx;obtain⟨gM,oM,CM,A0,C0,A1,C1,m0,m1,m2,r0,r1⟩:=h.ro.Nj.two;rw[hf.la]at m1;rw[hf.lb]at m2;obtain⟨gn,on,rfl,_,nc⟩:=r1.at_ (ints_at (Jo hf.lb hy));obtain⟨W,c9,_,val,hlk,hsl⟩:=h.ro.wa;have hm:b.no y<1000000:=hf.fb _ (by have:=Jo hf.lb hy;exact JK this)
 have hL:=fun q=>hlk (w.drewN q) rfl _ hm
 obtain⟨AV,CV,ev,v1,v2,rv⟩:=hsl _ hm;rw[VD,show(ints (a.wh (b.no y))).length=(a.wh (b.no y)).length by simp[ints]]at ev v1;rw[ev]at hL;have Nq:=á a (b.no y);have Cn:=Ä a (b.no y);have RL:=hf.na;have hnb:=hf.nb;have hsz1:=Sd.sub hx;have hx0:(0:Int)≤(x:Int):=ω
 have hy0:(0:Int)≤(y:Int):=ω
 have hx1:(x:Int)<(a.n:Int):=ω
 have hy1:(y:Int)<(b.n:Int):=ω
 have HV:Hid (Kn a b x y=(!(b.sz y==1)&&(a.wh (b.no y)).any fun r=>decide (x+1≤r)&&decide (r<x+a.sz x))):=rfl;generalize Kn a b x y=R at *;generalize a.wh (b.no y)=l at *;generalize a.sz x=sx at *;generalize b.sz y=sy at *;generalize b.no y=m at *;generalize Bl:a.n=sn at *;generalize mF:b.n=on_ at *;have mh:sn≤20000:=ω
 have ws:IntKind.i64.wrap ((x:Int)+(sx:Int))=(x:Int)+(sx:Int):=by rw[IntKind.wrap_i64];omega
 have wx:IntKind.i64.wrap ((x:Int)+1)=(x:Int)+1:=by rw[IntKind.wrap_i64];omega
 clear hlk hsl h hf hm RL hnb ev Bl mF r0 r1;go_enter Tryz.func123,Tryz.ntmps123;by_cases hs:sy=1
 ·have hs':((sy:Int)==1)=true:=by rw[hs];rfl
  have HR:Hid (R=false):=by show _=_;rw[HV.out,hs];rfl
  clear hs;exact c39
 ·have hs':((sy:Int)==1)=false:=by rw[beq_eq_false_iff_ne];omega
  have HR:Hid (R=(decide ((ints l).countP (fun z=>decide (z<(x:Int)+1))<l.length)&&decide (l.getD ((ints l).countP (fun z=>decide (z<(x:Int)+1))) 0<x+sx))):=by
   show _=_;rw[HV.out,Er x sx l Cn,beq_eq_false_iff_ne.2 hs];rfl
  by_cases hl:l.length=0
  ·have RU:=fun q=>Tryz.ZF AV CV ((x:Int)+1) (w.drewN q)
   have LN:=Lib.hid RU;have HF:Hid (R=false):=by show _=_;rw[HR.out,hl];simp
   rw[hl]at hL;have hd:decide (0<0)=false:=rfl;clear hs HR HV Cn Nq hl rv v1 v2 RU;go_wp2
   go_quiet (fail)
   go_wp2_with fail;refine(LN.out _).mono ?_;rintro e w1 ⟨rfl,rfl⟩;go_wp2
   go_quiet (fail)
   go_wp2;go_ret;exact⟨by rw[HF.out];rfl,_,World.drewN_drewN _ _ _⟩
  ·obtain⟨gV,oV,rfl,-,-⟩:=rv.at_ (i:=0) (ints_at (QN ω))
   have hcl:∀j,j<(ints l).length→∀q,(w.drewN q).cell? ⟨gV,oV+j,none⟩=some (ι γ ((ints l).getD j 0)):=fun j hj q=>by
    obtain⟨g',o',e,_,hc⟩:=rv.at_ (i:=j) (vD (z:=(ints l).getD j 0) (by rw[QX,QN hj];rfl));exact c89
   have hil:(ints l).length=l.length:=by simp[ints]
   have RU:=fun q=>Tryz.ZG gV oV l.length CV (ints l) ((x:Int)+1) (w.drewN q) (by rw[hil];exact Nat.le_refl _) ω (fun j hj=>hcl j hj q) (by rw[List.take_of_length_le ω];exact ñ Cn)
   rw[List.take_of_length_le ω]at RU;obtain⟨i,hi⟩:=Mem.QD ((ints l).countP (fun z=>decide (z<(x:Int)+1)));rw[hi]at RU HR;have LN:=Lib.hid RU;by_cases hlt:i<l.length
   ·have hc:=hcl i ω 0;have hgd:(ints l).getD i 0=((l.getD i 0:Nat):Int):=by unfold ints;rw[QX,QX,VP,QN hlt];rfl
    rw[hgd]at hc;have hc:w.cell? ⟨gV,oV+i,none⟩=some (ι γ ((l.getD i 0:Nat):Int)):=hc;have HF:Hid (R=decide (((l.getD i 0:Nat):Int)<(x:Int)+(sx:Int))):=by show _=_;rw[HR.out,decide_eq_true hlt,Bool.true_and,decide_eq_decide];omega
    generalize l.getD i 0=r at *;have i0:(0:Int)≤(i:Int):=ω
    have i1:(i:Int)<(l.length:Int):=ω
    clear hs HR HV Cn Nq hl rv v1 v2 RU hcl hil hi hgd hsz1;go_wp2
    go_quiet (fail)
    go_wp2_with fail;refine(LN.out _).mono ?_;rintro e w1 ⟨rfl,q1,rfl⟩;go_wp2
    go_quiet (fail)
    exact c58
   ·have hlt':decide (i<l.length)=false:=decide_eq_false hlt;have HF:Hid (R=false):=by show _=_;rw[HR.out,hlt'];rfl
    clear hs HR HV Cn Nq hl rv v1 v2 RU hcl hil hi hsz1 hlt;go_wp2
    go_quiet (fail)
    go_wp2_with fail;refine(LN.out _).mono ?_;rintro e w1 ⟨rfl,q1,rfl⟩;go_wp2
    go_quiet (fail)
    exact c58
theorem Qji(h:MS w S g gA gB a b M)(hf:Fit a b)(x y:Nat)(hx:x<b.n)(hy:y<a.n) :
 Calls Tryz.prog 123 #[π (some ⟨g,0,none⟩),ι γ 1,ι γ (x:Int),ι γ 0,ι γ (y:Int)] w fun e w'=>e=ρ (τ (Kn b a x y))∧∃q,w'=w.drewN q:=by
 obtain⟨gZ,oZ,CZ,z0,z1⟩:=h.ro.pa.size hy;obtain⟨gY,oY,CY,y0,y1⟩:=h.ro.pb.size hx;obtain⟨gM,oM,CM,A0,C0,A1,C1,m0,m1,m2,r0,r1⟩:=h.ro.Nj.two;rw[hf.la]at m1;rw[hf.lb]at m2;obtain⟨gn,on,rfl,_,nc⟩:=r0.at_ (ints_at (Jo hf.la hy));obtain⟨W,c9,_,val,hlk,hsl⟩:=h.ro.wb;have hm:a.no y<1000000:=hf.fa _ (by have:=Jo hf.la hy;exact JK this)
 have hL:=fun q=>hlk (w.drewN q) rfl _ hm
 obtain⟨AV,CV,ev,v1,v2,rv⟩:=hsl _ hm;rw[VD,show(ints (b.wh (a.no y))).length=(b.wh (a.no y)).length by simp[ints]]at ev v1;rw[ev]at hL;have Nq:=á b (a.no y);have Cn:=Ä b (a.no y);have RL:=hf.na;have hnb:=hf.nb;have hsz1:=Sd.sub hx;have hx0:(0:Int)≤(x:Int):=ω
 have hy0:(0:Int)≤(y:Int):=ω
 have hx1:(x:Int)<(b.n:Int):=ω
 have hy1:(y:Int)<(a.n:Int):=ω
 have HV:Hid (Kn b a x y=(!(a.sz y==1)&&(b.wh (a.no y)).any fun r=>decide (x+1≤r)&&decide (r<x+b.sz x))):=rfl;generalize Kn b a x y=R at *;generalize b.wh (a.no y)=l at *;generalize b.sz x=sx at *;generalize a.sz y=sy at *;generalize a.no y=m at *;generalize Bl:b.n=sn at *;generalize mF:a.n=on_ at *;have mh:sn≤20000:=ω
 have ws:IntKind.i64.wrap ((x:Int)+(sx:Int))=(x:Int)+(sx:Int):=by rw[IntKind.wrap_i64];omega
 have wx:IntKind.i64.wrap ((x:Int)+1)=(x:Int)+1:=by rw[IntKind.wrap_i64];omega
 clear hlk hsl h hf hm RL hnb ev Bl mF r0 r1;go_enter Tryz.func123,Tryz.ntmps123;by_cases hs:sy=1
 ·have hs':((sy:Int)==1)=true:=by rw[hs];rfl
  have HR:Hid (R=false):=by show _=_;rw[HV.out,hs];rfl
  clear hs;exact c39
 ·have hs':((sy:Int)==1)=false:=by rw[beq_eq_false_iff_ne];omega
  have HR:Hid (R=(decide ((ints l).countP (fun z=>decide (z<(x:Int)+1))<l.length)&&decide (l.getD ((ints l).countP (fun z=>decide (z<(x:Int)+1))) 0<x+sx))):=by
   show _=_;rw[HV.out,Er x sx l Cn,beq_eq_false_iff_ne.2 hs];rfl
  by_cases hl:l.length=0
  ·have RU:=fun q=>Tryz.ZF AV CV ((x:Int)+1) (w.drewN q)
   have LN:=Lib.hid RU;have HF:Hid (R=false):=by show _=_;rw[HR.out,hl];simp
   rw[hl]at hL;have hd:decide (0<0)=false:=rfl;clear hs HR HV Cn Nq hl rv v1 v2 RU;go_wp2
   go_quiet (fail)
   go_wp2_with fail;refine(LN.out _).mono ?_;rintro e w1 ⟨rfl,rfl⟩;go_wp2
   go_quiet (fail)
   go_wp2;go_ret;exact⟨by rw[HF.out];rfl,_,World.drewN_drewN _ _ _⟩
  ·obtain⟨gV,oV,rfl,-,-⟩:=rv.at_ (i:=0) (ints_at (QN ω))
   have hcl:∀j,j<(ints l).length→∀q,(w.drewN q).cell? ⟨gV,oV+j,none⟩=some (ι γ ((ints l).getD j 0)):=fun j hj q=>by
    obtain⟨g',o',e,_,hc⟩:=rv.at_ (i:=j) (vD (z:=(ints l).getD j 0) (by rw[QX,QN hj];rfl));exact c89
   have hil:(ints l).length=l.length:=by simp[ints]
   have RU:=fun q=>Tryz.ZG gV oV l.length CV (ints l) ((x:Int)+1) (w.drewN q) (by rw[hil];exact Nat.le_refl _) ω (fun j hj=>hcl j hj q) (by rw[List.take_of_length_le ω];exact ñ Cn)
   rw[List.take_of_length_le ω]at RU;obtain⟨i,hi⟩:=Mem.QD ((ints l).countP (fun z=>decide (z<(x:Int)+1)));rw[hi]at RU HR;have LN:=Lib.hid RU;by_cases hlt:i<l.length
   ·have hc:=hcl i ω 0;have hgd:(ints l).getD i 0=((l.getD i 0:Nat):Int):=by unfold ints;rw[QX,QX,VP,QN hlt];rfl
    rw[hgd]at hc;have hc:w.cell? ⟨gV,oV+i,none⟩=some (ι γ ((l.getD i 0:Nat):Int)):=hc;have HF:Hid (R=decide (((l.getD i 0:Nat):Int)<(x:Int)+(sx:Int))):=by show _=_;rw[HR.out,decide_eq_true hlt,Bool.true_and,decide_eq_decide];omega
    generalize l.getD i 0=r at *;have i0:(0:Int)≤(i:Int):=ω
    have i1:(i:Int)<(l.length:Int):=ω
    clear hs HR HV Cn Nq hl rv v1 v2 RU hcl hil hi hgd hsz1;go_wp2
    go_quiet (fail)
    go_wp2_with fail;refine(LN.out _).mono ?_;rintro e w1 ⟨rfl,q1,rfl⟩;go_wp2
    go_quiet (fail)
    exact c58
   ·have hlt':decide (i<l.length)=false:=decide_eq_false hlt;have HF:Hid (R=false):=by show _=_;rw[HR.out,hlt'];rfl
    clear hs HR HV Cn Nq hl rv v1 v2 RU hcl hil hi hsz1 hlt;go_wp2
    go_quiet (fail)
    go_wp2_with fail;refine(LN.out _).mono ?_;rintro e w1 ⟨rfl,q1,rfl⟩;go_wp2
    go_quiet (fail)
    exact c58
end Match
namespace Match
open Mem Tree Shape
def zH(nd:Nd)(s:Value):Array Value:=#[ι γ nd.k,σ nd.x,σ nd.y,s]
structure Two(w W:World)(p q:Nat)(c d:Array Value):Prop where
 QF:Below w.heap.size w W
 fst:W.heap[p]?=some (θ c 24 (0,0))
 snd:W.heap[q]?=some (θ d 24 (0,0))
theorem rD(w:World)(c d:Array Value):Two w ((w.alloc (θ c 24)).alloc (θ d 24)).drew w.heap.size (w.heap.size+1) c d:=by
 refine⟨((Qz w _).trans ((Qz (w.alloc (θ c 24)) (θ d 24)).mono (Qz w (θ c 24)).size)).drew,(heap_alloc_old (w.alloc (θ c 24)) _ ψ).trans (heap_alloc_new w _),bI w _ _⟩
theorem Two.swap{w W:World}{p q:Nat}{c d:Array Value}(h:Two w W p q c d):Two w W q p d c:=⟨h.QF,h.snd,h.fst⟩
theorem AY{W:World}{p:Nat}{nd:Nd}{s:Value}(h:W.heap[p]?=some (θ (zH nd s) 24 (0,0))):W.cell? ⟨p,0,none⟩=some (ι γ nd.k)∧W.cell? ⟨p,1,none⟩=some (σ nd.x)∧W.cell? ⟨p,2,none⟩=some (σ nd.y)∧W.cell? ⟨p,3,none⟩=some s:=by
 refine⟨?_,?_,?_,?_⟩ <;> simp[World.cell?,h,zH]
def NN(W:World)(g gN oN n CN x gO oO m CO y:Nat)(nx ny:Nd)(sx sy:Value):Prop :=
 W.cell? ⟨g,0,none⟩=some (ς (some ⟨gN,oN,none⟩) n CN)∧(W.cell? ⟨gN,oN+x*4,none⟩=some (ι γ nx.k)∧W.cell? ⟨gN,oN+x*4+1,none⟩=some (σ nx.x)∧W.cell? ⟨gN,oN+x*4+2,none⟩=some (σ nx.y)∧W.cell? ⟨gN,oN+x*4+3,none⟩=some sx)∧
 W.cell? ⟨g,4,none⟩=some (ς (some ⟨gO,oO,none⟩) m CO)∧(W.cell? ⟨gO,oO+y*4,none⟩=some (ι γ ny.k)∧W.cell? ⟨gO,oO+y*4+1,none⟩=some (σ ny.x)∧W.cell? ⟨gO,oO+y*4+2,none⟩=some (σ ny.y)∧W.cell? ⟨gO,oO+y*4+3,none⟩=some sy)
variable {w:World}{S:Nat→Prop}{g gA gB:Nat}{a b:Sd}{M:St}
theorem Ã(h:MS w S g gA gB a b M){x y:Nat}(hx:x<a.n)(hy:y<b.n):∃gN oN CN gO oO CO sx sy,(∀W,Below w.heap.size w W→NN W g gN oN a.n CN x gO oO b.n CO y (a.at_ x) (b.at_ y) sx sy)∧(∃A C,sx=ς A (a.at_ x).c.len C)∧(∃A C,sy=ς A (b.at_ y).c.len C):=by
 obtain⟨gN,oN,CN,sx,n0,nc,nk⟩:=h.ro.pa.node hx;obtain⟨gO,oO,CO,sy,p0,pc,pk⟩:=h.ro.pb.node hy;refine⟨gN,oN,CN,gO,oO,CO,sx,sy,fun W hW=>?_,?_,?_⟩
 ·obtain⟨gN',oN',CN',sx',nj,nc',_⟩:=(h.later hW).ro.pa.node hx;obtain⟨gO',oO',CO',sy',tR,pc',_⟩:=(h.later hW).ro.pb.node hy;have e1:∀i,W.cell? ⟨g,i,none⟩=w.cell? ⟨g,i,none⟩:=fun i=>JW (w:=w) (hW.block g (h.safe g h.ro.own).1)
  rw[e1,n0]at nj;rw[e1,p0]at tR;simp only[Option.some.injEq,Value.slice.injEq,Addr.mk.injEq]at nj tR;obtain⟨⟨rfl,rfl,_⟩,_,rfl⟩:=nj;obtain⟨⟨rfl,rfl,_⟩,_,rfl⟩:=tR;have lt:∀(k i:Nat)(v:Value),w.cell? ⟨k,i,none⟩=some v→k<w.heap.size:=fun k i v hv=>World.block_lt_of_cell? _ _ hv
  have eN:∀i,W.cell? ⟨gN,i,none⟩=w.cell? ⟨gN,i,none⟩:=fun i=>JW (w:=w) (hW.block gN (lt _ _ _ nc.1))
  have eO:∀i,W.cell? ⟨gO,i,none⟩=w.cell? ⟨gO,i,none⟩:=fun i=>JW (w:=w) (hW.block gO (lt _ _ _ pc.1))
  refine⟨by rw[e1];exact n0,⟨by rw[eN];exact nc.1,by rw[eN];exact nc.2.1,by rw[eN];exact nc.2.2.1,by rw[eN];exact nc.2.2.2⟩,by rw[e1];exact p0,⟨by rw[eO];exact pc.1,by rw[eO];exact pc.2.1,by rw[eO];exact pc.2.2.1,by rw[eO];exact pc.2.2.2⟩⟩
 ·obtain⟨A,C,e,_⟩:=nk.slice;exact⟨A,C,e⟩
 ·obtain⟨A,C,e,_⟩:=pk.slice;exact⟨A,C,e⟩
theorem Ql2(h:MS w S g gA gB a b M)(hf:Fit a b)(x y:Nat)(hx:x<a.n)(hy:y<b.n) :
 Calls Tryz.prog 126 #[π (some ⟨g,0,none⟩),ι γ (x:Int),ι γ (y:Int)] w fun e w'=>e=ρ (ι γ ((Es a b x y:Nat):Int))∧Below w.heap.size w w':=by
 have sQ:=QA (fun q=>ŷ (h.drewN q) hf x y hx hy);have HM:=QA h;have RL:=hf.na;have hnb:=hf.nb;have HV:Hid (Es a b x y=Ef a b 4 x y (if Xm a b x y then 2 else 0)):=rfl;generalize Es a b x y=R at *;generalize Xm a b x y=ae at *;clear h hf;go_enter Tryz.func126,Tryz.ntmps126
 go_upto_if 13 with(go_at_call 125;refine(sQ.out 0).mono ?_;rintro e w1 ⟨rfl,q,rfl⟩)
 go_cut [7]from 10 to 15 (fun s7 W=>∃v:Nat,s7=ι γ (v:Int)∧v≤2∧Hid (R=Ef a b 4 x y v)∧W=w.drewN q)
 case first =>
  cases ae with
  |false =>
   go_wp2
   go_meet
   case rel=>exact⟨0,rfl,ω,HV.out,rfl⟩
  |true =>
   go_wp2
   go_meet
   case rel=>exact⟨2,rfl,ω,HV.out,rfl⟩
 case rest =>
  obtain⟨v0,rfl,hv0,HR,hw⟩:=hcut;have Pw:Hid (Below w.heap.size w wc):=by rw[hw];exact(QB.drewN (gA:=gA) (gB:=gB) w q).below (QI _)|> fun _=>⟨rfl,rfl,rfl,QI _,fun _ _=>rfl⟩
  clear hw sQ HV;go_wp2
  go_loopw [1,2,7,16] (fun s1 s2 s7 ED wr=>∃(i x' y' v:Nat),i≤4∧x'<a.n∧y'<b.n∧v≤2+2*i∧s1=ι γ (x':Int)∧s2=ι γ (y':Int)∧s7=ι γ (v:Int)∧ED=ι γ (i:Int)∧Hid (R=Ef a b (4-i) x' y' v)∧Hid (Below w.heap.size w wr)) (fun _ _ _ s _=>4-(intOf s).toNat)
  case atStart=>exact⟨0,x,y,v0,ω,hx,hy,ω,rfl,rfl,rfl,rfl,HR.out,Pw.out⟩
  case round =>
   obtain⟨i,x',y',v,hi,hx',hy',hv,rfl,rfl,rfl,rfl,hR,hB⟩:=hrel;by_cases hlt:i<4
   ·have hlt':(i:Int)<4:=ω
    obtain⟨gN,oN,CN,gO,oO,CO,sx,sy,hnn,⟨As,Cs,dN⟩,⟨At,Ct,dM⟩⟩:=Ã (HM.out.later hB.out) hx' hy';subst dN;subst dM;have Sk:=QA hnn;have yP:=QA (Sd.sub (s:=a) hx');have Ig:=QA (Sd.sub (s:=b) hy');have HZX:Hid (a.sz x'=(a.at_ x').c.size+1):=rfl;have HZY:Hid (b.sz y'=(b.at_ y').c.size+1):=rfl;have rU:Hid (R=if(a.at_ x').k=(b.at_ y').k then(if(a.at_ x').c.len=0∨(b.at_ y').c.len=0 then v+1+(if(a.at_ x').x.toList=(b.at_ y').x.toList then 1 else 0)else Ef a b (4-(i+1)) (x'+1) (y'+1) (v+1+(if(a.at_ x').x.toList=(b.at_ y').x.toList then 1 else 0)))else v):=by show _=_;rw[hR.out,show 4-i=(4-(i+1))+1 by omega];rfl
    generalize a.at_ x'=nx at *;generalize b.at_ y'=ny at *;have hx0:(0:Int)≤(x':Int):=ω
    have hy0:(0:Int)≤(y':Int):=ω
    have hx1:(x':Int)<(a.n:Int):=ω
    have hy1:(y':Int)<(b.n:Int):=ω
    clear hnn hR;obtain⟨w2,rfl⟩:∃w2,w2=wr:=⟨_,rfl⟩
    go_upto_region 6 with(fail)
    go_cut [8,9]from 18 to 35 (fun s7 s8 W=>∃p q:Nat,s7=π (some ⟨p,0,none⟩)∧s8=π (some ⟨q,0,none⟩)∧Hid (Two w2 W p q (zH nx (ς As nx.c.len Cs)) (zH ny (ς At ny.c.len Ct))))
    case first =>
     have KQ:Hid (∀W,Below w2.heap.size w2 W→(W.cell? ⟨g,0,none⟩=some (ς (some ⟨gN,oN,none⟩) a.n CN)∧W.cell? ⟨gN,oN+x'*4,none⟩=some (ι γ nx.k)∧W.cell? ⟨gN,oN+x'*4+1,none⟩=some (σ nx.x)∧W.cell? ⟨gN,oN+x'*4+2,none⟩=some (σ nx.y)∧W.cell? ⟨gN,oN+x'*4+3,none⟩=some (ς As nx.c.len Cs)∧W.cell? ⟨g,4,none⟩=some (ς (some ⟨gO,oO,none⟩) b.n CO)∧W.cell? ⟨gO,oO+y'*4,none⟩=some (ι γ ny.k)∧W.cell? ⟨gO,oO+y'*4+1,none⟩=some (σ ny.x)∧W.cell? ⟨gO,oO+y'*4+2,none⟩=some (σ ny.y)∧W.cell? ⟨gO,oO+y'*4+3,none⟩=some (ς At ny.c.len Ct))):=fun W hW=>by
      exact c113
     go_region_held_law (fun W=>(W.cell? ⟨g,0,none⟩=some (ς (some ⟨gN,oN,none⟩) a.n CN)∧W.cell? ⟨gN,oN+x'*4,none⟩=some (ι γ nx.k)∧W.cell? ⟨gN,oN+x'*4+1,none⟩=some (σ nx.x)∧W.cell? ⟨gN,oN+x'*4+2,none⟩=some (σ nx.y)∧W.cell? ⟨gN,oN+x'*4+3,none⟩=some (ς As nx.c.len Cs)∧W.cell? ⟨g,4,none⟩=some (ς (some ⟨gO,oO,none⟩) b.n CO)∧W.cell? ⟨gO,oO+y'*4,none⟩=some (ι γ ny.k)∧W.cell? ⟨gO,oO+y'*4+1,none⟩=some (σ ny.x)∧W.cell? ⟨gO,oO+y'*4+2,none⟩=some (σ ny.y)∧W.cell? ⟨gO,oO+y'*4+3,none⟩=some (ς At ny.c.len Ct))) (first|exact KQ.out _ (QE _ _).drew|exact KQ.out _ ((QE _ _).alloc (QI _) _).drew|exact KQ.out _ (((QE _ _).alloc (QI _) _).alloc ψ _).drew) (fail)
     all_goals(go_wp2_with fail;go_meet)
     all_goals first
      |exact⟨_,_,rfl,rfl,rD _ _ _⟩
      |exact⟨_,_,rfl,rfl,(rD _ _ _).swap⟩
    case rest =>
     obtain⟨p,q',rfl,rfl,HT⟩:=hcut;obtain⟨u0,u1,u2,u3⟩:=AY HT.out.fst;obtain⟨t0,t1,t2,t3⟩:=AY HT.out.snd;have HB:=QA (hB.out.trans (HT.out.QF.mono hB.out.size));obtain⟨w3,rfl⟩:∃w3,w3=wc:=⟨_,rfl⟩;have wv:IntKind.i64.wrap ((v:Int)+1)=((v+1:Nat):Int):=by rw[IntKind.wrap_i64];omega
     have Sz:=QA hv;have HI:=QA hlt;clear Sk hB HT;by_cases hk:nx.k=ny.k
     ·have hk':(nx.k != ny.k)=false:=by simp[hk]
      have hk2:(nx.k==ny.k)=true:=by simp[hk]
      obtain⟨te,hte⟩:=Mem.QD ((nx.x.toList==ny.x.toList));obtain⟨v2,hv2⟩:∃v2:Nat,v2=v+1+(if nx.x.toList=ny.x.toList then 1 else 0):=⟨_,rfl⟩;have YQ:Hid (R=if nx.c.len=0∨ny.c.len=0 then v2 else Ef a b (4-(i+1)) (x'+1) (y'+1) v2):=by show _=_;rw[rU.out,if_pos hk,hv2]
      have Ii:Hid (v2=v+1+(if te then 1 else 0)):=by
       show _=_;rw[hv2,←hte];by_cases e:nx.x.toList=ny.x.toList
       ·simp[e]
       ·simp[e]
      clear rU hv2
      go_upto_if 47 with(fail)
      go_cut [7]from 36 to 49 (fun s7 W=>s7=ι γ (v2:Int)∧W=w3)
      case first =>
       cases te with
       |false =>
        have e:Hid (((v+1:Nat):Int)=(v2:Int)):=by show _=_;rw[Ii.out];rfl
        go_wp2
        go_meet
        case rel=>exact⟨by rw[←e.out];go_num,rfl⟩
       |true =>
        have e:Hid (((v+1+1:Nat):Int)=(v2:Int)):=by show _=_;rw[Ii.out];rfl
        have wv2:IntKind.i64.wrap (((v+1:Nat):Int)+1)=((v+1+1:Nat):Int):=by have:=Sz.out;have:=HI.out;rw[IntKind.wrap_i64];omega
        go_wp2
        go_meet
        case rel=>exact⟨by rw[←e.out];go_num,rfl⟩
      case rest =>
       obtain⟨rfl,hw⟩:=hcut;obtain⟨w4,rfl⟩:∃w4,w4=wc:=⟨_,rfl⟩;subst hw;have AU:v2≤2+2*(i+1):=by have:=Sz.out;rw[Ii.out];split <;> omega
       have ag:=QA AU;have zk:=QA hlt;clear hv AU Ii Sz wv;by_cases hc1:nx.c.len=0
       ·have hz:((nx.c.len:Int)==0)=true:=by rw[hc1];rfl
        have Tt:Hid (R=v2):=by show _=_;rw[YQ.out,if_pos (.inl hc1)]
        clear hc1 YQ;go_wp2;go_ret;exact⟨by rw[Tt.out];rfl,HB.out⟩
       ·have hz:((nx.c.len:Int)==0)=false:=by rw[beq_eq_false_iff_ne];omega
        by_cases hc2:ny.c.len=0
        ·have hz2:((ny.c.len:Int)==0)=true:=by rw[hc2];rfl
         have Tt:Hid (R=v2):=by show _=_;rw[YQ.out,if_pos (.inr hc2)]
         clear hc1 hc2 YQ;go_wp2;go_ret;exact⟨by rw[Tt.out];rfl,HB.out⟩
        ·have hz2:((ny.c.len:Int)==0)=false:=by rw[beq_eq_false_iff_ne];omega
         have Tt:Hid (R=Ef a b (4-(i+1)) (x'+1) (y'+1) v2):=by show _=_;rw[YQ.out,if_neg (fun e=>by rcases e with e|e <;> omega)]
         have g1:x'+1<a.n:=by have h1:=yP.out;have h2:=HZX.out;have h3:=F.QL nx.c;omega
         have g2:y'+1<b.n:=by have h1:=Ig.out;have h2:=HZY.out;have h3:=F.QL ny.c;omega
         have G1:=QA g1;have G2:=QA g2;clear hc1 hc2 YQ g1 g2;go_wp2
         go_roundw
         case rel=>exact⟨i+1,x'+1,y'+1,v2,by have:=zk.out;omega,G1.out,G2.out,ag.out,by go_num,by go_num,rfl,by go_num,Tt.out,HB.out⟩
         case measure=>have:=zk.out;simp[intOf];omega
     ·have hk':(nx.k != ny.k)=true:=by simp[hk]
      have hk2:(nx.k==ny.k)=false:=by simp[hk]
      have YQ:Hid (R=v):=by show _=_;rw[rU.out,if_neg hk]
      clear rU;go_wp2;go_ret;exact⟨by rw[YQ.out];rfl,HB.out⟩
   ·obtain rfl:i=4:=ω
    have YQ:Hid (R=v):=hR.out;clear hR;go_wp2;go_ret;exact⟨by rw[YQ.out];rfl,hB.out⟩
theorem fV(h:MS w S g gA gB a b M)(hf:Fit a b)(x y:Nat)(hx:x<a.n)(hy:y<b.n) :
 Calls Tryz.prog 97 #[π (some ⟨g,0,none⟩),ι γ (x:Int),ι γ (y:Int)] w fun e w'=>e=ρ (ι γ ((near a b M x y:Nat):Int))∧Below w.heap.size w w':=by
 obtain⟨gN,oN,CN,gO,oO,CO,sx,sy,hnn,⟨As,Cs,dN⟩,⟨At,Ct,dM⟩⟩:=Ã h hx hy;have LK:=QA (fun(W:World)(hW:Below w.heap.size w W)=>Gv (h.later hW) x hx);have XY:=QA (fun(W:World)(hW:Below w.heap.size w W)=>Gu (h.later hW) y hy);have IL:=QA (fun(W:World)(hW:Below w.heap.size w W)=>U4 (h.later hW) hf x y hx hy);have sK:=QA (fun(W:World)(hW:Below w.heap.size w W)=>Qjj (h.later hW) hf x y hx hy);have HH1:=QA (fun(W:World)(hW:Below w.heap.size w W)=>Qji (h.later hW) hf y x hy hx);have sQ:=QA (fun(W:World)(hW:Below w.heap.size w W)=>ŷ (h.later hW) hf x y hx hy);have wW:=QA (fun(W:World)(hW:Below w.heap.size w W)=>Ql2 (h.later hW) hf x y hx hy);have HNM:=QA (fun(W:World)=>Qjd (a.at_ x).k W);have HV:Hid (near a b M x y=if !QQ M.1 x||(!QQ M.2 y || !((a.at_ x).k==(b.at_ y).k))then 0 else if JU a b x y then 16 else if Kn a b x y||Kn b a y x then 0 else if En (a.at_ x).k&&(!((a.at_ x).x.toList==(b.at_ y).x.toList) && !Xm a b x y)then 0 else Es a b x y):=rfl;generalize near a b M x y=R at *;generalize QQ M.1 x=f0 at *;generalize QQ M.2 y=f1 at *;generalize JU a b x y=al at *;generalize Kn a b x y=h0 at *;generalize Kn b a y x=h1 at *;generalize Xm a b x y=ae at *;generalize Es a b x y=cm at *;generalize En (a.at_ x).k=nm at *;have hx0:(0:Int)≤(x:Int):=ω
 have hy0:(0:Int)≤(y:Int):=ω
 have hx1:(x:Int)<(a.n:Int):=ω
 have hy1:(y:Int)<(b.n:Int):=ω
 generalize a.at_ x=nx at *;generalize b.at_ y=ny at *;subst dN;subst dM;have Sk:=QA hnn;clear h hf hnn;go_enter Tryz.func97,Tryz.ntmps97
 go_upto_region 1 with(fail)
 go_cut [7,8]from 9 to 26 (fun s7 s8 W=>∃p q:Nat,s7=π (some ⟨p,0,none⟩)∧s8=π (some ⟨q,0,none⟩)∧Hid (Two w W p q (zH nx (ς As nx.c.len Cs)) (zH ny (ς At ny.c.len Ct))))
 case first =>
  have KQ:Hid (∀W,Below w.heap.size w W→(W.cell? ⟨g,0,none⟩=some (ς (some ⟨gN,oN,none⟩) a.n CN)∧W.cell? ⟨gN,oN+x*4,none⟩=some (ι γ nx.k)∧W.cell? ⟨gN,oN+x*4+1,none⟩=some (σ nx.x)∧W.cell? ⟨gN,oN+x*4+2,none⟩=some (σ nx.y)∧W.cell? ⟨gN,oN+x*4+3,none⟩=some (ς As nx.c.len Cs)∧W.cell? ⟨g,4,none⟩=some (ς (some ⟨gO,oO,none⟩) b.n CO)∧W.cell? ⟨gO,oO+y*4,none⟩=some (ι γ ny.k)∧W.cell? ⟨gO,oO+y*4+1,none⟩=some (σ ny.x)∧W.cell? ⟨gO,oO+y*4+2,none⟩=some (σ ny.y)∧W.cell? ⟨gO,oO+y*4+3,none⟩=some (ς At ny.c.len Ct))):=fun W hW=>by
   exact c113
  go_region_held_law (fun W=>(W.cell? ⟨g,0,none⟩=some (ς (some ⟨gN,oN,none⟩) a.n CN)∧W.cell? ⟨gN,oN+x*4,none⟩=some (ι γ nx.k)∧W.cell? ⟨gN,oN+x*4+1,none⟩=some (σ nx.x)∧W.cell? ⟨gN,oN+x*4+2,none⟩=some (σ nx.y)∧W.cell? ⟨gN,oN+x*4+3,none⟩=some (ς As nx.c.len Cs)∧W.cell? ⟨g,4,none⟩=some (ς (some ⟨gO,oO,none⟩) b.n CO)∧W.cell? ⟨gO,oO+y*4,none⟩=some (ι γ ny.k)∧W.cell? ⟨gO,oO+y*4+1,none⟩=some (σ ny.x)∧W.cell? ⟨gO,oO+y*4+2,none⟩=some (σ ny.y)∧W.cell? ⟨gO,oO+y*4+3,none⟩=some (ς At ny.c.len Ct))) (first|exact KQ.out _ (QE _ _).drew|exact KQ.out _ ((QE _ _).alloc (QI _) _).drew|exact KQ.out _ (((QE _ _).alloc (QI _) _).alloc ψ _).drew) (fail)
  all_goals(go_wp2_with fail;go_meet)
  all_goals first
   |exact⟨_,_,rfl,rfl,rD _ _ _⟩
   |exact⟨_,_,rfl,rfl,(rD _ _ _).swap⟩
 case rest =>
  obtain⟨p,q,rfl,rfl,HT⟩:=hcut;obtain⟨u0,u1,u2,u3⟩:=AY HT.out.fst;obtain⟨t0,t1,t2,t3⟩:=AY HT.out.snd;have HB:=QA HT.out.QF;obtain⟨w3,rfl⟩:∃w3,w3=wc:=⟨_,rfl⟩;have HQ:Hid (∀q,Below w.heap.size w (w3.drewN q)):=fun q=>⟨HB.out.os,HB.out.tape,HB.out.output,HB.out.size,HB.out.block⟩
  clear Sk HT;go_wp2_with fail;refine(LK.out _ HB.out).mono ?_;rintro e w9 ⟨rfl,q1,rfl⟩;cases f0 with
  |false=>have HR:Hid (R=0):=HV.out;exact c45
  |true =>
  go_wp2_with fail;refine(XY.out _ (HQ.out _)).mono ?_;rintro e w9 ⟨rfl,q2,rfl⟩;cases f1 with
  |false=>have HR:Hid (R=0):=HV.out;exact c45
  |true =>
  by_cases hk:nx.k=ny.k
  ·have hk':(nx.k != ny.k)=false:=by simp[hk]
   have hk2:(nx.k==ny.k)=true:=by simp[hk]
   have Sz:Hid (R=if al then 16 else if h0||h1 then 0 else if nm&&(!(nx.x.toList==ny.x.toList) && !ae)then 0 else cm):=by show _=_;rw[HV.out,hk2];rfl
   clear HV;go_wp2_with fail;refine(IL.out _ (HQ.out _)).mono ?_;rintro e w9 ⟨rfl,q3,rfl⟩;cases al with
   |true=>have HR:Hid (R=16):=Sz.out;exact c45
   |false =>
   go_wp2_with fail;refine(sK.out _ (HQ.out _)).mono ?_;rintro e w9 ⟨rfl,q4,rfl⟩;cases h0 with
   |true=>have HR:Hid (R=0):=Sz.out;exact c45
   |false =>
   go_wp2_with fail;refine(HH1.out _ (HQ.out _)).mono ?_;rintro e w9 ⟨rfl,q5,rfl⟩;cases h1 with
   |true=>have HR:Hid (R=0):=Sz.out;exact c45
   |false =>
   have Ii:Hid (R=if nm&&(!(nx.x.toList==ny.x.toList) && !ae)then 0 else cm):=Sz.out;clear Sz;clear hk hk' hk2;go_wp2_with fail;refine(HNM.out _).mono ?_;rintro e w9 ⟨rfl,q6,rfl⟩;cases nm with
   |false=>have HR:Hid (R=cm):=Ii.out;exact c34
   |true =>
   by_cases ht:nx.x.toList=ny.x.toList
   ·have ht':(nx.x.toList==ny.x.toList)=true:=by rw[ht];exact beq_self_eq_true _
    have HR:Hid (R=cm):=by show _=_;rw[Ii.out,ht'];rfl
    clear ht;exact c34
   ·have ht':(nx.x.toList==ny.x.toList)=false:=beq_eq_false_iff_ne.2 ht;have HV4:Hid (R=if !ae then 0 else cm):=by show _=_;rw[Ii.out,ht'];rfl
    clear ht Ii;go_wp2_with fail;refine(sQ.out _ (HQ.out _)).mono ?_;rintro e w9 ⟨rfl,q7,rfl⟩;cases ae with
    |false=>have HR:Hid (R=0):=HV4.out;exact c45
    |true=>have HR:Hid (R=cm):=HV4.out;exact c34
  ·have hk':(nx.k != ny.k)=true:=by simp[hk]
   have hk2:(nx.k==ny.k)=false:=by simp[hk]
   have HR:Hid (R=0):=by show _=_;rw[HV.out,hk2];rfl
   exact c45
end Match
namespace Match
open Mem Tree Shape
theorem Gs:(Tryz.prog.info? 32).map (fun i=>(i.zero,i.size,i.bytes))=some (some (ς none 0 0),1,24):=χ
def Jp(n:Nat):Array Value:=(List.replicate n (ς none 0 0)).toArray
theorem Ş(n:Nat)(hn:n≤1000000)(w:World):(Instr.makeSlice 33 (ι γ (n:Int)) (ι γ (n:Int))).run Tryz.prog w=.ok (ς (some ⟨w.heap.size,0,none⟩) n n) (w.alloc (θ (Jp n) 32)):=by
 obtain⟨i0,hi0,hz0,hz1,hz2⟩:=info_parts Gs;have h:=run_make (P:=Tryz.prog) w 33 32 i0 (ς none 0 0) Tryz.underlying33 hi0 hz0 γ γ n n ω (Int.le_refl _) (by rw[hz2];omega) ω;rw[h];simp only[Int.toNat_natCast]
 congr 2
 have:madeCells (ς none 0 0).cells (n*i0.size)=Jp n:=by unfold Jp;rw[hz1,Nat.mul_one];apply Array.toList_inj.1;have:=toList_madeCells_one (ς none 0 0) n;simp only[Value.cells];rw[this]
 rw[this]
def NI:Value:=ς none 0 0
def TR(gW gS p p':Nat)(cW cS:List Value)(KW KS:List (List Nat)):List QC :=
 Qb 32 1 (ς (some ⟨gW,0,none⟩) p p) p cW::Qb 32 1 (ς (some ⟨gS,0,none⟩) p' p') p' cS::(VW cW KW++VW cS KS)
structure T2(W:World)(B gW gS p p':Nat)(KW KS:List (List Nat)):Prop where
 all:∃cW cS,QH W B (TR gW gS p p' cW cS KW KS)∧cW.length=p∧cS.length=p'∧(∀i:Nat,KW[i]?=some []→cW[i]?=some NI)∧(∀i:Nat,KS[i]?=some []→cS[i]?=some NI)
 lW:KW.length=p
 lS:KS.length=p'
section
variable {W W':World}{B gW gS p p':Nat}{KW KS:List (List Nat)}
theorem T2.later(h:T2 W B gW gS p p' KW KS)(hb:Below W.heap.size W W'):T2 W' B gW gS p p' KW KS:=by
 obtain⟨cW,cS,hF,h1⟩:=h.all;exact⟨⟨cW,cS,hF.later hb,h1⟩,h.lW,h.lS⟩
theorem T2.VB(h:T2 W B gW gS p p' KW KS){i:Nat}{l:List Nat}(hi:KW[i]?=some l):∃A C,W.cell? ⟨gW,i,none⟩=some (ς A l.length C)∧Vx W (In B W.heap.size) A (l.map nv):=by
 obtain⟨cW,cS,hF,EL,XE,_⟩:=h.all;have hl:=(List.getElem?_eq_some_iff.1 hi).1;obtain⟨u,hu⟩:∃u,cW[i]?=some u:=⟨_,QN (by rw[EL,←h.lW];exact hl)⟩;have hr:(TR gW gS p p' cW cS KW KS)[i+2]?=some (Qb 3 1 u l.length (l.map nv)):=by show(VW cW KW++VW cS KS)[i]?=_;have:=Xg hu hi;rw[PX (List.getElem?_eq_some_iff.1 this).1,this]
 obtain⟨A,C,e,_,_,Lb⟩:=hF.Nb hr;rw[VD]at e;exact⟨A,C,by rw[←e];exact hF.cell (i:=0) rfl hu,Lb⟩
theorem T2.Av(h:T2 W B gW gS p p' KW KS){i:Nat}{l:List Nat}(hi:KS[i]?=some l):∃A C,W.cell? ⟨gS,i,none⟩=some (ς A l.length C)∧Vx W (In B W.heap.size) A (l.map nv):=by
 obtain⟨cW,cS,hF,EL,XE,_⟩:=h.all;have hl:=(List.getElem?_eq_some_iff.1 hi).1;obtain⟨u,hu⟩:∃u,cS[i]?=some u:=⟨_,QN (by rw[XE,←h.lS];exact hl)⟩;have hr:(TR gW gS p p' cW cS KW KS)[(p+i)+2]?=some (Qb 3 1 u l.length (l.map nv)):=by show(VW cW KW++VW cS KS)[p+i]?=_;have:=Xg hu hi;have hlen:=Ye cW KW (by rw[EL,h.lW]);rw[GK (by rw[hlen,h.lW];omega),hlen,h.lW,show p+i-p=i by omega,this]
 obtain⟨A,C,e,_,_,Lb⟩:=hF.Nb hr;rw[VD]at e;exact⟨A,C,by rw[←e];exact hF.cell (i:=1) rfl hu,Lb⟩
theorem Ĉ{cW cS:List Value}{i:Nat}{u:Value}{l:List Nat}(hi:i<cW.length)(hl:cW.length=KW.length):((TR gW gS p p' cW cS KW KS).set (i+2) (Qb 3 1 u l.length (l.map nv))).set 0 (Qb 32 1 (ς (some ⟨gW,0,none⟩) p p) p (cW.set i u))=TR gW gS p p' (cW.set i u) cS (KW.set i l) KS:=by
 unfold TR;simp only[List.set_cons_succ,List.set_cons_zero];rw[List.set_append_left _ _ (by rw[Ye cW KW hl,←hl];exact hi),Uy cW KW i u l hl]
theorem ć{cW cS:List Value}{i:Nat}{u:Value}{l:List Nat}(hl0:cW.length=KW.length)(hp:KW.length=p)(hl:cS.length=KS.length):((TR gW gS p p' cW cS KW KS).set ((p+i)+2) (Qb 3 1 u l.length (l.map nv))).set 1 (Qb 32 1 (ς (some ⟨gS,0,none⟩) p' p') p' (cS.set i u))=TR gW gS p p' cW (cS.set i u) KW (KS.set i l):=by
 unfold TR;simp only[List.set_cons_succ,List.set_cons_zero];have hlen:=Ye cW KW hl0;rw[List.set_append_right _ _ (by rw[hlen,hp];omega),hlen,hp,show p+i-p=i by omega,Uy cS KS i u l hl]
theorem Gg{α:Type}{l:List α}{i:Nat}{v:α}(h:l[i]?=some v):l.set i v=l:=by
 obtain⟨h1,h2⟩:=List.getElem?_eq_some_iff.1 h;rw[←h2,List.set_getElem_self]
theorem T2.jy(h:T2 W B gW gS p p' KW KS){i j:Nat}{l:List Nat}(hi:KW[i]?=some l)(hj:j<l.length)(z:Nat):∃g C,W.cell? ⟨gW,i,none⟩=some (ς (some ⟨g,0,none⟩) l.length C)∧(∃u,W.cell? ⟨g,j,none⟩=some u)∧W.frozen? ⟨g,j,none⟩=false∧
 T2 (W.setCell ⟨g,j,none⟩ (nv z)) B gW gS p p' (KW.set i (l.set j z)) KS∧Below B W (W.setCell ⟨g,j,none⟩ (nv z)):=by
 obtain⟨cW,cS,hF,EL,XE,n1,n2⟩:=h.all;have hl:=(List.getElem?_eq_some_iff.1 hi).1;obtain⟨u,hu⟩:∃u,cW[i]?=some u:=⟨_,QN (by rw[EL,←h.lW];exact hl)⟩;have hr:(TR gW gS p p' cW cS KW KS)[i+2]?=some (Qb 3 1 u l.length (l.map nv)):=by show(VW cW KW++VW cS KS)[i]?=_;have:=Xg hu hi;rw[PX (List.getElem?_eq_some_iff.1 this).1,this]
 obtain⟨g,C,rfl,_,_⟩:=hF.sliceAt hr ω;have hc:=hF.cell (i:=0) rfl hu;have hce:=hF.cell hr (j:=j) (u:=nv (l[j])) (by rw[VP,QN hj];rfl);obtain⟨hs,hb⟩:=hF.store hr j (nv z);refine⟨g,C,hc,⟨_,hce⟩,hF.JO hr j,⟨⟨cW,cS,?_,EL,XE,fun i' he=>?_,n2⟩,by rw[List.length_set];exact h.lW,h.lS⟩,hb⟩
 ·have e:=Ĉ (gW:=gW) (gS:=gS) (p:=p) (p':=p') (cS:=cS) (KW:=KW) (KS:=KS) (i:=i) (u:=ς (some ⟨g,0,none⟩) l.length C) (l:=l.set j z) (by rw[EL,←h.lW];exact hl) (by rw[EL,h.lW]);rw[Gg hu]at e;rw[←e];have e2:((TR gW gS p p' cW cS KW KS).set (i+2) (Qb 3 1 (ς (some ⟨g,0,none⟩) l.length C) (l.set j z).length ((l.set j z).map nv))).set 0 (Qb 32 1 (ς (some ⟨gW,0,none⟩) p p) p cW)=(TR gW gS p p' cW cS KW KS).set (i+2) (Qb 3 1 (ς (some ⟨g,0,none⟩) l.length C) (l.set j z).length ((l.set j z).map nv)):=Gg (by rfl);rw[e2,List.length_set,List.map_set];exact hs
 ·rw[List.getElem?_set]at he;by_cases Nu:i=i'
  ·rw[if_pos Nu,if_pos ω]at he;injection he with he;have:=congrArg List.length he;rw[List.length_set,List.length_nil]at this;omega
  ·rw[if_neg Nu]at he;exact n1 i' he
theorem T2.jz(h:T2 W B gW gS p p' KW KS){i j:Nat}{l:List Nat}(hi:KS[i]?=some l)(hj:j<l.length)(z:Nat):∃g C,W.cell? ⟨gS,i,none⟩=some (ς (some ⟨g,0,none⟩) l.length C)∧(∃u,W.cell? ⟨g,j,none⟩=some u)∧W.frozen? ⟨g,j,none⟩=false∧
 T2 (W.setCell ⟨g,j,none⟩ (nv z)) B gW gS p p' KW (KS.set i (l.set j z))∧Below B W (W.setCell ⟨g,j,none⟩ (nv z)):=by
 obtain⟨cW,cS,hF,EL,XE,n1,n2⟩:=h.all;have hl:=(List.getElem?_eq_some_iff.1 hi).1;obtain⟨u,hu⟩:∃u,cS[i]?=some u:=⟨_,QN (by rw[XE,←h.lS];exact hl)⟩;have hr:(TR gW gS p p' cW cS KW KS)[(p+i)+2]?=some (Qb 3 1 u l.length (l.map nv)):=by show(VW cW KW++VW cS KS)[p+i]?=_;have:=Xg hu hi;have hlen:=Ye cW KW (by rw[EL,h.lW]);rw[GK (by rw[hlen,h.lW];omega),hlen,h.lW,show p+i-p=i by omega,this]
 obtain⟨g,C,rfl,_,_⟩:=hF.sliceAt hr ω;have hc:=hF.cell (i:=1) rfl hu;have hce:=hF.cell hr (j:=j) (u:=nv (l[j])) (by rw[VP,QN hj];rfl);obtain⟨hs,hb⟩:=hF.store hr j (nv z);refine⟨g,C,hc,⟨_,hce⟩,hF.JO hr j,⟨⟨cW,cS,?_,EL,XE,n1,fun i' he=>?_⟩,h.lW,by rw[List.length_set];exact h.lS⟩,hb⟩
 ·have e:=ć (gW:=gW) (gS:=gS) (p:=p) (p':=p') (cW:=cW) (KW:=KW) (KS:=KS) (i:=i) (u:=ς (some ⟨g,0,none⟩) l.length C) (l:=l.set j z) (cS:=cS) (by rw[EL,h.lW]) h.lW (by rw[XE,h.lS]);rw[Gg hu]at e;rw[←e];have e2:((TR gW gS p p' cW cS KW KS).set ((p+i)+2) (Qb 3 1 (ς (some ⟨g,0,none⟩) l.length C) (l.set j z).length ((l.set j z).map nv))).set 1 (Qb 32 1 (ς (some ⟨gS,0,none⟩) p' p') p' cS)=(TR gW gS p p' cW cS KW KS).set ((p+i)+2) (Qb 3 1 (ς (some ⟨g,0,none⟩) l.length C) (l.set j z).length ((l.set j z).map nv)):=Gg (by rfl);rw[e2,List.length_set,List.map_set];exact hs
 ·rw[List.getElem?_set]at he;by_cases Nu:i=i'
  ·rw[if_pos Nu,if_pos ω]at he;injection he with he;have:=congrArg List.length he;rw[List.length_set,List.length_nil]at this;omega
  ·rw[if_neg Nu]at he;exact n2 i' he
theorem ø(W:World)(q:Nat)(hq:q≤maxLen):(Qb 3 1 (ς (some ⟨W.heap.size,0,none⟩) q q) (List.replicate q 0).length ((List.replicate q 0).map nv)).H (W.alloc (θ (iV (List.replicate q 0)).toArray 3)):=by
 have e:((List.replicate q 0).map nv)=iV (List.replicate q 0):=by unfold iV;rw[List.map_replicate,List.map_replicate];rfl
 rw[List.length_replicate,e];have:=World.ownsRow_lit (base:=0) (size:=1) W (iV (List.replicate q 0)).toArray q (e:=3) (Nat.zero_le _) hq (by simp[Xh]);exact this
theorem T2.tX(h:T2 W B gW gS p p' KW KS){i q:Nat}(hi:KW[i]?=some [])(hq:q≤1000000)(hq0:0<q):(W.alloc (θ (iV (List.replicate q 0)).toArray 3)).cell? ⟨gW,i,none⟩=some NI∧(W.alloc (θ (iV (List.replicate q 0)).toArray 3)).frozen? ⟨gW,i,none⟩=false∧
 T2 ((W.alloc (θ (iV (List.replicate q 0)).toArray 3)).setCell ⟨gW,i,none⟩ (ς (some ⟨W.heap.size,0,none⟩) q q)) B gW gS p p' (KW.set i (List.replicate q 0)) KS∧Below B W ((W.alloc (θ (iV (List.replicate q 0)).toArray 3)).setCell ⟨gW,i,none⟩ (ς (some ⟨W.heap.size,0,none⟩) q q)):=by
 obtain⟨cW,cS,hF,EL,XE,n1,n2⟩:=h.all;have hl:=(List.getElem?_eq_some_iff.1 hi).1;have hu:=n1 i hi;have hr:(TR gW gS p p' cW cS KW KS)[i+2]?=some (Qb 3 1 NI 0 []):=by show(VW cW KW++VW cS KS)[i]?=_;have:=Xg hu hi;rw[PX (List.getElem?_eq_some_iff.1 this).1,this];rfl
 have hA:=World.grownBy_alloc W (θ (iV (List.replicate q 0)).toArray 3) none;have h2:=hF.set hr (t':=Qb 3 1 (ς (some ⟨W.heap.size,0,none⟩) q q) (List.replicate q 0).length ((List.replicate q 0).map nv)) hA (ø W q (by unfold maxLen;omega)) (.inr (.inr ⟨_,rfl,Nat.le_refl _⟩));have b1:=hF.QF hr hA;have VN:((TR gW gS p p' cW cS KW KS).set (i+2) (Qb 3 1 (ς (some ⟨W.heap.size,0,none⟩) q q) (List.replicate q 0).length ((List.replicate q 0).map nv)))[0]?=some (Qb 32 1 (ς (some ⟨gW,0,none⟩) p p) p cW):=rfl;obtain⟨h3,b2⟩:=h2.store VN i (ς (some ⟨W.heap.size,0,none⟩) q q);rw[Ĉ (by rw[EL,←h.lW];exact hl) (by rw[EL,h.lW])]at h3;refine⟨h2.cell VN hu,h2.JO VN i,⟨⟨_,cS,h3,by rw[List.length_set];exact EL,XE,fun i' he=>?_,n2⟩,by rw[List.length_set];exact h.lW,h.lS⟩,b1.trans b2⟩;rw[List.getElem?_set]at he;by_cases Nu:i=i'
 ·rw[if_pos Nu,if_pos ω]at he;injection he with he;have:=congrArg List.length he;rw[List.length_replicate,List.length_nil]at this;omega
 ·rw[if_neg Nu]at he;rw[List.getElem?_set_ne Nu];exact n1 i' he
theorem T2.jU(h:T2 W B gW gS p p' KW KS){i q:Nat}(hi:KS[i]?=some [])(hq:q≤1000000)(hq0:0<q):(W.alloc (θ (iV (List.replicate q 0)).toArray 3)).cell? ⟨gS,i,none⟩=some NI∧(W.alloc (θ (iV (List.replicate q 0)).toArray 3)).frozen? ⟨gS,i,none⟩=false∧
 T2 ((W.alloc (θ (iV (List.replicate q 0)).toArray 3)).setCell ⟨gS,i,none⟩ (ς (some ⟨W.heap.size,0,none⟩) q q)) B gW gS p p' KW (KS.set i (List.replicate q 0))∧Below B W ((W.alloc (θ (iV (List.replicate q 0)).toArray 3)).setCell ⟨gS,i,none⟩ (ς (some ⟨W.heap.size,0,none⟩) q q)):=by
 obtain⟨cW,cS,hF,EL,XE,n1,n2⟩:=h.all;have hl:=(List.getElem?_eq_some_iff.1 hi).1;have hu:=n2 i hi;have hr:(TR gW gS p p' cW cS KW KS)[(p+i)+2]?=some (Qb 3 1 NI 0 []):=by show(VW cW KW++VW cS KS)[p+i]?=_;have:=Xg hu hi;have hlen:=Ye cW KW (by rw[EL,h.lW]);rw[GK (by rw[hlen,h.lW];omega),hlen,h.lW,show p+i-p=i by omega,this];rfl
 have hA:=World.grownBy_alloc W (θ (iV (List.replicate q 0)).toArray 3) none;have h2:=hF.set hr (t':=Qb 3 1 (ς (some ⟨W.heap.size,0,none⟩) q q) (List.replicate q 0).length ((List.replicate q 0).map nv)) hA (ø W q (by unfold maxLen;omega)) (.inr (.inr ⟨_,rfl,Nat.le_refl _⟩));have b1:=hF.QF hr hA;have VN:((TR gW gS p p' cW cS KW KS).set ((p+i)+2) (Qb 3 1 (ς (some ⟨W.heap.size,0,none⟩) q q) (List.replicate q 0).length ((List.replicate q 0).map nv)))[1]?=some (Qb 32 1 (ς (some ⟨gS,0,none⟩) p' p') p' cS):=rfl;obtain⟨h3,b2⟩:=h2.store VN i (ς (some ⟨W.heap.size,0,none⟩) q q);rw[ć (by rw[EL,h.lW]) h.lW (by rw[XE,h.lS])]at h3;refine⟨h2.cell VN hu,h2.JO VN i,⟨⟨cW,_,h3,EL,by rw[List.length_set];exact XE,n1,fun i' he=>?_⟩,h.lW,by rw[List.length_set];exact h.lS⟩,b1.trans b2⟩;rw[List.getElem?_set]at he;by_cases Nu:i=i'
 ·rw[if_pos Nu,if_pos ω]at he;injection he with he;have:=congrArg List.length he;rw[List.length_replicate,List.length_nil]at this;omega
 ·rw[if_neg Nu]at he;rw[List.getElem?_set_ne Nu];exact n2 i' he
end
