import Derived.Test.YtmepekognmlblaaGreatDoorS08
import Derived.Test.YtmepekognmlblaaGreatDoorS09
import Derived.Test.YtmepekognmlblaaGreatDoorS10
import Derived.Test.YtmepekognmlblaaGreatDoorS11
import Derived.Lib.ConvBytes
set_option maxHeartbeats 1000000
set_option linter.unusedVariables false
open Go.ChangeShapes Go.WideShapes Go.ChangeAt Go.RowKit Go.Proofs.Tryz
open _root_.List renaming getD_eq_getElem?_getD→QX,getElem?_eq_none→YP
open Go.Lib renaming hid→QA
open _root_.Nat renaming lt_of_lt_of_le→VE
open Go.World renaming cell?_alloc_at→VV
open Go.Value renaming string→σ,int→ι,slice→ς,pointer→π,bool→τ
open Go.IntKind renaming i64→γ
open Go.Obj renaming cells→θ
open Go.Ending renaming returned→ρ
namespace Go.Proofs.YtmepekognmlblaaGreatDoor
namespace Match
open Tree Shape
def Sd.Ok(s:Sd):Prop:=∃k x y c,s.T=one k x y c
namespace Sd
variable {s:Sd}
theorem GN(s:Sd):s.n=s.T.size:=by unfold n nd;exact Qj _
theorem Ok.pos(h:s.Ok):0<s.n:=by
 obtain⟨k,x,y,c,e⟩:=h;rw[GN,e,Q4];omega
theorem ZK{x:Nat}(hx:x<s.n):s.nd[x]?=some (s.at_ x):=by
 unfold at_ n at *;rw[QX,List.getElem?_eq_getElem hx];rfl
theorem UM{x:Nat}{nd:Nd}(h:s.nd[x]?=some nd):s.at_ x=nd:=by unfold at_;rw[QX,h];rfl
theorem ES(s:Sd)(x:Nat):0<s.sz x:=by unfold sz Nd.size;omega
theorem GR{x:Nat}(hx:x<s.n):s.kid x=places (x+1) (s.at_ x).c:=by
 unfold kid;rw[QX,Ux s.T 0 x _ (ZK hx),Nat.zero_add];rfl
theorem sub{x:Nat}(hx:x<s.n):x+s.sz x≤s.n:=by
 have:=(Jv s.T x _ (ZK hx)).1;rw[GN];unfold sz Nd.size;omega
theorem yD{x r:Nat}(hx:x<s.n)(hr:r<(s.at_ x).c.size):(nodes (s.at_ x).c)[r]?=some (s.at_ (x+1+r)):=by
 have h:=Jv s.T x _ (ZK hx);rw[←h.2 r hr];exact ZK (by rw[GN];omega)
theorem nest{x z:Nat}(hx:x<s.n)(h1:x≤z)(h2:z<x+s.sz x):z+s.sz z≤x+s.sz x:=by
 rcases Nat.eq_or_lt_of_le h1 with rfl|h1
 ·exact Nat.le_refl _
 ·have hr:z-(x+1)<(s.at_ x).c.size:=by unfold sz Nd.size at h2;omega
  have h:=yD hx hr;have:=(Jv _ _ _ h).1;rw[show x+1+(z-(x+1))=z by omega]at this;unfold sz Nd.size;omega
theorem VS{x q:Nat}(hx:x<s.n)(hq:q∈s.kid x):x<q∧q<x+s.sz x∧q<s.n:=by
 rw[GR hx]at hq;have h:=Jw _ _ _ hq;have h2:=sub hx;unfold sz Nd.size at *;omega
theorem KE{x q:Nat}(hq:q∈s.kid x):x<s.n:=by
 rcases Nat.lt_or_ge x s.n with h|h
 ·exact h
 ·unfold kid at hq;rw[QX,YP (by rw[Vh,←GN];exact h)]at hq;cases hq
theorem Qad:∀(f:F)(a:Nat),(places a f).Pairwise fun q q'=>∃nd,(nodes f)[q-a]? = some nd∧q+nd.size≤q'
 | .nil,a=>List.Pairwise.nil
 | .cons k x y c r,a=>by
   simp only[places];rw[List.pairwise_cons];refine⟨fun q hq=>?_,?_⟩
   ·have:=Jw r _ q hq;refine⟨⟨k,x,y,c⟩,by simp[nodes],?_⟩;simp only[Nd.size];omega
   ·refine(List.Pairwise.and_mem.1 (Qad r (a+1+c.size))).imp ?_;rintro q q' ⟨hq,_,nd,h1,h2⟩;have hg:=Jw r _ q hq;refine⟨nd,?_,h2⟩;simp only[nodes];rw[Vw (Qj c),if_neg ω,if_neg ω,←h1]
    congr 1;omega
theorem JT(s:Sd)(x:Nat):(s.kid x).Pairwise fun q q'=>q+s.sz q≤q':=by
 rcases Nat.lt_or_ge x s.n with hx|hx
 ·rw[GR hx];refine(List.Pairwise.and_mem.1 (Qad (s.at_ x).c (x+1))).imp ?_;rintro q q' ⟨hq,_,nd,h1,h2⟩;have hg:=Jw _ _ _ hq;rw[yD hx ω,show x+1+(q-(x+1))=q by omega]at h1;injection h1 with h1;unfold sz;rw[h1];exact h2
 ·unfold kid;rw[QX,YP (by rw[Vh,←GN];exact hx)];exact List.Pairwise.nil
theorem fu{x q:Nat}(hq:q∈s.kid x):s.par[q]?=some ((x:Nat):Int):=by
 have hx:=KE hq;rw[GR hx]at hq;have h:=Ux s.T 0 x _ (ZK hx);rw[Nat.zero_add]at h;have:=(fg s.T (-1) 0 x q _ h hq).1;rwa[Nat.sub_zero,Nat.zero_add]at this
theorem XK{x x' q:Nat}(h:q∈s.kid x)(h':q∈s.kid x'):x=x':=by
 have:=(fu h).symm.trans (fu h');injection this with this;omega
theorem PQ{x z:Nat}(hx:x<s.n)(h1:x<z)(h2:z<x+s.sz x):∃p,x≤p∧p<z∧z∈s.kid p:=by
 have hr:z-(x+1)<(s.at_ x).c.size:=by unfold sz Nd.size at h2;omega
 rcases fB (s.at_ x).c (x+1) z ω ω with h|⟨i,l,h,hz⟩
 ·exact⟨x,Nat.le_refl _,h1,by rw[GR hx];exact h⟩
 ·have hi:i<(Z7 (x+1) (s.at_ x).c).length:=(List.getElem?_eq_some_iff.1 h).1;rw[Vh]at hi;have hs:=sub hx;have hp:x+1+i<s.n:=by unfold sz Nd.size at hs;omega
  rw[Ux _ _ _ _ (yD hx hi)]at h;injection h with h;have hk:z∈s.kid (x+1+i):=by rw[GR hp,h];exact hz
  exact⟨x+1+i,ω,(VS hp hk).1,hk⟩
theorem Qx6{z:Nat}(h:s.Ok)(h0:0<z)(hz:z<s.n):∃p,p<z∧z∈s.kid p:=by
 have e:s.sz 0=s.n:=by have:=ZK h.pos;obtain⟨k,x,y,c,e⟩:=h;unfold nd at this;rw[e,Gm]at this;injection this with this;rw[GN,e,Q4];unfold sz;rw[←this];rfl
 obtain⟨p,_,h2,h3⟩:=PQ h.pos h0 (by rw[e];omega);exact⟨p,h2,h3⟩
theorem YF(s:Sd):s.par.length=s.n:=by unfold par;rw[Y1,GN]
theorem DF{a b:Sd}{x y i:Nat}(hx:x<a.n)(hy:y<b.n)(h:a.at_ x=b.at_ y)(hi:i<a.sz x):a.at_ (x+i)=b.at_ (y+i):=by
 cases i with
 |zero=>exact h
 |succ i =>
  have hi':i<(a.at_ x).c.size:=by unfold sz Nd.size at hi;omega
  have h1:=yD hx hi';rw[h]at hi' h1;have h2:=yD hy hi';rw[h2]at h1;injection h1 with h1;rw[show x+(i+1)=x+1+i by omega,show y+(i+1)=y+1+i by omega,h1]
end Sd
end Match
namespace Tree
open Mem
abbrev TB:World→World→Prop:=fun W W'=>Below W.heap.size W W'
def Ints(l:List Int)(v:Value)(W:World):Prop:=∃g,v=ς (some ⟨g,0,none⟩) l.length l.length∧g<W.heap.size∧∀i u,l[i]?=some u→W.cell? ⟨g,i,none⟩=some (ι γ u)
def ym(ps:List (Int→ByteArray→Bool))(v:Value)(W:World):Prop:=∃g,v=ς (some ⟨g,0,none⟩) ps.length ps.length∧g<W.heap.size∧∀i p,ps[i]?=some p→∃u,W.cell? ⟨g,i,none⟩=some u∧Zj W u p
def qy(ps:List Pt)(v:Value)(W:World):Prop:=∃g,v=ς (some ⟨g,0,none⟩) ps.length ps.length∧g<W.heap.size∧∀i p,ps[i]?=some p→∃u,W.cell? ⟨g,i,none⟩=some u∧Zk W u p
def Gx(l:List Int):Cd TB:=⟨Ints l,fun v W W' hb ⟨g,e,hg,hc⟩=>⟨g,e,VE hg hb.size,fun i u hu=>(hb.cell (p:=⟨g,i,none⟩) hg).trans (hc i u hu)⟩⟩
def X2(p:Int→ByteArray→Bool):Cd TB:=⟨fun v W=>Zj W v p,fun v W W' hb h=>h.later hb⟩
def Q9(p:Pt):Cd TB:=⟨fun v W=>Zk W v p,fun v W W' hb h=>h.later hb⟩
def Q5(ps:List (Int→ByteArray→Bool)):Cd TB:=⟨ym ps,fun v W W' hb ⟨g,e,hg,hc⟩=>⟨g,e,VE hg hb.size,fun i p hp=>by
 obtain⟨u,hu,ht⟩:=hc i p hp;exact⟨u,(hb.cell (p:=⟨g,i,none⟩) hg).trans hu,ht.later hb⟩⟩⟩
def Zi(ps:List Pt):Cd TB:=⟨qy ps,fun v W W' hb ⟨g,e,hg,hc⟩=>⟨g,e,VE hg hb.size,fun i p hp=>by
 obtain⟨u,hu,ht⟩:=hc i p hp;exact⟨u,(hb.cell (p:=⟨g,i,none⟩) hg).trans hu,ht.later hb⟩⟩⟩
theorem Ue(W:World)(vs:List Value)(T:TypeId)(i:Nat):(W.alloc (θ vs.toArray T)).cell? ⟨W.heap.size,i,none⟩=vs[i]?:=by
 rw[VV _ _ _ _ rfl];simp
theorem Vb(l:List Int)(W:World):Ints l (ς (some ⟨W.heap.size,0,none⟩) l.length l.length) (W.alloc (θ (l.map (ι γ)).toArray 3)) :=
 ⟨_,rfl,ψ,fun i u hu=>by rw[Ue];simp[hu]⟩
theorem Ql{v1:Value}{p1:Int→ByteArray→Bool}(W:World)(h1:Zj W v1 p1):ym [p1] (ς (some ⟨W.heap.size,0,none⟩) 1 1) (W.alloc (θ #[v1] 115)) :=
 ⟨_,rfl,ψ,fun i p hp=>by
  match i,hp with
  |0,hp=>cases hp;exact⟨v1,by rw[Ue];rfl,h1.later (Qa _ _)⟩⟩
theorem Vq{v1 v2:Value}{p1 p2:Int→ByteArray→Bool}(W:World)(h1:Zj W v1 p1)(h2:Zj W v2 p2):ym [p1,p2] (ς (some ⟨W.heap.size,0,none⟩) 2 2) (W.alloc (θ #[v1,v2] 115)) :=
 ⟨_,rfl,ψ,fun i p hp=>by
  match i,hp with
  |0,hp=>cases hp;exact⟨v1,by rw[Ue];rfl,h1.later (Qa _ _)⟩
  |1,hp=>cases hp;exact⟨v2,by rw[Ue];rfl,h2.later (Qa _ _)⟩⟩
theorem Ur(W:World)(T:TypeId)(vs:List Value)(ps:List Pt)(hl:vs.length=ps.length)(h:∀(i:Nat)(v:Value)(p:Pt),vs[i]?=some v→ps[i]?=some p→Zk W v p):qy ps (ς (some ⟨W.heap.size,0,none⟩) ps.length ps.length) (W.alloc (θ vs.toArray T)) :=
 ⟨_,rfl,ψ,fun i p hp=>by
  have hi:i<vs.length:=by rw[hl];exact(List.getElem?_eq_some_iff.1 hp).1
  exact⟨vs[i],by rw[Ue];simp[hi],(h i _ p (List.getElem?_eq_getElem hi) hp).later (Qa _ _)⟩⟩
theorem Ze{v1:Value}{p1:Pt}(W:World)(h1:Zk W v1 p1):qy [p1] (ς (some ⟨W.heap.size,0,none⟩) 1 1) (W.alloc (θ #[v1] 119)) :=
 Ur W _ [v1] [p1] rfl fun i v p hv hp=>by
  match i,hv,hp with
  |0,hv,hp=>cases hv;cases hp;exact h1
theorem Z6{v1 v2:Value}{p1 p2:Pt}(W:World)(h1:Zk W v1 p1)(h2:Zk W v2 p2):qy [p1,p2] (ς (some ⟨W.heap.size,0,none⟩) 2 2) (W.alloc (θ #[v1,v2] 119)) :=
 Ur W _ [v1,v2] [p1,p2] rfl fun i v p hv hp=>by
  match i,hv,hp with
  |0,hv,hp=>cases hv;cases hp;exact h1
  |1,hv,hp=>cases hv;cases hp;exact h2
theorem Qk4{v1 v2 v3:Value}{p1 p2 p3:Pt}(W:World)(h1:Zk W v1 p1)(h2:Zk W v2 p2)(h3:Zk W v3 p3):qy [p1,p2,p3] (ς (some ⟨W.heap.size,0,none⟩) 3 3) (W.alloc (θ #[v1,v2,v3] 119)) :=
 Ur W _ [v1,v2,v3] [p1,p2,p3] rfl fun i v p hv hp=>by
  match i,hv,hp with
  |0,hv,hp=>cases hv;cases hp;exact h1
  |1,hv,hp=>cases hv;cases hp;exact h2
  |2,hv,hp=>cases hv;cases hp;exact h3
theorem Qdh{v1 v2 v3 v4:Value}{p1 p2 p3 p4:Pt}(W:World)(h1:Zk W v1 p1)(h2:Zk W v2 p2)(h3:Zk W v3 p3)(h4:Zk W v4 p4):qy [p1,p2,p3,p4] (ς (some ⟨W.heap.size,0,none⟩) 4 4) (W.alloc (θ #[v1,v2,v3,v4] 119)) :=
 Ur W _ [v1,v2,v3,v4] [p1,p2,p3,p4] rfl fun i v p hv hp=>by
  match i,hv,hp with
  |0,hv,hp=>cases hv;cases hp;exact h1
  |1,hv,hp=>cases hv;cases hp;exact h2
  |2,hv,hp=>cases hv;cases hp;exact h3
  |3,hv,hp=>cases hv;cases hp;exact h4
theorem Qhr(w:World):Zj w (.func (.func 89) #[] #[]) V5:=⟨_,_,rfl,fun args w=>by simp[go_sem],fun W _ k x y A n C=>Qln k x y A n C W⟩
theorem Za(w:World):Zj w (.func (.func 90) #[] #[]) Qf:=⟨_,_,rfl,fun args w=>by simp[go_sem],fun W _ k x y A n C=>Qo4 k x y A n C W⟩
theorem Z5(w:World):Zj w (.func (.func 91) #[] #[]) Qp:=⟨_,_,rfl,fun args w=>by simp[go_sem],fun W _ k x y A n C=>Qo5 k x y A n C W⟩
theorem Qkf(w:World):Zj w (.func (.func 92) #[] #[]) V0:=⟨_,_,rfl,fun args w=>by simp[go_sem],fun W _ k x y A n C=>Qo6 k x y A n C W⟩
theorem Qct(w:World):Zj w (.func (.func 93) #[] #[]) Vi:=⟨_,_,rfl,fun args w=>by simp[go_sem],fun W _ k x y A n C=>Qo7 k x y A n C W⟩
theorem Fs.later{w w':World}{v:Value}{f:F}(h:Fs w (Lo w.heap.size) v f)(hb:Below w.heap.size w w'):Fs w' (Lo w'.heap.size) v f:=(h.below hb (Nat.le_refl _)).up hb.size
structure DL(w w3:World)(x y:ByteArray)(k:Int)(A:Option Addr)(n C:Nat)(f:F)(g3:Nat)(c3:Array Value):Prop where
 QF:Below w.heap.size w w3
 box:∀W,Below w3.heap.size w3 W→W.cell? ⟨w.heap.size,0,none⟩=some (ι γ k)∧W.cell? ⟨w.heap.size,1,none⟩=some (σ x)∧W.cell? ⟨w.heap.size,3,none⟩=some (ς A n C)
 fs:Fs w3 (Lo w3.heap.size) (ς A n C) f
 t3:Zj w3 (.func (.func g3) #[] c3) (Qd [33])
theorem Q1(w w3:World)(k:Int)(x y:ByteArray)(A:Option Addr)(n C:Nat)(f:F)(g3:Nat)(c3:Array Value)(hf:Fs w (Lo w.heap.size) (ς A n C) f)
 (hb:Below ((w.alloc (θ #[ι γ k,σ x,σ y,ς A n C] 24)).alloc (θ #[ι γ 33] 3)).heap.size ((w.alloc (θ #[ι γ k,σ x,σ y,ς A n C] 24)).alloc (θ #[ι γ 33] 3)) w3) (ht:Zj w3 (.func (.func g3) #[] c3) (Qd [33])) :
 DL w w3 x y k A n C f g3 c3:=by
 have b1:=Qt w (θ #[ι γ k,σ x,σ y,ς A n C] 24) (θ #[ι γ 33] 3);have b2:=b1.trans (hb.mono b1.size);have hlt:w.heap.size<(w.alloc (θ #[ι γ k,σ x,σ y,ς A n C] 24)).heap.size:=ψ
 have Oz:∀W,Below w3.heap.size w3 W→∀i v,#[ι γ k,σ x,σ y,ς A n C][i]? = some v→W.cell? ⟨w.heap.size,i,none⟩=some v:=fun W hW i v hv=>by
  rw[hW.cell (p:=⟨w.heap.size,i,none⟩) (by have:=hb.size;simp at this;show w.heap.size<_;omega),hb.cell (p:=⟨w.heap.size,i,none⟩) (by simp;omega),World.cell?_alloc_lt _ _ _ hlt,VV _ _ _ _ rfl];simpa using hv
 exact⟨b2,fun W hW=>⟨Oz W hW 0 _ rfl,Oz W hW 1 _ rfl,Oz W hW 3 _ rfl⟩,hf.later b2,ht⟩
theorem E1(w:World)(k:Int)(x y:ByteArray)(A:Option Addr)(n C:Nat):Hid (Calls Tryz.prog 85 #[ς (some ⟨w.heap.size+1,0,none⟩) 1 1] ((w.alloc (θ #[ι γ k,σ x,σ y,ς A n C] 24)).alloc (θ #[ι γ 33] 3)) fun e w' =>
 Below ((w.alloc (θ #[ι γ k,σ x,σ y,ς A n C] 24)).alloc (θ #[ι γ 33] 3)).heap.size ((w.alloc (θ #[ι γ k,σ x,σ y,ς A n C] 24)).alloc (θ #[ι γ 33] 3)) w'∧∃v,e=ρ v∧Zj w' v (Qd [33])) :=
 QA (Qy [33] (w.heap.size+1) 1 ((w.alloc (θ #[ι γ k,σ x,σ y,ς A n C] 24)).alloc (θ #[ι γ 33] 3)) rfl δ ψ (fun i u hu=>by rw[VV _ _ _ _ ψ];match i,hu with|0,hu=>(cases hu;rfl)))
def cX(w:World):Cd TB:=Cd.is (π (some ⟨w.heap.size,3,none⟩))
theorem Qn{W:World}{v:Value}{q:Pt}(h:(Q9 q).p v W):∃g c,v=.func (.func g) #[] #[π (some ⟨c,0,none⟩)]∧Hid (Zk W (.func (.func g) #[] #[π (some ⟨c,0,none⟩)]) q):=by
 have h':Zk W v q:=h;obtain⟨g,c,e,hg⟩:=h';exact⟨g,c,e,QA ⟨g,c,rfl,hg⟩⟩
theorem J4{W:World}{v:Value}{q:Int→ByteArray→Bool}(h:(X2 q).p v W):∃g c,v=.func (.func g) #[] c∧Hid (Zj W (.func (.func g) #[] c) q):=by
 have h':Zj W v q:=h;obtain⟨g,c,e,hg⟩:=h';exact⟨g,c,e,QA ⟨g,c,rfl,hg⟩⟩
theorem Nk{p:Prop}(m:p:=by clear hd;obtain⟨g,e,hg,hc⟩:=h;rw[e]at hK⊢;have HO:=Lib.hid (Qy _ g _ W rfl (by decide) hg hc);clear e hg hc;go_simp;go_at_call 85;refine HO.out.mono ?_;rintro e w' ⟨hb,v,rfl,ht⟩;exact hK.out _ _ hb ht):p:=m
theorem Vu{p:Prop}(m:p:=by clear hd;obtain⟨g,e,hg,hc⟩:=h;rw[e]at hK⊢;have HO:=Lib.hid (fA _ g _ W rfl (by decide) hg hc);clear e hg hc;go_simp;go_at_call 88;refine HO.out.mono ?_;rintro e w' ⟨hb,v,rfl,ht⟩;exact hK.out _ _ hb ht):p:=m
theorem pJ{p:Prop}(m:p:=by clear hd;obtain⟨g,c,e,hg⟩:=J4 h;rw[e]at hK⊢;have HO:=Lib.hid (Y6 _ g c W hg.out);clear e hg;go_simp;go_at_call 87;refine HO.out.mono ?_;rintro e w' ⟨hb,v,rfl,ht⟩;exact hK.out _ _ hb ht):p:=m
theorem Ka{p:Prop}(m:p:=by clear hd;rw[h1]at hK⊢;obtain⟨g,e,hg,hc⟩:=h;rw[e]at hK⊢;have HO:=Lib.hid (G5 _ g _ A n C f W (HF.out.later (HB.out.trans (hW.mono HB.out.size))) rfl (by decide) hg hc);clear e hg hc;go_simp;go_at_call 86;refine c₁ HO.out fun w' hb=>?_;first|(exact hK.out _ _ hb rfl)|(exact hK.out _ _ hb (congrArg Value.bool hp))):p:=m
theorem UH{p:Prop}(m:p:=by clear hd;rw[h]at hK⊢;have hcell:=QY.out W (HB.out.trans (hW.mono HB.out.size));go_simp;exact hK.out _ _ (Below.refl _ _) rfl):p:=m
theorem Km{p:Prop}(m:p:=by clear hd;rw[h]at hK⊢;go_simp;exact hK.out _ _ (Below.refl _ _) rfl):p:=m
theorem Kb{p:Prop}(m:p:=by rw[hl];clear hx hl;have HE:=Lib.hid (QO.out.QF.trans (hW.mono QO.out.QF.size));go_wp2;go_ret;exact⟨rfl,HE.out⟩):p:=m
theorem Qo{w w3:World}{k:Int}{x y:ByteArray}{A:Option Addr}{n C:Nat}{f:F}{g3:Nat}{c3:Array Value}(hf:Fs w (Lo w.heap.size) (ς A n C) f)
 (hb:Below ((w.alloc (θ #[ι γ k,σ x,σ y,ς A n C] 24)).alloc (θ #[ι γ 33] 3)).heap.size ((w.alloc (θ #[ι γ k,σ x,σ y,ς A n C] 24)).alloc (θ #[ι γ 33] 3)) w3) (ht:Zj w3 (.func (.func g3) #[] c3) (Qd [33])) :
 Hid (DL w w3 x y k A n C f g3 c3)∧Hid (Below w3.heap.size w3 w3)∧Hid (Zj w3 (.func (.func g3) #[] c3) (Qd [33]))∧Hid (Fs w3 (Lo w3.heap.size) (ς A n C) f)∧Hid (∀W,Below w3.heap.size w3 W→W.cell? ⟨w.heap.size,3,none⟩=some (ς A n C))∧
  w3.cell? ⟨w.heap.size,0,none⟩=some (ι γ k)∧w3.cell? ⟨w.heap.size,1,none⟩=some (σ x)∧w3.cell? ⟨w.heap.size,3,none⟩=some (ς A n C) :=
 have h:=Q1 w w3 k x y A n C f g3 c3 hf hb ht
 ⟨QA h,QA (Below.refl _ _),QA h.t3,QA h.fs,QA fun W hW=>(h.box W hW).2.2,h.box w3 (Below.refl _ _)⟩
end Tree
namespace Lex
open Ro
def nums(s:ByteArray):List Int:=s.data.toList.map fun b=>(b.toNat:Int)
theorem fX(s:ByteArray):KC (nums s):=fun x hx=>by
 obtain⟨b,_,rfl⟩:=List.mem_map.1 hx;have:=b.toNat_lt;omega
theorem fY(s:ByteArray):(nums s).length=s.size:=by
 unfold nums;rw[List.length_map,Array.length_toList];rfl
theorem Ŀ(s:ByteArray):strOfNums (nums s)=s:=by
 apply ByteArray.ext;apply Array.ext';show((s.data.toList.map fun b=>(b.toNat:Int)).map fun n=>UInt8.ofNat n.toNat).toArray.toList=_;rw[List.map_map,show((fun n:Int=>UInt8.ofNat n.toNat) ∘ fun b:UInt8=>(b.toNat:Int))=id from funext fun b=>ψ,List.map_id]
theorem Ĝ(w:World)(s:ByteArray)(hs:s.size≤maxLen):∃c W1,(convert 9 103 (σ s)).run prog w=.ok (ς (some ⟨w.heap.size,0,none⟩) s.size c) W1∧s.size≤c∧c≤maxLen∧Below w.heap.size w W1∧RB W1 W1.heap.size (some ⟨w.heap.size,0,none⟩) (nums s):=by
 refine⟨_,_,Lib.run_convert_string_bytes w 9 103 5 s underlying9 underlying103 underlying5,grownCap_ge _ _ _ _,grownCap_le_maxLen _ _ _ _ hs,?_,?_⟩
 ·refine⟨?_,?_,?_,by rw[Lib.bytesWorld_size];omega,fun g hg=>Lib.bytesWorld_at_old w _ s g hg⟩;all_goals(unfold Lib.bytesWorld World.freeze;split <;> rfl)
 ·refine⟨fX s,?_⟩;by_cases h0:nums s=[]
  ·exact .inl h0
  ·refine .inr ⟨w.heap.size,0,rfl,by rw[Lib.bytesWorld_size];omega,fun i hi=>?_⟩;rw[fY]at hi;rw[Nat.zero_add,Lib.bytesWorld_cell w _ s i hi];have hi':i<s.data.toList.length:=by rw[Array.length_toList];exact hi
   simp only[nums,List.getD,List.getElem?_map,List.getElem?_eq_getElem hi',Option.map_some,Option.getD_some]
theorem Qsl(t:List Int)(ht:KC t)(hl:t.length≤1000000)(w:World) :
 Calls prog 81 #[σ (strOfNums t)] w fun e w'=>e=ρ (τ (vG t))∧Below w.heap.size w w':=by
 have ZX:Below w.heap.size w w:=Below.refl _ _;have hsz:(strOfNums t).size=t.length:=strOfNums_size t;cases ht0:t with
 |nil =>
  have he:((strOfNums ([]:List Int)).toList)=[]:=by rw[Lib.strOfNums_toList];rfl
  have hr:vG []=false:=rfl;rw[hr];clear hsz ht hl ht0;go_enter func81,ntmps81;go_wp2;go_ret;exact⟨rfl,ZX⟩
 |cons c r =>
  rw[←ht0];have h0:0<t.length:=by rw[ht0];simp
  have hne:(strOfNums t).toList.isEmpty=false:=by rw[Lib.strOfNums_toList,List.isEmpty_eq_false_iff];intro e;have:=congrArg List.length e;rw[Lib.bytesOf_length,List.length_nil]at this;omega
  have Q2i:¬(strOfNums t).toList=[]:=by simpa using hne
  have Bp:∀W:World,(Instr.index 9 (σ (strOfNums t)) (ι γ 0)).run prog W=.ok (ι .u8 (t.getD 0 0)) W:=fun W=>Qbn (P:=prog) 9 underlying9 ht (i:=0) h0 W
  have hd:=ht.getD 0;have hname:vG t=((kd (t.getD 0 0)==1)&&decide (Xu t=t.length) && !isWord t):=by unfold vG;rw[decide_eq_true h0];rfl
  obtain⟨cc,W1,Dt,hc1,hc2,hbW,LA⟩:=Ĝ w (strOfNums t) (by rw[hsz];unfold maxLen;omega);have hnn:nums (strOfNums t)=t:=by have:strOfNums (nums (strOfNums t))=strOfNums t:=Ŀ _;exact U9 (fX _) ht this
  rw[hnn]at LA;rw[hsz]at Dt hc1;have GY:=Lib.hid (Jj (t.getD 0 0) w hd.1 hd.2);have HW:=Lib.hid (Ŋ _ t.length cc t W1 _ LA rfl h0 hc1 hc2);have oW:=Lib.hid (fun W:World=>Č t ht W);have YR:=Lib.hid hbW;clear hnn LA hbW hc1 hc2 ht0 ht;generalize t.getD 0 0=d at *;have Nq:((Xu t:Int)==(t.length:Int))=decide (Xu t=t.length):=by
   by_cases e:Xu t=t.length
   ·rw[e];simp
   ·rw[Zc ω,decide_eq_false e]
  generalize Xu t=wl at *;generalize isWord t=iw at *;generalize vG t=nm at *;generalize strOfNums t=s at *;generalize t.length=n at *;have hd0:=hd.1;have hd1:=hd.2;clear hd;by_cases k1:kd d=1
  ·rw[k1]at GY hname;rw[show((1:Int)==1)=true from rfl,Bool.true_and]at hname;obtain⟨bw,ZT⟩:∃b,decide (wl=n)=b:=⟨_,rfl⟩;rw[ZT]at hname Nq;clear k1 ZT;cases bw
   ·obtain rfl:nm=false:=by rw[hname];rfl
    clear hname;go_enter func81,ntmps81;go_wp2_with (first|(go_at_call 110;refine GY.out.mono ?_;rintro e w' ⟨rfl,rfl⟩)|(go_at_call 111;refine HW.out.mono ?_;rintro e w' ⟨rfl,rfl⟩));go_ret;exact⟨rfl,YR.out⟩
   ·obtain rfl:nm=!iw:=by rw[hname];rfl
    clear hname;cases iw
    all_goals
     go_enter func81,ntmps81;go_wp2_with (first|(go_at_call 110;refine GY.out.mono ?_;rintro e w' ⟨rfl,rfl⟩)|(go_at_call 111;refine HW.out.mono ?_;rintro e w' ⟨rfl,rfl⟩)|(go_at_call 112;refine(oW.out _).mono ?_;rintro e w' ⟨rfl,rfl⟩));go_ret;exact⟨rfl,YR.out⟩
  ·have b1:=Zc k1;rw[b1]at hname;obtain rfl:nm=false:=by rw[hname];rfl
   clear hname k1 Nq;generalize kd d=q at *;go_enter func81,ntmps81;go_wp2_with (go_at_call 110;refine GY.out.mono ?_;rintro e w' ⟨rfl,rfl⟩);go_ret;exact⟨rfl,ZX⟩
