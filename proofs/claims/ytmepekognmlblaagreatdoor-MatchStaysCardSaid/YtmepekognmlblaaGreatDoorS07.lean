import Derived.Test.YtmepekognmlblaaGreatDoorS05
import Derived.Test.YtmepekognmlblaaGreatDoorS06
import Derived.Shelf.Abstract
set_option maxHeartbeats 4000000
set_option linter.unusedVariables false
open Go.Proofs.Tryz Go.ChangeShapes Go.WideShapes Go.ChangeAt Go.RowKit
open Go.Lib renaming hid→QA
open _root_.Nat renaming zero_add→ZL
open Go.Value renaming string→σ,int→ι,slice→ς,pointer→π,bool→τ,agg→ξ
open Go.IntKind renaming i64→γ
open Go.Ending renaming returned→ρ
namespace Go.Proofs.YtmepekognmlblaaGreatDoor
namespace Tree
open Mem
def Vp(gf:Nat):Prop:=∀args w,(callFunc gf args).run prog w=.ok (.enter gf args) w
def Zj(w:World)(v:Value)(p:Int→ByteArray→Bool):Prop :=
 ∃gf caps,v=.func (.func gf) #[] caps∧Vp gf∧∀W,Below w.heap.size w W→∀k x y A n C,Calls prog gf (#[ξ #[ι γ k,σ x,σ y,ς A n C]]++caps) W fun e W'=>e=ρ (τ (p k x))∧Below W.heap.size W W'
theorem Zj.later{w w':World}{v:Value}{p:Int→ByteArray→Bool}(h:Zj w v p)(hb:Below w.heap.size w w'):Zj w' v p:=by
 obtain⟨gf,caps,e,he,hc⟩:=h;exact⟨gf,caps,e,he,fun W hW=>hc W (hb.trans (hW.mono hb.size))⟩
theorem Qr2(gf:Nat)(caps:Array Value)(eg:Vp gf)(p:Int→ByteArray→Bool)(cb b off n C:Nat)(k:Int)(x y:ByteArray)(A:Option Addr)(m c:Nat)(w:World)
 (hk:w.cell? ⟨cb,0,none⟩=some (ς (some ⟨b,off,none⟩) n C)) (hn:(0:Int)<(n:Int)) (c0:w.cell? ⟨b,off,none⟩=some (ι γ k)) (c1:w.cell? ⟨b,off+1,none⟩=some (σ x)) (c2:w.cell? ⟨b,off+2,none⟩=some (σ y)) (c3:w.cell? ⟨b,off+3,none⟩=some (ς A m c))
 (hc:Calls prog gf (#[ξ #[ι γ k,σ x,σ y,ς A m c]]++caps) w fun e W'=>e=ρ (τ (p k x))∧Below w.heap.size w W') :
 Calls prog 119 #[.func (.func gf) #[] caps,π (some ⟨cb,0,none⟩)] w fun e W'=>e=ρ (τ (p k x))∧Below w.heap.size w W':=by
 have HC:=QA hc;clear hc;unfold Vp at eg;go_enter func119,ntmps119;go_wp2_with (go_at_fn gf;refine c₁ HC.out fun W Dk=>?_);go_ret;exact⟨rfl,Dk⟩
theorem Qlo(ps:List (Int→ByteArray→Bool))(g n C cb b off nk Ck:Nat)(k:Int)(x y:ByteArray)(A:Option Addr)(m c:Nat)(w:World)(hg:g<w.heap.size)(hl:ps.length=n)(hn:n≤1000000)
 (hts:∀i p,ps[i]?=some p→∃v,w.cell? ⟨g,i,none⟩=some v∧Zj w v p) (hcb:cb<w.heap.size) (hb:b<w.heap.size)
 (hk:w.cell? ⟨cb,0,none⟩=some (ς (some ⟨b,off,none⟩) nk Ck)) (kP:(0:Int)<(nk:Int)) (c0:w.cell? ⟨b,off,none⟩=some (ι γ k)) (c1:w.cell? ⟨b,off+1,none⟩=some (σ x)) (c2:w.cell? ⟨b,off+2,none⟩=some (σ y)) (c3:w.cell? ⟨b,off+3,none⟩=some (ς A m c)) :
 Calls prog 136 #[ς (some ⟨g,0,none⟩) n C,.func (.func 119) #[] #[π (some ⟨cb,0,none⟩)]] w fun e w'=>(∃r:Int,e=ρ (ι γ r)∧decide (0≤r)=ps.any (fun p=>p k x))∧Below w.heap.size w w':=by
 have Hl:=QA hl;have Ht:=QA hts
 have HP:Hid (∀wr,Below w.heap.size w wr→∀i p v,ps[i]? = some p→wr.cell? ⟨g,i,none⟩=some v→Calls prog 119 #[v,π (some ⟨cb,0,none⟩)] wr fun e W'=>e = ρ (τ (p k x))∧Below wr.heap.size wr W'):=by
  intro wr hwr i p v hp hv;obtain⟨v',hv',gf,caps,rfl,he,hc⟩:=hts i p hp;have e:=(hwr.cell (p:=⟨g,i,none⟩) hg).trans hv';rw[hv]at e;injection e with e;subst e;exact Qr2 gf caps he p cb b off nk Ck k x y A m c wr ((hwr.cell hcb).trans hk) kP ((hwr.cell hb).trans c0) ((hwr.cell hb).trans c1) ((hwr.cell hb).trans c2) ((hwr.cell hb).trans c3) (hc wr hwr k x y A m c)
 have HG:=QA hg;clear hl hts hk c0 c1 c2 c3 hg hcb hb kP;go_enter func136,ntmps136;go_wp2
 go_loopw [8] (fun i wr=>∃k0:Nat,k0≤n∧i=ι γ k0∧Hid ((ps.take k0).any (fun p=>p k x)=false)∧Hid (Below w.heap.size w wr)) (fun i _=>n-(intOf i).toNat)
 case atStart=>exact⟨0,Nat.zero_le _,rfl,(by show _=_;simp),Below.refl _ _⟩
 case round =>
  obtain⟨k0,ZW,rfl,hno,ZT⟩:=hrel;by_cases hlt:k0<n
  ·obtain⟨p,hp⟩:∃p,ps[k0]?=some p:=⟨_,List.getElem?_eq_getElem (by rw[Hl.out];exact hlt)⟩;obtain⟨v,hv,gf,caps,rfl,_,_⟩:=Ht.out k0 p hp;have hcell:=(ZT.out.cell (p:=⟨g,k0,none⟩) HG.out).trans hv;have hlt':(k0:Int)<(n:Int):=ω
   have Wz:(0:Int)≤(k0:Int):=ω
   have HC:=QA (HP.out wr ZT.out k0 p _ hp hcell);clear hv;cases hx:p k x with
   |true=>rw[hx]at HC;have HH:=QA (fJ (p:=fun p=>p k x) hp hx);clear hp hx;go_wp2_with fail;refine c₁ HC.out fun w' hb1=>?_;have Z':=VO ZT hb1;clear hb1;go_wp2;go_ret;exact⟨⟨_,rfl,by rw[HH.out];exact decide_eq_true ω⟩,Z'.out⟩
   |false =>
    rw[hx]at HC;have HH:=QA (fR (p:=fun p=>p k x) hp hno.out hx);clear hp hno hx;go_wp2_with fail;refine c₁ HC.out fun w' hb1=>?_;have Z':=VO ZT hb1;clear hb1;go_wp2
    go_roundw
    case rel=>exact⟨k0+1,ω,by go_num,HH.out,Z'.out⟩
    case measure=>simp[intOf];omega
  ·have hn':¬(k0:Int)<(n:Int):=ω
   obtain rfl:k0=n:=ω
   have HH:=QA (fI (by rw[Hl.out];exact Nat.le_refl _) hno.out);clear hno;go_wp2;go_ret;exact⟨⟨_,rfl,by rw[HH.out];rfl⟩,ZT.out⟩
theorem Qey(ps:List (Int→ByteArray→Bool))(g n C cb b off nk Ck:Nat)(k:Int)(x y:ByteArray)(A:Option Addr)(m c:Nat)(w:World)(hg:g<w.heap.size)(hl:ps.length=n)(hn:n≤1000000)
 (hts:∀i p,ps[i]?=some p→∃v,w.cell? ⟨g,i,none⟩=some v∧Zj w v p) (hcb:cb<w.heap.size) (hb:b<w.heap.size)
 (hk:w.cell? ⟨cb,0,none⟩=some (ς (some ⟨b,off,none⟩) nk Ck)) (kP:(0:Int)<(nk:Int)) (c0:w.cell? ⟨b,off,none⟩=some (ι γ k)) (c1:w.cell? ⟨b,off+1,none⟩=some (σ x)) (c2:w.cell? ⟨b,off+2,none⟩=some (σ y)) (c3:w.cell? ⟨b,off+3,none⟩=some (ς A m c)) :
 Calls prog 120 #[ς (some ⟨g,0,none⟩) n C,.func (.func 119) #[] #[π (some ⟨cb,0,none⟩)]] w fun e w'=>e=ρ (τ (ps.any (fun p=>p k x)))∧Below w.heap.size w w':=by
 have HX:=QA (Qlo ps g n C cb b off nk Ck k x y A m c w hg hl hn hts hcb hb hk kP c0 c1 c2 c3);generalize ps.any (fun p=>p k x)=bb at *;clear hl hts hk c0 c1 c2 c3 hg hcb hb kP;go_enter func120,ntmps120;go_wp2_with fail;refine HX.out.mono ?_;rintro e w' ⟨⟨r,rfl,hr⟩,ZT⟩;have Hr:=QA hr;clear hr;go_wp2;go_ret;exact⟨by rw[←Hr.out];rfl,ZT⟩
end Tree
namespace Mem
variable {P:Program}{Q:Exit→Act→World→Prop}
def waits(l:List Oper)(s i:Nat):Bool:=((l[s]?).map fun o=>o.after.any fun e=>Region.binds .any e&&e.on==i).getD false
def Ey(P:Program)(l:List Oper)(t0:Array Value)(Q:Exit→Act→World→Prop)(s:Nat)(S:World→Prop){T:World→World→Prop}(Φ:List (Cd T))(x:Nat→Value)(a:Act)(W:World):Nat→List Oper→Prop
 |_,[]=>True
 |i,o::os=>((∀j,waits l j i=true→x j=Eu l t0 j)→(waits l s i=true∨i=s→S W)→(∀j,(o.after.any fun e=>Region.binds .any e&&e.on==j)=true→(YA Φ j).p (x j) W)→∀K:Act→World→Prop,Shut (∀v W',T W W'→(i=s∨(S W→S W'))→(YA Φ i).p v W'→K (a.put o.dst v) W')→Jb P l Q o K a W)∧Ey P l t0 Q s S Φ x a W (i+1) os
theorem Ey.get{l:List Oper}{t0:Array Value}{s:Nat}{S:World→Prop}{T:World→World→Prop}{Φ:List (Cd T)}{x:Nat→Value}{a:Act}{W:World}:∀(os:List Oper)(k i:Nat)(o:Oper),Ey P l t0 Q s S Φ x a W k os→os[i]?=some o→
 ((∀j,waits l j (k+i)=true→x j=Eu l t0 j)→(waits l s (k+i)=true∨k+i=s→S W)→(∀j,(o.after.any fun e=>Region.binds .any e&&e.on==j)=true→(YA Φ j).p (x j) W)→∀K:Act→World→Prop,Shut (∀v W',T W W'→(k+i=s∨(S W→S W'))→(YA Φ (k+i)).p v W'→K (a.put o.dst v) W')→Jb P l Q o K a W)
 |[],_,_,_,_,h=>by simp at h
 |p::os,k,0,o,hs,h=>by
  exact c56
 |p::os,k,i+1,o,hs,h=>by
  have:=Ey.get os (k+1) i o hs.2 (by simpa using h);rwa[show k+1+i=k+(i+1)by omega]at this
theorem Qrx{l:List Oper}{s:Nat}{S:World→Prop}{T:World→World→Prop}{Φ:List (Cd T)}{a0:Act}{w1:World}(hn:(Xs l).Nodup)(he:Z2 l=true)(htr:∀W1 W2 W3,T W1 W2→T W2 W3→T W1 W3)
 (hsteps:∀x W,T w1 W→∀a,a=(⟨Qi x 0 l a0.tmps,a0.defers⟩:Act)→Ey P l a0.tmps Q s S Φ x a W 0 l)
 (hdone:∀x W,T w1 W→(∀i,i<l.length→(YA Φ i).p (x i) W)→∀a,a=(⟨Qi x 0 l a0.tmps,a0.defers⟩:Act)→Q .normal a W) :
 ∀(fuel:Nat)(listed:Array Bool)(x:Nat→Value)(a:Act)(W:World),Su listed l.length=fuel→a=⟨Qi x 0 l a0.tmps,a0.defers⟩→T w1 W→(∀i,i<l.length→listed.getD i true=true→(YA Φ i).p (x i) W)→
  (listed.getD s true=false→S W)→(∀j,j<l.length→listed.getD j true=true→∀i,waits l j i=true→listed.getD i true=true)→(l.length≤listed.size)→(∀j,j<l.length→listed.getD j true=false→x j=Eu l a0.tmps j)→
  wpAny P .any l.toArray Q fuel listed a W:=by
 have all:∀listed:Array Bool,Region.ready .any l.toArray listed=[]→∀i,i<l.length→listed.getD i true=true:=by
  intro listed hr i
  induction i using Nat.strongRecOn with
  |_ i ih =>
   intro hi;by_cases hl:listed.getD i true=true
   ·exact hl
   ·exfalso
    have hm:i∈Region.ready .any l.toArray listed:=mem_ready.2 ⟨by simpa using hl,l[i],by simp[hi],fun e hm hb=>by
     have h1:=List.all_eq_true.1 he i (List.mem_range.2 hi);simp only[List.getElem?_eq_getElem hi]at h1;have h2:=Array.all_eq_true_iff_forall_mem.1 h1 e hm;simp only[hb,Bool.not_true,Bool.false_or,decide_eq_true_eq]at h2;have h3:=ih e.on h2 ω;rcases Nat.lt_or_ge e.on listed.size with h' |h'
     ·simpa[h']using h3
     ·exfalso;have h4:listed.getD i true=true:=by simp[Array.getElem?_eq_none (show listed.size≤i by omega)]
      exact hl h4⟩
    rw[hr]at hm;cases hm
 intro fuel
 induction fuel with
 |zero =>
  intro listed x a W hf ha hT hx _ _ _ _;have hall:=Gc hf;refine⟨?_,hdone x W hT (fun i hi=>hx i hi (hall i hi)) a ha⟩;cases hr:Region.ready .any l.toArray listed with
  |nil=>rfl
  |cons i rs =>
   exfalso;obtain⟨h0,o,ho,_⟩:=mem_ready.1 (show i∈Region.ready .any l.toArray listed by rw[hr];exact List.mem_cons_self ..);have hi:i<l.length:=by have:=(Array.getElem?_eq_some_iff.1 ho).1;simpa using this
   rw[hall i hi]at h0;cases h0
 |succ fuel ih =>
  intro listed x a W hf ha hT hx hS hws hsz hin;refine⟨fun hr=>hdone x W hT (fun i hi=>hx i hi (all listed hr i hi)) a ha,fun i hi=>?_⟩;obtain⟨h0,o,ho,PM⟩:=mem_ready.1 hi;have ho':l[i]?=some o:=by simpa using ho
  have hil:i<l.length:=(List.getElem?_eq_some_iff.1 ho').1
  have JN:∀j,(o.after.any fun e=>Region.binds .any e&&e.on==j)=true→listed.getD j true=true∧j<i:=fun j hj=>by
   rw[←Array.any_toList,List.any_eq_true]at hj;obtain⟨e,hm0,hb⟩:=hj;have hm:e∈o.after:=Array.mem_toList_iff.1 hm0;simp only[Bool.and_eq_true,beq_iff_eq]at hb;have h1:=PM e hm hb.1;rw[hb.2]at h1;have hjl:j<listed.size:=by
    rcases Nat.lt_or_ge j listed.size with h' |h'
    ·exact h'
    ·simp[Array.getElem?_eq_none h']at h1
   exact c29
  have hst:=Ey.get l 0 i o (hsteps x W hT a ha) ho' (fun j hw=>by
   rw[ZL]at hw;have hsl:j<l.length:=by
    unfold waits at hw;rcases Nat.lt_or_ge j l.length with h' |h'
    ·exact h'
    ·exact c109
   refine hin j hsl ?_;by_cases hl:listed.getD j true=true
   ·exfalso;rw[hws j hsl hl i hw]at h0;cases h0
   ·simpa using hl) (fun hw=>by
   rw[ZL]at hw;rcases hw with hw|hw
   ·refine hS ?_;by_cases hl:listed.getD s true=true
    ·exfalso;have hsl:s<l.length:=by
      unfold waits at hw;rcases Nat.lt_or_ge s l.length with h' |h'
      ·exact h'
      ·exact c109
     rw[hws s hsl hl i hw]at h0;cases h0
    ·simpa using hl
   ·subst hw;exact hS h0)
   (fun j hj=>hx j (by have:=(JN j hj).2;omega) (JN j hj).1)
   (fun a' W'=>wpAny P .any l.toArray Q fuel (listed.setIfInBounds i true) a' W')
   (by
    intro v W' gi JD hv;rw[ZL]at hv JD;refine ih (listed.setIfInBounds i true) (Qq x i v) _ W' (by have:=Ui h0 hil;omega) ?_ (htr _ _ _ hT gi) (fun j hj hl=>?_) (fun hl=>?_) (fun q kK hl j hw=>?_) (by simpa using hsz) (fun j hjl hl=>?_)
    ·rw[ha];cases hd:o.dst with
     |none =>
      simp only[Act.put]
      congr 1
      have key:∀(os:List Oper)(k m:Nat)(t:Array Value),os[m]?=some o→Qi (Qq x (k+m) v) k os t=Qi x k os t:=by
       intro os
       induction os with
       |nil=>intro k m t h;rfl
       |cons p os Fg =>
        intro k m t h;cases m with
        |zero=>simp only[List.getElem?_cons_zero,Option.some.injEq]at h;subst h;simp only[Qi,hd];exact Vv os (k+1) _ fun j hj=>by simp only[Qq];rw[if_neg ω]
        |succ m =>
         simp only[Qi];have e1:Qq x (k+(m+1)) v k=x k:=by simp only[Qq];rw[if_neg ω]
         exact c57
      have:=key l 0 i a0.tmps ho';rw[ZL]at this;exact this.symm
     |some d =>
      simp only[Act.put]
      congr 1
      have:=K8 (x:=x) (v:=v) l 0 i o a0.tmps hn ho' hd;rw[ZL]at this;exact this.symm
    ·by_cases VK:j=i
     ·subst VK;simpa[Qq]using hv
     ·have e1:Qq x i v j=x j:=by simp only[Qq];rw[if_neg VK]
      rw[e1];rw[getD_set_ne true (Ne.symm VK)]at hl;exact(YA Φ j).mono _ _ _ gi (hx j hj hl)
    ·by_cases XT:i=s
     ·subst XT;exfalso;simp[show i<listed.size by omega]at hl
     ·rw[getD_set_ne true XT]at hl;exact(JD.resolve_left XT) (hS hl)
    ·by_cases VK:j=i
     ·exact c165
     ·rw[getD_set_ne true (Ne.symm VK)];by_cases XT:i=q
      ·exact c77
      ·exact c121
    ·by_cases VK:j=i
     ·subst VK;exfalso;simp[show j<listed.size by omega]at hl
     ·have e1:Qq x i v j=x j:=by simp only[Qq];rw[if_neg VK]
      rw[e1];rw[getD_set_ne true (Ne.symm VK)]at hl;exact hin j hjl hl)
  unfold Jb at hst;unfold wpOp;simp only[ho];split
  ·rename_i hw
   exact c132
  ·rename_i hw
   rw[if_neg hw]at hst;exact hst
theorem Qbq{id:Nat}{l:List Oper}{a0:Act}{w:World}(s:Nat)(S:World→Prop)(T:World→World→Prop)(Φ:List (Cd T))(hm:P.follows .mixedOrders=true)(hn:(Xs l).Nodup)(he:Z2 l=true)
 (hS:S w.drew) (hrf:T w.drew w.drew) (htr:∀W1 W2 W3,T W1 W2→T W2 W3→T W1 W3)
 (hsteps:∀x W,T w.drew W→∀a,a=(⟨Qi x 0 l a0.tmps,a0.defers⟩:Act)→Ey P l a0.tmps Q s S Φ x a W 0 l)
 (hdone:∀x W,T w.drew W→(∀i,i<l.length→(YA Φ i).p (x i) W)→∀a,a=(⟨Qi x 0 l a0.tmps,a0.defers⟩:Act)→Q .normal a W) :
 (Code.region id l.toArray true).wp P Q a0 w:=by
 refine wp_region_any hm (Qrx (a0:=a0) (w1:=w.drew) (Φ:=Φ) (s:=s) (S:=S) hn he htr hsteps hdone l.toArray.size (Array.replicate l.toArray.size false) (Eu l a0.tmps) a0 w.drew ?_ ?_ hrf ?_ (fun _=>hS) ?_ ?_ (fun _ _ _=>rfl))
 ·exact c91
 ·rw[Ke]
 ·intro i hi h;exfalso;simp[hi]at h
 ·intro j hsl h;exfalso;simp[hsl]at h
 ·simp
end Mem
namespace Mem
variable {P:Program}{Q:Exit→Act→World→Prop}
def Zh(L:Nat→Bool)(i:Nat):Nat→Bool:=fun j=>if j=i then true else L j
def FZ(listed:Array Bool):Nat→Bool:=fun j=>listed.getD j false
theorem Qst{listed:Array Bool}{i:Nat}(h:i<listed.size):FZ (listed.setIfInBounds i true)=Zh (FZ listed) i:=by
 funext j
 simp only[FZ,Zh];by_cases e:j=i
 ·subst e;simp[h]
 ·rw[if_neg e,getD_set_ne false (Ne.symm e)]
def X9(P:Program)(l:List Oper)(Q:Exit→Act→World→Prop)(Inv:(Nat→Bool)→(Nat→Value)→World→Prop)(L:Nat→Bool)(x:Nat→Value)(a:Act)(W:World):Nat→List Oper→Prop
 |_,[]=>True
 |i,o::os=>(L i=false→(∀j,(o.after.any fun e=>Region.binds .any e&&e.on==j)=true→L j=true)→∀K:Act→World→Prop,Shut (∀v W',Inv (Zh L i) (Qq x i v) W'→K (a.put o.dst v) W')→Jb P l Q o K a W)∧X9 P l Q Inv L x a W (i+1) os
theorem X9.get{l:List Oper}{Inv:(Nat→Bool)→(Nat→Value)→World→Prop}{L:Nat→Bool}{x:Nat→Value}{a:Act}{W:World}:∀(os:List Oper)(k i:Nat)(o:Oper),X9 P l Q Inv L x a W k os→os[i]?=some o→
 (L (k+i)=false→(∀j,(o.after.any fun e=>Region.binds .any e&&e.on==j)=true→L j=true)→∀K:Act→World→Prop,Shut (∀v W',Inv (Zh L (k+i)) (Qq x (k+i) v) W'→K (a.put o.dst v) W')→Jb P l Q o K a W)
 |[],_,_,_,_,h=>by simp at h
 |p::os,k,0,o,hs,h=>by
  exact c56
 |p::os,k,i+1,o,hs,h=>by
  have:=X9.get os (k+1) i o hs.2 (by simpa using h);rwa[show k+1+i=k+(i+1)by omega]at this
theorem Qwd{l:List Oper}{Inv:(Nat→Bool)→(Nat→Value)→World→Prop}{a0:Act}(hn:(Xs l).Nodup)(he:Z2 l=true)
 (hsteps:∀L x W,Inv L x W→∀a,a=(⟨Qi x 0 l a0.tmps,a0.defers⟩:Act)→X9 P l Q Inv L x a W 0 l)
 (hdone:∀L x W,Inv L x W→(∀i,i<l.length→L i=true)→∀a,a=(⟨Qi x 0 l a0.tmps,a0.defers⟩:Act)→Q .normal a W) :
 ∀(fuel:Nat)(listed:Array Bool)(x:Nat→Value)(a:Act)(W:World),listed.size=l.length→Su listed l.length=fuel→a=⟨Qi x 0 l a0.tmps,a0.defers⟩→Inv (FZ listed) x W→
  wpAny P .any l.toArray Q fuel listed a W:=by
 have all:∀listed:Array Bool,Region.ready .any l.toArray listed=[]→∀i,i<l.length→listed.getD i true=true:=by
  intro listed hr i
  induction i using Nat.strongRecOn with
  |_ i ih =>
   intro hi;by_cases hl:listed.getD i true=true
   ·exact hl
   ·exfalso
    have hm:i∈Region.ready .any l.toArray listed:=mem_ready.2 ⟨by simpa using hl,l[i],by simp[hi],fun e hm hb=>by
     have h1:=List.all_eq_true.1 he i (List.mem_range.2 hi);simp only[List.getElem?_eq_getElem hi]at h1;have h2:=Array.all_eq_true_iff_forall_mem.1 h1 e hm;simp only[hb,Bool.not_true,Bool.false_or,decide_eq_true_eq]at h2;have h3:=ih e.on h2 ω;rcases Nat.lt_or_ge e.on listed.size with h' |h'
     ·simpa[h']using h3
     ·exfalso;have h4:listed.getD i true=true:=by simp[Array.getElem?_eq_none (show listed.size≤i by omega)]
      exact hl h4⟩
    rw[hr]at hm;cases hm
 intro fuel
 induction fuel with
 |zero =>
  intro listed x a W hsz hf ha hT;have hall:=Gc hf;refine⟨?_,hdone _ x W hT (fun i hi=>by have:=hall i hi;simpa[FZ,hsz,hi]using this) a ha⟩;cases hr:Region.ready .any l.toArray listed with
  |nil=>rfl
  |cons i rs =>
   exfalso;obtain⟨h0,o,ho,_⟩:=mem_ready.1 (show i∈Region.ready .any l.toArray listed by rw[hr];exact List.mem_cons_self ..);have hi:i<l.length:=by have:=(Array.getElem?_eq_some_iff.1 ho).1;simpa using this
   rw[hall i hi]at h0;cases h0
 |succ fuel ih =>
  intro listed x a W hsz hf ha hT;refine⟨fun hr=>hdone _ x W hT (fun i hi=>by have:=all listed hr i hi;simpa[FZ,hsz,hi]using this) a ha,fun i hi=>?_⟩;obtain⟨h0,o,ho,PM⟩:=mem_ready.1 hi;have ho':l[i]?=some o:=by simpa using ho
  have hil:i<l.length:=(List.getElem?_eq_some_iff.1 ho').1
  have hst:=X9.get l 0 i o (hsteps _ x W hT a ha) ho' (by rw[ZL];simpa[FZ,hsz,hil]using h0) (fun j hj=>by
   rw[←Array.any_toList,List.any_eq_true]at hj;obtain⟨e,hm0,hb⟩:=hj;have hm:e∈o.after:=Array.mem_toList_iff.1 hm0;simp only[Bool.and_eq_true,beq_iff_eq]at hb;have h1:=PM e hm hb.1;rw[hb.2]at h1;exact h1)
   (fun a' W'=>wpAny P .any l.toArray Q fuel (listed.setIfInBounds i true) a' W')
   (by
    intro v W' hv;rw[ZL,←Qst ω]at hv;refine ih (listed.setIfInBounds i true) (Qq x i v) _ W' (by simp[hsz]) (by have:=Ui h0 hil;omega) ?_ hv
    ·rw[ha];cases hd:o.dst with
     |none =>
      simp only[Act.put]
      congr 1
      have key:∀(os:List Oper)(k m:Nat)(t:Array Value),os[m]?=some o→Qi (Qq x (k+m) v) k os t=Qi x k os t:=by
       intro os
       induction os with
       |nil=>intro k m t h;rfl
       |cons p os Fg =>
        intro k m t h;cases m with
        |zero=>simp only[List.getElem?_cons_zero,Option.some.injEq]at h;subst h;simp only[Qi,hd];exact Vv os (k+1) _ fun j hj=>by simp only[Qq];rw[if_neg ω]
        |succ m =>
         simp only[Qi];have e1:Qq x (k+(m+1)) v k=x k:=by simp only[Qq];rw[if_neg ω]
         exact c57
      have:=key l 0 i a0.tmps ho';rw[ZL]at this;exact this.symm
     |some d =>
      simp only[Act.put]
      congr 1
      have:=K8 (x:=x) (v:=v) l 0 i o a0.tmps hn ho' hd;rw[ZL]at this;exact this.symm)
  unfold Jb at hst;unfold wpOp;simp only[ho];split
  ·rename_i hw
   exact c132
  ·rename_i hw
   rw[if_neg hw]at hst;exact hst
theorem Qkv{id:Nat}{l:List Oper}{a0:Act}{w:World}(Inv:(Nat→Bool)→(Nat→Value)→World→Prop)(hm:P.follows .mixedOrders=true)(hn:(Xs l).Nodup)(he:Z2 l=true)
 (h0:Inv (fun _=>false) (Eu l a0.tmps) w.drew)
 (hsteps:∀L x W,Inv L x W→∀a,a=(⟨Qi x 0 l a0.tmps,a0.defers⟩:Act)→X9 P l Q Inv L x a W 0 l)
 (hdone:∀L x W,Inv L x W→(∀i,i<l.length→L i=true)→∀a,a=(⟨Qi x 0 l a0.tmps,a0.defers⟩:Act)→Q .normal a W) :
 (Code.region id l.toArray true).wp P Q a0 w:=by
 refine wp_region_any hm (Qwd (a0:=a0) hn he hsteps hdone l.toArray.size (Array.replicate l.toArray.size false) (Eu l a0.tmps) a0 w.drew ψ ?_ ?_ ?_)
 ·exact c91
 ·rw[Ke]
 ·have e:FZ (Array.replicate l.toArray.size false)=fun _=>false:=by
   funext j
   simp only[FZ];by_cases h:j<l.length
   ·simp[h]
   ·simp[h]
  rw[e];exact h0
