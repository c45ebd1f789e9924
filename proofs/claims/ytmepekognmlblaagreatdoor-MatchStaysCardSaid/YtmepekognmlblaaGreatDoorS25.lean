import Derived.Test.YtmepekognmlblaaGreatDoorS04
import Derived.Test.YtmepekognmlblaaGreatDoorS10
import Derived.Lib.ItoaMem
set_option linter.unusedVariables false
open _root_.Nat renaming zero_add→ZL
open _root_.List renaming append_assoc→JZ,getElem?_eq_getElem→QN,mem_of_getElem?→JK,getElem?_append_right→GK,mem_cons_self→XG,mem_cons_of_mem→UN,getElem?_append_left→PX
namespace Go.Proofs.YtmepekognmlblaaGreatDoor
namespace Mem
variable {P:Program}{Q:Exit→Act→World→Prop}
def yc(A2:List (Value→Value→Prop))(i:Nat):Value→Value→Prop:=A2.getD i fun _ _=>True
def o9(P:Program)(l:List Oper)(t0:Array Value)(Q:Exit→Act→World→Prop)(pre:List Nat)(s1 s2 s3:Nat)(U:World→World→Prop)(S1:World→Prop)(Ph:Bool→Bool→Value→World→Prop)(E:List (Cd U))(A:List (Value→Prop))(A2:List (Value→Value→Prop))(x:Nat→Value)(a:Act)(W:World)(i:Nat)(o:Oper):Prop :=
 (∀j,waits l j i=true→x j=Eu l t0 j)→(∀j,waits l i j=true→Bv A j (x j))→(∀j,waits l i j=true→waits l j s1=true→yc A2 j (x s1) (x j))→
 ∀p q r:Bool,(p=false→S1 W∧∀j,waits l i j=true→(YA E j).p (x j) W)→(p=true→Ph q r (x s1) W)→
 (pre.contains i=true∨i=s1→p=false)→(waits l i s1=true→p=true)→(waits l s2 i=true∨i=s2→q=false)→(waits l s3 i=true∨i=s3→r=false)→(waits l i s2=true→q=true)→(waits l i s3=true→r=true)→
 ∀K:Act→World→Prop,Shut (∀v W',(i≠s1→i≠s2→i≠s3→U W W'∧(YA E i).p v W')→(i=s1→Ph false (decide (l.length≤s3)) v W')→(i=s2→Ph true r (x s1) W')→(i=s3→Ph q true (x s1) W')→Bv A i v→(waits l i s1=true→yc A2 i (x s1) v)→K (a.put o.dst v) W')→Jb P l Q o K a W
def Ew(P:Program)(l:List Oper)(t0:Array Value)(Q:Exit→Act→World→Prop)(pre:List Nat)(s1 s2 s3:Nat)(U:World→World→Prop)(S1:World→Prop)(Ph:Bool→Bool→Value→World→Prop)(E:List (Cd U))(A:List (Value→Prop))(A2:List (Value→Value→Prop))(x:Nat→Value)(a:Act)(W:World):Nat→List Oper→Prop
 |_,[]=>True
 |i,o::os=>o9 P l t0 Q pre s1 s2 s3 U S1 Ph E A A2 x a W i o∧Ew P l t0 Q pre s1 s2 s3 U S1 Ph E A A2 x a W (i+1) os
theorem Ew.get{l:List Oper}{t0:Array Value}{pre:List Nat}{s1 s2 s3:Nat}{U:World→World→Prop}{S1:World→Prop}{Ph:Bool→Bool→Value→World→Prop}{E:List (Cd U)}{A:List (Value→Prop)}{A2:List (Value→Value→Prop)}{x:Nat→Value}{a:Act}{W:World}:∀(os:List Oper)(k i:Nat)(o:Oper),Ew P l t0 Q pre s1 s2 s3 U S1 Ph E A A2 x a W k os→os[i]?=some o→o9 P l t0 Q pre s1 s2 s3 U S1 Ph E A A2 x a W (k+i) o
 |[],_,_,_,_,h=>by simp at h
 |p::os,k,0,o,hs,h=>by
  exact c56
 |p::os,k,i+1,o,hs,h=>by
  have:=Ew.get os (k+1) i o hs.2 (by simpa using h);rwa[show k+1+i=k+(i+1)by omega]at this
theorem Qrv{l:List Oper}{pre:List Nat}{s1 s2 s3:Nat}{U:World→World→Prop}{S1:World→Prop}{Ph:Bool→Bool→Value→World→Prop}{E:List (Cd U)}{A:List (Value→Prop)}{A2:List (Value→Value→Prop)}{a0:Act}(hn:(Xs l).Nodup)(he:Z2 l=true)(hpre:yr l s1 pre=true)(h12:waits l s2 s1=true)(Lh:(decide (l.length≤s3)||waits l s3 s1)=true)(CQ:s1≠s2)(CJ:s1≠s3)(CH:s2≠s3)(Lg:s1<l.length)(hl2:s2<l.length)
 (WR:∀W W',U W W'→S1 W→S1 W') (cV:∀q r v W W',U W W'→Ph q r v W→Ph q r v W')
 (hsteps:∀x W,∀a,a=(⟨Qi x 0 l a0.tmps,a0.defers⟩:Act)→Ew P l a0.tmps Q pre s1 s2 s3 U S1 Ph E A A2 x a W 0 l)
 (hdone:∀x W,Ph true true (x s1) W→(∀i,i<l.length→Bv A i (x i))→(∀i,i<l.length→waits l i s1=true→yc A2 i (x s1) (x i))→∀a,a=(⟨Qi x 0 l a0.tmps,a0.defers⟩:Act)→Q .normal a W) :
 ∀(fuel:Nat)(listed:Array Bool)(x:Nat→Value)(a:Act)(W:World),Su listed l.length=fuel→a=⟨Qi x 0 l a0.tmps,a0.defers⟩→(∀i,i<l.length→listed.getD i true=true→Bv A i (x i))→(∀i,i<l.length→listed.getD i true=true→waits l i s1=true→yc A2 i (x s1) (x i))→
  (listed.getD s1 true=false→S1 W∧∀i,i<l.length→listed.getD i true=true→(YA E i).p (x i) W)→(listed.getD s1 true=true→Ph (listed.getD s2 true) (listed.getD s3 true) (x s1) W)→(∀j,j<l.length→listed.getD j true=true→∀i,waits l j i=true→listed.getD i true=true)→(l.length=listed.size)→(∀j,j<l.length→listed.getD j true=false→x j=Eu l a0.tmps j)→
  wpAny P .any l.toArray Q fuel listed a W:=by
 have all:∀listed:Array Bool,Region.ready .any l.toArray listed=[]→∀i,i<l.length→listed.getD i true=true:=by
  intro listed hr i
  induction i using Nat.strongRecOn with
  |_ i ih =>
   intro hi;by_cases hl:listed.getD i true=true
   ·exact hl
   ·exfalso
    have hm:i∈Region.ready .any l.toArray listed:=mem_ready.2 ⟨by simpa using hl,l[i],by simp[hi],fun e hm hb=>by
     have h1:=List.all_eq_true.1 he i (List.mem_range.2 hi);simp only[List.getElem?_eq_getElem hi]at h1;have h2:=Array.all_eq_true_iff_forall_mem.1 h1 e hm;simp only[hb,Bool.not_true,Bool.false_or,decide_eq_true_eq]at h2;have h3:=ih e.on h2 ω;rcases Nat.lt_or_ge e.on listed.size with h' |h'
     ·simpa[h']using h3
     ·exfalso;have h4:listed.getD i true=true:=by simp[Array.getElem?_eq_none (show listed.size≤i by omega)]
      exact hl h4⟩
    rw[hr]at hm;cases hm
 intro fuel
 induction fuel with
 |zero =>
  intro listed x a W hf ha hA hB _ h2 _ hsz _;have hall:=Gc hf;have hq:listed.getD s2 true=true:=hall s2 hl2;have hr3:listed.getD s3 true=true:=by
   rcases Nat.lt_or_ge s3 l.length with h' |h'
   ·exact hall s3 h'
   ·simp[Array.getElem?_eq_none (show listed.size≤s3 by omega)]
  have kM:=h2 (hall s1 Lg);rw[hq,hr3]at kM;refine⟨?_,hdone x W kM (fun i hi=>hA i hi (hall i hi)) (fun i hi hw=>hB i hi (hall i hi) hw) a ha⟩;cases hr:Region.ready .any l.toArray listed with
  |nil=>rfl
  |cons i rs =>
   exfalso;obtain⟨h0,o,ho,_⟩:=mem_ready.1 (show i∈Region.ready .any l.toArray listed by rw[hr];exact List.mem_cons_self ..);have hi:i<l.length:=by have:=(Array.getElem?_eq_some_iff.1 ho).1;simpa using this
   rw[hall i hi]at h0;cases h0
 |succ fuel ih =>
  intro listed x a W hf ha hA hB h1 h2 hws mf hin;have hsz:l.length≤listed.size:=ω
  have hbig:∀j,l.length≤j→listed.getD j true=true:=fun j hj=>by simp[Array.getElem?_eq_none (show listed.size≤j by omega)]
  refine⟨fun hr=>by
   have kM:=h2 (all listed hr s1 Lg);have hr3:listed.getD s3 true=true:=by
    rcases Nat.lt_or_ge s3 l.length with h' |h'
    ·exact all listed hr s3 h'
    ·exact hbig s3 h'
   rw[all listed hr s2 hl2,hr3]at kM;exact hdone x W kM (fun i hi=>hA i hi (all listed hr i hi)) (fun i hi hw=>hB i hi (all listed hr i hi) hw) a ha,fun i hi=>?_⟩
  obtain⟨h0,o,ho,PM⟩:=mem_ready.1 hi;have ho':l[i]?=some o:=by simpa using ho
  have hil:i<l.length:=(List.getElem?_eq_some_iff.1 ho').1
  have JN:∀j,(o.after.any fun e=>Region.binds .any e&&e.on==j)=true→listed.getD j true=true∧j<i:=fun j hj=>by
   rw[←Array.any_toList,List.any_eq_true]at hj;obtain⟨e,hm0,hb⟩:=hj;have hm:e∈o.after:=Array.mem_toList_iff.1 hm0;simp only[Bool.and_eq_true,beq_iff_eq]at hb;have h1:=PM e hm hb.1;rw[hb.2]at h1;have hjl:j<listed.size:=by
    rcases Nat.lt_or_ge j listed.size with h' |h'
    ·exact h'
    ·simp[Array.getElem?_eq_none h']at h1
   exact c29
  have hlen:∀j q,waits l j q=true→j<l.length:=fun j q hw=>by
   unfold waits at hw;rcases Nat.lt_or_ge j l.length with h' |h'
   ·exact h'
   ·exact c109
  have SV:∀j,waits l j i=true→listed.getD j true=false:=fun j hw=>by
   by_cases hl:listed.getD j true=true
   ·exfalso;rw[hws j (hlen j i hw) hl i hw]at h0;cases h0
   ·simpa using hl
  have hs1:pre.contains i=true∨i=s1→listed.getD s1 true=false:=fun hw=>by
   rcases hw with hw|hw
   ·refine ý hpre (fun j q hq gI=>?_) hlen _ i (Nat.le_refl _) hw h0;by_cases hl:listed.getD j true=true
    ·exfalso;rw[hws j (hlen j q hq) hl q hq]at gI;cases gI
    ·simpa using hl
   ·subst hw;exact h0
  have PI:∀j,waits l i j=true→listed.getD j true=true∧j<i:=fun j hj=>by
   unfold waits at hj;rw[ho']at hj;exact JN j (by simpa using hj)
  have hst:=Ew.get l 0 i o (hsteps x W a ha) ho' (fun j hw=>by
   rw[ZL]at hw;exact hin j (hlen j i hw) (SV j hw))
   (fun j hj=>by rw[ZL]at hj;exact hA j (by have:=(PI j hj).2;omega) (PI j hj).1)
   (fun j hj TI=>by rw[ZL]at hj;exact hB j (by have:=(PI j hj).2;omega) (PI j hj).1 TI)
   (listed.getD s1 true) (listed.getD s2 true) (listed.getD s3 true)
   (fun hp=>⟨(h1 hp).1,fun j hj=>by rw[ZL]at hj;exact(h1 hp).2 j (by have:=(PI j hj).2;omega) (PI j hj).1⟩)
   h2
   (fun hw=>hs1 (by rw[ZL]at hw;exact hw))
   (fun hw=>by rw[ZL]at hw;exact(PI s1 hw).1)
   (fun hw=>by
    rw[ZL]at hw;rcases hw with hw|hw
    ·exact SV s2 hw
    ·subst hw;exact h0)
   (fun hw=>by
    rw[ZL]at hw;rcases hw with hw|hw
    ·exact SV s3 hw
    ·subst hw;exact h0)
   (fun hw=>by rw[ZL]at hw;exact(PI s2 hw).1)
   (fun hw=>by rw[ZL]at hw;exact(PI s3 hw).1)
   (fun a' W'=>wpAny P .any l.toArray Q fuel (listed.setIfInBounds i true) a' W')
   (by
    intro v W' RJ hi1 hi2 PL hv M9;rw[ZL]at hv RJ hi1 hi2 PL M9;have ZV:(listed.setIfInBounds i true).getD i true=true:=by simp[show i<listed.size by omega]
    have MO:∀j,j≠i→Qq x i v j=x j:=fun j hj=>by simp only[Qq];rw[if_neg hj]
    refine ih (listed.setIfInBounds i true) (Qq x i v) _ W' (by have:=Ui h0 hil;omega) ?_ (fun j hj hl=>?_) (fun j hj hl hw=>?_) (fun hl=>?_) (fun hl=>?_) (fun q kK hl j hw=>?_) (by simpa using mf) (fun j hjl hl=>?_)
    ·rw[ha];cases hd:o.dst with
     |none =>
      simp only[Act.put]
      congr 1
      have key:∀(os:List Oper)(k m:Nat)(t:Array Value),os[m]?=some o→Qi (Qq x (k+m) v) k os t=Qi x k os t:=by
       intro os
       induction os with
       |nil=>intro k m t h;rfl
       |cons p os Fg =>
        intro k m t h;cases m with
        |zero=>simp only[List.getElem?_cons_zero,Option.some.injEq]at h;subst h;simp only[Qi,hd];exact Vv os (k+1) _ fun j hj=>by simp only[Qq];rw[if_neg ω]
        |succ m =>
         simp only[Qi];have e1:Qq x (k+(m+1)) v k=x k:=by simp only[Qq];rw[if_neg ω]
         exact c57
      have:=key l 0 i a0.tmps ho';rw[ZL]at this;exact this.symm
     |some d =>
      simp only[Act.put]
      congr 1
      have:=K8 (x:=x) (v:=v) l 0 i o a0.tmps hn ho' hd;rw[ZL]at this;exact this.symm
    ·by_cases VK:j=i
     ·subst VK;simpa[Qq]using hv
     ·rw[MO j VK];rw[getD_set_ne true (Ne.symm VK)]at hl;exact hA j hj hl
    ·by_cases hjs:i=s1
     ·exfalso;subst hjs;by_cases VK:j=i
      ·subst VK;exact Nat.lt_irrefl _ (PI j hw).2
      ·rw[getD_set_ne true (Ne.symm VK)]at hl;rw[hws j hj hl i hw]at h0;cases h0
     ·rw[MO s1 (Ne.symm hjs)];by_cases VK:j=i
      ·subst VK;simpa[Qq]using M9 hw
      ·rw[MO j VK];rw[getD_set_ne true (Ne.symm VK)]at hl;exact hB j hj hl hw
    ·by_cases XT:i=s1
     ·subst XT;rw[ZV]at hl;cases hl
     ·rw[getD_set_ne true XT]at hl;obtain⟨g1,g2⟩:=h1 hl
      have GC:i≠s2:=fun e=>by
       subst e;rw[(PI s1 h12).1]at hl;cases hl
      have Dh:i≠s3:=fun e=>by
       subst e;rw[Bool.or_eq_true,decide_eq_true_eq]at Lh;rw[(PI s1 (Lh.resolve_left ω)).1]at hl;cases hl
      obtain⟨hU,hE⟩:=RJ XT GC Dh;refine⟨WR _ _ hU g1,fun j hj hl'=>?_⟩;by_cases VK:j=i
      ·subst VK;simpa[Qq]using hE
      ·exact c122
    ·by_cases XT:i=s1
     ·subst XT;have e2:listed.getD s2 true=false:=SV s2 h12;have e3:listed.getD s3 true=decide (l.length≤s3):=by
       rw[Bool.or_eq_true,decide_eq_true_eq]at Lh;rcases Lh with h' |h'
       ·rw[hbig s3 h',decide_eq_true h']
       ·rw[SV s3 h',decide_eq_false (by have:=hlen s3 i h';omega)]
      rw[getD_set_ne true CQ,getD_set_ne true CJ,e2,e3];simpa[Qq]using hi1 rfl
     ·rw[getD_set_ne true XT]at hl;rw[MO s1 (Ne.symm XT)];by_cases GC:i=s2
      ·subst GC;rw[ZV,getD_set_ne true CH];exact hi2 rfl
      ·by_cases Dh:i=s3
       ·subst Dh;rw[ZV,getD_set_ne true GC];exact PL rfl
       ·rw[getD_set_ne true GC,getD_set_ne true Dh];exact cV _ _ _ _ _ (RJ XT GC Dh).1 (h2 hl)
    ·by_cases VK:j=i
     ·exact c165
     ·rw[getD_set_ne true (Ne.symm VK)];by_cases XT:i=q
      ·exact c77
      ·exact c121
    ·by_cases VK:j=i
     ·subst VK;exfalso;simp[show j<listed.size by omega]at hl
     ·have e1:Qq x i v j=x j:=by simp only[Qq];rw[if_neg VK]
      rw[e1];rw[getD_set_ne true (Ne.symm VK)]at hl;exact hin j hjl hl)
  unfold Jb at hst;unfold wpOp;simp only[ho];split
  ·rename_i hw
   exact c132
  ·rename_i hw
   rw[if_neg hw]at hst;exact hst
theorem Qbp{id:Nat}{l:List Oper}{a0:Act}{w:World}(pre:List Nat)(s1 s2 s3:Nat)(U:World→World→Prop)(S1:World→Prop)(Ph:Bool→Bool→Value→World→Prop)(E:List (Cd U))(A:List (Value→Prop))(A2:List (Value→Value→Prop))(hm:P.follows .mixedOrders=true)(hn:(Xs l).Nodup)(he:Z2 l=true)
 (hpre:yr l s1 pre=true) (h12:waits l s2 s1=true) (Lh:(decide (l.length≤s3)||waits l s3 s1)=true) (CQ:s1≠s2) (CJ:s1≠s3) (CH:s2≠s3) (Lg:s1<l.length) (hl2:s2<l.length) (hS:S1 w.drew)
 (WR:∀W W',U W W'→S1 W→S1 W') (cV:∀q r v W W',U W W'→Ph q r v W→Ph q r v W')
 (hsteps:∀x W,∀a,a=(⟨Qi x 0 l a0.tmps,a0.defers⟩:Act)→Ew P l a0.tmps Q pre s1 s2 s3 U S1 Ph E A A2 x a W 0 l)
 (hdone:∀x W,Ph true true (x s1) W→(∀i,i<l.length→Bv A i (x i))→(∀i,i<l.length→waits l i s1=true→yc A2 i (x s1) (x i))→∀a,a=(⟨Qi x 0 l a0.tmps,a0.defers⟩:Act)→Q .normal a W) :
 (Code.region id l.toArray true).wp P Q a0 w:=by
 refine wp_region_any hm (Qrv (a0:=a0) hn he hpre h12 Lh CQ CJ CH Lg hl2 WR cV hsteps hdone l.toArray.size (Array.replicate l.toArray.size false) (Eu l a0.tmps) a0 w.drew ?_ ?_ ?_ ?_ (fun _=>⟨hS,?_⟩) ?_ ?_ ?_ (fun _ _ _=>rfl))
 ·exact c91
 ·rw[Ke]
 ·intro i hi h;exfalso;simp[hi]at h
 ·intro i hi h;exfalso;simp[hi]at h
 ·intro i hi h;exfalso;simp[hi]at h
 ·intro h;exfalso;simp[Lg]at h
 ·intro j hsl h;exfalso;simp[hsl]at h
 ·simp
end Mem
namespace Shape
open Tree
theorem fe(u:Nat):∀b∈Lib.decDigits u,48≤b.toNat∧b.toNat≤57:=by
 induction u using Nat.strongRecOn with
 |_ u ih =>
  intro b hb;by_cases h:u<10
  ·rw[Lib.decDigits,dif_pos h]at hb;rw[List.mem_singleton.1 hb,UInt8.toNat_ofNat'];omega
  ·rw[Lib.decDigits,dif_neg h]at hb;rcases List.mem_append.1 hb with hb|hb
   ·exact ih (u/10) ω b hb
   ·rw[List.mem_singleton.1 hb,UInt8.toNat_ofNat'];omega
def bD(l:List UInt8):Nat:=l.foldl (fun a b=>a*10+(b.toNat-48)) 0
theorem Ċ(u:Nat):bD (Lib.decDigits u)=u:=by
 induction u using Nat.strongRecOn with
 |_ u ih =>
  by_cases h:u<10
  ·rw[Lib.decDigits,dif_pos h];show 0*10+((UInt8.ofNat (48+u)).toNat-48)=u;rw[UInt8.toNat_ofNat'];omega
  ·rw[Lib.decDigits,dif_neg h];unfold bD;rw[List.foldl_append];show bD (Lib.decDigits (u/10))*10+((UInt8.ofNat (48+u%10)).toNat-48)=u;rw[ih (u/10) ω,UInt8.toNat_ofNat'];omega
theorem î{u v:Nat}(h:Lib.decDigits u=Lib.decDigits v):u=v:=by rw[←Ċ u,←Ċ v,h]
theorem ô(z:Int):∀b∈Lib.itoa z,b≠32:=by
 intro b hb e;subst e;unfold Lib.itoa at hb;split at hb
 ·rcases List.mem_cons.1 hb with h|h
  ·exact absurd h δ
  ·exact absurd (fe _ _ h).1 δ
 ·exact absurd (fe _ _ hb).1 δ
theorem Qs6{a b:Int}(h:Lib.itoa a=Lib.itoa b):a=b:=by
 have key:∀u v:Nat,(45:UInt8)::Lib.decDigits u≠Lib.decDigits v:=fun u v e=>by
  have:(45:UInt8)∈Lib.decDigits v:=by rw[←e];exact XG
  exact absurd (fe _ _ this).1 δ
 unfold Lib.itoa at h;split at h <;> split at h
 ·injection h with _ h;have:=î h;omega
 ·exact absurd h (key _ _)
 ·exact absurd h.symm (key _ _)
 ·have:=î h;omega
def V3(z:Int):List UInt8:=Lib.itoa z++[32]
theorem À:∀(l m s t:List UInt8),(∀b∈l,b≠32)→(∀b∈m,b≠32)→l++32::s=m++32::t→l=m∧s=t
 |[],[],s,t,_,_,h=>by injection h with _ h;exact⟨rfl,h⟩
 |[],b::m,s,t,_,hm,h=>by
  injection h with h _;exact absurd h.symm (hm b XG)
 |a::l,[],s,t,hl,_,h=>by
  injection h with h _;exact absurd h (hl a XG)
 |a::l,b::m,s,t,hl,hm,h=>by
  injection h with h1 h2;obtain⟨h3,h4⟩:=À l m s t (fun c hc=>hl c (UN _ hc)) (fun c hc=>hm c (UN _ hc)) h2;exact⟨by rw[h1,h3],h4⟩
theorem fx{a b:Int}{s t:List UInt8}(h:V3 a++s=V3 b++t):a=b∧s=t:=by
 unfold V3 at h;simp only[JZ,List.singleton_append]at h;obtain⟨h1,h2⟩:=À _ _ s t (ô a) (ô b) h;exact⟨Qs6 h1,h2⟩
def NG(x:ByteArray):List UInt8:=V3 (x.size:Int)++x.data.toList
theorem ĉ{x y:ByteArray}{s t:List UInt8}(h:NG x++s=NG y++t):x=y∧s=t:=by
 unfold NG at h;simp only[JZ]at h;obtain⟨h1,h2⟩:=fx h;have hl:x.data.toList.length=y.data.toList.length:=by
  have h1:((x.size:Nat):Int)=((y.size:Nat):Int):=h1;have e:x.size=y.size:=ω
  rw[Array.length_toList,Array.length_toList];exact e
 obtain⟨h3,h4⟩:=List.append_inj h2 hl;refine⟨?_,h4⟩;apply ByteArray.ext;exact Array.toList_inj.1 h3
def ownB(k:Int)(x y:ByteArray):List UInt8:=V3 k++(NG x++NG y)
def ND(ms:List Nat):List UInt8:=ms.flatMap fun(m:Nat)=>V3 (m:Int)
theorem Ò(z:Int):V3 z≠[]:=by unfold V3;simp
theorem č:∀{l m:List Nat},ND l=ND m→l=m
 |[],[],_=>rfl
 |[],b::m,h=>by
  exfalso;have h:[]=V3 (b:Int)++ND m:=h;have:=congrArg List.length h;have h2:=Ò (b:Int);cases hn:V3 (b:Int)with
  |nil=>exact h2 hn
  |cons c r=>rw[hn]at this;simp at this
 |a::l,[],h=>by
  exfalso;have h:V3 (a:Int)++ND l=[]:=h;have:=congrArg List.length h;have h2:=Ò (a:Int);cases hn:V3 (a:Int)with
  |nil=>exact h2 hn
  |cons c r=>rw[hn]at this;simp at this
 |a::l,b::m,h=>by
  have h:V3 (a:Int)++ND l=V3 (b:Int)++ND m:=h;obtain⟨h1,h2⟩:=fx h;rw[č h2,show a=b by omega]
def pI(k:Int)(x y:ByteArray)(ms:List Nat):List UInt8:=ownB k x y++ND ms
theorem word_inj{k k':Int}{x y x' y':ByteArray}{ms N7:List Nat}(h:pI k x y ms=pI k' x' y' N7):k=k'∧x=x'∧y=y'∧ms=N7:=by
 unfold pI ownB at h;simp only[JZ]at h;obtain⟨h1,h⟩:=fx h;obtain⟨h2,h⟩:=ĉ h;obtain⟨h3,h⟩:=ĉ h;exact⟨h1,h2,h3,č h⟩
def Kt:F→List Nd
 | .nil=>[]
 | .cons k x y c r=>⟨k,x,y,c⟩::Kt r
theorem iz:∀f:F,(Kt f).length=f.len
 | .nil=>rfl
 | .cons k x y c r=>by simp only[Kt,List.length_cons,F.len,iz r]
theorem Ń:∀{f g:F},Kt f=Kt g→f=g
 | .nil,.nil,_=>rfl
 | .nil,.cons ..,h=>by simp[Kt]at h
 | .cons ..,.nil,h=>by simp[Kt]at h
 | .cons k x y c r,.cons k' x' y' c' r',h=>by
   simp only[Kt,List.cons.injEq,Nd.mk.injEq]at h;obtain⟨⟨h1,h2,h3,h4⟩,h5⟩:=h;rw[h1,h2,h3,h4,Ń h5]
theorem Xi{QG:List Nd}(hn:QG.Nodup){i:Nat}{n:Nd}(h:QG[i]?=some n):Qs QG n=i:=by
 obtain⟨hi,e⟩:=List.getElem?_eq_some_iff.1 h;refine Qlw (Nat.le_of_lt hi) (fun b hb s hs=>?_) (.inr ⟨n,h,Vy.2 rfl⟩);cases hs':Xw s n with
 |false=>rfl
 |true=>exfalso;rw[Vy.1 hs']at hs;obtain⟨hb',e'⟩:=List.getElem?_eq_some_iff.1 hs;exact List.pairwise_iff_getElem.1 hn b i hb' hi hb (e'.trans e.symm)
theorem Ŵ{QG:List Nd}{n:Nd}(h:n∈QG):QG[Qs QG n]?=some n:=by
 have hlt:Qs QG n<QG.length:=List.findIdx_lt_length_of_exists ⟨n,h,Vy.2 rfl⟩;have ht:Xw (QG[Qs QG n]'hlt) n=true:=List.findIdx_getElem (w:=hlt);rw[QN hlt,Vy.1 ht]
theorem Qlv{QG:List Nd}{n t:Nd}(h:t∈QG):Qs (QG++[n]) t=Qs QG t:=by
 unfold Qs;rw[List.findIdx_append,if_pos];exact List.findIdx_lt_length_of_exists ⟨t,h,Vy.2 rfl⟩
def DJ(QG:List Nd)(n:Nd):List UInt8:=pI n.k n.x n.y ((Kt n.c).map (Qs QG))
structure KG(KS:List (List UInt8))(QG:List Nd):Prop where
 len:QG.length=KS.length
 nodup:QG.Nodup
 key:∀(i:Nat)(n:Nd),QG[i]?=some n→KS[i]?=some (DJ QG n)
 kids:∀n∈QG,∀t∈Kt n.c,t∈QG
theorem KG.nil:KG [] []:=⟨rfl,List.nodup_nil,fun i n h=>(by simp at h),fun n h=>(by cases h)⟩
theorem KG.find{KS:List (List UInt8)}{QG:List Nd}(h:KG KS QG){n:Nd}(hn:∀t∈Kt n.c,t∈QG){i:Nat}(hk:KS[i]?=some (DJ QG n)):QG[i]?=some n:=by
 have hi:i<QG.length:=by rw[h.len];exact(List.getElem?_eq_some_iff.1 hk).1
 obtain⟨m,hm⟩:∃m,QG[i]?=some m:=⟨_,QN hi⟩;have h1:=h.key i m hm;rw[hk]at h1;injection h1 with h1;obtain⟨e1,e2,e3,e4⟩:=word_inj h1;have hmm:=h.kids m (JK hm);have e5:Kt n.c=Kt m.c:=by
  have hb:∀(l l':List Nd),(∀t∈l,t∈QG)→(∀t∈l',t∈QG)→l.map (Qs QG)=l'.map (Qs QG)→l=l':=by
   intro l
   induction l with
   |nil=>intro l' _ _ e;cases l' with|nil=>rfl|cons=>simp at e
   |cons a l ih =>
    intro l' h1 h2 e;cases l' with
    |nil=>simp at e
    |cons b l'=>simp only[List.map_cons,List.cons.injEq]at e;have ha:=Ŵ (h1 a XG);have hb:=Ŵ (h2 b XG);rw[e.1]at ha;rw[Option.some.inj (ha.symm.trans hb),ih l' (fun t ht=>h1 t (UN _ ht)) (fun t ht=>h2 t (UN _ ht)) e.2]
  exact hb _ _ hn hmm e4
 rw[hm];obtain⟨mk,mx,my,mc⟩:=m;obtain⟨nk,nx,ny,nc⟩:=n;simp only at e1 e2 e3 e5;rw[e1,e2,e3,Ń e5]
theorem KG.push{KS:List (List UInt8)}{QG:List Nd}(h:KG KS QG){n:Nd}(hn:∀t∈Kt n.c,t∈QG)(hk:DJ QG n ∉ KS):KG (KS++[DJ QG n]) (QG++[n]):=by
 have hnd:n ∉ QG:=fun hm=>by
  obtain⟨i,hi⟩:=List.getElem?_of_mem hm;exact hk (JK (h.key i n hi))
 have hkey:∀m,(∀t∈Kt m.c,t∈QG)→DJ (QG++[n]) m=DJ QG m:=fun m hm=>by
  unfold DJ
  congr 1
  exact List.map_congr_left fun t ht=>Qlv (hm t ht)
 refine⟨by simp[h.len],?_,fun i m hm=>?_,fun m hm t ht=>?_⟩
 ·rw[List.nodup_append];exact⟨h.nodup,ψ,fun a ha b hb e=>hnd (by rw[←List.mem_singleton.1 hb,←e];exact ha)⟩
 ·by_cases hi:i<QG.length
  ·rw[PX hi]at hm;rw[PX (by rw[←h.len];exact hi),hkey m (h.kids m (JK hm))];exact h.key i m hm
  ·rw[GK ω]at hm;have h0:i-QG.length=0:=by
      have:=(List.getElem?_eq_some_iff.1 hm).1;simp at this;omega
   rw[h0]at hm;injection hm with hm;subst hm;rw[GK (by rw[←h.len];omega),←h.len,h0,hkey n hn];rfl
 ·rcases List.mem_append.1 hm with hm|hm
  ·exact List.mem_append_left _ (h.kids m hm t ht)
  ·rw[List.mem_singleton.1 hm]at ht;exact List.mem_append_left _ (hn t ht)
theorem KG.at_{KS:List (List UInt8)}{QG:List Nd}(h:KG KS QG){n:Nd}(hn:∀t∈Kt n.c,t∈QG)(hk:DJ QG n∈KS):∃i:Nat,KS[i]?=some (DJ QG n)∧QG[i]?=some n:=by
 obtain⟨i,hi⟩:=List.getElem?_of_mem hk;exact⟨i,hi,h.find hn hi⟩
theorem KG.inj{KS:List (List UInt8)}{QG:List Nd}(h:KG KS QG){i j:Nat}{a:List UInt8}(hi:KS[i]?=some a)(hj:KS[j]?=some a):i=j:=by
 have hi':i<QG.length:=by rw[h.len];exact(List.getElem?_eq_some_iff.1 hi).1
 obtain⟨m,hm⟩:∃m,QG[i]?=some m:=⟨_,QN hi'⟩;have h1:=h.key i m hm;rw[hi]at h1;injection h1 with h1;rw[h1]at hj;have h2:=h.find (h.kids m (JK hm)) hj;rw[←Xi h.nodup hm,Xi h.nodup h2]
theorem ğ(seen:List Nd)(n:Nd):Qs seen n≤seen.length:=List.findIdx_le_length
theorem Qpc{seen:List Nd}{n:Nd}(h:Qs seen n=seen.length):Qs (seen++[n]) n=seen.length:=by
 unfold Qs at h⊢;rw[List.findIdx_append,if_neg ω];have:[n].findIdx (fun s=>Xw s n)=0:=by simp[List.findIdx_cons,Vy.2 rfl]
 rw[this];omega
theorem Qjl{seen:List Nd}{n t:Nd}(hn:Qs seen n=seen.length)(ht:t≠n):Qs (seen++[n]) t=if Qs seen t<seen.length then Qs seen t else seen.length+1:=by
 unfold Qs;rw[List.findIdx_append];by_cases h:seen.findIdx (fun s=>Xw s t)<seen.length
 ·rw[if_pos h,if_pos h]
 ·rw[if_neg h,if_neg h]
  have:[n].findIdx (fun s=>Xw s t)=1:=by
   have:Xw n t=false:=by
    cases hs:Xw n t with
    |false=>rfl
    |true=>exact absurd (Vy.1 hs).symm ht
   simp[List.findIdx_cons,this]
  rw[this];omega
structure JV(QG seen:List Nd)(turn:List Int):Prop where
 len:turn.length=QG.length
 val:∀(m:Nat)(n:Nd),QG[m]?=some n→turn[m]?=some (if Qs seen n<seen.length then((Qs seen n+1:Nat):Int)else 0)
theorem JV.start(QG:List Nd):JV QG [] (List.replicate QG.length 0):=⟨List.length_replicate ..,fun m n h=>by
 rw[List.getElem?_replicate,if_pos (List.getElem?_eq_some_iff.1 h).1,if_neg ψ]⟩
theorem JV.old{QG seen:List Nd}{turn:List Int}(h:JV QG seen turn){m:Nat}{n:Nd}(hm:QG[m]?=some n){z:Int}(hz:turn[m]?=some z)(h0:z≠0):z-1=((Qs seen n:Nat):Int)∧Xq seen n=seen:=by
 have hv:=h.val m n hm;rw[hz]at hv;injection hv with hv;split at hv
 ·rename_i hlt
  refine⟨ω,?_⟩;unfold Xq;rw[if_neg ω]
 ·exact absurd hv h0
theorem JV.new{QG seen:List Nd}{turn:List Int}(hd:QG.Nodup)(h:JV QG seen turn){m:Nat}{n:Nd}(hm:QG[m]?=some n)(hz:turn[m]?=some 0):Qs seen n=seen.length∧Xq seen n=seen++[n]∧JV QG (Xq seen n) (turn.set m ((seen.length+1:Nat):Int)):=by
 have hv:=h.val m n hm;rw[hz]at hv;injection hv with hv;have hf:Qs seen n=seen.length:=by
  split at hv
  ·rename_i hlt;omega
  ·have:=ğ seen n;omega
 have hs:Xq seen n=seen++[n]:=by unfold Xq;rw[if_pos hf]
 refine⟨hf,hs,by rw[List.length_set,h.len],fun m' n' hm'=>?_⟩;rw[hs];by_cases e:m=m'
 ·subst e;rw[hm]at hm';injection hm' with hm';subst hm';have Bn:m<turn.length:=(List.getElem?_eq_some_iff.1 hz).1;rw[List.getElem?_set_self Bn,Qpc hf,if_pos ψ]
 ·have hne:n'≠n:=fun e'=>by
   subst e';have h1:=Xi hd hm;have h2:=Xi hd hm';exact e (h1.symm.trans h2)
  rw[List.getElem?_set_ne e,h.val m' n' hm',Qjl hf hne];by_cases hlt:Qs seen n'<seen.length
  ·rw[if_pos hlt,if_pos hlt,if_pos (by simp;omega)]
  ·rw[if_neg hlt,if_neg hlt,if_neg ψ]
theorem Eo:∀(L seen:List Nd)(n:Nd),Qk seen (L++[n])=((Qk seen L).1++[Qs (Qk seen L).2 n],Xq (Qk seen L).2 n)
 |[],seen,n=>rfl
 |a::L,seen,n=>by
  simp only[List.cons_append,Qk,Eo L]
def Gi:Nat→List Nd→F→List Nd
 |0,s,_=>s
 |_+1,s,.nil=>s
 |i+1,s,.cons k x y c r=>Gi i (Qk s (nodes (one k x y c))).2 r
theorem Š:∀(i:Nat)(s:List Nd)(l:F)(k:Int)(x y:ByteArray)(c r:F),l.drop i=.cons k x y c r→
 (Kl s l)[i]?=some (Qk (Gi i s l) (nodes (one k x y c))).1∧Gi (i+1) s l=(Qk (Gi i s l) (nodes (one k x y c))).2
 |i,s,.nil,k,x,y,c,r,h=>by rw[F.drop_nil]at h;cases h
 |0,s,.cons k' x' y' c' r',k,x,y,c,r,h=>by
  simp only[F.drop,F.cons.injEq]at h;obtain⟨rfl,rfl,rfl,rfl,rfl⟩:=h;exact⟨rfl,rfl⟩
 |i+1,s,.cons k' x' y' c' r',k,x,y,c,r,h=>by
  obtain⟨h1,h2⟩:=Š i (Qk s (nodes (one k' x' y' c'))).2 r' k x y c r h;exact⟨by simpa[Kl,Gi]using h1,by simpa[Gi]using h2⟩
theorem J0:∀(s:List Nd)(l:F),(Kl s l).length=l.len
 |s,.nil=>rfl
 |s,.cons k x y c r=>by simp only[Kl,List.length_cons,F.len,J0 _ r]
