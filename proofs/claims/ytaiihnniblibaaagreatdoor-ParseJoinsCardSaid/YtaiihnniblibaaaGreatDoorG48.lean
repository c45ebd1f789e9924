import Derived.Test.YtaiihnniblibaaaGreatDoorG24
set_option linter.unusedVariables false
open _root_.Nat renaming zero_add→JN
namespace Go.Proofs.YtaiihnniblibaaaGreatDoor
namespace Mem
variable {P:Program}{Q:Exit→Act→World→Prop}
def RM(L:Nat→Bool)(i:Nat):Nat→Bool:=fun j=>if j=i then true else L j
def Mw(listed:Array Bool):Nat→Bool:=fun j=>listed.getD j false
theorem Qu5{listed:Array Bool}{i:Nat}(h:i<listed.size):Mw (listed.setIfInBounds i true)=RM (Mw listed) i:=by
  funext j
  simp only[Mw,RM];by_cases e:j=i
  ·subst e;simp[h]
  ·rw[if_neg e,getD_set_ne false (Ne.symm e)]
def Bd(P:Program)(l:List Oper)(Q:Exit→Act→World→Prop)(Inv:(Nat→Bool)→(Nat→Value)→World→Prop)(L:Nat→Bool)(x:Nat→Value)(a:Act)(W:World):Nat→List Oper→Prop
  |_,[]=>True
  |i,o::os=>(L i=false→(∀j,(o.after.any fun e=>Region.binds .any e&&e.on==j)=true→L j=true)→∀K:Act→World→Prop,Shut (∀v W',Inv (RM L i) (Vf x i v) W'→K (a.put o.dst v) W')→Xa P l Q o K a W)∧Bd P l Q Inv L x a W (i+1) os
theorem Bd.get{l:List Oper}{Inv:(Nat→Bool)→(Nat→Value)→World→Prop}{L:Nat→Bool}{x:Nat→Value}{a:Act}{W:World}:∀(os:List Oper)(k i:Nat)(o:Oper),Bd P l Q Inv L x a W k os→os[i]?=some o→
    (L (k+i)=false→(∀j,(o.after.any fun e=>Region.binds .any e&&e.on==j)=true→L j=true)→∀K:Act→World→Prop,Shut (∀v W',Inv (RM L (k+i)) (Vf x (k+i) v) W'→K (a.put o.dst v) W')→Xa P l Q o K a W)
  |[],_,_,_,_,h=>by simp at h
  |p::os,k,0,o,hs,h=>by
   simp only[List.getElem?_cons_zero,Option.some.injEq]at h;subst h;exact hs.1
  |p::os,k,i+1,o,hs,h=>by
   have:=Bd.get os (k+1) i o hs.2 (by simpa using h);rwa[show k+1+i=k+(i+1)by omega]at this
theorem oY{l:List Oper}{Inv:(Nat→Bool)→(Nat→Value)→World→Prop}{a0:Act}(hn:(Yw l).Nodup)(he:Jm l=true)
    (hsteps:∀L x W,Inv L x W→∀a,a=(⟨Q6 x 0 l a0.tmps,a0.defers⟩:Act)→Bd P l Q Inv L x a W 0 l)
    (hdone:∀L x W,Inv L x W→(∀i,i<l.length→L i=true)→∀a,a=(⟨Q6 x 0 l a0.tmps,a0.defers⟩:Act)→Q .normal a W) :
    ∀(fuel:Nat)(listed:Array Bool)(x:Nat→Value)(a:Act)(W:World),listed.size=l.length→PF listed l.length=fuel→a=⟨Q6 x 0 l a0.tmps,a0.defers⟩→Inv (Mw listed) x W→
     wpAny P .any l.toArray Q fuel listed a W:=by
  have all:∀listed:Array Bool,Region.ready .any l.toArray listed=[]→∀i,i<l.length→listed.getD i true=true:=by
    intro listed hr i
    induction i using Nat.strongRecOn with
    |_ i ih =>
     intro hi;by_cases hl:listed.getD i true=true
     ·exact hl
     ·exfalso
      have hm:i∈Region.ready .any l.toArray listed:=mem_ready.2 ⟨by simpa using hl,l[i],by simp[hi],fun e hm hb=>by
        have h1:=List.all_eq_true.1 he i (List.mem_range.2 hi);simp only[List.getElem?_eq_getElem hi]at h1;have h2:=Array.all_eq_true_iff_forall_mem.1 h1 e hm;simp only[hb,Bool.not_true,Bool.false_or,decide_eq_true_eq]at h2;have h3:=ih e.on h2 (by omega);rcases Nat.lt_or_ge e.on listed.size with h' |h'
        ·simpa[h']using h3
        ·exfalso;have h4:listed.getD i true=true:=by simp[Array.getElem?_eq_none (show listed.size≤i by omega)]
         exact hl h4⟩
      rw[hr]at hm;cases hm
  intro fuel
  induction fuel with
  |zero =>
   intro listed x a W hsz hf ha hT;have hall:=Ee hf;refine⟨?_,hdone _ x W hT (fun i hi=>by have:=hall i hi;simpa[Mw,hsz,hi]using this) a ha⟩;cases hr:Region.ready .any l.toArray listed with
   |nil=>rfl
   |cons i rs =>
    exfalso;obtain⟨h0,o,ho,_⟩:=mem_ready.1 (show i∈Region.ready .any l.toArray listed by rw[hr];exact List.mem_cons_self ..);have hi:i<l.length:=by have:=(Array.getElem?_eq_some_iff.1 ho).1;simpa using this
    rw[hall i hi]at h0;cases h0
  |succ fuel ih =>
   intro listed x a W hsz hf ha hT;refine⟨fun hr=>hdone _ x W hT (fun i hi=>by have:=all listed hr i hi;simpa[Mw,hsz,hi]using this) a ha,fun i hi=>?_⟩;obtain⟨h0,o,ho,PW⟩:=mem_ready.1 hi;have ho':l[i]?=some o:=by simpa using ho
   have hil:i<l.length:=(List.getElem?_eq_some_iff.1 ho').1
   have hst:=Bd.get l 0 i o (hsteps _ x W hT a ha) ho' (by rw[JN];simpa[Mw,hsz,hil]using h0) (fun j hj=>by
     rw[←Array.any_toList,List.any_eq_true]at hj;obtain⟨e,hm0,hb⟩:=hj;have hm:e∈o.after:=Array.mem_toList_iff.1 hm0;simp only[Bool.and_eq_true,beq_iff_eq]at hb;have h1:=PW e hm hb.1;rw[hb.2]at h1;exact h1)
     (fun a' W'=>wpAny P .any l.toArray Q fuel (listed.setIfInBounds i true) a' W')
     (by
       intro v W' hv;rw[JN,←Qu5 (by omega)]at hv;refine ih (listed.setIfInBounds i true) (Vf x i v) _ W' (by simp[hsz]) (by have:=AV h0 hil;omega) ?_ hv
       ·rw[ha];cases hd:o.dst with
        |none =>
         simp only[Act.put]
         congr 1
         have key:∀(os:List Oper)(k m:Nat)(t:Array Value),os[m]?=some o→Q6 (Vf x (k+m) v) k os t=Q6 x k os t:=by
           intro os
           induction os with
           |nil=>intro k m t h;rfl
           |cons p os Di =>
            intro k m t h;cases m with
            |zero=>simp only[List.getElem?_cons_zero,Option.some.injEq]at h;subst h;simp only[Q6,hd];exact Ku os (k+1) _ fun j hj=>by simp only[Vf];rw[if_neg (by omega)]
            |succ m =>
             simp only[Q6];have e1:Vf x (k+(m+1)) v k=x k:=by simp only[Vf];rw[if_neg (by omega)]
             rw[e1,show k+(m+1)=k+1+m by omega];exact Di (k+1) m _ (by simpa using h)
         have:=key l 0 i a0.tmps ho';rw[JN]at this;exact this.symm
        |some d =>
         simp only[Act.put]
         congr 1
         have:=Ub (x:=x) (v:=v) l 0 i o a0.tmps hn ho' hd;rw[JN]at this;exact this.symm)
   unfold Xa at hst;unfold wpOp;simp only[ho];split
   ·rename_i hw
    rw[if_pos hw]at hst;exact .inl hst
   ·rename_i hw
    rw[if_neg hw]at hst;exact hst
theorem Qmy{id:Nat}{l:List Oper}{a0:Act}{w:World}(Inv:(Nat→Bool)→(Nat→Value)→World→Prop)(hm:P.follows .mixedOrders=true)(hn:(Yw l).Nodup)(he:Jm l=true)
    (h0:Inv (fun _=>false) (NH l a0.tmps) w.drew)
    (hsteps:∀L x W,Inv L x W→∀a,a=(⟨Q6 x 0 l a0.tmps,a0.defers⟩:Act)→Bd P l Q Inv L x a W 0 l)
    (hdone:∀L x W,Inv L x W→(∀i,i<l.length→L i=true)→∀a,a=(⟨Q6 x 0 l a0.tmps,a0.defers⟩:Act)→Q .normal a W) :
    (Code.region id l.toArray true).wp P Q a0 w:=by
  refine wp_region_any hm (oY (a0:=a0) hn he hsteps hdone l.toArray.size (Array.replicate l.toArray.size false) (NH l a0.tmps) a0 w.drew (by simp) ?_ ?_ ?_)
  ·simpa using Yy l.length l.length (Nat.le_refl _)
  ·rw[Yn]
  ·have e:Mw (Array.replicate l.toArray.size false)=fun _=>false:=by
      funext j
      simp only[Mw];by_cases h:j<l.length
      ·simp[h]
      ·simp[h]
   rw[e];exact h0
