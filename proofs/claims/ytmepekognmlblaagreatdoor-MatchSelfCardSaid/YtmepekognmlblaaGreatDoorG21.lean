import Derived.Test.YtmepekognmlblaaGreatDoorG18
import Derived.Test.YtmepekognmlblaaGreatDoorG20
import Derived.Laws.EntriesVeiled
import Derived.Shelf.Strconv.AppendIntPublic10
set_option maxHeartbeats 8000000
set_option maxRecDepth 100000
set_option linter.unusedVariables false
open Go.RowKit Go.ChangeShapes Go.WideShapes Go.ChangeAt Go.Proofs.Tryz Go.Shelf
open _root_.Bool renaming and_eq_true→Th
open _root_.List renaming getD_eq_getElem?_getD→QX,length_map→VD
open _root_.Nat renaming zero_add→ZL,lt_of_lt_of_le→VE
open Go.Value renaming string→σ,int→ι,slice→ς,pointer→π,bool→τ,agg→ξ
open Go.IntKind renaming i64→γ
open Go.Obj renaming cells→θ
open Go.Ending renaming returned→ρ
namespace Go.Proofs.YtmepekognmlblaaGreatDoor
namespace Match
open Tree Shape
def XJ(T:F):Sd:=⟨T,(Qk [] (nodes T)).1⟩
def XZ(T T':F):Sd:=⟨T',(Qk (Qk [] (nodes T)).2 (nodes T')).1⟩
theorem fy{T T':F}(h:∃k x y c,T=one k x y c)(h':∃k x y c,T'=one k x y c):ZM (XJ T) (XZ T T'):=by
 refine⟨h,h',fun x y hx hy=>?_⟩;have ha:=Sd.ZK hx;have hb:=Sd.ZK hy;have l1:(Qk [] (nodes T)).1.length=(nodes T).length:=Z0 _ _;have l2:(Qk (Qk [] (nodes T)).2 (nodes T')).1.length=(nodes T').length:=Z0 _ _;have e1:(Qk [] (nodes T)).1[x]?=some ((XJ T).no x):=by
  have hx':x<(Qk [] (nodes T)).1.length:=by rw[l1];exact hx
  unfold Sd.no XJ;rw[QX,List.getElem?_eq_getElem hx'];rfl
 have e2:(Qk (Qk [] (nodes T)).2 (nodes T')).1[y]?=some ((XZ T T').no y):=by
  have hy':y<(Qk (Qk [] (nodes T)).2 (nodes T')).1.length:=by rw[l2];exact hy
  unfold Sd.no XZ;rw[QX,List.getElem?_eq_getElem hy'];rfl
 have:=Qiw ha hb e1 e2;unfold JU;rw[beq_iff_eq];exact this
def Eb(T:F):List Int:=(nodes T).map (·.k)
theorem Qi3{T:F}{x:Nat}{s:Sd}(hs:s.T=T)(hx:x<s.n):(Eb T).getD x 0=(s.at_ x).k:=by
 have:=Sd.ZK hx;unfold Sd.nd at this;rw[hs]at this;unfold Eb;rw[QX,List.getElem?_map,this];rfl
theorem Qbv(M:List Int):Ki M=(List.range' 0 M.length).flatMap fun x=>if 0≤M.getD x 0 then[((x:Int),M.getD x 0)]else[]:=by unfold Ki;rw[List.range_eq_range']
theorem ic{a b:Sd}{M:St}(h:Part a b M):∀(m i:Nat)(last:Int)(used:List Int),i+m=a.n→last<(i:Int)→(∀v∈used,∃x' y',x'<i∧v=((y':Nat):Int)∧Pd M.1 x' y')→
 X7 (Eb a.T) (Eb b.T) last used ((List.range' i m).flatMap fun x=>if 0≤M.1.getD x 0 then[((x:Int),M.1.getD x 0)]else[])=true
 |0,i,last,used,_,_,_=>rfl
 |m+1,i,last,used,hm,hl,hu=>by
  rw[List.range'_succ,List.flatMap_cons];have hi:i<a.n:=ω
  rcases h.s1 i hi with hf|⟨y,hy⟩
  ·rw[if_neg (by unfold QQ at hf;rw[decide_eq_true_eq]at hf;omega),List.nil_append];refine ic h m (i+1) last used ω ω fun v hv=>?_
   obtain⟨x',y',h1,h2⟩:=hu v hv;exact⟨x',y',ω,h2⟩
  ·have he:M.1.getD i 0=((y:Nat):Int):=by rw[QX,hy];rfl
   rw[he,if_pos ω,List.singleton_append];have Fh:=(h.lt hy).2;unfold X7;rw[Th];refine⟨?_,ic h m (i+1) _ _ ω ω fun v hv=>?_⟩
   ·unfold Kj;have Wt:(Eb a.T).length=a.n:=by unfold Eb;rw[VD];rfl
    have hlb:(Eb b.T).length=b.n:=by unfold Eb;rw[VD];rfl
    simp only[Th,decide_eq_true_eq,Wt,hlb,Int.toNat_natCast];refine⟨⟨⟨⟨⟨hl,ω⟩,ω⟩,ω⟩,?_⟩,?_⟩
    ·rw[Bool.not_eq_true',List.contains_eq_mem,decide_eq_false_iff_not];intro hc;obtain⟨x',y',h1,h2,h3⟩:=hu _ hc;obtain rfl:y'=y:=ω
     have:=((h.two _ _).1 h3).eq ((h.two _ _).1 hy);omega
    ·rw[Qi3 rfl hi,Qi3 rfl Fh];exact h.kind _ _ hy
   ·rcases List.mem_cons.1 hv with rfl|hv
    ·exact⟨i,y,ω,rfl,hy⟩
    ·obtain⟨x',y',h1,h2⟩:=hu v hv;exact⟨x',y',ω,h2⟩
theorem Qih{a b:Sd}{M:St}(h:Part a b M)(h0:Pd M.1 0 0):Z9 (Eb a.T) (Eb b.T) (Ki M.1)=true:=by
 unfold Z9;rw[Th];have hn:=(h.lt h0).1;have hL:M.1.length=a.n:=h.l1
 constructor
 ·rw[Qbv,hL];obtain⟨m,hm⟩:∃m,a.n=m+1:=⟨a.n-1,ω⟩;have he:M.1.getD 0 0=0:=by rw[QX,h0];rfl
  rw[hm,List.range'_succ,List.flatMap_cons,he];simp
 ·rw[Qbv,hL];exact ic h a.n 0 (-1) [] ω ω fun v hv=>by cases hv
theorem Qss{a b:Sd}(hn:ZM a b)(hk:(a.at_ 0).k=(b.at_ 0).k)(rt:Bool):Ext (M1 a b) (V4 a b rt):=by
 obtain⟨h1,h2⟩:=yw hn hk;obtain⟨g1,g2,_⟩:=Gy hn (a.kid 0) (M1 a b) h1 (iU a 0) fun x hx=>⟨hx,bX hn hk hx⟩
 unfold V4;cases rt with
 |false=>rw[if_neg δ];obtain⟨b1,b2⟩:=J2 hn a.n (M1 a b) 0 ω h1;exact b2.trans (Ut hn b1).2
 |true=>rw[if_pos rfl];obtain⟨b1,b2⟩:=J2 hn a.n _ 0 ω g1;exact g2.trans (b2.trans (Ut hn b1).2)
theorem Qkl{T:F}(h:∃k x y c,T=one k x y c)(rt:Bool):Ki (V4 (XJ T) (XZ T T) rt).1=(List.range T.size).map fun(i:Nat)=>((i:Int),(i:Int)):=by
 have hn:=fy h h;have hk:((XJ T).at_ 0).k=((XZ T T).at_ 0).k:=rfl;have e:JU (XJ T) (XZ T T) 0 0=true:=(hn.alike 0 0 hn.EG.pos hn.Hq.pos).2 rfl;have hC:Q2 (XJ T) (XZ T T) 0 0=(XJ T).n:=by unfold Q2;rw[if_pos e,yL hn.EG]
 have hall:∀x,x<(XJ T).n→Pd (V4 (XJ T) (XZ T T) rt).1 x x:=fun x hx=>by
  refine(Qss hn hk rt).1 _ _ ?_;have:=G4 (M:=(Kz (XJ T) (XZ T T)).1) (x:=0) (y:=0) (c:=Q2 (XJ T) (XZ T T) 0 0) (i:=x) (by rw[hC];exact hx) (by simp[Kz];omega);rwa[Nat.zero_add]at this
 have hP:=(Qfn hn hk rt).1;unfold Ki;rw[hP.l1,Sd.GN];show(List.range T.size).flatMap _=_
 have hf:∀x∈List.range T.size,(if 0≤(V4 (XJ T) (XZ T T) rt).1.getD x 0 then[((x:Int),(V4 (XJ T) (XZ T T) rt).1.getD x 0)]else[])=[((x:Int),(x:Int))]:=fun x hx=>by
  rw[List.mem_range]at hx;have:=hall x (by rw[Sd.GN];exact hx);have he:(V4 (XJ T) (XZ T T) rt).1.getD x 0=((x:Nat):Int):=by rw[QX,this];rfl
  rw[he,if_pos ω]
 rw[List.flatMap_def,List.map_congr_left hf,←List.flatMap_def];generalize List.range T.size=l
 induction l with
 |nil=>rfl
 |cons i r ih=>rw[List.flatMap_cons,List.map_cons,ih];rfl
end Match
namespace Match
open Mem
def Fb(p:P2):List Value:=[ι γ p.1,ι γ p.2]
theorem fk:∀(L:List P2)(i:Nat)(p:P2),L[i]?=some p→(L.flatMap Fb)[i*2]?=some (ι γ p.1)∧(L.flatMap Fb)[i*2+1]?=some (ι γ p.2)
 |[],i,p,h=>by simp at h
 |q::r,0,p,h=>by
  simp only[List.getElem?_cons_zero,Option.some.injEq]at h;subst h;exact⟨rfl,rfl⟩
 |q::r,i+1,p,h=>by
  have:=fk r i p (by simpa using h);rw[List.flatMap_cons,show(i+1)*2=i*2+1+1 by omega];simpa[Fb]using this
def Qm(w:World)(S:Nat→Prop)(v:Value)(L:List P2):Prop:=∃A c,v=ς A L.length c∧L.length≤c∧c≤maxLen∧Vx w S A (L.flatMap Fb)
section
variable {w w':World}{S S':Nat→Prop}{A:Option Addr}{L:List P2}{v:Value}{c n:Nat}
theorem Qm.keep(h:Qm w S v L)(hb:∀b,S b→w'.heap[b]?=w.heap[b]?):Qm w' S v L:=by
 obtain⟨A,c,e,h1,h2,h3⟩:=h;exact⟨A,c,e,h1,h2,h3.keep hb⟩
theorem Qm.more(h:Qm w S v L)(hs:∀b,S b→S' b):Qm w S' v L:=by
 obtain⟨A,c,e,h1,h2,h3⟩:=h;exact⟨A,c,e,h1,h2,h3.more hs⟩
theorem Qm.later(h:Qm w (fun b=>b<w.heap.size) v L)(hb:Below w.heap.size w w'):Qm w' (fun b=>b<w'.heap.size) v L :=
 (h.keep fun b hb'=>hb.block b hb').more fun b hb'=>Nat.lt_of_lt_of_le hb' hb.size
theorem Qm.slice(h:Qm w S v L):∃A c,v=ς A L.length c:=by
 obtain⟨A,c,e,_⟩:=h;exact⟨A,c,e⟩
theorem Qm.at_(h:Qm w S (ς A n c) L){i:Nat}{p:P2}(hi:L[i]?=some p) :
 ∃b off,A=some ⟨b,off,none⟩∧S b∧w.cell? ⟨b,off+i*2,none⟩=some (ι γ p.1)∧w.cell? ⟨b,off+i*2+1,none⟩=some (ι γ p.2):=by
 obtain⟨A',c',e,h1,h2,h3⟩:=h;injection e with e1 e2 e3;subst e1;obtain⟨k0,k1⟩:=fk L i p hi;obtain⟨b,off,rfl,hS,hc⟩:=h3.at_ k0;obtain⟨b',Ni,e',_,hc'⟩:=h3.at_ k1;injection e' with e';injection e' with e1 e2;subst e1;subst e2;exact⟨b,off,rfl,hS,hc,by rw[Nat.add_assoc];exact hc'⟩
end
end Match
namespace Mem
variable {P:Program}{Q:Exit→Act→World→Prop}
def Zh(L:Nat→Bool)(i:Nat):Nat→Bool:=fun j=>if j=i then true else L j
def FZ(listed:Array Bool):Nat→Bool:=fun j=>listed.getD j false
theorem Qst{listed:Array Bool}{i:Nat}(h:i<listed.size):FZ (listed.setIfInBounds i true)=Zh (FZ listed) i:=by
 funext j
 simp only[FZ,Zh];by_cases e:j=i
 ·subst e;simp[h]
 ·rw[if_neg e,getD_set_ne false (Ne.symm e)]
def X9(P:Program)(l:List Oper)(Q:Exit→Act→World→Prop)(Inv:(Nat→Bool)→(Nat→Value)→World→Prop)(L:Nat→Bool)(x:Nat→Value)(a:Act)(W:World):Nat→List Oper→Prop
 |_,[]=>True
 |i,o::os=>(L i=false→(∀j,(o.after.any fun e=>Region.binds .any e&&e.on==j)=true→L j=true)→∀K:Act→World→Prop,Shut (∀v W',Inv (Zh L i) (Qq x i v) W'→K (a.put o.dst v) W')→Jb P l Q o K a W)∧X9 P l Q Inv L x a W (i+1) os
theorem X9.get{l:List Oper}{Inv:(Nat→Bool)→(Nat→Value)→World→Prop}{L:Nat→Bool}{x:Nat→Value}{a:Act}{W:World}:∀(os:List Oper)(k i:Nat)(o:Oper),X9 P l Q Inv L x a W k os→os[i]?=some o→
 (L (k+i)=false→(∀j,(o.after.any fun e=>Region.binds .any e&&e.on==j)=true→L j=true)→∀K:Act→World→Prop,Shut (∀v W',Inv (Zh L (k+i)) (Qq x (k+i) v) W'→K (a.put o.dst v) W')→Jb P l Q o K a W)
 |[],_,_,_,_,h=>by simp at h
 |p::os,k,0,o,hs,h=>by
  exact c56
 |p::os,k,i+1,o,hs,h=>by
  have:=X9.get os (k+1) i o hs.2 (by simpa using h);rwa[show k+1+i=k+(i+1)by omega]at this
theorem Qwd{l:List Oper}{Inv:(Nat→Bool)→(Nat→Value)→World→Prop}{a0:Act}(hn:(Xs l).Nodup)(he:Z2 l=true)
 (hsteps:∀L x W,Inv L x W→∀a,a=(⟨Qi x 0 l a0.tmps,a0.defers⟩:Act)→X9 P l Q Inv L x a W 0 l)
 (hdone:∀L x W,Inv L x W→(∀i,i<l.length→L i=true)→∀a,a=(⟨Qi x 0 l a0.tmps,a0.defers⟩:Act)→Q .normal a W) :
 ∀(fuel:Nat)(listed:Array Bool)(x:Nat→Value)(a:Act)(W:World),listed.size=l.length→Su listed l.length=fuel→a=⟨Qi x 0 l a0.tmps,a0.defers⟩→Inv (FZ listed) x W→
  wpAny P .any l.toArray Q fuel listed a W:=by
 have all:∀listed:Array Bool,Region.ready .any l.toArray listed=[]→∀i,i<l.length→listed.getD i true=true:=by
  intro listed hr i
  induction i using Nat.strongRecOn with
  |_ i ih =>
   intro hi;by_cases hl:listed.getD i true=true
   ·exact hl
   ·exfalso
    have hm:i∈Region.ready .any l.toArray listed:=mem_ready.2 ⟨by simpa using hl,l[i],by simp[hi],fun e hm hb=>by
     have h1:=List.all_eq_true.1 he i (List.mem_range.2 hi);simp only[List.getElem?_eq_getElem hi]at h1;have h2:=Array.all_eq_true_iff_forall_mem.1 h1 e hm;simp only[hb,Bool.not_true,Bool.false_or,decide_eq_true_eq]at h2;have h3:=ih e.on h2 ω;rcases Nat.lt_or_ge e.on listed.size with h' |h'
     ·simpa[h']using h3
     ·exfalso;have h4:listed.getD i true=true:=by simp[Array.getElem?_eq_none (show listed.size≤i by omega)]
      exact hl h4⟩
    rw[hr]at hm;cases hm
 intro fuel
 induction fuel with
 |zero =>
  intro listed x a W hsz hf ha hT;have hall:=Gc hf;refine⟨?_,hdone _ x W hT (fun i hi=>by have:=hall i hi;simpa[FZ,hsz,hi]using this) a ha⟩;cases hr:Region.ready .any l.toArray listed with
  |nil=>rfl
  |cons i rs =>
   exfalso;obtain⟨h0,o,ho,_⟩:=mem_ready.1 (show i∈Region.ready .any l.toArray listed by rw[hr];exact List.mem_cons_self ..);have hi:i<l.length:=by have:=(Array.getElem?_eq_some_iff.1 ho).1;simpa using this
   rw[hall i hi]at h0;cases h0
 |succ fuel ih =>
  intro listed x a W hsz hf ha hT;refine⟨fun hr=>hdone _ x W hT (fun i hi=>by have:=all listed hr i hi;simpa[FZ,hsz,hi]using this) a ha,fun i hi=>?_⟩;obtain⟨h0,o,ho,PM⟩:=mem_ready.1 hi;have ho':l[i]?=some o:=by simpa using ho
  have hil:i<l.length:=(List.getElem?_eq_some_iff.1 ho').1
  have hst:=X9.get l 0 i o (hsteps _ x W hT a ha) ho' (by rw[ZL];simpa[FZ,hsz,hil]using h0) (fun j hj=>by
   rw[←Array.any_toList,List.any_eq_true]at hj;obtain⟨e,hm0,hb⟩:=hj;have hm:e∈o.after:=Array.mem_toList_iff.1 hm0;simp only[Bool.and_eq_true,beq_iff_eq]at hb;have h1:=PM e hm hb.1;rw[hb.2]at h1;exact h1)
   (fun a' W'=>wpAny P .any l.toArray Q fuel (listed.setIfInBounds i true) a' W')
   (by
    intro v W' hv;rw[ZL,←Qst ω]at hv;refine ih (listed.setIfInBounds i true) (Qq x i v) _ W' (by simp[hsz]) (by have:=Ui h0 hil;omega) ?_ hv
    ·rw[ha];cases hd:o.dst with
     |none =>
      simp only[Act.put]
      congr 1
      have key:∀(os:List Oper)(k m:Nat)(t:Array Value),os[m]?=some o→Qi (Qq x (k+m) v) k os t=Qi x k os t:=by
       intro os
       induction os with
       |nil=>intro k m t h;rfl
       |cons p os Fg =>
        intro k m t h;cases m with
        |zero=>simp only[List.getElem?_cons_zero,Option.some.injEq]at h;subst h;simp only[Qi,hd];exact Vv os (k+1) _ fun j hj=>by simp only[Qq];rw[if_neg ω]
        |succ m =>
         simp only[Qi];have e1:Qq x (k+(m+1)) v k=x k:=by simp only[Qq];rw[if_neg ω]
         exact c57
      have:=key l 0 i a0.tmps ho';rw[ZL]at this;exact this.symm
     |some d =>
      simp only[Act.put]
      congr 1
      have:=K8 (x:=x) (v:=v) l 0 i o a0.tmps hn ho' hd;rw[ZL]at this;exact this.symm)
  unfold Jb at hst;unfold wpOp;simp only[ho];split
  ·rename_i hw
   exact c132
  ·rename_i hw
   rw[if_neg hw]at hst;exact hst
theorem Qkv{id:Nat}{l:List Oper}{a0:Act}{w:World}(Inv:(Nat→Bool)→(Nat→Value)→World→Prop)(hm:P.follows .mixedOrders=true)(hn:(Xs l).Nodup)(he:Z2 l=true)
 (h0:Inv (fun _=>false) (Eu l a0.tmps) w.drew)
 (hsteps:∀L x W,Inv L x W→∀a,a=(⟨Qi x 0 l a0.tmps,a0.defers⟩:Act)→X9 P l Q Inv L x a W 0 l)
 (hdone:∀L x W,Inv L x W→(∀i,i<l.length→L i=true)→∀a,a=(⟨Qi x 0 l a0.tmps,a0.defers⟩:Act)→Q .normal a W) :
 (Code.region id l.toArray true).wp P Q a0 w:=by
 refine wp_region_any hm (Qwd (a0:=a0) hn he hsteps hdone l.toArray.size (Array.replicate l.toArray.size false) (Eu l a0.tmps) a0 w.drew ψ ?_ ?_ ?_)
 ·exact c91
 ·rw[Ke]
 ·have e:FZ (Array.replicate l.toArray.size false)=fun _=>false:=by
   funext j
   simp only[FZ];by_cases h:j<l.length
   ·simp[h]
   ·simp[h]
  rw[e];exact h0
end Mem
namespace Tree
open Mem
def fO(N:Nat):Prop:=∀(k:Int)(x y:ByteArray)(A:Option Addr)(n C:Nat)(c:F)(w:World),c.size≤N→c.size≤1000000000→Fs w (Lo w.heap.size) (ς A n C) c→
 Calls Tryz.prog 25 #[ξ #[ι γ k,σ x,σ y,ς A n C]] w fun e w'=>e=ρ (ι γ ((c.size+1:Nat):Int))∧Below w.heap.size w w'
structure bz(w wr:World)(A:Option Addr)(n C:Nat)(f:F)(m BO:Nat):Prop where
 QF:Below w.heap.size w wr
 fs:Fs wr (Lo w.heap.size) (ς A n C) f
 eq:m+f.size=BO
theorem Qn6(N:Nat)(ih:∀M,M<N→fO M):fO N:=by
 intro k x y A n C c w hN hbig hf;have Sm:=Lib.hid ih;have b1:=Qa w (θ #[ι γ k,σ x,σ y,ς A n C] 24);have HM:Hid (bz w (w.alloc (θ #[ι γ k,σ x,σ y,ς A n C] 24)) A n C c 1 (c.size+1)):=⟨b1,hf.below b1 (Nat.le_refl _),ω⟩;have htot:c.size+1≤1000000001:=ω
 obtain⟨BO,ht⟩:=Mem.QD (c.size+1);rw[ht]at htot HM⊢;clear ih hf b1 hbig;go_enter Tryz.func25,Tryz.ntmps25;go_wp2
 go_loopg [3,4] (c.size+1) (fun p s3 s4 wr=>∃(m:Nat)(A:Option Addr)(n C:Nat)(f:F),f.size<p∧f.size≤N∧m≤BO∧s3=ι γ (m:Int)∧s4=ς A n C∧Hid (bz w wr A n C f m BO))
 case atStart=>exact⟨1,A,n,C,c,ω,hN,ω,rfl,rfl,HM.out⟩
 case round =>
  clear HM hN ht;obtain⟨m,A,n,C,f,hsz,hN,hm,rfl,rfl,HM⟩:=hrel;cases Rj:f with
  |nil =>
   rw[Rj]at HM;obtain⟨A0,C0,e,_,_⟩:=HM.out.fs.slice;injection e with e1 e2 e3;simp only[F.len]at e2;subst e2;have HE:Hid (m=BO):=by show m=BO;have:=HM.out.eq;simpa[F.size]using this
   clear e1 e3 Rj;go_wp2;go_ret;exact⟨by rw[←HE.out];rfl,HM.out.QF⟩
  |cons k1 x1 y1 c1 r1 =>
   rw[Rj]at HM hsz hN;obtain⟨b,off,s1,rfl,FK,hn0,hat⟩:=HM.out.fs.at_ (i:=0) rfl;obtain⟨A1,C1,rfl,Lg,mU⟩:=hat.kids.slice;have Px:=Lib.hid hat;obtain⟨qc,Ld,RS,hrl,hr⟩:=HM.out.fs.tail;obtain⟨A',n',C',hsl,en,eC,hA'⟩:=Ju b off n C qc Ld;have hr2:=hr A' hA';rw[←en,←eC]at hr2;rw[←en]at hrl;have XQ:=Lib.hid hr2;have NQ:=Lib.hid hrl;have mG:(0:Int)<(n:Int):=ω
   have heq:=HM.out.eq;simp only[F.size]at heq hsz hN;have LN:Hid (b<w.heap.size):=FK;have FT:C'≤9223372036854775807:=ω
   have hn':n'≤1000000001:=by have:=F.QL r1;omega
   clear Rj hat hr hr2 hrl hA' en eC FK;go_wp2
   go_loopw [3,21] (fun s3 i wr2=>∃(j m2:Nat),j≤n'∧i=ι γ (j:Int)∧s3=ι γ (m2:Int)∧m2≤BO∧Hid (m2+(r1.drop j).size=m+1+r1.size)∧Hid (Below wr.heap.size wr wr2)) (fun _ i _=>n'-(intOf i).toNat)
   case atStart=>exact⟨0,m+1,Nat.zero_le _,rfl,by go_num,ω,rfl,Below.refl _ _⟩
   case round =>
    obtain⟨j,m2,hj,rfl,rfl,hm2,KL,ZT⟩:=hrel;have SR:=HM.out.QF.trans (ZT.out.mono HM.out.QF.size);by_cases hlt:j<n'
    ·obtain⟨kk,kx,ky,kc,kr,hdr,YZ⟩:=F.drop_cons (n:=j) (f:=r1) (by rw[NQ.out];exact hlt);obtain⟨b2,UW,s2,rfl,PO,_,VA⟩:=XQ.out.at_ hdr;obtain⟨Ak,Ck,rfl,_,_⟩:=VA.kids.slice;have hb2:b2<wr.heap.size:=VE PO SR.size;have PN:=VE PO HM.out.QF.size;have e0:=(ZT.out.cell (p:=⟨b2,UW+j*4,none⟩) PN).trans VA.c0;have e1:=(ZT.out.cell (p:=⟨b2,UW+j*4+1,none⟩) PN).trans VA.c1;have e2:=(ZT.out.cell (p:=⟨b2,UW+j*4+2,none⟩) PN).trans VA.c2;have e3:=(ZT.out.cell (p:=⟨b2,UW+j*4+3,none⟩) PN).trans VA.c3;have hlt':(j:Int)<(n':Int):=ω
     have Mf:(0:Int)≤(j:Int):=ω
     have LU:=Ge hdr;have bk:=Qa wr (θ #[ι γ kk,σ kx,σ ky,ς Ak kc.len Ck] 24);have hb3:=SR.trans (bk.mono SR.size);have SX:m2+(kc.size+kr.size+1)=m+1+r1.size:=by have:=KL.out;rw[hdr]at this;simpa[F.size]using this
     have HC:=Lib.hid (Sm.out kc.size ω kk kx ky Ak kc.len Ck kc _ (Nat.le_refl _) ω (((VA.kids.below ZT.out HM.out.QF.size).below (bk.mono SR.size) (Nat.le_refl _)).up hb3.size));have uT:Hid (m2+(kc.size+1)+(r1.drop (j+1)).size=m+1+r1.size):=by show _=_;rw[YZ];omega
     have VG:=VO ZT bk;have Nt:m2+(kc.size+1)≤BO:=ω
     clear hdr YZ PO VA bk KL LU hb3;obtain⟨ks,hks⟩:=Mem.QD (kc.size+1);rw[hks]at HC uT Nt;clear SX hks;go_wp2_with fail;refine c₁ HC.out fun wk hbk=>?_;have KF:=VO VG hbk;clear hbk;go_wp2
     go_roundw
     case rel=>exact⟨j+1,m2+ks,ω,by go_num,by go_num,Nt,uT.out,KF.out⟩
     case measure=>simp[intOf];omega
    ·have Q2l:¬(j:Int)<(n':Int):=ω
     obtain rfl:j=n':=ω
     have SX:m2=m+1+r1.size:=by have:=KL.out;rw[F.JG _ _ (by rw[NQ.out];exact Nat.le_refl _)]at this;simpa[F.size]using this
     have hbl:b<wr.heap.size:=VE LN.out SR.size;obtain⟨q0,q1,q2,q3⟩:=Qzx Px.out ZT.out (VE LN.out HM.out.QF.size);have SD:Hid (bz w wr A1 c1.len C1 c1 m2 BO):=⟨SR,Px.out.kids.below ZT.out HM.out.QF.size,ω⟩;clear KL SX heq;go_wp2
     go_roundg (c1.size+1)
     case measure=>omega
     case rel=>exact⟨m2,A1,c1.len,C1,c1,ω,ω,hm2,rfl,rfl,SD.out⟩
theorem Qh1(N:Nat):fO N:=by
 induction N using Nat.strongRecOn with
 |_ N ih=>exact Qn6 N ih
theorem Qkt(N:Nat):iO N:=by
 induction N using Nat.strongRecOn with
 |_ N ih=>exact Qib N ih
theorem Qff(k:Int)(x y:ByteArray)(A:Option Addr)(n C:Nat)(c:F)(w:World)(hf:Fs w (Lo w.heap.size) (ς A n C) c)(hx:x.size≤1000000)(hy:y.size≤1000000)(hsm:Zp c)(hT:Lex.XF w) :
 Calls Tryz.prog 28 #[ξ #[ι γ k,σ x,σ y,ς A n C]] w fun e w'=>e=ρ (τ (Vl ZZ ZN k x y c))∧Below w.heap.size w w':=by
 have b1:=Qt w (θ #[ι γ k,σ x,σ y,ς A n C] 24) (θ #[.func (.func 40) #[] #[π (some ⟨w.heap.size+1,0,none⟩)]] 68);have HC:=Lib.hid (Qkt c.size (w.heap.size+1) k x y A n C c false 0 _ (Nat.le_refl _) ((hf.below b1 (Nat.le_refl _)).up b1.size) hx hy hsm ω (hT.below b1 hT.pos) ψ (by rw[World.cell?_alloc_at _ _ _ _ ψ];rfl));have HB:=Lib.hid b1;clear b1 hf hx hy hsm hT;by_cases hk:k=1
 ·subst hk;rw[show Vl ZZ ZN 1 x y c=Vz ZZ ZN 1 x y c false 0 from rfl];generalize Vz ZZ ZN 1 x y c false 0=bb at *;go_enter Tryz.func28,Tryz.ntmps28;exact c90
 ·have k1:=QM hk;rw[show Vl ZZ ZN k x y c=false by unfold Vl;rw[k1];rfl];clear hk HC;go_enter Tryz.func28,Tryz.ntmps28;exact c23
end Tree
end Go.Proofs.YtmepekognmlblaaGreatDoor
namespace Go.Proofs
def Tryz.GP:Go.Shelf.Ren:=⟨fun|176=>109|249=>132|288=>140|283=>148|284=>149|285=>150|286=>151|129=>155|317=>154|318=>156|319=>157|320=>158|337=>166|338=>167|n=>n,fun|37=>103|2=>2|3=>3|53=>44|4=>4|9=>9|171=>168|0=>0|173=>171|212=>175|51=>176|5=>5|20=>20|213=>177|46=>148|232=>188|233=>189|n=>n,fun|17=>0|18=>2|19=>3|n=>n⟩
theorem Tryz.EY:Go.Proofs.LaysM.n176 prog Tryz.GP:={
 mixed:=by kernel_rfl
 f129:=func155.trans (congrArg some (by kernel_rfl))
 f176:=func109.trans (congrArg some (by kernel_rfl))
 f249:=func132.trans (congrArg some (by kernel_rfl))
 f283:=func148.trans (congrArg some (by kernel_rfl))
 f284:=func149.trans (congrArg some (by kernel_rfl))
 f285:=func150.trans (congrArg some (by kernel_rfl))
 f286:=func151.trans (congrArg some (by kernel_rfl))
 f288:=func140.trans (congrArg some (by kernel_rfl))
 f317:=func154.trans (congrArg some (by kernel_rfl))
 f318:=func156.trans (congrArg some (by kernel_rfl))
 f319:=func157.trans (congrArg some (by kernel_rfl))
 f320:=func158.trans (congrArg some (by kernel_rfl))
 f337:=func166.trans (congrArg some (by kernel_rfl))
 f338:=func167.trans (congrArg some (by kernel_rfl))
 t0:=underlying0
 a0:=Tryz.isAgg0
 z0:=Tryz.sizeOf0
 v0:=Tryz.zeroValue0
 t2:=underlying2
 a2:=Tryz.isAgg2
 z2:=Tryz.sizeOf2
 v2:=Tryz.zeroValue2
 t3:=underlying3
 a3:=Tryz.isAgg3
 z3:=Tryz.sizeOf3
 v3:=Tryz.zeroValue3
 t4:=underlying4
 a4:=Tryz.isAgg4
 z4:=Tryz.sizeOf4
 v4:=Tryz.zeroValue4
 t5:=underlying5
 a5:=Tryz.isAgg5
 z5:=Tryz.sizeOf5
 v5:=Tryz.zeroValue5
 t9:=underlying9
 a9:=Tryz.isAgg9
 z9:=Tryz.sizeOf9
 v9:=Tryz.zeroValue9
 t20:=underlying20
 a20:=Tryz.isAgg20
 z20:=Tryz.sizeOf20
 v20:=Tryz.zeroValue20
 t37:=underlying103
 a37:=Tryz.isAgg103
 z37:=Tryz.sizeOf103
 v37:=Tryz.zeroValue103
 t46:=underlying148
 a46:=Tryz.isAgg148
 z46:=Tryz.sizeOf148
 v46:=Tryz.zeroValue148
 t51:=underlying176
 a51:=Tryz.isAgg176
 z51:=Tryz.sizeOf176
 v51:=Tryz.zeroValue176
 t53:=underlying44
 a53:=Tryz.isAgg44
 z53:=Tryz.sizeOf44
 v53:=Tryz.zeroValue44
 t171:=underlying168
 a171:=Tryz.isAgg168
 z171:=Tryz.sizeOf168
 v171:=Tryz.zeroValue168
 t173:=underlying171
 a173:=Tryz.isAgg171
 z173:=Tryz.sizeOf171
 v173:=Tryz.zeroValue171
 t212:=underlying175
 a212:=Tryz.isAgg175
 z212:=Tryz.sizeOf175
 v212:=Tryz.zeroValue175
 t213:=underlying177
 a213:=Tryz.isAgg177
 z213:=Tryz.sizeOf177
 t232:=underlying188
 a232:=Tryz.isAgg188
 z232:=Tryz.sizeOf188
 v232:=Tryz.zeroValue188
 t233:=underlying189
 a233:=Tryz.isAgg189
 z233:=Tryz.sizeOf189
 v233:=Tryz.zeroValue189
 g17:=by kernel_rfl
 g18:=by kernel_rfl
 g19:=by kernel_rfl
 i0:=by kernel_rfl
 i2:=by kernel_rfl
 i3:=by kernel_rfl
 i4:=by kernel_rfl
 i5:=by kernel_rfl
 i9:=by kernel_rfl
 i20:=by kernel_rfl
 i37:=by kernel_rfl
 i46:=by kernel_rfl
 i51:=by kernel_rfl
 i53:=by kernel_rfl
 i171:=by kernel_rfl
 i173:=by kernel_rfl
 i212:=by kernel_rfl
 i232:=by kernel_rfl
 i233:=by kernel_rfl
 m17:=by kernel_rfl
 m18:=by kernel_rfl
 m19:=by kernel_rfl }
open Go.RowKit in
theorem Tryz.JI(B n:Nat)(i:Int)(h0 : -9223372036854775808≤i)(h1:i≤9223372036854775807)(sv:Value)(xs:List Value)(w:World)(hown:w.ownsRow B 5 1 sv n xs)(hBw:B≤w.heap.size)(hlim:n+21≤140737488355328)
 (nX:Lib.TabBelow prog B w "internal/strconv.uint64pow10" .u64 Lib.pow10Tab) :
 Calls prog 109 #[sv,ι γ i,ι γ 10] w fun e w'=>∃v',e=ρ v'∧w'.ownsRow B 5 1 v' (n+(Lib.itoa i).length) (xs++Lib.byteCells (Lib.itoa i))∧RowKit.Below B w w'∧Lib.OthersKept 5 none w w':=Any.strconv_AppendInt_10 Tryz.EY B n i h0 h1 sv xs w hown hBw hlim nX
