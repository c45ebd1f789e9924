import Derived.Lib.Bytes
import Derived.Deep.RegionHeld3
import Derived.Below
import Derived.WalkKit
import Derived.ProofKit
import Derived.OpenShut
import Derived.Lib.Hide
import Derived.Deep.QuietTactic
import Derived.BigQuiet
import Derived.Test.YtaiihnniblibaaaGreatDoorChecked
import Derived.Outline
import Derived.WalkMore
import Derived.OneCell
import Derived.OwnWalk
import Derived.StillTailTactics
import Derived.Shelf.Abstract
set_option maxHeartbeats 16000000
set_option maxRecDepth 100000
set_option linter.unusedVariables false
open Go.Proofs.Tryz Go.ChangeShapes Go.WideShapes Go.ChangeAt Go.RowKit
open Go.RowKit.Below renaming refl→QF
open _root_.Nat renaming le_refl→QH,zero_add→JN,lt_of_lt_of_le→JQ
open _root_.Bool renaming and_eq_true→Rg
open Go.Value renaming string→σ,int→ι,slice→ς,pointer→π,bool→τ,agg→ξ
open Go.IntKind renaming i64→κ
open Go.Obj renaming cells→θ
open Go.Ending renaming returned→ρ
namespace Go.Proofs.YtaiihnniblibaaaGreatDoor
theorem c₁{p:Program}{f:FuncId}{a:Array Value}{w:World}{v:Ending}{R:World→Prop}{Q:Ending→World→Prop}(h:Calls p f a w fun e w'=>e=v∧R w')(k:∀w',R w'→Q v w'):Calls p f a w Q:=h.mono fun _ _ q=>q.1▸k _ q.2
namespace Tree
inductive F where
 |nil
 |cons (k:Int) (x y:ByteArray) (c r:F)
namespace F
def len:F→Nat
 | .nil=>0
 | .cons _ _ _ _ r=>r.len+1
def size:F→Nat
 | .nil=>0
 | .cons _ _ _ c r=>c.size+r.size+1
def drop:Nat→F→F
 |0,f=>f
 |_+1,.nil=>.nil
 |n+1,.cons _ _ _ _ r=>r.drop n
theorem Yk:∀f:F,f.len≤f.size
 | .nil=>QH _
 | .cons _ _ _ c r=>by have:=Yk r;simp only[len,size];omega
theorem drop_nil:∀n:Nat,F.drop n .nil=.nil
 |0=>rfl
 |_+1=>rfl
theorem Hz:∀(n:Nat)(f:F),(f.drop n).len=f.len-n
 |0,f=>rfl
 |n+1,.nil=>by simp[drop,len]
 |n+1,.cons _ _ _ _ r=>by simp only[drop,len,Hz n r];omega
theorem drop_drop:∀(n m:Nat)(f:F),(f.drop n).drop m=f.drop (n+m)
 |0,m,f=>by rw[JN];rfl
 |n+1,m,.nil=>by simp only[drop_nil]
 |n+1,m,.cons _ _ _ _ r=>by rw[show n+1+m=(n+m)+1 by omega];simp only[drop,drop_drop n m r]
theorem JH:∀(n:Nat)(f:F),f.len≤n→f.drop n=.nil
 |n,.nil,_=>drop_nil n
 |0,.cons _ _ _ _ r,h=>by simp[len]at h
 |n+1,.cons _ _ _ _ r,h=>JH n r (by simp only[len]at h;omega)
theorem drop_cons:∀{n:Nat}{f:F},n<f.len→∃k x y c r,f.drop n=.cons k x y c r∧f.drop (n+1)=r
 |n,.nil,h=>by simp[len]at h
 |0,.cons k x y c r,_=>⟨k,x,y,c,r,rfl,rfl⟩
 |n+1,.cons _ _ _ _ r,h=>by
  obtain⟨k,x,y,c,r',h1,h2⟩:=drop_cons (n:=n) (f:=r) (by simp only[len]at h;omega);exact⟨k,x,y,c,r',h1,h2⟩
theorem UR{f:F}(h:f.len=0):f=.nil:=by
 cases f with
 |nil=>rfl
 |cons=>simp[len]at h
end F
def Ql(s:ByteArray):Nat :=
 if s.toList==[124,124]then 1
 else if s.toList==[38,38]then 2
 else if s.toList==[61,61]||s.toList==[33,61]||s.toList==[60]||s.toList==[60,61]||s.toList==[62]||s.toList==[62,61]then 3
 else if s.toList==[43]||s.toList==[45]||s.toList==[124]||s.toList==[94]then 4
 else if s.toList==[42]||s.toList==[47]||s.toList==[37]||s.toList==[60,60]||s.toList==[62,62]||s.toList==[38]||s.toList==[38,94]then 5
 else 0
theorem rZ(s:ByteArray):Ql s≤5:=by unfold Ql;repeat' split <;> try omega
def Qi(pk:Int)(px:ByteArray)(i:Nat)(kk:Int)(kx:ByteArray):Bool :=
 if pk=29 then(if i=0 then kk==29&&decide (Ql kx<Ql px)else if i=1 then kk==29&&decide (Ql kx≤Ql px)else false)
 else if pk=28 then kk==29||kk==28
 else if pk=30∨pk=31∨pk=32 then decide (i=0)&&(kk==29||kk==28)
 else false
def more(pk:Int)(i:Nat)(kk:Int):Nat :=
 if pk=28∨pk=10∨pk=11∨pk=12∨pk=13∨pk=15∨pk=17 then 1
 else if pk=30∨pk=31 then(if 0<i then 1 else 0)
 else if pk=18 then(if i=2∧kk=18 then 1 else 0)
 else 0
def down(pk:Int)(px:ByteArray)(i:Nat)(kk:Int)(kx:ByteArray):Nat:=(if Qi pk px i kk kx then 1 else 0)+more pk i kk
theorem oJ(pk:Int)(px:ByteArray)(i:Nat)(kk:Int)(kx:ByteArray):down pk px i kk kx≤2:=by
 unfold down more;repeat' split
 all_goals omega
def holds(k:Int):Bool:=k==1||k==17||k==13
def Qt(k:Int)(_:ByteArray):Bool:=k==9||k==10||k==11||k==12||k==13
def Qg(k:Int)(_:ByteArray):Bool:=k==9||k==26||k==27||k==28||k==29||k==30||k==31||k==32
def Zv(k:Int)(x:ByteArray):Bool:=k==9||k==31||k==32||(k==28&&x.toList==[42])
def Js(k:Int)(_:ByteArray):Bool:=k==5||k==8||k==17||k==18||k==19||k==20||k==21||k==22||k==23||k==24||k==25
def Jl(k:Int)(_:ByteArray):Bool:=k==4||k==5||k==6||k==7||k==8
def Qk(l:List Int)(k:Int)(_:ByteArray):Bool:=l.any fun j=>k==j
inductive Pt where
 |many (p:Int→ByteArray→Bool)
 |one (l:List (Int→ByteArray→Bool))
def Kv(p:Int→ByteArray→Bool):F→F
 | .nil=>.nil
 | .cons k x y c r=>if p k x then Kv p r else .cons k x y c r
def Pt.take:Pt→F→Option F
 | .many p,f=>some (Kv p f)
 | .one l,.nil=>none
 | .one l,.cons k x _ _ r=>if l.any (fun p=>p k x)then some r else none
def Qe:List Pt→F→Bool
 |[],.nil=>true
 |[],.cons ..=>false
 |p::ps,f=>match p.take f with
  |none=>false
  |some g=>Qe ps g
def Q1(k:Int)(x:ByteArray)(f:F):Bool :=
 if k=1 then Qe [.many (Qk [8]),.one [Qk [2]],.many (Qk [3,8]),.many Jl] f
 else if k=2∨k=3∨k=8∨k=9∨k=26∨k=27∨k=24∨k=25∨k=33 then decide (f.len=0)
 else if k=4∨k=28∨k=32 then Qe [.one [Qg]] f
 else if k=5 then Qe [.one [Qt,Qk [33]],.one [Qg,Qk [33]]] f && !Qe [.one [Qk [33]],.one [Qk [33]]] f
 else if k=6∨k=10∨k=11∨k=14∨k=16 then Qe [.one [Qt]] f
 else if k=7 then Qe [.one [Qk [16],Qk [33]],.one [Qk [15]],.one [Qt,Qk [33]],.one [Qk [17]]] f
 else if k=12 then Qe [.one [Qt],.one [Qt]] f
 else if k=13 then Qe [.many (Qk [14,8])] f
 else if k=15 then Qe [.many (Qk [16])] f
 else if k=17 then Qe [.many Js] f
 else if k=18 then Qe [.one [Qg],.one [Qk [17]],.one [Qk [17,18],Qk [33]]] f
 else if k=19 then Qe [.one [Qg,Qk [33]],.one [Qk [17]]] f
 else if k=20 then Qe [.many Qg] f
 else if k=21 then(if x.toList==[58,61]then Qe [.one [Qk [9]],.one [Qg]] f else Qe [.one [Zv],.one [Qg]] f)
 else if k=22 then Qe [.one [Zv]] f
 else if k=23 then Qe [.one [Qk [30]]] f
 else if k=29∨k=31 then Qe [.one [Qg],.one [Qg]] f
 else if k=30 then Qe [.one [Qg],.many Qg] f
 else false
def Q2(nm:ByteArray→Bool)(tk:ByteArray→Int→Bool)(k:Int)(x:ByteArray):Bool :=
 if k=2∨k=4∨k=5∨k=6∨k=7∨k=14∨k=16∨k=9∨k=32 then nm x
 else if k=3∨k=27 then tk x 3
 else if k=26 then tk x 2
 else if k=8 then tk x 5
 else if k=21 then(x.toList==[61]||x.toList==[58,61]||x.toList==[43,61]||x.toList==[45,61]||x.toList==[42,61]||x.toList==[47,61]||x.toList==[37,61])
 else if k=22 then(x.toList==[43,43]||x.toList==[45,45])
 else if k=28 then(x.toList==[45]||x.toList==[33]||x.toList==[94]||x.toList==[42]||x.toList==[38]||x.toList==[43])
 else if k=29 then decide (0<Ql x)
 else x.toList==[]
def Vj(tk:ByteArray→Int→Bool)(k:Int)(y:ByteArray)(item:Bool):Bool:=y.toList==[]||(item&&(k != 8&&tk y 5))
def Fb(nm:ByteArray→Bool)(tk:ByteArray→Int→Bool)(k:Int)(x y:ByteArray)(c:F)(item:Bool):Bool:=Q2 nm tk k x&&(Vj tk k y item&&Q1 k x c)
section
variable (nm:ByteArray→Bool)(tk:ByteArray→Int→Bool)
def Z4:(pk:Int)→(px:ByteArray)→(it:Bool)→(d:Nat)→(i:Nat)→F→Bool
 |_,_,_,_,_,.nil=>true
 |pk,px,it,d,i,.cons k x y c r=>(decide (d+down pk px i k x≤256)&&Fb nm tk k x y c it&&Z4 k x (holds k) (d+down pk px i k x) 0 c)&&Z4 pk px it d (i+1) r
def Zg(k:Int)(x y:ByteArray)(c:F)(it:Bool)(d:Nat):Bool:=decide (d≤256)&&Fb nm tk k x y c it&&Z4 nm tk k x (holds k) d 0 c
def Jt(k:Int)(x y:ByteArray)(c:F):Bool:=k==1&&Zg nm tk k x y c false 0
theorem G0(pk:Int)(px:ByteArray)(it:Bool)(d i:Nat)(k:Int)(x y:ByteArray)(c r:F) :
  Z4 nm tk pk px it d i (.cons k x y c r)=(Zg nm tk k x y c it (d+down pk px i k x)&&Z4 nm tk pk px it d (i+1) r):=by
 simp only[Z4,Zg]
end
def same:F→F→Bool
 | .nil,.nil=>true
 | .cons k x y c r,.cons k' x' y' c' r'=>(k==k'&&x.toList==x'.toList&&y.toList==y'.toList&&same c c')&&same r r'
 |_,_=>false
theorem Jp{a b:ByteArray}(h:a.toList=b.toList):a=b:=by
 rw[ByteArray.toList_eq,ByteArray.toList_eq]at h;cases a;cases b;simp at h;rw[h]
theorem zC:∀f:F,same f f=true
 | .nil=>rfl
 | .cons k x y c r=>by simp[same,zC c,zC r]
structure Nd where
 k:Int
 x:ByteArray
 y:ByteArray
 c:F
def Nd.size(n:Nd):Nat:=n.c.size+1
def nodes:F→List Nd
 | .nil=>[]
 | .cons k x y c r=>⟨k,x,y,c⟩::(nodes c++nodes r)
theorem Gg:∀f:F,(nodes f).length=f.size
 | .nil=>rfl
 | .cons k x y c r=>by simp only[nodes,F.size,List.length_cons,List.length_append,Gg c,Gg r]
end Tree
namespace Mem
structure Cd(T:World→World→Prop) where
 p:Value→World→Prop
 mono:∀v W W',T W W'→p v W→p v W'
def Cd.any{T:World→World→Prop}:Cd T:=⟨fun _ _=>True,fun _ _ _ _ _=>trivial⟩
def Cd.is{T:World→World→Prop}(u:Value):Cd T:=⟨fun v _=>v=u,fun _ _ _ _ h=>h⟩
def YE{T:World→World→Prop}(Φ:List (Cd T))(i:Nat):Cd T:=Φ.getD i Cd.any
def Q6(x:Nat→Value):Nat→List Oper→Array Value→Array Value
 |_,[],t=>t
 |i,o::os,t=>Q6 x (i+1) os (match o.dst with|some d=>t.setIfInBounds d (x i)|none=>t)
def Vf(x:Nat→Value)(i:Nat)(v:Value):Nat→Value:=fun j=>if j=i then v else x j
def Yw(l:List Oper):List Nat:=l.filterMap fun o=>o.dst
theorem Ku{x x':Nat→Value}:∀(l:List Oper)(i:Nat)(t:Array Value),(∀j,i≤j→x j=x' j)→Q6 x i l t=Q6 x' i l t
 |[],_,_,_=>rfl
 |o::os,i,t,h=>by
  simp only[Q6];rw[h i (QH _)];exact Ku os (i+1) _ fun j hj=>h j (by omega)
theorem xQ{x:Nat→Value}{d:Nat}{v:Value}:∀(l:List Oper)(i:Nat)(t:Array Value),d ∉ Yw l→Q6 x i l (t.setIfInBounds d v)=(Q6 x i l t).setIfInBounds d v
 |[],_,_,_=>rfl
 |o::os,i,t,h=>by
  have h2:d ∉ Yw os:=fun hm=>h (by simp only[Yw,List.filterMap_cons]at hm⊢;split <;> simp_all)
  simp only[Q6];cases hd:o.dst with
  |none=>exact xQ os (i+1) t h2
  |some e =>
   have hne:e≠d:=fun he=>h (by simp only[Yw,List.filterMap_cons,hd,he];exact List.mem_cons_self ..)
   simp only;rw[←xQ os (i+1) (t.setIfInBounds e (x i)) h2,Array.setIfInBounds_comm _ _ hne]
theorem Ub{x:Nat→Value}{d:Nat}{v:Value}:∀(l:List Oper)(i j:Nat)(o:Oper)(t:Array Value),(Yw l).Nodup→l[j]?=some o→o.dst=some d→Q6 (Vf x (i+j) v) i l t=(Q6 x i l t).setIfInBounds d v
 |[],_,_,_,_,_,h,_=>by simp at h
 |p::os,i,0,o,t,hn,h,hd=>by
  simp only[List.getElem?_cons_zero,Option.some.injEq]at h;subst h;have hn':d ∉ Yw os∧(Yw os).Nodup:=by simp only[Yw,List.filterMap_cons,hd]at hn;exact List.nodup_cons.1 hn
  simp only[Q6,hd,Nat.add_zero];rw[Ku (x':=x) os (i+1) _ (fun k hk=>by simp only[Vf];rw[if_neg (by omega)])];rw[←xQ os (i+1) _ hn'.1];simp[Vf]
 |p::os,i,j+1,o,t,hn,h,hd=>by
  have hn':(Yw os).Nodup:=by
   simp only[Yw,List.filterMap_cons]at hn;split at hn
   ·exact hn
   ·exact(List.nodup_cons.1 hn).2
  simp only[Q6];have e1:Vf x (i+(j+1)) v i=x i:=by simp only[Vf];rw[if_neg (by omega)]
  rw[e1,show i+(j+1)=i+1+j by omega];exact Ub os (i+1) j o _ hn' (by simpa using h) hd
theorem Qtn{t:Array Value}{d:Nat}:t.setIfInBounds d (t.getD d undef)=t:=by
 apply Array.ext_getElem?;intro k;rw[Array.getElem?_setIfInBounds];by_cases h:d=k
 ·subst h;by_cases hk:d<t.size
  ·simp[hk]
  ·simp[hk]
 ·simp[h]
def NH(l:List Oper)(t:Array Value):Nat→Value:=fun j=>((l[j]?).bind (·.dst)).elim undef (fun d=>t.getD d undef)
theorem mL(t:Array Value):∀(l:List Oper)(i:Nat)(x:Nat→Value),(∀j o d,l[j]?=some o→o.dst=some d→x (i+j)=t.getD d undef)→Q6 x i l t=t
 |[],_,_,_=>rfl
 |o::os,i,x,h=>by
  simp only[Q6]
  have e:(match o.dst with|some d=>t.setIfInBounds d (x i)|none=>t)=t:=by
   cases hd:o.dst with
   |none=>rfl
   |some d=>have:=h 0 o d rfl hd;rw[Nat.add_zero]at this;simp only[this];exact Qtn
  rw[e]
  exact mL t os (i+1) x fun j o' d hj hd=>by
   rw[show i+1+j=i+(j+1)by omega];exact h (j+1) o' d (by simpa using hj) hd
theorem Yn(l:List Oper)(t:Array Value):Q6 (NH l t) 0 l t=t :=
 mL t l 0 _ fun j o d hj hd=>by simp[NH,hj,hd]
def PF(listed:Array Bool):Nat→Nat
 |0=>0
 |n+1=>PF listed n+if listed.getD n true=false then 1 else 0
theorem Ee{listed:Array Bool}:∀{n:Nat},PF listed n=0→∀i,i<n→listed.getD i true=true
 |0,_,i,h=>by omega
 |n+1,h,i,hi=>by
  simp only[PF]at h;by_cases hl:listed.getD n true=false
  ·rw[if_pos hl]at h;omega
  ·by_cases hin:i=n
   ·subst hin;simpa using hl
   ·exact Ee (n:=n) (by omega) i (by omega)
theorem cj{listed:Array Bool}{i:Nat}:∀{n:Nat},n≤i→PF (listed.setIfInBounds i true) n=PF listed n
 |0,_=>rfl
 |n+1,h=>by
  simp only[PF];rw[cj (n:=n) (by omega),getD_set_ne true (show i≠n by omega)]
theorem AV{listed:Array Bool}{i:Nat}(hu:listed.getD i true=false):∀{n:Nat},i<n→PF (listed.setIfInBounds i true) n+1=PF listed n
 |0,h=>by omega
 |n+1,h=>by
  simp only[PF];by_cases hin:i=n
  ·subst hin;rw[cj (QH _),if_pos hu];have hs:i<listed.size:=by
    rcases Nat.lt_or_ge i listed.size with h' |h'
    ·exact h'
    ·simp[Array.getElem?_eq_none h']at hu
   simp[hs]
  ·rw[getD_set_ne true hin];have:=AV hu (n:=n) (by omega);omega
variable {P:Program}{Q:Exit→Act→World→Prop}
def Xa(P:Program)(l:List Oper)(Q:Exit→Act→World→Prop)(o:Oper)(K:Act→World→Prop)(a:Act)(w:World):Prop :=
 if Region.wanted o (yielded l.toArray a.tmps)=true then o.wp P a w K Q else K (a.put o.dst undef) w
def Jm(l:List Oper):Bool:=(List.range l.length).all fun i=>match l[i]? with
 |some o=>o.after.all fun e=>!Region.binds .any e||decide (e.on<i)
 |none=>true
def Steps(P:Program)(l:List Oper)(Q:Exit→Act→World→Prop){T:World→World→Prop}(Φ:List (Cd T))(x:Nat→Value)(a:Act)(W:World):Nat→List Oper→Prop
 |_,[]=>True
 |i,o::os=>((∀j,(o.after.any fun e=>Region.binds .any e&&e.on==j)=true→(YE Φ j).p (x j) W)→∀K:Act→World→Prop,Shut (∀v W',T W W'→(YE Φ i).p v W'→K (a.put o.dst v) W')→Xa P l Q o K a W)∧Steps P l Q Φ x a W (i+1) os
theorem Steps.get{l:List Oper}{T:World→World→Prop}{Φ:List (Cd T)}{x:Nat→Value}{a:Act}{W:World}:∀(os:List Oper)(k i:Nat)(o:Oper),Steps P l Q Φ x a W k os→os[i]?=some o→
  ((∀j,(o.after.any fun e=>Region.binds .any e&&e.on==j)=true→(YE Φ j).p (x j) W)→∀K:Act→World→Prop,Shut (∀v W',T W W'→(YE Φ (k+i)).p v W'→K (a.put o.dst v) W')→Xa P l Q o K a W)
 |[],_,_,_,_,h=>by simp at h
 |p::os,k,0,o,hs,h=>by
  simp only[List.getElem?_cons_zero,Option.some.injEq]at h;subst h;exact hs.1
 |p::os,k,i+1,o,hs,h=>by
  have:=Steps.get os (k+1) i o hs.2 (by simpa using h);rwa[show k+1+i=k+(i+1)by omega]at this
theorem wD{l:List Oper}{T:World→World→Prop}{Φ:List (Cd T)}{a0:Act}{w1:World}(hn:(Yw l).Nodup)(he:Jm l=true)(htr:∀W1 W2 W3,T W1 W2→T W2 W3→T W1 W3)
  (hsteps:∀x W,T w1 W→∀a,a=(⟨Q6 x 0 l a0.tmps,a0.defers⟩:Act)→Steps P l Q Φ x a W 0 l)
  (hdone:∀x W,T w1 W→(∀i,i<l.length→(YE Φ i).p (x i) W)→∀a,a=(⟨Q6 x 0 l a0.tmps,a0.defers⟩:Act)→Q .normal a W) :
  ∀(fuel:Nat)(listed:Array Bool)(x:Nat→Value)(a:Act)(W:World),PF listed l.length=fuel→a=⟨Q6 x 0 l a0.tmps,a0.defers⟩→T w1 W→(∀i,i<l.length→listed.getD i true=true→(YE Φ i).p (x i) W)→
   wpAny P .any l.toArray Q fuel listed a W:=by
 have all:∀listed:Array Bool,Region.ready .any l.toArray listed=[]→∀i,i<l.length→listed.getD i true=true:=by
  intro listed hr i
  induction i using Nat.strongRecOn with
  |_ i ih =>
   intro hi;by_cases hl:listed.getD i true=true
   ·exact hl
   ·exfalso
    have hm:i∈Region.ready .any l.toArray listed:=mem_ready.2 ⟨by simpa using hl,l[i],by simp[hi],fun e hm hb=>by
     have h1:=List.all_eq_true.1 he i (List.mem_range.2 hi);simp only[List.getElem?_eq_getElem hi]at h1;have h2:=Array.all_eq_true_iff_forall_mem.1 h1 e hm;simp only[hb,Bool.not_true,Bool.false_or,decide_eq_true_eq]at h2;have h3:=ih e.on h2 (by omega);rcases Nat.lt_or_ge e.on listed.size with h' |h'
     ·simpa[h']using h3
     ·exfalso;have h4:listed.getD i true=true:=by simp[Array.getElem?_eq_none (show listed.size≤i by omega)]
      exact hl h4⟩
    rw[hr]at hm;cases hm
 intro fuel
 induction fuel with
 |zero =>
  intro listed x a W hf ha hT hx;have hall:=Ee hf;refine⟨?_,hdone x W hT (fun i hi=>hx i hi (hall i hi)) a ha⟩;cases hr:Region.ready .any l.toArray listed with
  |nil=>rfl
  |cons i rs =>
   exfalso;obtain⟨h0,o,ho,_⟩:=mem_ready.1 (show i∈Region.ready .any l.toArray listed by rw[hr];exact List.mem_cons_self ..);have hi:i<l.length:=by have:=(Array.getElem?_eq_some_iff.1 ho).1;simpa using this
   rw[hall i hi]at h0;cases h0
 |succ fuel ih =>
  intro listed x a W hf ha hT hx;refine⟨fun hr=>hdone x W hT (fun i hi=>hx i hi (all listed hr i hi)) a ha,fun i hi=>?_⟩;obtain⟨h0,o,ho,PW⟩:=mem_ready.1 hi;have ho':l[i]?=some o:=by simpa using ho
  have hil:i<l.length:=(List.getElem?_eq_some_iff.1 ho').1
  have hst:=Steps.get l 0 i o (hsteps x W hT a ha) ho' (fun j hj=>by
   rw[←Array.any_toList,List.any_eq_true]at hj;obtain⟨e,hm0,hb⟩:=hj;have hm:e∈o.after:=Array.mem_toList_iff.1 hm0;simp only[Rg,beq_iff_eq]at hb;have h1:=PW e hm hb.1;rw[hb.2]at h1;have hjl:j<listed.size:=by
    rcases Nat.lt_or_ge j listed.size with h' |h'
    ·exact h'
    ·simp[Array.getElem?_eq_none h']at h1
   have h2:=List.all_eq_true.1 he i (List.mem_range.2 hil);simp only[ho']at h2;have h3:=Array.all_eq_true_iff_forall_mem.1 h2 e hm;simp only[hb.1,Bool.not_true,Bool.false_or,decide_eq_true_eq]at h3;exact hx j (by omega) (by simpa[hjl]using h1))
   (fun a' W'=>wpAny P .any l.toArray Q fuel (listed.setIfInBounds i true) a' W')
   (by
    intro v W' Sv hv;rw[JN]at hv;refine ih (listed.setIfInBounds i true) (Vf x i v) _ W' (by have:=AV h0 hil;omega) ?_ (htr _ _ _ hT Sv) (fun j hj hl=>?_)
    ·rw[ha];cases hd:o.dst with
     |none =>
      simp only[Act.put]
      congr 1
      have key:∀(os:List Oper)(k m:Nat)(t:Array Value),os[m]?=some o→Q6 (Vf x (k+m) v) k os t=Q6 x k os t:=by
       intro os
       induction os with
       |nil=>intro k m t h;rfl
       |cons p os Di =>
        intro k m t h;cases m with
        |zero=>simp only[List.getElem?_cons_zero,Option.some.injEq]at h;subst h;simp only[Q6,hd];exact Ku os (k+1) _ fun j hj=>by simp only[Vf];rw[if_neg (by omega)]
        |succ m =>
         simp only[Q6];have e1:Vf x (k+(m+1)) v k=x k:=by simp only[Vf];rw[if_neg (by omega)]
         rw[e1,show k+(m+1)=k+1+m by omega];exact Di (k+1) m _ (by simpa using h)
      have:=key l 0 i a0.tmps ho';rw[JN]at this;exact this.symm
     |some d =>
      simp only[Act.put]
      congr 1
      have:=Ub (x:=x) (v:=v) l 0 i o a0.tmps hn ho' hd;rw[JN]at this;exact this.symm
    ·by_cases YI:j=i
     ·subst YI;simpa[Vf]using hv
     ·have e1:Vf x i v j=x j:=by simp only[Vf];rw[if_neg YI]
      rw[e1];rw[getD_set_ne true (Ne.symm YI)]at hl;exact(YE Φ j).mono _ _ _ Sv (hx j hj hl))
  unfold Xa at hst;unfold wpOp;simp only[ho];split
  ·rename_i hw
   rw[if_pos hw]at hst;exact .inl hst
  ·rename_i hw
   rw[if_neg hw]at hst;exact hst
theorem Yy:∀(m n:Nat),n≤m→PF (Array.replicate m false) n=n
 |m,0,_=>rfl
 |m,n+1,h=>by
  simp only[PF];rw[Yy m n (by omega)];simp[show n<m by omega]
theorem VI{w W:World}(h:RowKit.Below w.drew.heap.size w.drew W):RowKit.Below w.heap.size w W:=⟨h.os,h.tape,h.output,h.size,h.block⟩
theorem Qmx{id:Nat}{l:List Oper}{a0:Act}{w:World}(T:World→World→Prop)(Φ:List (Cd T))(hm:P.follows .mixedOrders=true)(hn:(Yw l).Nodup)(he:Jm l=true)
  (hrf:T w.drew w.drew) (htr:∀W1 W2 W3,T W1 W2→T W2 W3→T W1 W3)
  (hsteps:∀x W,T w.drew W→∀a,a=(⟨Q6 x 0 l a0.tmps,a0.defers⟩:Act)→Steps P l Q Φ x a W 0 l)
  (hdone:∀x W,T w.drew W→(∀i,i<l.length→(YE Φ i).p (x i) W)→∀a,a=(⟨Q6 x 0 l a0.tmps,a0.defers⟩:Act)→Q .normal a W) :
  (Code.region id l.toArray true).wp P Q a0 w:=by
 refine wp_region_any hm (wD (a0:=a0) (w1:=w.drew) (Φ:=Φ) hn he htr hsteps hdone l.toArray.size (Array.replicate l.toArray.size false) (NH l a0.tmps) a0 w.drew ?_ ?_ hrf ?_)
 ·simpa using Yy l.length l.length (QH _)
 ·rw[Yn]
 ·intro i hi h;exfalso;simp[hi]at h
def jX(P:Program)(l:List Oper)(Q:Exit→Act→World→Prop){T:World→World→Prop}(Φ:List (Cd T))(x:Nat→Value)(a:Act)(W:World):Nat→List Oper→Prop
 |_,[]=>True
 |i,o::os=>((∀j,(h:(o.after.any fun e=>Region.binds .any e&&e.on==j)=true:=by kernel_rfl)→(YE Φ j).p (x j) W)→∀K:Act→World→Prop,Shut (∀v W',T W W'→(YE Φ i).p v W'→K (a.put o.dst v) W')→o.wp P a W K Q)∧jX P l Q Φ x a W (i+1) os
def J7(l:List Oper):Bool:=l.all fun o=>o.guard.isNone
theorem ma{l:List Oper}{o:Oper}{K:Act→World→Prop}{a:Act}{w:World}(h:o.guard.isNone=true)(hw:o.wp P a w K Q):Xa P l Q o K a w:=by
  unfold Xa;have:Region.wanted o (yielded l.toArray a.tmps)=true:=by
    unfold Region.wanted;cases hg:o.guard with
    |none=>rfl
    |some g=>rw[hg]at h;cases h
  rw[if_pos this];exact hw
theorem tR{l:List Oper}{T:World→World→Prop}{Φ:List (Cd T)}{x:Nat→Value}{a:Act}{W:World}:∀(os:List Oper)(i:Nat),J7 os=true→jX P l Q Φ x a W i os→Steps P l Q Φ x a W i os
 |[],_,_,_=>trivial
 |o::os,i,h,hs=>by
  have h':o.guard.isNone=true∧J7 os=true:=by simpa[J7]using h
  exact⟨fun hd K hK=>ma h'.1 (hs.1 (fun j hj=>hd j hj) K hK),tR os (i+1) h'.2 hs.2⟩
theorem Qz{id:Nat}{l:List Oper}{a0:Act}{w:World}(Φ:List (Cd (fun W W'=>RowKit.Below W.heap.size W W'))){F:(Nat→Value)→Array Value}
  (hsteps:∀x W,RowKit.Below w.heap.size w W→jX P l Q Φ x ⟨F x,a0.defers⟩ W 0 l)
  (hdone:∀x W,RowKit.Below w.heap.size w W→(∀i,(h:i<l.length:=by decide)→(YE Φ i).p (x i) W)→Q .normal ⟨F x,a0.defers⟩ W)
  (hF:∀x,Q6 x 0 l a0.tmps=F x:=by intro x;simp only[Q6];simp only[List.setIfInBounds_toArray,List.set_cons_succ,List.set_cons_zero,Nat.zero_add,Nat.reduceAdd];rfl)
  (hm:P.follows .mixedOrders=true:=by kernel_rfl) (hn:(Yw l).Nodup:=by decide) (he:Jm l=true:=by kernel_rfl) (hg:J7 l=true:=by kernel_rfl) :
  (Code.region id l.toArray true).wp P Q a0 w :=
 Qmx _ Φ hm hn he (RowKit.Below.refl _ _) (fun _ _ _ h k=>h.trans (k.mono h.size))
  (fun x W h a ha=>by rw[hF]at ha;subst ha;exact tR l 0 hg (hsteps x W (VI h)))
  (fun x W h hx a ha=>by rw[hF]at ha;subst ha;exact hdone x W (VI h) (fun i hi=>hx i hi))
theorem QN{w w1 w2:World}(h:RowKit.Hid (RowKit.Below w.heap.size w w1))(k:RowKit.Below w1.heap.size w1 w2):RowKit.Hid (RowKit.Below w.heap.size w w2):=h.out.trans (k.mono h.out.size)
theorem ZB{α:Type}(a:α):∃b,a=b:=⟨_,rfl⟩
end Mem
namespace Tree
def Fs(w:World)(S:Nat→Prop):Value→F→Prop
 |v,.nil=>∃A C,v=ς A 0 C∧C≤9223372036854775807
 |v,.cons k x y c r=>∃b off n C s,v = ς (some ⟨b,off,none⟩) (n+1) (C+1)∧r.len=n∧n≤C∧C+1≤9223372036854775807∧S b∧
  w.cell? ⟨b,off,none⟩=some (ι κ k)∧w.cell? ⟨b,off+1,none⟩=some (σ x)∧w.cell? ⟨b,off+2,none⟩=some (σ y)∧w.cell? ⟨b,off+3,none⟩=some s∧
  Fs w S s c∧∀A',(r=.nil∨A'=some ⟨b,off+4,none⟩)→Fs w S (ς A' n C) r
def Lo(B:Nat):Nat→Prop:=fun b=>b<B
section
variable {w w':World}{S S':Nat→Prop}{v:Value}{f:F}
theorem Fs.keep:∀{f:F}{v:Value},Fs w S v f→(∀b,S b→w'.heap[b]?=w.heap[b]?)→Fs w' S v f
 | .nil,v,h,_=>h
 | .cons k x y c r,v,⟨b,off,n,C,s,e,h1,h2,h3,hS,c0,c1,c2,c3,hk,hr⟩,hh =>
  ⟨b,off,n,C,s,e,h1,h2,h3,hS,(World.cell?_of_block (w:=w) (hh b hS)).trans c0,(World.cell?_of_block (w:=w) (hh b hS)).trans c1,(World.cell?_of_block (w:=w) (hh b hS)).trans c2,(World.cell?_of_block (w:=w) (hh b hS)).trans c3,
   hk.keep hh,fun A' hA=>(hr A' hA).keep hh⟩
theorem Fs.more:∀{f:F}{v:Value},Fs w S v f→(∀b,S b→S' b)→Fs w S' v f
 | .nil,v,h,_=>h
 | .cons k x y c r,v,⟨b,off,n,C,s,e,h1,h2,h3,hS,c0,c1,c2,c3,hk,hr⟩,hh =>
  ⟨b,off,n,C,s,e,h1,h2,h3,hh b hS,c0,c1,c2,c3,hk.more hh,fun A' hA=>(hr A' hA).more hh⟩
theorem Fs.below{B B0:Nat}(h:Fs w (Lo B) v f)(hb:Below B0 w w')(hB:B≤B0):Fs w' (Lo B) v f :=
 h.keep fun b hb'=>hb.block b (JQ hb' hB)
theorem Fs.up{B B':Nat}(h:Fs w (Lo B) v f)(hB:B≤B'):Fs w (Lo B') v f:=h.more fun b hb=>JQ hb hB
theorem Fs.drewN(h:Fs w S v f)(q:Nat):Fs (w.drewN q) S v f:=h.keep fun _ _=>rfl
theorem Fs.slice:∀{f:F}{v:Value},Fs w S v f→∃A C,v=ς A f.len C∧f.len≤C∧C≤9223372036854775807
 | .nil,v,⟨A,C,e,h⟩=>⟨A,C,e,Nat.zero_le _,h⟩
 | .cons k x y c r,v,⟨b,off,n,C,s,e,h1,h2,h3,_⟩=>⟨some ⟨b,off,none⟩,C+1,by rw[e,←h1];rfl,by simp only[F.len];omega,h3⟩
theorem Fs.nil{A:Option Addr}{C:Nat}(hC:C≤9223372036854775807):Fs w S (ς A 0 C) .nil:=⟨A,C,rfl,hC⟩
structure At(w:World)(S:Nat→Prop)(b off i:Nat)(k:Int)(x y:ByteArray)(c:F)(s:Value):Prop where
 c0:w.cell? ⟨b,off+i*4,none⟩=some (ι κ k)
 c1:w.cell? ⟨b,off+i*4+1,none⟩=some (σ x)
 c2:w.cell? ⟨b,off+i*4+2,none⟩=some (σ y)
 c3:w.cell? ⟨b,off+i*4+3,none⟩=some s
 kids:Fs w S s c
theorem Fs.drop:∀{f:F}{b off n C:Nat}(i:Nat),Fs w S (ς (some ⟨b,off,none⟩) n C) f→i≤n→∀A',(i=n∨A'=some ⟨b,off+i*4,none⟩)→Fs w S (ς A' (n-i) (C-i)) (f.drop i)
 | .nil,b,off,n,C,i,⟨A,C',e,h⟩,hi,A',hA=>by
  injection e with e1 e2 e3;subst e2;rw[F.drop_nil];exact⟨A',C-i,by rw[Nat.zero_sub],by omega⟩
 | .cons k x y c r,b,off,n,C,0,h,hi,A',hA=>by
  rcases hA with hA|hA
  ·subst hA;obtain⟨b',PO,n',C',s,e,_⟩:=h;injection e with _ e2 _;cases e2
  ·subst hA;simpa[F.drop]using h
 | .cons k x y c r,b,off,n,C,i+1,⟨b',PO,n',C',s,e,h1,h2,h3,hS,c0,c1,c2,c3,hk,hr⟩,hi,A',hA=>by
  injection e with e1 e2 e3;injection e1 with e1;injection e1 with e4 e5;subst e2;subst e3;subst e4;subst e5;by_cases hz:r=.nil
  ·subst hz;simp only[F.drop,F.drop_nil];simp only[F.len]at h1;subst h1;exact⟨A',C'+1-(i+1),by simp,by omega⟩
  ·have:=(hr (some ⟨b,off+4,none⟩) (.inr rfl)).drop i (by omega) A' (by
    rcases hA with hA|hA
    ·exact .inl (by omega)
    ·exact .inr (by rw[hA,show off+(i+1)*4=off+4+i*4 by omega]))
   simpa[F.drop,Nat.add_sub_add_right]using this
theorem Fs.at_{A:Option Addr}{n C:Nat}{i:Nat}{k:Int}{x y:ByteArray}{c r:F}(h:Fs w S (ς A n C) f)(hf:f.drop i=.cons k x y c r):∃b off s,A=some ⟨b,off,none⟩∧S b∧i<n∧At w S b off i k x y c s:=by
 have hlen:i<f.len:=by have:=F.Hz i f;rw[hf]at this;simp only[F.len]at this;omega
 obtain⟨A',C',e,_⟩:=h.slice;injection e with e1 e2 e3;subst e1;subst e2;subst e3;cases f with
 |nil=>simp[F.len]at hlen
 |cons k' x' y' c' r'=>have h':=h;obtain⟨b,off,n',C'',s',e,_,_,_,hS,_⟩:=h';injection e with e1 e2 e3;subst e1;subst e3;have hd:=h.drop i (by omega) (some ⟨b,off+i*4,none⟩) (.inr rfl);rw[hf]at hd;obtain⟨b2,PN,n2,C2,s,e,_,_,_,_,c0,c1,c2,c3,hk,_⟩:=hd;injection e with e1 e2 e3;injection e1 with e1;injection e1 with e4 e5;subst e4;subst e5;exact⟨b,off,s,rfl,hS,hlen,c0,c1,c2,c3,hk⟩
end
-- BEGIN LEVEL
theorem Qqp(s:ByteArray)(w:World):Calls prog 101 #[σ s] w fun e w'=>e = ρ (ι κ (Ql s:Int))∧w'=w:=by
 have hl:Ql s=Ql s:=rfl;conv at hl=>rhs;unfold Ql
 cases b0:(s.toList==[124,124])with
 |true =>
  have hv:Ql s=1:=by rw[hl];simp[b0]
  rw[hv];clear hv hl;go_enter func101,ntmps101;go_wp2;go_ret;exact⟨rfl,rfl⟩
 |false =>
 cases b1:(s.toList==[38,38])with
 |true =>
  have hv:Ql s=2:=by rw[hl];simp[b0,b1]
  rw[hv];clear hv hl;go_enter func101,ntmps101;go_wp2;go_ret;exact⟨rfl,rfl⟩
 |false =>
 cases b2:(s.toList==[61,61])with
 |true =>
  have hv:Ql s=3:=by rw[hl];simp[b0,b1,b2]
  rw[hv];clear hv hl;go_enter func101,ntmps101;go_wp2;go_ret;exact⟨rfl,rfl⟩
 |false =>
 cases b3:(s.toList==[33,61])with
 |true =>
  have hv:Ql s=3:=by rw[hl];simp[b0,b1,b2,b3]
  rw[hv];clear hv hl;go_enter func101,ntmps101;go_wp2;go_ret;exact⟨rfl,rfl⟩
 |false =>
 cases b4:(s.toList==[60])with
 |true =>
  have hv:Ql s=3:=by rw[hl];simp[b0,b1,b2,b3,b4]
  rw[hv];clear hv hl;go_enter func101,ntmps101;go_wp2;go_ret;exact⟨rfl,rfl⟩
 |false =>
 cases b5:(s.toList==[60,61])with
 |true =>
  have hv:Ql s=3:=by rw[hl];simp[b0,b1,b2,b3,b4,b5]
  rw[hv];clear hv hl;go_enter func101,ntmps101;go_wp2;go_ret;exact⟨rfl,rfl⟩
 |false =>
 cases b6:(s.toList==[62])with
 |true =>
  have hv:Ql s=3:=by rw[hl];simp[b0,b1,b2,b3,b4,b5,b6]
  rw[hv];clear hv hl;go_enter func101,ntmps101;go_wp2;go_ret;exact⟨rfl,rfl⟩
 |false =>
 cases b7:(s.toList==[62,61])with
 |true =>
  have hv:Ql s=3:=by rw[hl];simp[b0,b1,b2,b3,b4,b5,b6,b7]
  rw[hv];clear hv hl;go_enter func101,ntmps101;go_wp2;go_ret;exact⟨rfl,rfl⟩
 |false =>
 cases b8:(s.toList==[43])with
 |true =>
  have hv:Ql s=4:=by rw[hl];simp[b0,b1,b2,b3,b4,b5,b6,b7,b8]
  rw[hv];clear hv hl;go_enter func101,ntmps101;go_wp2;go_ret;exact⟨rfl,rfl⟩
 |false =>
 cases b9:(s.toList==[45])with
 |true =>
  have hv:Ql s=4:=by rw[hl];simp[b0,b1,b2,b3,b4,b5,b6,b7,b8,b9]
  rw[hv];clear hv hl;go_enter func101,ntmps101;go_wp2;go_ret;exact⟨rfl,rfl⟩
 |false =>
 cases YT:(s.toList==[124])with
 |true =>
  have hv:Ql s=4:=by rw[hl];simp[b0,b1,b2,b3,b4,b5,b6,b7,b8,b9,YT]
  rw[hv];clear hv hl;go_enter func101,ntmps101;go_wp2;go_ret;exact⟨rfl,rfl⟩
 |false =>
 cases EI:(s.toList==[94])with
 |true =>
  have hv:Ql s=4:=by rw[hl];simp[b0,b1,b2,b3,b4,b5,b6,b7,b8,b9,YT,EI]
  rw[hv];clear hv hl;go_enter func101,ntmps101;go_wp2;go_ret;exact⟨rfl,rfl⟩
 |false =>
 cases Lm:(s.toList==[42])with
 |true =>
  have hv:Ql s=5:=by rw[hl];simp[b0,b1,b2,b3,b4,b5,b6,b7,b8,b9,YT,EI,Lm]
  rw[hv];clear hv hl;go_enter func101,ntmps101;go_wp2;go_ret;exact⟨rfl,rfl⟩
 |false =>
 cases Ll:(s.toList==[47])with
 |true =>
  have hv:Ql s=5:=by rw[hl];simp[b0,b1,b2,b3,b4,b5,b6,b7,b8,b9,YT,EI,Lm,Ll]
  rw[hv];clear hv hl;go_enter func101,ntmps101;go_wp2;go_ret;exact⟨rfl,rfl⟩
 |false =>
 cases RF:(s.toList==[37])with
 |true =>
  have hv:Ql s=5:=by rw[hl];simp[b0,b1,b2,b3,b4,b5,b6,b7,b8,b9,YT,EI,Lm,Ll,RF]
  rw[hv];clear hv hl;go_enter func101,ntmps101;go_wp2;go_ret;exact⟨rfl,rfl⟩
 |false =>
 cases RD:(s.toList==[60,60])with
 |true =>
  have hv:Ql s=5:=by rw[hl];simp[b0,b1,b2,b3,b4,b5,b6,b7,b8,b9,YT,EI,Lm,Ll,RF,RD]
  rw[hv];clear hv hl;go_enter func101,ntmps101;go_wp2;go_ret;exact⟨rfl,rfl⟩
 |false =>
 cases NF:(s.toList==[62,62])with
 |true =>
  have hv:Ql s=5:=by rw[hl];simp[b0,b1,b2,b3,b4,b5,b6,b7,b8,b9,YT,EI,Lm,Ll,RF,RD,NF]
  rw[hv];clear hv hl;go_enter func101,ntmps101;go_wp2;go_ret;exact⟨rfl,rfl⟩
 |false =>
 cases TT:(s.toList==[38])with
 |true =>
  have hv:Ql s=5:=by rw[hl];simp[b0,b1,b2,b3,b4,b5,b6,b7,b8,b9,YT,EI,Lm,Ll,RF,RD,NF,TT]
  rw[hv];clear hv hl;go_enter func101,ntmps101;go_wp2;go_ret;exact⟨rfl,rfl⟩
 |false =>
 cases Ci:(s.toList==[38,94])with
 |true =>
  have hv:Ql s=5:=by rw[hl];simp[b0,b1,b2,b3,b4,b5,b6,b7,b8,b9,YT,EI,Lm,Ll,RF,RD,NF,TT,Ci]
  rw[hv];clear hv hl;go_enter func101,ntmps101;go_wp2;go_ret;exact⟨rfl,rfl⟩
 |false =>
 have hv:Ql s=0:=by rw[hl];simp[b0,b1,b2,b3,b4,b5,b6,b7,b8,b9,YT,EI,Lm,Ll,RF,RD,NF,TT,Ci]
 rw[hv];clear hv hl;go_enter func101,ntmps101;go_wp2;go_ret;exact⟨rfl,rfl⟩
-- END LEVEL
theorem Vc(w:World)(o1 o2:Obj):Below w.heap.size w ((w.alloc o1).alloc o2):=((QF _ _).alloc (QH _) _).alloc (by simp) _
theorem Q1k{w:World}{b:Nat}{x:_}(h:w.heap[b]?=some x):b<w.heap.size:=by
 rcases Nat.lt_or_ge b w.heap.size with h' |h'
 ·exact h'
 ·rw[Array.getElem?_eq_none h']at h;cases h
def JS(w:World)(g:Nat)(k:Int)(x y:ByteArray)(s:Value):Prop:=w.heap[g]?=some (θ #[ι κ k,σ x,σ y,s] 24 (0,0))
theorem JS.cells{w:World}{g:Nat}{k:Int}{x y:ByteArray}{s:Value}(h:JS w g k x y s) :
  w.cell? ⟨g,0,none⟩=some (ι κ k)∧w.cell? ⟨g,1,none⟩=some (σ x)∧w.cell? ⟨g,2,none⟩=some (σ y)∧w.cell? ⟨g,3,none⟩=some s:=by
 unfold JS at h;refine⟨?_,?_,?_,?_⟩ <;> simp[World.cell?,h]
theorem JS.below{w w':World}{g:Nat}{k:Int}{x y:ByteArray}{s:Value}(h:JS w g k x y s){B:Nat}(hb:Below B w w')(hg:g<B):JS w' g k x y s:=(hb.block g hg).trans h
theorem JS.lt{w:World}{g:Nat}{k:Int}{x y:ByteArray}{s:Value}(h:JS w g k x y s):g<w.heap.size:=Q1k h
theorem gi{f:F}{j:Nat}{k:Int}{x y:ByteArray}{c r:F}(h:f.drop j=.cons k x y c r):c.size<f.size:=by
 induction j generalizing f with
 |zero=>rw[show f=.cons k x y c r from h];simp only[F.size];omega
 |succ j ih =>
  cases f with
  |nil=>simp[F.drop]at h
  |cons k' x' y' c' r'=>have:=ih (f:=r') h;simp only[F.size];omega
theorem Fs.later{w w':World}{v:Value}{f:F}(h:Fs w (Lo w.heap.size) v f)(hb:Below w.heap.size w w'):Fs w' (Lo w'.heap.size) v f:=(h.below hb (QH _)).up hb.size
def Bg(k:Int)(x y:ByteArray)(n:Nat)(k':Int)(x' y':ByteArray)(n':Nat):Bool:=k==k'&&(x.toList==x'.toList&&(y.toList==y'.toList&&decide (n=n')))
def Y1(k:Int)(x y:ByteArray)(c:F)(k':Int)(x' y':ByteArray)(c':F):Bool:=k==k'&&(x.toList==x'.toList&&(y.toList==y'.toList&&same c c'))
theorem tM:∀{f g:F},same f g=true→f.len=g.len
 | .nil,.nil,_=>rfl
 | .nil,.cons ..,h=>by simp[same]at h
 | .cons ..,.nil,h=>by simp[same]at h
 | .cons k x y c r,.cons k' x' y' c' r',h=>by
  simp only[same,Rg]at h;simp only[F.len,tM h.2]
theorem Qpu(k:Int)(x y:ByteArray)(c r:F)(k':Int)(x' y':ByteArray)(c' r':F):same (.cons k x y c r) (.cons k' x' y' c' r')=(Y1 k x y c k' x' y' c'&&same r r'):=by
 simp only[same,Y1,Bool.and_assoc]
theorem Qka{k:Int}{x y:ByteArray}{c:F}{k':Int}{x' y':ByteArray}{c':F}(h:Bg k x y c.len k' x' y' c'.len=false):Y1 k x y c k' x' y' c'=false:=by
 unfold Y1;unfold Bg at h;cases hs:same c c' with
 |false=>simp
 |true=>rw[decide_eq_true (tM hs),Bool.and_true]at h;rw[Bool.and_true];exact h
theorem Qms{k:Int}{x y:ByteArray}{c:F}{k':Int}{x' y':ByteArray}{c':F}(h:Bg k x y c.len k' x' y' c'.len=true):Y1 k x y c k' x' y' c'=same c c'∧c.len=c'.len:=by
 unfold Bg at h;unfold Y1;simp only[Rg,decide_eq_true_eq]at h;obtain⟨h1,h2,h3,h4⟩:=h;rw[h1,h2,h3];exact⟨by simp,h4⟩
def rJ(b:Bool)(w:World)(e:Ending)(w':World):Prop:=e=ρ (τ b)∧Below w.heap.size w w'
open Mem
def xO(N:Nat):Prop:=∀(k:Int)(x y:ByteArray)(A:Option Addr)(n C:Nat)(c:F)(k':Int)(x' y':ByteArray)(A':Option Addr)(n' C':Nat)(c':F)(w:World),c.size≤N→Fs w (Lo w.heap.size) (ς A n C) c→Fs w (Lo w.heap.size) (ς A' n' C') c'→
 Calls prog 11 #[ξ #[ι κ k,σ x,σ y,ς A n C],ξ #[ι κ k',σ x',σ y',ς A' n' C']] w fun e w'=>rJ (Y1 k x y c k' x' y' c') w e w'
theorem Qmt(N:Nat)(ih:∀M,M<N→xO M):xO N:=by
 intro k x y A n C c k' x' y' A' n' C' c' w hN hf hf';have Ia:=Lib.hid ih;have b1:=Vc w (θ #[ι κ k,σ x,σ y,ς A n C] 24) (θ #[ι κ k',σ x',σ y',ς A' n' C'] 24);have HB:=Lib.hid b1;have JX:Hid (JS ((w.alloc (θ #[ι κ k,σ x,σ y,ς A n C] 24)).alloc (θ #[ι κ k',σ x',σ y',ς A' n' C'] 24)) w.heap.size k x y (ς A n C)):=(Below.heap_alloc _ _ _ (by simp)).trans (heap_alloc_new _ _);have QM:Hid (JS ((w.alloc (θ #[ι κ k,σ x,σ y,ς A n C] 24)).alloc (θ #[ι κ k',σ x',σ y',ς A' n' C'] 24)) (w.heap.size+1) k' x' y' (ς A' n' C')):=by
  have e:w.heap.size+1=(w.alloc (θ #[ι κ k,σ x,σ y,ς A n C] 24)).heap.size:=by simp
  rw[e];exact heap_alloc_new _ _
 have HF:=Lib.hid hf;have HF':=Lib.hid hf';obtain⟨_,_,e,YR,UN⟩:=hf.slice;injection e with q1 q2 q3;obtain⟨_,_,e',vQ,OL⟩:=hf'.slice;injection e' with q1' q2' q3';have XC:=Lib.hid q2;have Lq:=Lib.hid q2';have JU:n≤9223372036854775807:=by omega
 have OO:C≤9223372036854775807:=by omega
 have OM:C'≤9223372036854775807:=by omega
 have hc1:n≤C:=by omega
 have hc2:n'≤C':=by omega
 obtain⟨res,hres⟩:=Mem.ZB (Y1 k x y c k' x' y' c');rw[hres];have dN:=Lib.hid hres;clear ih hf hf' b1 hres q1 q2 q3 q1' q2' q3' YR vQ UN OL;cases hal:Bg k x y n k' x' y' n' with
 |false =>
  have HE:Hid (res=false):=by show _=_;rw[←dN.out,Qka (by rw[←XC.out,←Lq.out];exact hal)]
  unfold Bg at hal;cases hk:(k==k')with
  |false =>
   have hkn:(k != k')=true:=by rw[bne,hk];rfl
   clear hal;go_enter func11,ntmps11;go_wp2;go_ret;exact⟨by rw[HE.out];rfl,HB.out⟩
  |true =>
   have hkn:(k != k')=false:=by rw[bne,hk];rfl
   cases hx:(x.toList==x'.toList)with
   |false=>clear hal;go_enter func11,ntmps11;go_wp2;go_ret;exact⟨by rw[HE.out];rfl,HB.out⟩
   |true =>
    cases hy:(y.toList==y'.toList)with
    |false=>clear hal;go_enter func11,ntmps11;go_wp2;go_ret;exact⟨by rw[HE.out];rfl,HB.out⟩
    |true =>
     have hn:¬n=n':=by rw[hk,hx,hy]at hal;simpa using hal
     have hn':((n:Int)==(n':Int))=false:=by
      have:¬((n:Int)=(n':Int)):=by omega
      simpa using this
     have hnn:((n:Int) != (n':Int))=true:=by rw[bne,hn'];rfl
     clear hal;go_enter func11,ntmps11;go_wp2;go_ret;exact⟨by rw[HE.out];rfl,HB.out⟩
 |true =>
  obtain⟨ug,hll⟩:=Qms (c:=c) (c':=c') (by rw[←XC.out,←Lq.out];exact hal);have HR:Hid (same (c.drop 0) (c'.drop 0)=res):=by show same c c'=_;rw[←ug];exact dN.out
  have hnn:n=n':=by rw[XC.out,Lq.out];exact hll
  unfold Bg at hal;simp only[Rg,decide_eq_true_eq]at hal;obtain⟨hk,hx,hy,_⟩:=hal;have hkn:(k != k')=false:=by rw[bne,hk];rfl
  subst hnn;clear ug hll;go_enter func11,ntmps11;go_wp2;clear hk hx hy hkn
  go_loopw [5] (fun s5 wr=>∃j:Nat,j≤n∧s5=ι κ (j:Int)∧Hid (same (c.drop j) (c'.drop j)=res)∧Hid (Below w.heap.size w wr)∧Hid (JS wr w.heap.size k x y (ς A n C))∧Hid (JS wr (w.heap.size+1) k' x' y' (ς A' n C'))) (fun s5 _=>n-(intOf s5).toNat)
  case atStart=>exact⟨0,Nat.zero_le _,rfl,HR.out,HB.out,JX.out,QM.out⟩
  case round =>
   clear HR HB JX QM;obtain⟨j,hj,rfl,HR,HB,JX,QM⟩:=hrel;obtain⟨p0,p1,p2,p3⟩:=JX.out.cells;by_cases hlt:j<n
   ·have hlt':(j:Int)<(n:Int):=by omega
    have Mk:(0:Int)≤(j:Int):=by omega
    obtain⟨k1,x1,y1,c1,r1,hd1,DG⟩:=F.drop_cons (n:=j) (f:=c) (by rw[←XC.out];exact hlt);obtain⟨k2,x2,y2,c2,r2,hd2,Om⟩:=F.drop_cons (n:=j) (f:=c') (by rw[←Lq.out];exact hlt);have hw1:=HF.out.below HB.out (QH _);have hw2:=HF'.out.below HB.out (QH _);obtain⟨ba,oa,s1,rfl,VN,_,U'⟩:=hw1.at_ hd1;obtain⟨bb,ob,s2,rfl,hbb,_,XR⟩:=hw2.at_ hd2;obtain⟨Ak,Ck,rfl,_,_⟩:=U'.kids.slice;obtain⟨Al,Cl,rfl,_,_⟩:=XR.kids.slice;have hs1:=gi hd1;obtain⟨m1,Hh⟩:∃m,c1.len=m:=⟨_,rfl⟩;obtain⟨m2,hm2⟩:∃m,c2.len=m:=⟨_,rfl⟩;rw[Hh]at U';rw[hm2]at XR;have Oe:ba<wr.heap.size:=JQ VN HB.out.size;have hlb:bb<wr.heap.size:=JQ hbb HB.out.size;have yx:Hid (∀W,Below wr.heap.size wr W→(W.cell? ⟨ba,oa+j*4,none⟩=some (ι κ k1)∧W.cell? ⟨ba,oa+j*4+1,none⟩=some (σ x1)∧W.cell? ⟨ba,oa+j*4+2,none⟩=some (σ y1)∧W.cell? ⟨ba,oa+j*4+3,none⟩=some (ς Ak m1 Ck))∧
      (W.cell? ⟨bb,ob+j*4,none⟩=some (ι κ k2)∧W.cell? ⟨bb,ob+j*4+1,none⟩=some (σ x2)∧W.cell? ⟨bb,ob+j*4+2,none⟩=some (σ y2)∧W.cell? ⟨bb,ob+j*4+3,none⟩=some (ς Al m2 Cl))):=fun W hW =>
     ⟨⟨(hW.cell (p:=⟨ba,oa+j*4,none⟩) Oe).trans U'.c0,(hW.cell (p:=⟨ba,oa+j*4+1,none⟩) Oe).trans U'.c1,(hW.cell (p:=⟨ba,oa+j*4+2,none⟩) Oe).trans U'.c2,(hW.cell (p:=⟨ba,oa+j*4+3,none⟩) Oe).trans U'.c3⟩,
      (hW.cell (p:=⟨bb,ob+j*4,none⟩) hlb).trans XR.c0,(hW.cell (p:=⟨bb,ob+j*4+1,none⟩) hlb).trans XR.c1,(hW.cell (p:=⟨bb,ob+j*4+2,none⟩) hlb).trans XR.c2,(hW.cell (p:=⟨bb,ob+j*4+3,none⟩) hlb).trans XR.c3⟩
    have HX:Hid (∀W,Below wr.heap.size wr W→JS W w.heap.size k x y (ς (some ⟨ba,oa,none⟩) n C)∧JS W (w.heap.size+1) k' x' y' (ς (some ⟨bb,ob,none⟩) n C')):=fun W hW=>⟨JX.out.below hW JX.out.lt,QM.out.below hW QM.out.lt⟩
    obtain⟨sm,hsm⟩:=Mem.ZB (Y1 k1 x1 y1 c1 k2 x2 y2 c2)
    have HC:Hid (∀W,Below wr.heap.size wr W→Calls prog 11 #[ξ #[ι κ k1,σ x1,σ y1,ς Ak m1 Ck],ξ #[ι κ k2,σ x2,σ y2,ς Al m2 Cl]] W fun e w'=>rJ sm W e w'):=fun W hW=>by
     rw[←hsm];have hs:=Nat.le_trans HB.out.size hW.size;exact Ia.out c1.size (by omega) k1 x1 y1 Ak m1 Ck c1 k2 x2 y2 Al m2 Cl c2 W (QH _) ((U'.kids.below hW HB.out.size).up hs) ((XR.kids.below hW HB.out.size).up hs)
    have BN:=HR.out;rw[hd1,hd2,Qpu,hsm]at BN;have CM:Hid ((sm&&same (c.drop (j+1)) (c'.drop (j+1)))=res):=by show _=_;rw[DG,Om];exact BN
    clear hd1 DG hd2 Om hw1 hw2 VN hbb hlb Oe U' XR hs1 Hh hm2 hsm BN HR JX QM;go_wp2;clear p0 p1 p2 p3;refine Qz [Cd.is (π (some ⟨w.heap.size,3,none⟩)),Cd.is (ς (some ⟨ba,oa,none⟩) n C),Cd.is (ι κ (j:Int)),Cd.is (π (some ⟨ba,oa+j*4,none⟩)),Cd.is (ξ #[ι κ k1,σ x1,σ y1,ς Ak m1 Ck]),Cd.is (π (some ⟨w.heap.size+1,3,none⟩)),Cd.is (ς (some ⟨bb,ob,none⟩) n C'),Cd.is (ι κ (j:Int)),Cd.is (π (some ⟨bb,ob+j*4,none⟩)),Cd.is (ξ #[ι κ k2,σ x2,σ y2,ς Al m2 Cl]),Cd.is (τ sm),Cd.is (τ (!sm))] ?steps ?behind
    case steps =>
     intro xv W hW;refine⟨?s0,?s1,?s2,?s3,?s4,?s5,?s6,?s7,?s8,?s9,?GH,?Sg,trivial⟩;all_goals intro hd K hK
     all_goals(try simp only[Act.put,List.setIfInBounds_toArray,List.set_cons_succ,List.set_cons_zero]at hK)
     case s0|s2|s5|s7=>clear hd;go_simp;exact hK.out _ _ (QF _ _) rfl
     case s1=>have hx0:xv 0=π (some ⟨w.heap.size,3,none⟩):=hd 0;clear hd;rw[hx0]at hK⊢;obtain⟨hq0,hq1,hq2,XA⟩:=(HX.out W hW).1.cells;go_simp;exact hK.out _ _ (QF _ _) rfl
     case s3=>have hx1:xv 1=ς (some ⟨ba,oa,none⟩) n C:=hd 1;have hx2:xv 2=ι κ (j:Int):=hd 2;clear hd;rw[hx1]at hK⊢;rw[hx2]at hK⊢;go_simp;exact hK.out _ _ (QF _ _) rfl
     case s4=>have hx3:xv 3=π (some ⟨ba,oa+j*4,none⟩):=hd 3;clear hd;rw[hx3]at hK⊢;obtain⟨hq0,hq1,hq2,XA⟩:=(yx.out W hW).1;go_simp;exact hK.out _ _ (QF _ _) rfl
     case s6=>have ZY:xv 5=π (some ⟨w.heap.size+1,3,none⟩):=hd 5;clear hd;rw[ZY]at hK⊢;obtain⟨hq0,hq1,hq2,XA⟩:=(HX.out W hW).2.cells;go_simp;exact hK.out _ _ (QF _ _) rfl
     case s8=>have JK:xv 6=ς (some ⟨bb,ob,none⟩) n C':=hd 6;have VM:xv 7=ι κ (j:Int):=hd 7;clear hd;rw[JK]at hK⊢;rw[VM]at hK⊢;go_simp;exact hK.out _ _ (QF _ _) rfl
     case s9=>have UI:xv 8=π (some ⟨bb,ob+j*4,none⟩):=hd 8;clear hd;rw[UI]at hK⊢;obtain⟨hq0,hq1,hq2,XA⟩:=(yx.out W hW).2;go_simp;exact hK.out _ _ (QF _ _) rfl
     case GH=>have ZP:xv 4=ξ #[ι κ k1,σ x1,σ y1,ς Ak m1 Ck]:=hd 4;have IC:xv 9=ξ #[ι κ k2,σ x2,σ y2,ς Al m2 Cl]:=hd 9;clear hd;rw[ZP]at hK⊢;rw[IC]at hK⊢;go_simp;go_at_call 11;refine(HC.out W hW).mono ?_;rintro e w' ⟨rfl,hb⟩;exact hK.out _ _ hb rfl
     case Sg=>have Dk:xv 10=τ sm:=hd 10;clear hd;rw[Dk]at hK⊢;go_simp;exact hK.out _ _ (QF _ _) rfl
    case behind =>
     intro xv W hW hx;have h11:xv 11=τ (!sm):=hx 11;rw[h11];have Hc:=QN HB hW;have JD:Hid (JS W w.heap.size k x y (ς (some ⟨ba,oa,none⟩) n C)∧JS W (w.heap.size+1) k' x' y' (ς (some ⟨bb,ob,none⟩) n C')):=HX.out W hW;clear hx hW h11 HX yx HC;cases sm with
     |false =>
      have HE:Hid (res=false):=by show _=_;rw[←CM.out];rfl
      go_wp2;go_ret;exact⟨by rw[HE.out];rfl,Hc.out⟩
     |true =>
      have HE:Hid (same (c.drop (j+1)) (c'.drop (j+1))=res):=by show _=_;rw[←CM.out];rfl
      go_wp2
      go_roundw
      case rel=>exact⟨j+1,by omega,by go_num,HE.out,Hc.out,JD.out.1,JD.out.2⟩
      case measure=>simp[intOf];omega
   ·have hlt':¬(j:Int)<(n:Int):=by omega
    have HE:Hid (res=true):=by show _=_;rw[←HR.out,F.JH _ _ (by rw[←XC.out];omega),F.JH _ _ (by rw[←Lq.out];omega)];rfl
    clear hlt;go_wp2;go_ret;exact⟨by rw[HE.out];rfl,HB.out⟩
theorem mi(N:Nat):xO N:=by
 induction N using Nat.strongRecOn with
 |_ N ih=>exact Qmt N ih
