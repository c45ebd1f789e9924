import Derived.Test.YtmepekognmlblaaGreatDoorG05
import Derived.Test.YtmepekognmlblaaGreatDoorG06
set_option linter.unusedVariables false
open _root_.Nat renaming zero_add→ZL
namespace Go.Proofs.YtmepekognmlblaaGreatDoor
namespace Match
open Tree Shape
structure Sd where
 T:F
 ns:List Nat
namespace Sd
def nd(s:Sd):List Nd:=nodes s.T
def n(s:Sd):Nat:=s.nd.length
def kid(s:Sd)(x:Nat):List Nat:=(Z7 0 s.T).getD x []
def par(s:Sd):List Int:=Jn (-1) 0 s.T
def no(s:Sd)(x:Nat):Nat:=s.ns.getD x 0
def at_(s:Sd)(x:Nat):Nd:=s.nd.getD x ⟨0,.empty,.empty,.nil⟩
def sz(s:Sd)(x:Nat):Nat:=(s.at_ x).size
def wh(s:Sd)(m:Nat):List Nat:=(List.range s.n).filter fun p=>s.no p==m
end Sd
abbrev St:=List Int×List Int
def QQ(M:List Int)(x:Nat):Bool:=decide (M.getD x 0<0)
def Kv(M:List Int)(x y:Nat):Nat→List Int
 |0=>M
 |i+1=>(Kv M x y i).set (x+i) ((y+i:Nat):Int)
section
variable (a b:Sd)
def JU(x y:Nat):Bool:=a.no x==b.no y
def Q2(x y:Nat):Nat:=if JU a b x y then a.sz x else 1
def QK(M:St)(x y:Nat):St:=(Kv M.1 x y (Q2 a b x y),Kv M.2 y x (Q2 a b x y))
def Xm(x y:Nat):Bool:=decide (0<(a.kid x).length)&&decide (0<(b.kid y).length)&&JU a b ((a.kid x).getD ((a.kid x).length-1) 0) ((b.kid y).getD ((b.kid y).length-1) 0)
def Kn(s o:Sd)(p q:Nat):Bool:=!(o.sz q==1)&&(s.wh (o.no q)).any fun r=>decide (p+1≤r)&&decide (r<p+s.sz p)
def En(k:Int):Bool:=k==4||k==5||k==6||k==7||k==14||k==16
def Ef:Nat→Nat→Nat→Nat→Nat
 |0,_,_,v=>v
 |f+1,x,y,v =>
  if(a.at_ x).k=(b.at_ y).k then
   (if(a.at_ x).c.len=0∨(b.at_ y).c.len=0 then v+1+(if(a.at_ x).x.toList=(b.at_ y).x.toList then 1 else 0)
    else Ef f (x+1) (y+1) (v+1+(if(a.at_ x).x.toList=(b.at_ y).x.toList then 1 else 0)))
  else v
def Es(x y:Nat):Nat:=Ef a b 4 x y (if Xm a b x y then 2 else 0)
def near(M:St)(x y:Nat):Nat :=
 if !QQ M.1 x||(!QQ M.2 y || !((a.at_ x).k==(b.at_ y).k))then 0
 else if JU a b x y then 16
 else if Kn a b x y||Kn b a y x then 0
 else if En (a.at_ x).k&&(!((a.at_ x).x.toList==(b.at_ y).x.toList) && !Xm a b x y)then 0
 else Es a b x y
def front:St→List Nat→List Nat→St×List Nat×List Nat
 |M,x::xs,y::ys=>if near a b M x y=16 then front (QK a b M x y) xs ys else(M,x::xs,y::ys)
 |M,[],ys=>(M,[],ys)
 |M,xs,[]=>(M,xs,[])
def back:Nat→St→List Nat→List Nat→St×List Nat×List Nat
 |0,M,xs,ys=>(M,xs,ys)
 |f+1,M,xs,ys =>
  if 0<xs.length∧0<ys.length∧near a b M (xs.getD (xs.length-1) 0) (ys.getD (ys.length-1) 0)=16 then
   back f (QK a b M (xs.getD (xs.length-1) 0) (ys.getD (ys.length-1) 0)) (xs.take (xs.length-1)) (ys.take (ys.length-1))
  else(M,xs,ys)
def Qzo(v:Nat→Nat→Nat)(p q i:Nat)(prev:Nat→Nat):Nat→Nat
 |0=>0
 |j+1=>max (max (prev (j+1)) (Qzo v p q i prev j)) (v (p-(i+1)) (q-(j+1))+prev j)
def QU(v:Nat→Nat→Nat)(p q:Nat):Nat→Nat→Nat
 |0=>fun _=>0
 |i+1=>Qzo v p q i (QU v p q i)
theorem Qq0(v:Nat→Nat→Nat)(p q j:Nat):QU v p q 0 j=0:=rfl
theorem Qq1(v:Nat→Nat→Nat)(p q:Nat):∀i,QU v p q i 0=0
 |0=>rfl
 |_+1=>rfl
theorem Qq2(v:Nat→Nat→Nat)(p q i j:Nat):QU v p q (i+1) (j+1)=max (max (QU v p q i (j+1)) (QU v p q (i+1) j)) (v (p-(i+1)) (q-(j+1))+QU v p q i j):=rfl
def QR(v:Nat→Nat→Nat)(xs ys:List Nat):Nat→St→Nat→Nat→St
 |0,M,_,_=>M
 |f+1,M,i,j =>
  if i<xs.length∧j<ys.length then
   (if 0<v i j∧QU v xs.length ys.length (xs.length-i) (ys.length-j)=v i j+QU v xs.length ys.length (xs.length-(i+1)) (ys.length-(j+1))then QR v xs ys f (QK a b M (xs.getD i 0) (ys.getD j 0)) (i+1) (j+1)
    else if QU v xs.length ys.length (xs.length-i) (ys.length-j)=QU v xs.length ys.length (xs.length-(i+1)) (ys.length-j)then QR v xs ys f M (i+1) j
    else QR v xs ys f M i (j+1))
  else M
def piece(M:St)(xs ys:List Nat):St:=QR a b (fun i j=>near a b M (xs.getD i 0) (ys.getD j 0)) xs ys (xs.length+ys.length) M 0 0
def pieces:Nat→St→List Nat→List Nat→St
 |0,M,_,_=>M
 |f+1,M,xs,ys=>if 0<xs.length∧0<ys.length then pieces f (piece a b M (xs.take (min 256 xs.length)) (ys.take (min 256 ys.length))) (xs.drop (min 256 xs.length)) (ys.drop (min 256 ys.length))else M
def YV(M:St)(xs ys:List Nat):St :=
 let p:=front a b M xs ys
 let q:=back a b p.2.1.length p.1 p.2.1 p.2.2
 pieces a b q.2.1.length q.1 q.2.1 q.2.2
def NJ(s:Sd)(M:List Int)(row:List Nat)(m:Nat):List Nat:=(List.range row.length).filter fun i=>QQ M (row.getD i 0)&&s.no (row.getD i 0)==m
def find(row:List Nat)(v:Int):Option Nat:=if row.any (fun q=>((q:Nat):Int)==v)then some (row.countP fun q=>decide (((q:Nat):Int)<v))else none
def V2(M:St)(xs ys:List Nat)(i:Nat):List (Nat×Nat) :=
 if QQ M.1 (xs.getD i 0)then
  (if(NJ a M.1 xs (a.no (xs.getD i 0))).length=1∧(NJ b M.2 ys (a.no (xs.getD i 0))).length=1 then[(i,(NJ b M.2 ys (a.no (xs.getD i 0))).getD 0 0)]else[])
 else match find ys (M.1.getD (xs.getD i 0) 0)with
  |some j=>[(i,j)]
  |none=>[]
def Kq(M:St)(xs ys:List Nat):List (Nat×Nat):=(List.range xs.length).flatMap (V2 a b M xs ys)
end
abbrev NP:=Nat×Nat
def NH(l:List NP)(ends:List Nat)(y:Nat):Nat:=ends.countP fun e=>decide ((l.getD e (0,0)).2≤y)
def Y7(l:List NP)(s:List Nat×List Nat)(i:Nat):List Nat×List Nat :=
 let k:=NH l s.1 (l.getD i (0,0)).2
 ((if k=s.1.length then s.1++[i]else s.1).set k i,if 0<k then s.2.set i (s.1.getD (k-1) 0)else s.2)
def Q7(l:List NP):Nat→List Nat×List Nat
 |0=>([],List.replicate l.length 0)
 |i+1=>Y7 l (Q7 l i) i
def Yo(l:List NP)(before:List Nat):Nat→Nat→List NP→List NP
 |0,_,out=>out
 |k+1,e,out=>Yo l before k (before.getD e 0) (l.getD e (0,0)::out)
def Vo(l:List NP):List NP :=
 let s:=Q7 l l.length
 Yo l s.2 s.1.length (s.1.getD (s.1.length-1) 0) []
section
variable (a b:Sd)
def X8(xs ys:List Nat):St→Nat→Nat→List NP→St
 |M,f,g,[]=>YV a b M (xs.drop f) (ys.drop g)
 |M,f,g,p::r=>X8 xs ys (QK a b (YV a b M ((xs.take p.1).drop f) ((ys.take p.2).drop g)) (xs.getD p.1 0) (ys.getD p.2 0)) (p.1+1) (p.2+1) r
def Ec(M:St)(xs ys:List Nat):St:=X8 a b xs ys M 0 0 (Vo (Kq a b M xs ys))
def ZJ:Nat→St→Nat→St
 |0,M,_=>M
 |f+1,M,x=>ZJ f (if 0≤M.1.getD x 0∧JU a b x (M.1.getD x 0).toNat=false then Ec a b M (a.kid x) (b.kid (M.1.getD x 0).toNat)else M) (x+1)
end
abbrev Ky:=Int×ByteArray×Int
def recv(s:Sd)(p:Nat):Int:=(s.kid ((s.kid p).getD 0 0)).foldl (fun _ q=>((s.no q:Nat):Int)) (-1)
def keyOf(s:Sd)(p:Nat):Option Ky :=
 if(s.at_ p).k=2 then some (2,.empty,-1)
 else if(s.at_ p).k=4∨(s.at_ p).k=5∨(s.at_ p).k=6 then some ((s.at_ p).k,(s.at_ p).x,-1)
 else if(s.at_ p).k=7 then some (7,(s.at_ p).x,recv s p)
 else none
def items(s:Sd)(k:Ky):List Nat:=(s.kid 0).filter fun p=>decide (keyOf s p=some k)
section
variable (a b:Sd)
def Zw:St→List Nat→St
 |M,[]=>M
 |M,x::r=>match keyOf a x with
  |none=>Zw M r
  |some k=>if(items a k).length=1∧(items b k).length=1 then Zw (QK a b M x ((items b k).getD 0 0)) r else Zw M r
end
def X6(M:List Int):List Nat→List Int→List Nat
 |acc,[]=>acc
 |acc,p::r=>X6 M (acc++[if acc.length=0∨QQ M p.toNat=false then p.toNat else acc.getD p.toNat 0]) r
def Q3(s:Sd)(M:List Int):List Nat:=X6 M [] s.par
def Va(s:Sd)(ov:List Nat)(p:Nat):Bool:=decide (s.par.getD p 0=((ov.getD p 0:Nat):Int))
def Xd(s:Sd)(M:List Int)(ov:List Nat)(o m:Nat):List Nat :=
 (List.range s.n).filter (fun p=>QQ M p&&(Va s ov p&&(ov.getD p 0==o&&s.no p==m)))++(List.range s.n).filter (fun p=>QQ M p&&(!Va s ov p&&(ov.getD p 0==o&&s.no p==m)))
def Jt(s:Sd)(M:List Int):List Nat:=(List.range s.n).filter fun p=>QQ M p
def ahead(s:Sd)(p q:Nat):Bool:=decide (s.sz q<s.sz p)||(decide (s.sz p=s.sz q)&&decide (p<q))
def U6(s:Sd)(p:Nat):List Nat→List Nat
 |[]=>[p]
 |q::r=>if ahead s q p then q::U6 s p r else p::q::r
def J7(s:Sd)(l:List Nat):List Nat:=l.foldl (fun acc p=>U6 s p acc) []
section
variable (a b:Sd)
def Ys(KP XS:List Nat)(x:Nat):St→List Nat→St
 |M,[]=>M
 |M,y::r=>if QQ M.2 y&&(Va a KP x||Va b XS y)then QK a b M x y else Ys KP XS x M r
def Yc(KP XS:List Nat)(sp:Nat→Nat→List Nat):St→List Nat→St
 |M,[]=>M
 |M,x::r=>Yc KP XS sp (if QQ M.1 x then Ys a b KP XS x M (sp (M.1.getD (KP.getD x 0) 0).toNat (a.no x))else M) r
def Y9(M:St):St:=Yc a b (Q3 a M.1) (Q3 b M.2) (Xd b M.2 (Q3 b M.2)) M (J7 a (Jt a M.1))
def Ki(M:List Int):List P2:=(List.range M.length).flatMap fun x=>if 0≤M.getD x 0 then[((x:Int),M.getD x 0)]else[]
def Kz:St:=(List.replicate a.n (-1),List.replicate b.n (-1))
def V4(rt:Bool):St:=Y9 a b (ZJ a b a.n (if rt then Zw a b (QK a b (Kz a b) 0 0) (a.kid 0)else QK a b (Kz a b) 0 0) 0)
end
end Match
namespace Mem
variable {P:Program}{Q:Exit→Act→World→Prop}
def waits(l:List Oper)(s i:Nat):Bool:=((l[s]?).map fun o=>o.after.any fun e=>Region.binds .any e&&e.on==i).getD false
def Ey(P:Program)(l:List Oper)(t0:Array Value)(Q:Exit→Act→World→Prop)(s:Nat)(S:World→Prop){T:World→World→Prop}(Φ:List (Cd T))(x:Nat→Value)(a:Act)(W:World):Nat→List Oper→Prop
 |_,[]=>True
 |i,o::os=>((∀j,waits l j i=true→x j=Eu l t0 j)→(waits l s i=true∨i=s→S W)→(∀j,(o.after.any fun e=>Region.binds .any e&&e.on==j)=true→(YA Φ j).p (x j) W)→∀K:Act→World→Prop,Shut (∀v W',T W W'→(i=s∨(S W→S W'))→(YA Φ i).p v W'→K (a.put o.dst v) W')→Jb P l Q o K a W)∧Ey P l t0 Q s S Φ x a W (i+1) os
theorem Ey.get{l:List Oper}{t0:Array Value}{s:Nat}{S:World→Prop}{T:World→World→Prop}{Φ:List (Cd T)}{x:Nat→Value}{a:Act}{W:World}:∀(os:List Oper)(k i:Nat)(o:Oper),Ey P l t0 Q s S Φ x a W k os→os[i]?=some o→
 ((∀j,waits l j (k+i)=true→x j=Eu l t0 j)→(waits l s (k+i)=true∨k+i=s→S W)→(∀j,(o.after.any fun e=>Region.binds .any e&&e.on==j)=true→(YA Φ j).p (x j) W)→∀K:Act→World→Prop,Shut (∀v W',T W W'→(k+i=s∨(S W→S W'))→(YA Φ (k+i)).p v W'→K (a.put o.dst v) W')→Jb P l Q o K a W)
 |[],_,_,_,_,h=>by simp at h
 |p::os,k,0,o,hs,h=>by
  exact c56
 |p::os,k,i+1,o,hs,h=>by
  have:=Ey.get os (k+1) i o hs.2 (by simpa using h);rwa[show k+1+i=k+(i+1)by omega]at this
theorem Qrx{l:List Oper}{s:Nat}{S:World→Prop}{T:World→World→Prop}{Φ:List (Cd T)}{a0:Act}{w1:World}(hn:(Xs l).Nodup)(he:Z2 l=true)(htr:∀W1 W2 W3,T W1 W2→T W2 W3→T W1 W3)
 (hsteps:∀x W,T w1 W→∀a,a=(⟨Qi x 0 l a0.tmps,a0.defers⟩:Act)→Ey P l a0.tmps Q s S Φ x a W 0 l)
 (hdone:∀x W,T w1 W→(∀i,i<l.length→(YA Φ i).p (x i) W)→∀a,a=(⟨Qi x 0 l a0.tmps,a0.defers⟩:Act)→Q .normal a W) :
 ∀(fuel:Nat)(listed:Array Bool)(x:Nat→Value)(a:Act)(W:World),Su listed l.length=fuel→a=⟨Qi x 0 l a0.tmps,a0.defers⟩→T w1 W→(∀i,i<l.length→listed.getD i true=true→(YA Φ i).p (x i) W)→
  (listed.getD s true=false→S W)→(∀j,j<l.length→listed.getD j true=true→∀i,waits l j i=true→listed.getD i true=true)→(l.length≤listed.size)→(∀j,j<l.length→listed.getD j true=false→x j=Eu l a0.tmps j)→
  wpAny P .any l.toArray Q fuel listed a W:=by
 have all:∀listed:Array Bool,Region.ready .any l.toArray listed=[]→∀i,i<l.length→listed.getD i true=true:=by
  intro listed hr i
  induction i using Nat.strongRecOn with
  |_ i ih =>
   intro hi;by_cases hl:listed.getD i true=true
   ·exact hl
   ·exfalso
    have hm:i∈Region.ready .any l.toArray listed:=mem_ready.2 ⟨by simpa using hl,l[i],by simp[hi],fun e hm hb=>by
     have h1:=List.all_eq_true.1 he i (List.mem_range.2 hi);simp only[List.getElem?_eq_getElem hi]at h1;have h2:=Array.all_eq_true_iff_forall_mem.1 h1 e hm;simp only[hb,Bool.not_true,Bool.false_or,decide_eq_true_eq]at h2;have h3:=ih e.on h2 ω;rcases Nat.lt_or_ge e.on listed.size with h' |h'
     ·simpa[h']using h3
     ·exfalso;have h4:listed.getD i true=true:=by simp[Array.getElem?_eq_none (show listed.size≤i by omega)]
      exact hl h4⟩
    rw[hr]at hm;cases hm
 intro fuel
 induction fuel with
 |zero =>
  intro listed x a W hf ha hT hx _ _ _ _;have hall:=Gc hf;refine⟨?_,hdone x W hT (fun i hi=>hx i hi (hall i hi)) a ha⟩;cases hr:Region.ready .any l.toArray listed with
  |nil=>rfl
  |cons i rs =>
   exfalso;obtain⟨h0,o,ho,_⟩:=mem_ready.1 (show i∈Region.ready .any l.toArray listed by rw[hr];exact List.mem_cons_self ..);have hi:i<l.length:=by have:=(Array.getElem?_eq_some_iff.1 ho).1;simpa using this
   rw[hall i hi]at h0;cases h0
 |succ fuel ih =>
  intro listed x a W hf ha hT hx hS hws hsz hin;refine⟨fun hr=>hdone x W hT (fun i hi=>hx i hi (all listed hr i hi)) a ha,fun i hi=>?_⟩;obtain⟨h0,o,ho,PM⟩:=mem_ready.1 hi;have ho':l[i]?=some o:=by simpa using ho
  have hil:i<l.length:=(List.getElem?_eq_some_iff.1 ho').1
  have JN:∀j,(o.after.any fun e=>Region.binds .any e&&e.on==j)=true→listed.getD j true=true∧j<i:=fun j hj=>by
   rw[←Array.any_toList,List.any_eq_true]at hj;obtain⟨e,hm0,hb⟩:=hj;have hm:e∈o.after:=Array.mem_toList_iff.1 hm0;simp only[Bool.and_eq_true,beq_iff_eq]at hb;have h1:=PM e hm hb.1;rw[hb.2]at h1;have hjl:j<listed.size:=by
    rcases Nat.lt_or_ge j listed.size with h' |h'
    ·exact h'
    ·simp[Array.getElem?_eq_none h']at h1
   exact c29
  have hst:=Ey.get l 0 i o (hsteps x W hT a ha) ho' (fun j hw=>by
   rw[ZL]at hw;have hsl:j<l.length:=by
    unfold waits at hw;rcases Nat.lt_or_ge j l.length with h' |h'
    ·exact h'
    ·exact c109
   refine hin j hsl ?_;by_cases hl:listed.getD j true=true
   ·exfalso;rw[hws j hsl hl i hw]at h0;cases h0
   ·simpa using hl) (fun hw=>by
   rw[ZL]at hw;rcases hw with hw|hw
   ·refine hS ?_;by_cases hl:listed.getD s true=true
    ·exfalso;have hsl:s<l.length:=by
      unfold waits at hw;rcases Nat.lt_or_ge s l.length with h' |h'
      ·exact h'
      ·exact c109
     rw[hws s hsl hl i hw]at h0;cases h0
    ·simpa using hl
   ·subst hw;exact hS h0)
   (fun j hj=>hx j (by have:=(JN j hj).2;omega) (JN j hj).1)
   (fun a' W'=>wpAny P .any l.toArray Q fuel (listed.setIfInBounds i true) a' W')
   (by
    intro v W' gi JD hv;rw[ZL]at hv JD;refine ih (listed.setIfInBounds i true) (Qq x i v) _ W' (by have:=Ui h0 hil;omega) ?_ (htr _ _ _ hT gi) (fun j hj hl=>?_) (fun hl=>?_) (fun q kK hl j hw=>?_) (by simpa using hsz) (fun j hjl hl=>?_)
    ·rw[ha];cases hd:o.dst with
     |none =>
      simp only[Act.put]
      congr 1
      have key:∀(os:List Oper)(k m:Nat)(t:Array Value),os[m]?=some o→Qi (Qq x (k+m) v) k os t=Qi x k os t:=by
       intro os
       induction os with
       |nil=>intro k m t h;rfl
       |cons p os Fg =>
        intro k m t h;cases m with
        |zero=>simp only[List.getElem?_cons_zero,Option.some.injEq]at h;subst h;simp only[Qi,hd];exact Vv os (k+1) _ fun j hj=>by simp only[Qq];rw[if_neg ω]
        |succ m =>
         simp only[Qi];have e1:Qq x (k+(m+1)) v k=x k:=by simp only[Qq];rw[if_neg ω]
         exact c57
      have:=key l 0 i a0.tmps ho';rw[ZL]at this;exact this.symm
     |some d =>
      simp only[Act.put]
      congr 1
      have:=K8 (x:=x) (v:=v) l 0 i o a0.tmps hn ho' hd;rw[ZL]at this;exact this.symm
    ·by_cases VK:j=i
     ·subst VK;simpa[Qq]using hv
     ·have e1:Qq x i v j=x j:=by simp only[Qq];rw[if_neg VK]
      rw[e1];rw[getD_set_ne true (Ne.symm VK)]at hl;exact(YA Φ j).mono _ _ _ gi (hx j hj hl)
    ·by_cases XT:i=s
     ·subst XT;exfalso;simp[show i<listed.size by omega]at hl
     ·rw[getD_set_ne true XT]at hl;exact(JD.resolve_left XT) (hS hl)
    ·by_cases VK:j=i
     ·exact c165
     ·rw[getD_set_ne true (Ne.symm VK)];by_cases XT:i=q
      ·exact c77
      ·exact c121
    ·by_cases VK:j=i
     ·subst VK;exfalso;simp[show j<listed.size by omega]at hl
     ·have e1:Qq x i v j=x j:=by simp only[Qq];rw[if_neg VK]
      rw[e1];rw[getD_set_ne true (Ne.symm VK)]at hl;exact hin j hjl hl)
  unfold Jb at hst;unfold wpOp;simp only[ho];split
  ·rename_i hw
   exact c132
  ·rename_i hw
   rw[if_neg hw]at hst;exact hst
theorem Qbq{id:Nat}{l:List Oper}{a0:Act}{w:World}(s:Nat)(S:World→Prop)(T:World→World→Prop)(Φ:List (Cd T))(hm:P.follows .mixedOrders=true)(hn:(Xs l).Nodup)(he:Z2 l=true)
 (hS:S w.drew) (hrf:T w.drew w.drew) (htr:∀W1 W2 W3,T W1 W2→T W2 W3→T W1 W3)
 (hsteps:∀x W,T w.drew W→∀a,a=(⟨Qi x 0 l a0.tmps,a0.defers⟩:Act)→Ey P l a0.tmps Q s S Φ x a W 0 l)
 (hdone:∀x W,T w.drew W→(∀i,i<l.length→(YA Φ i).p (x i) W)→∀a,a=(⟨Qi x 0 l a0.tmps,a0.defers⟩:Act)→Q .normal a W) :
 (Code.region id l.toArray true).wp P Q a0 w:=by
 refine wp_region_any hm (Qrx (a0:=a0) (w1:=w.drew) (Φ:=Φ) (s:=s) (S:=S) hn he htr hsteps hdone l.toArray.size (Array.replicate l.toArray.size false) (Eu l a0.tmps) a0 w.drew ?_ ?_ hrf ?_ (fun _=>hS) ?_ ?_ (fun _ _ _=>rfl))
 ·exact c91
 ·rw[Ke]
 ·intro i hi h;exfalso;simp[hi]at h
 ·intro j hsl h;exfalso;simp[hsl]at h
 ·simp
