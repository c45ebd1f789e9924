import Derived.Test.YtmepekognmlblaaGreatDoorP03
import Derived.Test.YtmepekognmlblaaGreatDoorP05
import Derived.Test.YtmepekognmlblaaGreatDoorP06
import Derived.Test.YtmepekognmlblaaGreatDoorP07
import Derived.Shelf.Strconv.AppendIntPublic10
set_option maxHeartbeats 4000000
set_option linter.unusedVariables false
open Go.Proofs.Tryz Go.ChangeShapes Go.WideShapes Go.ChangeAt Go.RowKit Go.Shelf
open _root_.Nat renaming zero_add→ZL
open Go.Value renaming string→σ,int→ι,slice→ς,bool→τ,agg→ξ
open Go.IntKind renaming i64→γ
open Go.Ending renaming returned→ρ
namespace Go.Proofs.YtmepekognmlblaaGreatDoor
namespace Match
abbrev P2:=Int×Int
def Kj(ka kb:List Int)(last:Int)(used:List Int)(p:P2):Bool :=
 decide (last<p.1)&&decide (p.1<(ka.length:Int))&&decide (0≤p.2)&&decide (p.2<(kb.length:Int)) && !used.contains p.2&&decide (ka.getD p.1.toNat 0=kb.getD p.2.toNat 0)
def X7(ka kb:List Int):Int→List Int→List P2→Bool
 |_,_,[]=>true
 |last,used,p::r=>Kj ka kb last used p&&X7 ka kb p.1 (p.2::used) r
def Z9(ka kb:List Int)(L:List P2):Bool:=(L.head? == some (0,0))&&X7 ka kb (-1) [] L
def V7(n:Nat)(used:List Int):List Bool:=(List.range n).map fun(j:Nat)=>used.contains (j:Int)
theorem Xv(n:Nat)(used:List Int):(V7 n used).length=n:=by simp[V7]
theorem Ų(n:Nat):V7 n []=List.replicate n false:=by
 unfold V7;rw[List.eq_replicate_iff];refine⟨ψ,fun b hb=>?_⟩;obtain⟨j,_,rfl⟩:=List.mem_map.1 hb;rfl
theorem G3{n:Nat}{used:List Int}{j:Nat}(h:j<n):(V7 n used)[j]?=some (used.contains (j:Int)):=by
 unfold V7;rw[List.getElem?_map,List.getElem?_range h];rfl
theorem ų{n:Nat}{used:List Int}{j:Nat}(h:j<n):(V7 n used).set j true=V7 n ((j:Int)::used):=by
 apply List.ext_getElem?;intro i;by_cases hi:i<n
 ·rw[G3 hi,List.getElem?_set];by_cases hij:j=i
  ·subst hij;rw[if_pos rfl,if_pos (by rw[Xv];exact h)];simp
  ·rw[if_neg hij,G3 hi];have:¬(i:Int)=(j:Int):=ω
   simp[this]
 ·rw[List.getElem?_eq_none (by rw[List.length_set,Xv];omega),List.getElem?_eq_none (by rw[Xv];omega)]
def Yu(n:Nat)(L:List P2):List Int:=L.foldl (fun l p=>l.set p.1.toNat p.2) (List.replicate n (-1))
theorem Qew(L:List P2):∀l:List Int,(L.foldl (fun l p=>l.set p.1.toNat p.2) l).length=l.length:=by
 induction L with
 |nil=>intro l;rfl
 |cons p r ih=>intro l;rw[List.foldl_cons,ih,List.length_set]
theorem Qe5(n:Nat)(L:List P2):(Yu n L).length=n:=by unfold Yu;rw[Qew];simp
open Tree Shape
structure Sd where
 T:F
 ns:List Nat
namespace Sd
def nd(s:Sd):List Nd:=nodes s.T
def n(s:Sd):Nat:=s.nd.length
def kid(s:Sd)(x:Nat):List Nat:=(Z7 0 s.T).getD x []
def par(s:Sd):List Int:=Jn (-1) 0 s.T
def no(s:Sd)(x:Nat):Nat:=s.ns.getD x 0
def at_(s:Sd)(x:Nat):Nd:=s.nd.getD x ⟨0,.empty,.empty,.nil⟩
def sz(s:Sd)(x:Nat):Nat:=(s.at_ x).size
def wh(s:Sd)(m:Nat):List Nat:=(List.range s.n).filter fun p=>s.no p==m
end Sd
abbrev St:=List Int×List Int
def QQ(M:List Int)(x:Nat):Bool:=decide (M.getD x 0<0)
def Kv(M:List Int)(x y:Nat):Nat→List Int
 |0=>M
 |i+1=>(Kv M x y i).set (x+i) ((y+i:Nat):Int)
section
variable (a b:Sd)
def JU(x y:Nat):Bool:=a.no x==b.no y
def Q2(x y:Nat):Nat:=if JU a b x y then a.sz x else 1
def QK(M:St)(x y:Nat):St:=(Kv M.1 x y (Q2 a b x y),Kv M.2 y x (Q2 a b x y))
def Xm(x y:Nat):Bool:=decide (0<(a.kid x).length)&&decide (0<(b.kid y).length)&&JU a b ((a.kid x).getD ((a.kid x).length-1) 0) ((b.kid y).getD ((b.kid y).length-1) 0)
def Kn(s o:Sd)(p q:Nat):Bool:=!(o.sz q==1)&&(s.wh (o.no q)).any fun r=>decide (p+1≤r)&&decide (r<p+s.sz p)
def En(k:Int):Bool:=k==4||k==5||k==6||k==7||k==14||k==16
def Ef:Nat→Nat→Nat→Nat→Nat
 |0,_,_,v=>v
 |f+1,x,y,v =>
  if(a.at_ x).k=(b.at_ y).k then
   (if(a.at_ x).c.len=0∨(b.at_ y).c.len=0 then v+1+(if(a.at_ x).x.toList=(b.at_ y).x.toList then 1 else 0)
    else Ef f (x+1) (y+1) (v+1+(if(a.at_ x).x.toList=(b.at_ y).x.toList then 1 else 0)))
  else v
def Es(x y:Nat):Nat:=Ef a b 4 x y (if Xm a b x y then 2 else 0)
def near(M:St)(x y:Nat):Nat :=
 if !QQ M.1 x||(!QQ M.2 y || !((a.at_ x).k==(b.at_ y).k))then 0
 else if JU a b x y then 16
 else if Kn a b x y||Kn b a y x then 0
 else if En (a.at_ x).k&&(!((a.at_ x).x.toList==(b.at_ y).x.toList) && !Xm a b x y)then 0
 else Es a b x y
def front:St→List Nat→List Nat→St×List Nat×List Nat
 |M,x::xs,y::ys=>if near a b M x y=16 then front (QK a b M x y) xs ys else(M,x::xs,y::ys)
 |M,[],ys=>(M,[],ys)
 |M,xs,[]=>(M,xs,[])
def back:Nat→St→List Nat→List Nat→St×List Nat×List Nat
 |0,M,xs,ys=>(M,xs,ys)
 |f+1,M,xs,ys =>
  if 0<xs.length∧0<ys.length∧near a b M (xs.getD (xs.length-1) 0) (ys.getD (ys.length-1) 0)=16 then
   back f (QK a b M (xs.getD (xs.length-1) 0) (ys.getD (ys.length-1) 0)) (xs.take (xs.length-1)) (ys.take (ys.length-1))
  else(M,xs,ys)
def æ(v:Nat→Nat→Nat)(p q i:Nat)(prev:Nat→Nat):Nat→Nat
 |0=>0
 |j+1=>max (max (prev (j+1)) (æ v p q i prev j)) (v (p-(i+1)) (q-(j+1))+prev j)
def QU(v:Nat→Nat→Nat)(p q:Nat):Nat→Nat→Nat
 |0=>fun _=>0
 |i+1=>æ v p q i (QU v p q i)
theorem Ė(v:Nat→Nat→Nat)(p q j:Nat):QU v p q 0 j=0:=rfl
theorem ĕ(v:Nat→Nat→Nat)(p q:Nat):∀i,QU v p q i 0=0
 |0=>rfl
 |_+1=>rfl
theorem Ĕ(v:Nat→Nat→Nat)(p q i j:Nat):QU v p q (i+1) (j+1)=max (max (QU v p q i (j+1)) (QU v p q (i+1) j)) (v (p-(i+1)) (q-(j+1))+QU v p q i j):=rfl
def QR(v:Nat→Nat→Nat)(xs ys:List Nat):Nat→St→Nat→Nat→St
 |0,M,_,_=>M
 |f+1,M,i,j =>
  if i<xs.length∧j<ys.length then
   (if 0<v i j∧QU v xs.length ys.length (xs.length-i) (ys.length-j)=v i j+QU v xs.length ys.length (xs.length-(i+1)) (ys.length-(j+1))then QR v xs ys f (QK a b M (xs.getD i 0) (ys.getD j 0)) (i+1) (j+1)
    else if QU v xs.length ys.length (xs.length-i) (ys.length-j)=QU v xs.length ys.length (xs.length-(i+1)) (ys.length-j)then QR v xs ys f M (i+1) j
    else QR v xs ys f M i (j+1))
  else M
def piece(M:St)(xs ys:List Nat):St:=QR a b (fun i j=>near a b M (xs.getD i 0) (ys.getD j 0)) xs ys (xs.length+ys.length) M 0 0
def pieces:Nat→St→List Nat→List Nat→St
 |0,M,_,_=>M
 |f+1,M,xs,ys=>if 0<xs.length∧0<ys.length then pieces f (piece a b M (xs.take (min 256 xs.length)) (ys.take (min 256 ys.length))) (xs.drop (min 256 xs.length)) (ys.drop (min 256 ys.length))else M
def YV(M:St)(xs ys:List Nat):St :=
 let p:=front a b M xs ys
 let q:=back a b p.2.1.length p.1 p.2.1 p.2.2
 pieces a b q.2.1.length q.1 q.2.1 q.2.2
def NJ(s:Sd)(M:List Int)(row:List Nat)(m:Nat):List Nat:=(List.range row.length).filter fun i=>QQ M (row.getD i 0)&&s.no (row.getD i 0)==m
def find(row:List Nat)(v:Int):Option Nat:=if row.any (fun q=>((q:Nat):Int)==v)then some (row.countP fun q=>decide (((q:Nat):Int)<v))else none
def V2(M:St)(xs ys:List Nat)(i:Nat):List (Nat×Nat) :=
 if QQ M.1 (xs.getD i 0)then
  (if(NJ a M.1 xs (a.no (xs.getD i 0))).length=1∧(NJ b M.2 ys (a.no (xs.getD i 0))).length=1 then[(i,(NJ b M.2 ys (a.no (xs.getD i 0))).getD 0 0)]else[])
 else match find ys (M.1.getD (xs.getD i 0) 0)with
  |some j=>[(i,j)]
  |none=>[]
def Kq(M:St)(xs ys:List Nat):List (Nat×Nat):=(List.range xs.length).flatMap (V2 a b M xs ys)
end
abbrev NP:=Nat×Nat
def NH(l:List NP)(ends:List Nat)(y:Nat):Nat:=ends.countP fun e=>decide ((l.getD e (0,0)).2≤y)
def Y7(l:List NP)(s:List Nat×List Nat)(i:Nat):List Nat×List Nat :=
 let k:=NH l s.1 (l.getD i (0,0)).2
 ((if k=s.1.length then s.1++[i]else s.1).set k i,if 0<k then s.2.set i (s.1.getD (k-1) 0)else s.2)
def Q7(l:List NP):Nat→List Nat×List Nat
 |0=>([],List.replicate l.length 0)
 |i+1=>Y7 l (Q7 l i) i
def Yo(l:List NP)(before:List Nat):Nat→Nat→List NP→List NP
 |0,_,out=>out
 |k+1,e,out=>Yo l before k (before.getD e 0) (l.getD e (0,0)::out)
def Vo(l:List NP):List NP :=
 let s:=Q7 l l.length
 Yo l s.2 s.1.length (s.1.getD (s.1.length-1) 0) []
section
variable (a b:Sd)
def X8(xs ys:List Nat):St→Nat→Nat→List NP→St
 |M,f,g,[]=>YV a b M (xs.drop f) (ys.drop g)
 |M,f,g,p::r=>X8 xs ys (QK a b (YV a b M ((xs.take p.1).drop f) ((ys.take p.2).drop g)) (xs.getD p.1 0) (ys.getD p.2 0)) (p.1+1) (p.2+1) r
def Ec(M:St)(xs ys:List Nat):St:=X8 a b xs ys M 0 0 (Vo (Kq a b M xs ys))
def ZJ:Nat→St→Nat→St
 |0,M,_=>M
 |f+1,M,x=>ZJ f (if 0≤M.1.getD x 0∧JU a b x (M.1.getD x 0).toNat=false then Ec a b M (a.kid x) (b.kid (M.1.getD x 0).toNat)else M) (x+1)
end
abbrev Ky:=Int×ByteArray×Int
def recv(s:Sd)(p:Nat):Int:=(s.kid ((s.kid p).getD 0 0)).foldl (fun _ q=>((s.no q:Nat):Int)) (-1)
def keyOf(s:Sd)(p:Nat):Option Ky :=
 if(s.at_ p).k=2 then some (2,.empty,-1)
 else if(s.at_ p).k=4∨(s.at_ p).k=5∨(s.at_ p).k=6 then some ((s.at_ p).k,(s.at_ p).x,-1)
 else if(s.at_ p).k=7 then some (7,(s.at_ p).x,recv s p)
 else none
def items(s:Sd)(k:Ky):List Nat:=(s.kid 0).filter fun p=>decide (keyOf s p=some k)
section
variable (a b:Sd)
def Zw:St→List Nat→St
 |M,[]=>M
 |M,x::r=>match keyOf a x with
  |none=>Zw M r
  |some k=>if(items a k).length=1∧(items b k).length=1 then Zw (QK a b M x ((items b k).getD 0 0)) r else Zw M r
end
def X6(M:List Int):List Nat→List Int→List Nat
 |acc,[]=>acc
 |acc,p::r=>X6 M (acc++[if acc.length=0∨QQ M p.toNat=false then p.toNat else acc.getD p.toNat 0]) r
def Q3(s:Sd)(M:List Int):List Nat:=X6 M [] s.par
def Va(s:Sd)(ov:List Nat)(p:Nat):Bool:=decide (s.par.getD p 0=((ov.getD p 0:Nat):Int))
def Xd(s:Sd)(M:List Int)(ov:List Nat)(o m:Nat):List Nat :=
 (List.range s.n).filter (fun p=>QQ M p&&(Va s ov p&&(ov.getD p 0==o&&s.no p==m)))++(List.range s.n).filter (fun p=>QQ M p&&(!Va s ov p&&(ov.getD p 0==o&&s.no p==m)))
def Jt(s:Sd)(M:List Int):List Nat:=(List.range s.n).filter fun p=>QQ M p
def ahead(s:Sd)(p q:Nat):Bool:=decide (s.sz q<s.sz p)||(decide (s.sz p=s.sz q)&&decide (p<q))
def U6(s:Sd)(p:Nat):List Nat→List Nat
 |[]=>[p]
 |q::r=>if ahead s q p then q::U6 s p r else p::q::r
def J7(s:Sd)(l:List Nat):List Nat:=l.foldl (fun acc p=>U6 s p acc) []
section
variable (a b:Sd)
def Ys(KP XS:List Nat)(x:Nat):St→List Nat→St
 |M,[]=>M
 |M,y::r=>if QQ M.2 y&&(Va a KP x||Va b XS y)then QK a b M x y else Ys KP XS x M r
def Yc(KP XS:List Nat)(sp:Nat→Nat→List Nat):St→List Nat→St
 |M,[]=>M
 |M,x::r=>Yc KP XS sp (if QQ M.1 x then Ys a b KP XS x M (sp (M.1.getD (KP.getD x 0) 0).toNat (a.no x))else M) r
def Y9(M:St):St:=Yc a b (Q3 a M.1) (Q3 b M.2) (Xd b M.2 (Q3 b M.2)) M (J7 a (Jt a M.1))
def Ki(M:List Int):List P2:=(List.range M.length).flatMap fun x=>if 0≤M.getD x 0 then[((x:Int),M.getD x 0)]else[]
def Kz:St:=(List.replicate a.n (-1),List.replicate b.n (-1))
def V4(rt:Bool):St:=Y9 a b (ZJ a b a.n (if rt then Zw a b (QK a b (Kz a b) 0 0) (a.kid 0)else QK a b (Kz a b) 0 0) 0)
end
end Match
namespace Tree
def Vm(pk:Int)(px:ByteArray)(f:F)(p:Int):Bool :=
 if 0≤p then(match f.drop p.toNat with
  | .nil=>false
  | .cons kk kx _ _ _=>Q6 pk px p.toNat kk kx)else false
theorem Qoi(pk:Int)(px y:ByteArray)(A:Option Addr)(n C:Nat)(p:Int)(hp:p<0∨(n:Int)≤p)(w:World) :
 Calls prog 63 #[ξ #[ι γ pk,σ px,σ y,ς A n C],ι γ p] w fun e w'=>e=ρ (τ false)∧Below w.heap.size w w':=by
 by_cases h0:p<0
 ·clear hp;go_enter func63,ntmps63;go_wp2;go_ret;exact⟨rfl,(Below.refl _ _).alloc (Nat.le_refl _) _⟩
 ·have hn:(n:Int)≤p:=ω
  clear hp;go_enter func63,ntmps63;go_wp2;go_ret;exact⟨rfl,(Below.refl _ _).alloc (Nat.le_refl _) _⟩
theorem Qt(w:World)(o1 o2:Obj):Below w.heap.size w ((w.alloc o1).alloc o2):=((Below.refl _ _).alloc (Nat.le_refl _) _).alloc ψ _
theorem pU(w:World)(o1 o2:Obj)(q:Nat):Below w.heap.size w (((w.alloc o1).alloc o2).drewN q):=⟨(Qt w o1 o2).os,(Qt w o1 o2).tape,(Qt w o1 o2).output,(Qt w o1 o2).size,(Qt w o1 o2).block⟩
theorem Qr6(px kx:ByteArray):Q6 29 px 0 29 kx=decide (Zl kx<Zl px):=rfl
theorem Qr5(px kx:ByteArray):Q6 29 px 1 29 kx=decide (Zl kx≤Zl px):=rfl
theorem Qol(As:Option Addr)(ns Cs b off n C:Nat)(pk kk:Int)(px py kx ky:ByteArray)(w:World)(hb:b<w.heap.size)(hi:(0:Int)<(n:Int))(hC:n≤C)(hm:C≤9223372036854775807)(c0:w.cell? ⟨b,off,none⟩=some (ι γ kk))(c1:w.cell? ⟨b,off+1,none⟩=some (σ kx))(c2:w.cell? ⟨b,off+2,none⟩=some (σ ky))(c3:w.cell? ⟨b,off+3,none⟩=some (ς As ns Cs)) :
 Calls prog 63 #[ξ #[ι γ pk,σ px,σ py,ς (some ⟨b,off,none⟩) n C],ι γ 0] w fun e w'=>e=ρ (τ (Q6 pk px 0 kk kx))∧Below w.heap.size w w':=by
 have hn0:¬(n:Int)≤0:=ω
 by_cases SL:pk=29
 ·subst SL;by_cases VY:kk=29
  ·subst VY;rw[Qr6];have hL:=Lib.hid (fun(s:ByteArray)(w:World)=>iX s w);go_enter func63,ntmps63;go_wp2
   go_quiet (first|(go_at_call 84;refine Calls.quiet_of_same (hL.out _ _)))
   go_wp2;go_ret;exact⟨rfl,pU _ _ _ _⟩
  ·have LS:=QM VY;rw[show Q6 29 px 0 kk kx=false by simp[Q6,VY]];clear VY;go_enter func63,ntmps63;go_wp2
   go_quiet (fail)
   go_wp2;go_ret;exact⟨rfl,pU _ _ _ _⟩
 have jJ:=QM SL;by_cases Rh:pk=28
 ·subst Rh;by_cases VY:kk=29
  ·subst VY;rw[show Q6 28 px 0 29 kx=true from rfl];go_enter func63,ntmps63;go_wp2;go_ret;exact⟨rfl,Qt _ _ _⟩
  by_cases k28:kk=28
  ·subst k28;rw[show Q6 28 px 0 28 kx=true from rfl];go_enter func63,ntmps63;go_wp2;go_ret;exact⟨rfl,Qt _ _ _⟩
  have LS:=QM VY;have Cf:=QM k28;rw[show Q6 28 px 0 kk kx=false by simp[Q6,VY,k28]];clear VY k28 SL;go_enter func63,ntmps63;go_wp2;go_ret;exact⟨rfl,Qt _ _ _⟩
 have jK:=QM Rh;by_cases Nh:pk=30
 ·subst Nh;by_cases VY:kk=29
  ·subst VY;rw[show Q6 30 px 0 29 kx=true from rfl];go_enter func63,ntmps63;go_wp2;go_ret;exact⟨rfl,Qt _ _ _⟩
  by_cases k28:kk=28
  ·subst k28;rw[show Q6 30 px 0 28 kx=true from rfl];go_enter func63,ntmps63;go_wp2;go_ret;exact⟨rfl,Qt _ _ _⟩
  have LS:=QM VY;have Cf:=QM k28;rw[show Q6 30 px 0 kk kx=false by simp[Q6,VY,k28]];clear VY k28;go_enter func63,ntmps63;go_wp2;go_ret;exact⟨rfl,Qt _ _ _⟩
 have jI:=QM Nh;by_cases Ng:pk=31
 ·subst Ng;by_cases VY:kk=29
  ·subst VY;rw[show Q6 31 px 0 29 kx=true from rfl];go_enter func63,ntmps63;go_wp2;go_ret;exact⟨rfl,Qt _ _ _⟩
  by_cases k28:kk=28
  ·subst k28;rw[show Q6 31 px 0 28 kx=true from rfl];go_enter func63,ntmps63;go_wp2;go_ret;exact⟨rfl,Qt _ _ _⟩
  have LS:=QM VY;have Cf:=QM k28;rw[show Q6 31 px 0 kk kx=false by simp[Q6,VY,k28]];clear VY k28;go_enter func63,ntmps63;go_wp2;go_ret;exact⟨rfl,Qt _ _ _⟩
 have jH:=QM Ng;by_cases p32:pk=32
 ·subst p32;by_cases VY:kk=29
  ·subst VY;rw[show Q6 32 px 0 29 kx=true from rfl];go_enter func63,ntmps63;go_wp2;go_ret;exact⟨rfl,Qt _ _ _⟩
  by_cases k28:kk=28
  ·subst k28;rw[show Q6 32 px 0 28 kx=true from rfl];go_enter func63,ntmps63;go_wp2;go_ret;exact⟨rfl,Qt _ _ _⟩
  have LS:=QM VY;have Cf:=QM k28;rw[show Q6 32 px 0 kk kx=false by simp[Q6,VY,k28]];clear VY k28;go_enter func63,ntmps63;go_wp2;go_ret;exact⟨rfl,Qt _ _ _⟩
 have jG:=QM p32;rw[show Q6 pk px 0 kk kx=false by simp[Q6,SL,Rh,Nh,Ng,p32]];clear SL Rh Nh Ng p32;go_enter func63,ntmps63;go_wp2;go_ret;exact⟨rfl,Qt _ _ _⟩
theorem Qok(As:Option Addr)(ns Cs b off n C:Nat)(pk kk:Int)(px py kx ky:ByteArray)(w:World)(hb:b<w.heap.size)(hi:(1:Int)<(n:Int))(hC:n≤C)(hm:C≤9223372036854775807)(c0:w.cell? ⟨b,off+4,none⟩=some (ι γ kk))(c1:w.cell? ⟨b,off+5,none⟩=some (σ kx))(c2:w.cell? ⟨b,off+6,none⟩=some (σ ky))(c3:w.cell? ⟨b,off+7,none⟩=some (ς As ns Cs)) :
 Calls prog 63 #[ξ #[ι γ pk,σ px,σ py,ς (some ⟨b,off,none⟩) n C],ι γ 1] w fun e w'=>e=ρ (τ (Q6 pk px 1 kk kx))∧Below w.heap.size w w':=by
 have hn0:¬(n:Int)≤1:=ω
 by_cases SL:pk=29
 ·subst SL;by_cases VY:kk=29
  ·subst VY;rw[Qr5];have hL:=Lib.hid (fun(s:ByteArray)(w:World)=>iX s w);go_enter func63,ntmps63;go_wp2
   go_quiet (first|(go_at_call 84;refine Calls.quiet_of_same (hL.out _ _)))
   go_wp2;go_ret;exact⟨rfl,pU _ _ _ _⟩
  ·have LS:=QM VY;rw[show Q6 29 px 1 kk kx=false by simp[Q6,VY]];clear VY;go_enter func63,ntmps63;go_wp2
   go_quiet (fail)
   go_wp2;go_ret;exact⟨rfl,pU _ _ _ _⟩
 have jJ:=QM SL;by_cases Rh:pk=28
 ·subst Rh;by_cases VY:kk=29
  ·subst VY;rw[show Q6 28 px 1 29 kx=true from rfl];go_enter func63,ntmps63;go_wp2;go_ret;exact⟨rfl,Qt _ _ _⟩
  by_cases k28:kk=28
  ·subst k28;rw[show Q6 28 px 1 28 kx=true from rfl];go_enter func63,ntmps63;go_wp2;go_ret;exact⟨rfl,Qt _ _ _⟩
  have LS:=QM VY;have Cf:=QM k28;rw[show Q6 28 px 1 kk kx=false by simp[Q6,VY,k28]];clear VY k28 SL;go_enter func63,ntmps63;go_wp2;go_ret;exact⟨rfl,Qt _ _ _⟩
 have jK:=QM Rh;by_cases Nh:pk=30
 ·subst Nh;rw[show Q6 30 px 1 kk kx=false by simp[Q6]];by_cases VY:kk=29
  ·subst VY;go_enter func63,ntmps63;go_wp2;go_ret;exact⟨rfl,Qt _ _ _⟩
  have LS:=QM VY;clear VY;go_enter func63,ntmps63;go_wp2;go_ret;exact⟨rfl,Qt _ _ _⟩
 have jI:=QM Nh;by_cases Ng:pk=31
 ·subst Ng;rw[show Q6 31 px 1 kk kx=false by simp[Q6]];by_cases VY:kk=29
  ·subst VY;go_enter func63,ntmps63;go_wp2;go_ret;exact⟨rfl,Qt _ _ _⟩
  have LS:=QM VY;clear VY;go_enter func63,ntmps63;go_wp2;go_ret;exact⟨rfl,Qt _ _ _⟩
 have jH:=QM Ng;by_cases p32:pk=32
 ·subst p32;rw[show Q6 32 px 1 kk kx=false by simp[Q6]];by_cases VY:kk=29
  ·subst VY;go_enter func63,ntmps63;go_wp2;go_ret;exact⟨rfl,Qt _ _ _⟩
  have LS:=QM VY;clear VY;go_enter func63,ntmps63;go_wp2;go_ret;exact⟨rfl,Qt _ _ _⟩
 have jG:=QM p32;rw[show Q6 pk px 1 kk kx=false by simp[Q6,SL,Rh,Nh,Ng,p32]];clear SL Rh Nh Ng p32;go_enter func63,ntmps63;go_wp2;go_ret;exact⟨rfl,Qt _ _ _⟩
theorem Qoj(As:Option Addr)(ns Cs b off n C i:Nat)(pk kk:Int)(px py kx ky:ByteArray)(w:World)(hb:b<w.heap.size)(hi:(i:Int)<(n:Int))(hC:n≤C)(hm:C≤9223372036854775807)(c0:w.cell? ⟨b,off+i*4,none⟩=some (ι γ kk))(c1:w.cell? ⟨b,off+i*4+1,none⟩=some (σ kx))(c2:w.cell? ⟨b,off+i*4+2,none⟩=some (σ ky))(c3:w.cell? ⟨b,off+i*4+3,none⟩=some (ς As ns Cs))(h0:((i:Int)==0)=false)(h1:((i:Int)==1)=false) :
 Calls prog 63 #[ξ #[ι γ pk,σ px,σ py,ς (some ⟨b,off,none⟩) n C],ι γ (i:Int)] w fun e w'=>e=ρ (τ (Q6 pk px i kk kx))∧Below w.heap.size w w':=by
 have hn0:¬(n:Int)≤(i:Int):=ω
 have hi0:¬(i:Int)<0:=ω
 have TJ:(0:Int)≤(i:Int):=ω
 have i0:¬i=0:=by rintro rfl;simp at h0
 have i1:¬i=1:=by rintro rfl;simp at h1
 by_cases Rh:pk=28
 ·subst Rh;by_cases VY:kk=29
  ·subst VY;rw[show Q6 28 px i 29 kx=true from rfl];clear i0 i1;go_enter func63,ntmps63;go_wp2;go_ret;exact⟨rfl,Qt _ _ _⟩
  by_cases k28:kk=28
  ·subst k28;rw[show Q6 28 px i 28 kx=true from rfl];clear i0 i1;go_enter func63,ntmps63;go_wp2;go_ret;exact⟨rfl,Qt _ _ _⟩
  have LS:=QM VY;have Cf:=QM k28;rw[show Q6 28 px i kk kx=false by simp[Q6,VY,k28]];clear VY k28 i0 i1;go_enter func63,ntmps63;go_wp2;go_ret;exact⟨rfl,Qt _ _ _⟩
 have jK:=QM Rh;rw[show Q6 pk px i kk kx=false by unfold Q6;simp[Rh,i0,i1]];by_cases SL:pk=29
 ·subst SL;clear i0 i1 Rh;go_enter func63,ntmps63;go_wp2;go_ret;exact⟨rfl,Qt _ _ _⟩
 have jJ:=QM SL;by_cases Nh:pk=30
 ·subst Nh;clear i0 i1 Rh;go_enter func63,ntmps63;go_wp2;go_ret;exact⟨rfl,Qt _ _ _⟩
 have jI:=QM Nh;by_cases Ng:pk=31
 ·subst Ng;clear i0 i1 Rh;go_enter func63,ntmps63;go_wp2;go_ret;exact⟨rfl,Qt _ _ _⟩
 have jH:=QM Ng;by_cases p32:pk=32
 ·subst p32;clear i0 i1 Rh;go_enter func63,ntmps63;go_wp2;go_ret;exact⟨rfl,Qt _ _ _⟩
 have jG:=QM p32;clear Rh SL Nh Ng p32 i0 i1;go_enter func63,ntmps63;go_wp2;go_ret;exact⟨rfl,Qt _ _ _⟩
theorem Y0(w:World)(pk:Int)(px py:ByteArray)(A:Option Addr)(n C:Nat)(f:F)(p:Int)(hf:Fs w (Lo w.heap.size) (ς A n C) f) :
 Calls prog 63 #[ξ #[ι γ pk,σ px,σ py,ς A n C],ι γ p] w fun e w'=>e=ρ (τ (Vm pk px f p))∧Below w.heap.size w w':=by
 obtain⟨A',C',e,Ld,RS⟩:=hf.slice;injection e with e1 e2 e3;subst e1;subst e2;subst e3;by_cases hp:p<0∨((f.len:Nat):Int)≤p
 ·have e:Vm pk px f p=false:=by
   unfold Vm;split
   ·rw[F.JG _ _ ω]
   ·rfl
  rw[e];exact Qoi pk px py A _ C p hp w
 ·obtain⟨i,rfl⟩:∃i:Nat,p=(i:Int):=⟨p.toNat,ω⟩;obtain⟨k,x,y,c,r,hd,_⟩:=F.drop_cons (n:=i) (f:=f) ω;have e:Vm pk px f (i:Int)=Q6 pk px i k x:=by
   unfold Vm;rw[if_pos ω,Int.toNat_natCast,hd]
  rw[e];obtain⟨b,off,s,rfl,hb,hi,hat⟩:=hf.at_ hd;obtain⟨As,Cs,rfl,_,_⟩:=hat.kids.slice;have c0:=hat.c0;have c1:=hat.c1;have c2:=hat.c2;have c3:=hat.c3;by_cases i0:i=0
  ·subst i0;simp only[Nat.zero_mul,Nat.add_zero]at c0 c1 c2 c3;exact Qol As _ Cs b off _ C pk k px py x y w hb ω Ld RS c0 c1 c2 c3
  by_cases i1:i=1
  ·subst i1;exact Qok As _ Cs b off _ C pk k px py x y w hb ω Ld RS c0 c1 c2 c3
  exact Qoj As _ Cs b off _ C i pk k px py x y w hb ω Ld RS c0 c1 c2 c3 (by simpa using i0) (by simpa using(show ¬(i:Int)=1 by omega))
end Tree
namespace Ro
end Ro
namespace Lex
open Ro
def OG(xs:List Int):Int:=if bad xs<xs.length then 3 else if left xs=[]then 0 else 4
def pC(xs:List Int):Nat:=if bad xs<xs.length then bad xs else if left xs=[]then 0 else xs.length-(left xs).length
def vB(xs:List Int):List Tok:=if OG xs=0 then ZH xs else[]
def vG(s:List Int):Bool:=decide (0<s.length)&&(kd (s.getD 0 0)==1)&&decide (Xu s=s.length) && !isWord s
end Lex
namespace Mem
variable {P:Program}{Q:Exit→Act→World→Prop}
def Zh(L:Nat→Bool)(i:Nat):Nat→Bool:=fun j=>if j=i then true else L j
def FZ(listed:Array Bool):Nat→Bool:=fun j=>listed.getD j false
theorem Qst{listed:Array Bool}{i:Nat}(h:i<listed.size):FZ (listed.setIfInBounds i true)=Zh (FZ listed) i:=by
 funext j
 simp only[FZ,Zh];by_cases e:j=i
 ·subst e;simp[h]
 ·rw[if_neg e,getD_set_ne false (Ne.symm e)]
def X9(P:Program)(l:List Oper)(Q:Exit→Act→World→Prop)(Inv:(Nat→Bool)→(Nat→Value)→World→Prop)(L:Nat→Bool)(x:Nat→Value)(a:Act)(W:World):Nat→List Oper→Prop
 |_,[]=>True
 |i,o::os=>(L i=false→(∀j,(o.after.any fun e=>Region.binds .any e&&e.on==j)=true→L j=true)→∀K:Act→World→Prop,Shut (∀v W',Inv (Zh L i) (Qq x i v) W'→K (a.put o.dst v) W')→Jb P l Q o K a W)∧X9 P l Q Inv L x a W (i+1) os
theorem X9.get{l:List Oper}{Inv:(Nat→Bool)→(Nat→Value)→World→Prop}{L:Nat→Bool}{x:Nat→Value}{a:Act}{W:World}:∀(os:List Oper)(k i:Nat)(o:Oper),X9 P l Q Inv L x a W k os→os[i]?=some o→
 (L (k+i)=false→(∀j,(o.after.any fun e=>Region.binds .any e&&e.on==j)=true→L j=true)→∀K:Act→World→Prop,Shut (∀v W',Inv (Zh L (k+i)) (Qq x (k+i) v) W'→K (a.put o.dst v) W')→Jb P l Q o K a W)
 |[],_,_,_,_,h=>by simp at h
 |p::os,k,0,o,hs,h=>by
  exact c56
 |p::os,k,i+1,o,hs,h=>by
  have:=X9.get os (k+1) i o hs.2 (by simpa using h);rwa[show k+1+i=k+(i+1)by omega]at this
theorem Qwd{l:List Oper}{Inv:(Nat→Bool)→(Nat→Value)→World→Prop}{a0:Act}(hn:(Xs l).Nodup)(he:Z2 l=true)
 (hsteps:∀L x W,Inv L x W→∀a,a=(⟨Qi x 0 l a0.tmps,a0.defers⟩:Act)→X9 P l Q Inv L x a W 0 l)
 (hdone:∀L x W,Inv L x W→(∀i,i<l.length→L i=true)→∀a,a=(⟨Qi x 0 l a0.tmps,a0.defers⟩:Act)→Q .normal a W) :
 ∀(fuel:Nat)(listed:Array Bool)(x:Nat→Value)(a:Act)(W:World),listed.size=l.length→Su listed l.length=fuel→a=⟨Qi x 0 l a0.tmps,a0.defers⟩→Inv (FZ listed) x W→
  wpAny P .any l.toArray Q fuel listed a W:=by
 have all:∀listed:Array Bool,Region.ready .any l.toArray listed=[]→∀i,i<l.length→listed.getD i true=true:=by
  intro listed hr i
  induction i using Nat.strongRecOn with
  |_ i ih =>
   intro hi;by_cases hl:listed.getD i true=true
   ·exact hl
   ·exfalso
    have hm:i∈Region.ready .any l.toArray listed:=mem_ready.2 ⟨by simpa using hl,l[i],by simp[hi],fun e hm hb=>by
     have h1:=List.all_eq_true.1 he i (List.mem_range.2 hi);simp only[List.getElem?_eq_getElem hi]at h1;have h2:=Array.all_eq_true_iff_forall_mem.1 h1 e hm;simp only[hb,Bool.not_true,Bool.false_or,decide_eq_true_eq]at h2;have h3:=ih e.on h2 ω;rcases Nat.lt_or_ge e.on listed.size with h' |h'
     ·simpa[h']using h3
     ·exfalso;have h4:listed.getD i true=true:=by simp[Array.getElem?_eq_none (show listed.size≤i by omega)]
      exact hl h4⟩
    rw[hr]at hm;cases hm
 intro fuel
 induction fuel with
 |zero =>
  intro listed x a W hsz hf ha hT;have hall:=Gc hf;refine⟨?_,hdone _ x W hT (fun i hi=>by have:=hall i hi;simpa[FZ,hsz,hi]using this) a ha⟩;cases hr:Region.ready .any l.toArray listed with
  |nil=>rfl
  |cons i rs =>
   exfalso;obtain⟨h0,o,ho,_⟩:=mem_ready.1 (show i∈Region.ready .any l.toArray listed by rw[hr];exact List.mem_cons_self ..);have hi:i<l.length:=by have:=(Array.getElem?_eq_some_iff.1 ho).1;simpa using this
   rw[hall i hi]at h0;cases h0
 |succ fuel ih =>
  intro listed x a W hsz hf ha hT;refine⟨fun hr=>hdone _ x W hT (fun i hi=>by have:=all listed hr i hi;simpa[FZ,hsz,hi]using this) a ha,fun i hi=>?_⟩;obtain⟨h0,o,ho,PM⟩:=mem_ready.1 hi;have ho':l[i]?=some o:=by simpa using ho
  have hil:i<l.length:=(List.getElem?_eq_some_iff.1 ho').1
  have hst:=X9.get l 0 i o (hsteps _ x W hT a ha) ho' (by rw[ZL];simpa[FZ,hsz,hil]using h0) (fun j hj=>by
   rw[←Array.any_toList,List.any_eq_true]at hj;obtain⟨e,hm0,hb⟩:=hj;have hm:e∈o.after:=Array.mem_toList_iff.1 hm0;simp only[Bool.and_eq_true,beq_iff_eq]at hb;have h1:=PM e hm hb.1;rw[hb.2]at h1;exact h1)
   (fun a' W'=>wpAny P .any l.toArray Q fuel (listed.setIfInBounds i true) a' W')
   (by
    intro v W' hv;rw[ZL,←Qst ω]at hv;refine ih (listed.setIfInBounds i true) (Qq x i v) _ W' (by simp[hsz]) (by have:=Ui h0 hil;omega) ?_ hv
    ·rw[ha];cases hd:o.dst with
     |none =>
      simp only[Act.put]
      congr 1
      have key:∀(os:List Oper)(k m:Nat)(t:Array Value),os[m]?=some o→Qi (Qq x (k+m) v) k os t=Qi x k os t:=by
       intro os
       induction os with
       |nil=>intro k m t h;rfl
       |cons p os Fg =>
        intro k m t h;cases m with
        |zero=>simp only[List.getElem?_cons_zero,Option.some.injEq]at h;subst h;simp only[Qi,hd];exact Vv os (k+1) _ fun j hj=>by simp only[Qq];rw[if_neg ω]
        |succ m =>
         simp only[Qi];have e1:Qq x (k+(m+1)) v k=x k:=by simp only[Qq];rw[if_neg ω]
         exact c57
      have:=key l 0 i a0.tmps ho';rw[ZL]at this;exact this.symm
     |some d =>
      simp only[Act.put]
      congr 1
      have:=K8 (x:=x) (v:=v) l 0 i o a0.tmps hn ho' hd;rw[ZL]at this;exact this.symm)
  unfold Jb at hst;unfold wpOp;simp only[ho];split
  ·rename_i hw
   exact c132
  ·rename_i hw
   rw[if_neg hw]at hst;exact hst
theorem Qkv{id:Nat}{l:List Oper}{a0:Act}{w:World}(Inv:(Nat→Bool)→(Nat→Value)→World→Prop)(hm:P.follows .mixedOrders=true)(hn:(Xs l).Nodup)(he:Z2 l=true)
 (h0:Inv (fun _=>false) (Eu l a0.tmps) w.drew)
 (hsteps:∀L x W,Inv L x W→∀a,a=(⟨Qi x 0 l a0.tmps,a0.defers⟩:Act)→X9 P l Q Inv L x a W 0 l)
 (hdone:∀L x W,Inv L x W→(∀i,i<l.length→L i=true)→∀a,a=(⟨Qi x 0 l a0.tmps,a0.defers⟩:Act)→Q .normal a W) :
 (Code.region id l.toArray true).wp P Q a0 w:=by
 refine wp_region_any hm (Qwd (a0:=a0) hn he hsteps hdone l.toArray.size (Array.replicate l.toArray.size false) (Eu l a0.tmps) a0 w.drew ψ ?_ ?_ ?_)
 ·exact c91
 ·rw[Ke]
 ·have e:FZ (Array.replicate l.toArray.size false)=fun _=>false:=by
   funext j
   simp only[FZ];by_cases h:j<l.length
   ·simp[h]
   ·simp[h]
  rw[e];exact h0
end Mem
namespace Mem
def Eh(l:List Oper)(s i:Nat):Bool:=((l[s]?).map fun o=>o.after.any fun e=>Region.binds .any e&&e.on==i).getD false
variable {P:Program}{Q:Exit→Act→World→Prop}
end Mem
namespace oC
end oC
end Go.Proofs.YtmepekognmlblaaGreatDoor
namespace Go.Proofs
def Tryz.GP:Go.Shelf.Ren:=⟨fun|176=>109|249=>132|288=>140|283=>148|284=>149|285=>150|286=>151|129=>155|317=>154|318=>156|319=>157|320=>158|337=>166|338=>167|n=>n,fun|37=>103|2=>2|3=>3|53=>44|4=>4|9=>9|171=>168|0=>0|173=>171|212=>175|51=>176|5=>5|20=>20|213=>177|46=>148|232=>188|233=>189|n=>n,fun|17=>0|18=>2|19=>3|n=>n⟩
theorem Tryz.EY:Go.Proofs.LaysM.n176 prog Tryz.GP:={
 mixed:=by kernel_rfl
 f129:=func155.trans (congrArg some (by kernel_rfl))
 f176:=func109.trans (congrArg some (by kernel_rfl))
 f249:=func132.trans (congrArg some (by kernel_rfl))
 f283:=func148.trans (congrArg some (by kernel_rfl))
 f284:=func149.trans (congrArg some (by kernel_rfl))
 f285:=func150.trans (congrArg some (by kernel_rfl))
 f286:=func151.trans (congrArg some (by kernel_rfl))
 f288:=func140.trans (congrArg some (by kernel_rfl))
 f317:=func154.trans (congrArg some (by kernel_rfl))
 f318:=func156.trans (congrArg some (by kernel_rfl))
 f319:=func157.trans (congrArg some (by kernel_rfl))
 f320:=func158.trans (congrArg some (by kernel_rfl))
 f337:=func166.trans (congrArg some (by kernel_rfl))
 f338:=func167.trans (congrArg some (by kernel_rfl))
 t0:=underlying0
 a0:=Tryz.isAgg0
 z0:=Tryz.sizeOf0
 v0:=Tryz.zeroValue0
 t2:=underlying2
 a2:=Tryz.isAgg2
 z2:=Tryz.sizeOf2
 v2:=Tryz.zeroValue2
 t3:=underlying3
 a3:=Tryz.isAgg3
 z3:=Tryz.sizeOf3
 v3:=Tryz.zeroValue3
 t4:=underlying4
 a4:=Tryz.isAgg4
 z4:=Tryz.sizeOf4
 v4:=Tryz.zeroValue4
 t5:=underlying5
 a5:=Tryz.isAgg5
 z5:=Tryz.sizeOf5
 v5:=Tryz.zeroValue5
 t9:=underlying9
 a9:=Tryz.isAgg9
 z9:=Tryz.sizeOf9
 v9:=Tryz.zeroValue9
 t20:=underlying20
 a20:=Tryz.isAgg20
 z20:=Tryz.sizeOf20
 v20:=Tryz.zeroValue20
 t37:=underlying103
 a37:=Tryz.isAgg103
 z37:=Tryz.sizeOf103
 v37:=Tryz.zeroValue103
 t46:=underlying148
 a46:=Tryz.isAgg148
 z46:=Tryz.sizeOf148
 v46:=Tryz.zeroValue148
 t51:=underlying176
 a51:=Tryz.isAgg176
 z51:=Tryz.sizeOf176
 v51:=Tryz.zeroValue176
 t53:=underlying44
 a53:=Tryz.isAgg44
 z53:=Tryz.sizeOf44
 v53:=Tryz.zeroValue44
 t171:=underlying168
 a171:=Tryz.isAgg168
 z171:=Tryz.sizeOf168
 v171:=Tryz.zeroValue168
 t173:=underlying171
 a173:=Tryz.isAgg171
 z173:=Tryz.sizeOf171
 v173:=Tryz.zeroValue171
 t212:=underlying175
 a212:=Tryz.isAgg175
 z212:=Tryz.sizeOf175
 v212:=Tryz.zeroValue175
 t213:=underlying177
 a213:=Tryz.isAgg177
 z213:=Tryz.sizeOf177
 t232:=underlying188
 a232:=Tryz.isAgg188
 z232:=Tryz.sizeOf188
 v232:=Tryz.zeroValue188
 t233:=underlying189
 a233:=Tryz.isAgg189
 z233:=Tryz.sizeOf189
 v233:=Tryz.zeroValue189
 g17:=by kernel_rfl
 g18:=by kernel_rfl
 g19:=by kernel_rfl
 i0:=by kernel_rfl
 i2:=by kernel_rfl
 i3:=by kernel_rfl
 i4:=by kernel_rfl
 i5:=by kernel_rfl
 i9:=by kernel_rfl
 i20:=by kernel_rfl
 i37:=by kernel_rfl
 i46:=by kernel_rfl
 i51:=by kernel_rfl
 i53:=by kernel_rfl
 i171:=by kernel_rfl
 i173:=by kernel_rfl
 i212:=by kernel_rfl
 i232:=by kernel_rfl
 i233:=by kernel_rfl
 m17:=by kernel_rfl
 m18:=by kernel_rfl
 m19:=by kernel_rfl }
open Go.RowKit in
theorem Tryz.JI(B n:Nat)(i:Int)(h0 : -9223372036854775808≤i)(h1:i≤9223372036854775807)(sv:Value)(xs:List Value)(w:World)(hown:w.ownsRow B 5 1 sv n xs)(hBw:B≤w.heap.size)(hlim:n+21≤140737488355328)
 (nX:Lib.TabBelow prog B w "internal/strconv.uint64pow10" .u64 Lib.pow10Tab) :
 Calls prog 109 #[sv,ι γ i,ι γ 10] w fun e w'=>∃v',e=ρ v'∧w'.ownsRow B 5 1 v' (n+(Lib.itoa i).length) (xs++Lib.byteCells (Lib.itoa i))∧RowKit.Below B w w'∧Lib.OthersKept 5 none w w':=Any.strconv_AppendInt_10 Tryz.EY B n i h0 h1 sv xs w hown hBw hlim nX
