import Derived.Test.YtmepekognmlblaaGreatDoorS04
import Derived.Test.YtmepekognmlblaaGreatDoorS07
import Derived.Shelf.Strconv.AppendIntPublic10
set_option linter.unusedVariables false
open Go.RowKit Go.ChangeShapes Go.WideShapes Go.ChangeAt Go.Proofs.Tryz Go.Shelf
open _root_.List renaming length_append→ZU,append_assoc→JZ,getElem?_append_right→GK,append_nil→He
open Go.Value renaming int→ι,slice→ς
open Go.IntKind renaming i64→γ
open Go.Obj renaming cells→θ
open Go.Ending renaming returned→ρ
namespace Go.Proofs.YtmepekognmlblaaGreatDoor
namespace Match
abbrev P2:=Int×Int
def Kj(ka kb:List Int)(last:Int)(used:List Int)(p:P2):Bool :=
 decide (last<p.1)&&decide (p.1<(ka.length:Int))&&decide (0≤p.2)&&decide (p.2<(kb.length:Int)) && !used.contains p.2&&decide (ka.getD p.1.toNat 0=kb.getD p.2.toNat 0)
def X7(ka kb:List Int):Int→List Int→List P2→Bool
 |_,_,[]=>true
 |last,used,p::r=>Kj ka kb last used p&&X7 ka kb p.1 (p.2::used) r
def Z9(ka kb:List Int)(L:List P2):Bool:=(L.head? == some (0,0))&&X7 ka kb (-1) [] L
def V7(n:Nat)(used:List Int):List Bool:=(List.range n).map fun(j:Nat)=>used.contains (j:Int)
theorem Xv(n:Nat)(used:List Int):(V7 n used).length=n:=by simp[V7]
theorem Qhl(n:Nat):V7 n []=List.replicate n false:=by
 unfold V7;rw[List.eq_replicate_iff];refine⟨ψ,fun b hb=>?_⟩;obtain⟨j,_,rfl⟩:=List.mem_map.1 hb;rfl
theorem G3{n:Nat}{used:List Int}{j:Nat}(h:j<n):(V7 n used)[j]?=some (used.contains (j:Int)):=by
 unfold V7;rw[List.getElem?_map,List.getElem?_range h];rfl
theorem Qhk{n:Nat}{used:List Int}{j:Nat}(h:j<n):(V7 n used).set j true=V7 n ((j:Int)::used):=by
 apply List.ext_getElem?;intro i;by_cases hi:i<n
 ·rw[G3 hi,List.getElem?_set];by_cases hij:j=i
  ·subst hij;rw[if_pos rfl,if_pos (by rw[Xv];exact h)];simp
  ·rw[if_neg hij,G3 hi];have:¬(i:Int)=(j:Int):=ω
   simp[this]
 ·rw[List.getElem?_eq_none (by rw[List.length_set,Xv];omega),List.getElem?_eq_none (by rw[Xv];omega)]
def Yu(n:Nat)(L:List P2):List Int:=L.foldl (fun l p=>l.set p.1.toNat p.2) (List.replicate n (-1))
theorem Qew(L:List P2):∀l:List Int,(L.foldl (fun l p=>l.set p.1.toNat p.2) l).length=l.length:=by
 induction L with
 |nil=>intro l;rfl
 |cons p r ih=>intro l;rw[List.foldl_cons,ih,List.length_set]
theorem Qe5(n:Nat)(L:List P2):(Yu n L).length=n:=by unfold Yu;rw[Qew];simp
open Tree Shape
structure Sd where
 T:F
 ns:List Nat
namespace Sd
def nd(s:Sd):List Nd:=nodes s.T
def n(s:Sd):Nat:=s.nd.length
def kid(s:Sd)(x:Nat):List Nat:=(Z7 0 s.T).getD x []
def par(s:Sd):List Int:=Jn (-1) 0 s.T
def no(s:Sd)(x:Nat):Nat:=s.ns.getD x 0
def at_(s:Sd)(x:Nat):Nd:=s.nd.getD x ⟨0,.empty,.empty,.nil⟩
def sz(s:Sd)(x:Nat):Nat:=(s.at_ x).size
def wh(s:Sd)(m:Nat):List Nat:=(List.range s.n).filter fun p=>s.no p==m
end Sd
abbrev St:=List Int×List Int
def QQ(M:List Int)(x:Nat):Bool:=decide (M.getD x 0<0)
def Kv(M:List Int)(x y:Nat):Nat→List Int
 |0=>M
 |i+1=>(Kv M x y i).set (x+i) ((y+i:Nat):Int)
section
variable (a b:Sd)
def JU(x y:Nat):Bool:=a.no x==b.no y
def Q2(x y:Nat):Nat:=if JU a b x y then a.sz x else 1
def QK(M:St)(x y:Nat):St:=(Kv M.1 x y (Q2 a b x y),Kv M.2 y x (Q2 a b x y))
def Xm(x y:Nat):Bool:=decide (0<(a.kid x).length)&&decide (0<(b.kid y).length)&&JU a b ((a.kid x).getD ((a.kid x).length-1) 0) ((b.kid y).getD ((b.kid y).length-1) 0)
def Kn(s o:Sd)(p q:Nat):Bool:=!(o.sz q==1)&&(s.wh (o.no q)).any fun r=>decide (p+1≤r)&&decide (r<p+s.sz p)
def En(k:Int):Bool:=k==4||k==5||k==6||k==7||k==14||k==16
def Ef:Nat→Nat→Nat→Nat→Nat
 |0,_,_,v=>v
 |f+1,x,y,v =>
  if(a.at_ x).k=(b.at_ y).k then
   (if(a.at_ x).c.len=0∨(b.at_ y).c.len=0 then v+1+(if(a.at_ x).x.toList=(b.at_ y).x.toList then 1 else 0)
    else Ef f (x+1) (y+1) (v+1+(if(a.at_ x).x.toList=(b.at_ y).x.toList then 1 else 0)))
  else v
def Es(x y:Nat):Nat:=Ef a b 4 x y (if Xm a b x y then 2 else 0)
def near(M:St)(x y:Nat):Nat :=
 if !QQ M.1 x||(!QQ M.2 y || !((a.at_ x).k==(b.at_ y).k))then 0
 else if JU a b x y then 16
 else if Kn a b x y||Kn b a y x then 0
 else if En (a.at_ x).k&&(!((a.at_ x).x.toList==(b.at_ y).x.toList) && !Xm a b x y)then 0
 else Es a b x y
def front:St→List Nat→List Nat→St×List Nat×List Nat
 |M,x::xs,y::ys=>if near a b M x y=16 then front (QK a b M x y) xs ys else(M,x::xs,y::ys)
 |M,[],ys=>(M,[],ys)
 |M,xs,[]=>(M,xs,[])
def back:Nat→St→List Nat→List Nat→St×List Nat×List Nat
 |0,M,xs,ys=>(M,xs,ys)
 |f+1,M,xs,ys =>
  if 0<xs.length∧0<ys.length∧near a b M (xs.getD (xs.length-1) 0) (ys.getD (ys.length-1) 0)=16 then
   back f (QK a b M (xs.getD (xs.length-1) 0) (ys.getD (ys.length-1) 0)) (xs.take (xs.length-1)) (ys.take (ys.length-1))
  else(M,xs,ys)
def r8(v:Nat→Nat→Nat)(p q i:Nat)(prev:Nat→Nat):Nat→Nat
 |0=>0
 |j+1=>max (max (prev (j+1)) (r8 v p q i prev j)) (v (p-(i+1)) (q-(j+1))+prev j)
def QU(v:Nat→Nat→Nat)(p q:Nat):Nat→Nat→Nat
 |0=>fun _=>0
 |i+1=>r8 v p q i (QU v p q i)
theorem æ(v:Nat→Nat→Nat)(p q j:Nat):QU v p q 0 j=0:=rfl
theorem å(v:Nat→Nat→Nat)(p q:Nat):∀i,QU v p q i 0=0
 |0=>rfl
 |_+1=>rfl
theorem ä(v:Nat→Nat→Nat)(p q i j:Nat):QU v p q (i+1) (j+1)=max (max (QU v p q i (j+1)) (QU v p q (i+1) j)) (v (p-(i+1)) (q-(j+1))+QU v p q i j):=rfl
def QR(v:Nat→Nat→Nat)(xs ys:List Nat):Nat→St→Nat→Nat→St
 |0,M,_,_=>M
 |f+1,M,i,j =>
  if i<xs.length∧j<ys.length then
   (if 0<v i j∧QU v xs.length ys.length (xs.length-i) (ys.length-j)=v i j+QU v xs.length ys.length (xs.length-(i+1)) (ys.length-(j+1))then QR v xs ys f (QK a b M (xs.getD i 0) (ys.getD j 0)) (i+1) (j+1)
    else if QU v xs.length ys.length (xs.length-i) (ys.length-j)=QU v xs.length ys.length (xs.length-(i+1)) (ys.length-j)then QR v xs ys f M (i+1) j
    else QR v xs ys f M i (j+1))
  else M
def piece(M:St)(xs ys:List Nat):St:=QR a b (fun i j=>near a b M (xs.getD i 0) (ys.getD j 0)) xs ys (xs.length+ys.length) M 0 0
def pieces:Nat→St→List Nat→List Nat→St
 |0,M,_,_=>M
 |f+1,M,xs,ys=>if 0<xs.length∧0<ys.length then pieces f (piece a b M (xs.take (min 256 xs.length)) (ys.take (min 256 ys.length))) (xs.drop (min 256 xs.length)) (ys.drop (min 256 ys.length))else M
def YV(M:St)(xs ys:List Nat):St :=
 let p:=front a b M xs ys
 let q:=back a b p.2.1.length p.1 p.2.1 p.2.2
 pieces a b q.2.1.length q.1 q.2.1 q.2.2
def NJ(s:Sd)(M:List Int)(row:List Nat)(m:Nat):List Nat:=(List.range row.length).filter fun i=>QQ M (row.getD i 0)&&s.no (row.getD i 0)==m
def find(row:List Nat)(v:Int):Option Nat:=if row.any (fun q=>((q:Nat):Int)==v)then some (row.countP fun q=>decide (((q:Nat):Int)<v))else none
def V2(M:St)(xs ys:List Nat)(i:Nat):List (Nat×Nat) :=
 if QQ M.1 (xs.getD i 0)then
  (if(NJ a M.1 xs (a.no (xs.getD i 0))).length=1∧(NJ b M.2 ys (a.no (xs.getD i 0))).length=1 then[(i,(NJ b M.2 ys (a.no (xs.getD i 0))).getD 0 0)]else[])
 else match find ys (M.1.getD (xs.getD i 0) 0)with
  |some j=>[(i,j)]
  |none=>[]
def Kq(M:St)(xs ys:List Nat):List (Nat×Nat):=(List.range xs.length).flatMap (V2 a b M xs ys)
end
abbrev NP:=Nat×Nat
def NH(l:List NP)(ends:List Nat)(y:Nat):Nat:=ends.countP fun e=>decide ((l.getD e (0,0)).2≤y)
def Y7(l:List NP)(s:List Nat×List Nat)(i:Nat):List Nat×List Nat :=
 let k:=NH l s.1 (l.getD i (0,0)).2
 ((if k=s.1.length then s.1++[i]else s.1).set k i,if 0<k then s.2.set i (s.1.getD (k-1) 0)else s.2)
def Q7(l:List NP):Nat→List Nat×List Nat
 |0=>([],List.replicate l.length 0)
 |i+1=>Y7 l (Q7 l i) i
def Yo(l:List NP)(before:List Nat):Nat→Nat→List NP→List NP
 |0,_,out=>out
 |k+1,e,out=>Yo l before k (before.getD e 0) (l.getD e (0,0)::out)
def Vo(l:List NP):List NP :=
 let s:=Q7 l l.length
 Yo l s.2 s.1.length (s.1.getD (s.1.length-1) 0) []
section
variable (a b:Sd)
def X8(xs ys:List Nat):St→Nat→Nat→List NP→St
 |M,f,g,[]=>YV a b M (xs.drop f) (ys.drop g)
 |M,f,g,p::r=>X8 xs ys (QK a b (YV a b M ((xs.take p.1).drop f) ((ys.take p.2).drop g)) (xs.getD p.1 0) (ys.getD p.2 0)) (p.1+1) (p.2+1) r
def Ec(M:St)(xs ys:List Nat):St:=X8 a b xs ys M 0 0 (Vo (Kq a b M xs ys))
def ZJ:Nat→St→Nat→St
 |0,M,_=>M
 |f+1,M,x=>ZJ f (if 0≤M.1.getD x 0∧JU a b x (M.1.getD x 0).toNat=false then Ec a b M (a.kid x) (b.kid (M.1.getD x 0).toNat)else M) (x+1)
end
abbrev Ky:=Int×ByteArray×Int
def recv(s:Sd)(p:Nat):Int:=(s.kid ((s.kid p).getD 0 0)).foldl (fun _ q=>((s.no q:Nat):Int)) (-1)
def keyOf(s:Sd)(p:Nat):Option Ky :=
 if(s.at_ p).k=2 then some (2,.empty,-1)
 else if(s.at_ p).k=4∨(s.at_ p).k=5∨(s.at_ p).k=6 then some ((s.at_ p).k,(s.at_ p).x,-1)
 else if(s.at_ p).k=7 then some (7,(s.at_ p).x,recv s p)
 else none
def items(s:Sd)(k:Ky):List Nat:=(s.kid 0).filter fun p=>decide (keyOf s p=some k)
section
variable (a b:Sd)
def Zw:St→List Nat→St
 |M,[]=>M
 |M,x::r=>match keyOf a x with
  |none=>Zw M r
  |some k=>if(items a k).length=1∧(items b k).length=1 then Zw (QK a b M x ((items b k).getD 0 0)) r else Zw M r
end
def X6(M:List Int):List Nat→List Int→List Nat
 |acc,[]=>acc
 |acc,p::r=>X6 M (acc++[if acc.length=0∨QQ M p.toNat=false then p.toNat else acc.getD p.toNat 0]) r
def Q3(s:Sd)(M:List Int):List Nat:=X6 M [] s.par
def Va(s:Sd)(ov:List Nat)(p:Nat):Bool:=decide (s.par.getD p 0=((ov.getD p 0:Nat):Int))
def Xd(s:Sd)(M:List Int)(ov:List Nat)(o m:Nat):List Nat :=
 (List.range s.n).filter (fun p=>QQ M p&&(Va s ov p&&(ov.getD p 0==o&&s.no p==m)))++(List.range s.n).filter (fun p=>QQ M p&&(!Va s ov p&&(ov.getD p 0==o&&s.no p==m)))
def Jt(s:Sd)(M:List Int):List Nat:=(List.range s.n).filter fun p=>QQ M p
def ahead(s:Sd)(p q:Nat):Bool:=decide (s.sz q<s.sz p)||(decide (s.sz p=s.sz q)&&decide (p<q))
def U6(s:Sd)(p:Nat):List Nat→List Nat
 |[]=>[p]
 |q::r=>if ahead s q p then q::U6 s p r else p::q::r
def J7(s:Sd)(l:List Nat):List Nat:=l.foldl (fun acc p=>U6 s p acc) []
section
variable (a b:Sd)
def Ys(KP XS:List Nat)(x:Nat):St→List Nat→St
 |M,[]=>M
 |M,y::r=>if QQ M.2 y&&(Va a KP x||Va b XS y)then QK a b M x y else Ys KP XS x M r
def Yc(KP XS:List Nat)(sp:Nat→Nat→List Nat):St→List Nat→St
 |M,[]=>M
 |M,x::r=>Yc KP XS sp (if QQ M.1 x then Ys a b KP XS x M (sp (M.1.getD (KP.getD x 0) 0).toNat (a.no x))else M) r
def Y9(M:St):St:=Yc a b (Q3 a M.1) (Q3 b M.2) (Xd b M.2 (Q3 b M.2)) M (J7 a (Jt a M.1))
def Ki(M:List Int):List P2:=(List.range M.length).flatMap fun x=>if 0≤M.getD x 0 then[((x:Int),M.getD x 0)]else[]
def Kz:St:=(List.replicate a.n (-1),List.replicate b.n (-1))
def V4(rt:Bool):St:=Y9 a b (ZJ a b a.n (if rt then Zw a b (QK a b (Kz a b) 0 0) (a.kid 0)else QK a b (Kz a b) 0 0) 0)
end
end Match
namespace Ro
end Ro
namespace Lex
open Ro
def OG(xs:List Int):Int:=if bad xs<xs.length then 3 else if left xs=[]then 0 else 4
def pC(xs:List Int):Nat:=if bad xs<xs.length then bad xs else if left xs=[]then 0 else xs.length-(left xs).length
def vB(xs:List Int):List Tok:=if OG xs=0 then ZH xs else[]
def vG(s:List Int):Bool:=decide (0<s.length)&&(kd (s.getD 0 0)==1)&&decide (Xu s=s.length) && !isWord s
end Lex
namespace Mem
def Eh(l:List Oper)(s i:Nat):Bool:=((l[s]?).map fun o=>o.after.any fun e=>Region.binds .any e&&e.on==i).getD false
variable {P:Program}{Q:Exit→Act→World→Prop}
end Mem
namespace Mem
section
variable {P:Program}{Q:Exit→Act→World→Prop}
theorem Ea{l:List Oper}{Inv:(Nat→Bool)→(Nat→Value)→World→Prop}{L:Nat→Bool}{x:Nat→Value}{a:Act}{W:World}(hcl:∀k j,L k=true→Eh l k j=true→L j=true) :
 ∀(os:List Oper)(i:Nat),(∀j,os[j]?=l[i+j]?)→X9 P l Q Inv L x a W i os→X9 P l Q (fun L x W=>Inv L x W∧∀k j,L k=true→Eh l k j=true→L j=true) L x a W i os
 |[],_,_,_=>trivial
 |o::os,i,ho,⟨h1,h2⟩=>by
  refine⟨fun hi hd K hK=>h1 hi hd K (show Shut _ from fun v W' hv=>hK.out v W' ⟨hv,fun k j hk hw=>?_⟩),Ea hcl os (i+1) (fun j=>by have:=ho (j+1);simpa[Nat.add_assoc,Nat.add_comm 1 j]using this) h2⟩;unfold Zh at hk⊢;by_cases zU:k=i
  ·subst zU;have h0:=ho 0;simp only[List.getElem?_cons_zero,Nat.add_zero]at h0;have:L j=true:=hd j (by unfold Eh at hw;rw[←h0]at hw;simpa using hw);split
   ·rfl
   ·exact this
  ·rw[if_neg zU]at hk;split
   ·rfl
   ·exact hcl k j hk hw
theorem Z3{id:Nat}{l:List Oper}{a0:Act}{w:World}(Inv:(Nat→Bool)→(Nat→Value)→World→Prop)(hm:P.follows .mixedOrders=true)(hn:(Xs l).Nodup)(he:Z2 l=true)
 (h0:∀x,Inv (fun _=>false) x w.drew)
 (hsteps:∀L x W,Inv L x W→(∀k j,L k=true→Eh l k j=true→L j=true)→∀a,a=(⟨Qi x 0 l a0.tmps,a0.defers⟩:Act)→X9 P l Q Inv L x a W 0 l)
 (hdone:∀L x W,Inv L x W→(∀i,i<l.length→L i=true)→∀a,a=(⟨Qi x 0 l a0.tmps,a0.defers⟩:Act)→Q .normal a W) :
 (Code.region id l.toArray true).wp P Q a0 w :=
 Qkv (fun L x W=>Inv L x W∧∀k j,L k=true→Eh l k j=true→L j=true) hm hn he ⟨h0 _,fun _ _ h=>by cases h⟩
  (fun L x W hI a ha=>Ea hI.2 l 0 (fun j=>by rw[Nat.zero_add]) (hsteps L x W hI.1 hI.2 a ha)) fun L x W hI hall a ha=>hdone L x W hI.1 hall a ha
theorem Qh{l:List Oper}{dn:Nat→Bool}{i r:Nat}(hcl:∀k j,dn k=true→Eh l k j=true→dn j=true)(hd:dn i=false)(hw:Eh l r i=true):dn r=false:=by
 cases h:dn r with
 |false=>rfl
 |true=>rw[hcl r i h hw]at hd;cases hd
theorem Qr{L:Nat→Bool}{i j:Nat}(h:j≠i):Zh L i j=L j:=by unfold Zh;rw[if_neg h]
theorem Zf{x:Nat→Value}{v:Value}{i j:Nat}(h:j≠i):Qq x i v j=x j:=by unfold Qq;rw[if_neg h]
theorem V8{L:Nat→Bool}{i:Nat}:Zh L i i=true:=by unfold Zh;rw[if_pos rfl]
theorem Ks{x:Nat→Value}{v:Value}{i:Nat}:Qq x i v i=v:=by unfold Qq;rw[if_pos rfl]
end
theorem Qz(w:World)(o:Obj):Below w.heap.size w (w.alloc o):=(Below.refl _ _).alloc (Nat.le_refl _) _
theorem Vk(w:World)(cs:List Value)(T:TypeId):∀(j:Nat)(u:Value),cs[j]? = some u→(w.alloc (θ cs.toArray T)).cell? ⟨w.heap.size,j,none⟩=some u:=fun j u h=>by
 rw[World.cell?_alloc_at _ _ _ _ rfl];simpa using h
structure AG(w0:World)(B:Nat)(C:Nat→Option Value)(iB iA iS:Nat)(R:List QC)(cs:List Value)(R1 R2:Value→List QC)(L:Nat→Bool)(x:Nat→Value)(W:World):Prop where
 QF:Below B w0 W
 kc:∀i v,C i=some v→L i=true→x i=v
 f0:L iA=false→QH W B R
 fb:L iB=true→L iA=false→∃g c,x iB=ς (some ⟨g,0,none⟩) 1 c∧∀j u,cs[j]?=some u→W.cell? ⟨g,j,none⟩=some u
 f1:L iA=true→L iS=false→QH W B (R1 (x iA))
 f2:L iS=true→QH W B (R2 (x iA))
 dS:L iS=true→L iA=true
section
variable {w0 W W':World}{B:Nat}{C:Nat→Option Value}{iB iA iS:Nat}{R:List QC}{cs:List Value}{R1 R2:Value→List QC}{L:Nat→Bool}{x:Nat→Value}{v:Value}
theorem AG.start(h:QH W B R):AG W B C iB iA iS R cs R1 R2 (fun _=>false) x W.drew :=
 ⟨⟨rfl,rfl,rfl,Nat.le_refl _,fun _ _=>rfl⟩,fun _ _ _ h=>(by cases h),fun _=>h.YH ⟨rfl,rfl,rfl,Nat.le_refl _,fun _ _ _=>rfl⟩,fun h=>(by cases h),fun h=>(by cases h),fun h=>(by cases h),fun h=>(by cases h)⟩
theorem AG.Cc(h:AG w0 B C iB iA iS R cs R1 R2 L x W){i:Nat}(hi:C i=none∨C i=some v):∀j u,C j=some u→Zh L i j=true→Qq x i v j=u:=fun j u hj hl=>by
 by_cases e:j=i
 ·subst e;rw[Ks];rcases hi with hi|hi
  ·rw[hi]at hj;cases hj
  ·exact Option.some.inj (hi.symm.trans hj)
 ·rw[Zf e];rw[Qr e]at hl;exact h.kc j u hj hl
theorem AG.quiet(h:AG w0 B C iB iA iS R cs R1 R2 L x W)(hW:B≤W.heap.size)(hb:Below W.heap.size W W'){i:Nat}(hi:C i=some v)(h1:iB≠i)(h2:iA≠i)(h3:iS≠i):AG w0 B C iB iA iS R cs R1 R2 (Zh L i) (Qq x i v) W':=by
 refine⟨h.QF.trans (hb.mono hW),h.Cc (.inr hi),?_,?_,?_,?_,?_⟩;all_goals simp only[Qr h1,Qr h2,Qr h3,Zf h1,Zf h2]
 ·exact fun a=>(h.f0 a).later hb
 ·exact c68
 ·exact fun a b=>(h.f1 a b).later hb
 ·exact fun a=>(h.f2 a).later hb
 ·exact h.dS
theorem AG.build(h:AG w0 B C iB iA iS R cs R1 R2 L x W)(hW:B≤W.heap.size)(hb:Below W.heap.size W W')(hC:C iB=none)(hA:iA≠iB)(hS:iS≠iB){g c:Nat}(hv:v=ς (some ⟨g,0,none⟩) 1 c)(hc:∀j u,cs[j]?=some u→W'.cell? ⟨g,j,none⟩=some u) :
 AG w0 B C iB iA iS R cs R1 R2 (Zh L iB) (Qq x iB v) W':=by
 refine⟨h.QF.trans (hb.mono hW),h.Cc (.inl hC),?_,fun _ _=>⟨g,c,by rw[Ks,hv],hc⟩,?_,?_,?_⟩;all_goals simp only[Qr hA,Qr hS,Zf hA]
 ·exact fun a=>(h.f0 a).later hb
 ·exact fun a b=>(h.f1 a b).later hb
 ·exact fun a=>(h.f2 a).later hb
 ·exact h.dS
theorem AG.app(h:AG w0 B C iB iA iS R cs R1 R2 L x W)(hC:C iA=none)(hS:iS≠iA)(hL:L iA=false)(hb:Below B W W')(hf:QH W' B (R1 v)):AG w0 B C iB iA iS R cs R1 R2 (Zh L iA) (Qq x iA v) W':=by
 have s0:L iS=false:=by cases e:L iS with|false=>rfl|true=>rw[h.dS e]at hL;cases hL
 refine⟨h.QF.trans hb,h.Cc (.inl hC),fun a=>(by rw[V8]at a;cases a),fun _ a=>(by rw[V8]at a;cases a),fun _ _=>by rw[Ks];exact hf,?_,?_⟩;all_goals simp only[Qr hS,s0]
 all_goals intro q;cases q
theorem AG.store(h:AG w0 B C iB iA iS R cs R1 R2 L x W)(hC:C iS=none)(hA:iA≠iS)(hL:L iA=true)(hb:Below B W W')(hf:QH W' B (R2 (x iA))):AG w0 B C iB iA iS R cs R1 R2 (Zh L iS) (Qq x iS v) W':=by
 refine⟨h.QF.trans hb,h.Cc (.inl hC),fun a=>?_,fun _ a=>?_,fun _ a=>(by rw[V8]at a;cases a),fun _=>by rw[Zf hA];exact hf,fun _=>by rw[Qr hA];exact hL⟩;all_goals rw[Qr hA,hL]at a;cases a
end
theorem K7{P:Program}{T E:TypeId}{i0:TypeInfo}{z:Value}{Hd:Nat}{ops:Array Oper}{rest:List Oper}{o:Oper}{a:Act}{Q:Exit→Act→World→Prop}{W:World}{B:Nat}{R:List QC}{i n:Nat}{v u:Value}{xs:List Value}(h:QH W B R)(hi:R[i]?=some (Qb E 1 v n xs))(hgd:o.guard=none)(s x:Operand)
 (ho:o.op=.call { callee:=.builtin .append,args:=#[s,x],argTypes:=#[T,T] }) (hT:P.underlying T=some (.slice E)) (hi0:P.info? E=some i0) (hz0:i0.zero=some z) (hz1:i0.size=1) (hz2:i0.bytes=Hd) (Np:z.cells.size=1) (hby:Hd≤1000)
 (hs:a.eval s=v) (g c:Nat) (hg:g=W.heap.size) (hx:a.eval x=ς (some ⟨g,0,none⟩) 1 c) (h1:u.oneCell'=true) (hn:n≤10000000)
 (k:∀v' w',QH w' B (R.set i (Qb E 1 v' (n+1) (xs++[u])))→Below B W w'→wpList P ops Q rest (a.put o.dst v') w'):wpList P ops Q (o::rest) a (W.alloc (θ #[u] E)):=by
 subst hg;have hb:=Qz W (θ #[u] E);obtain⟨v',w',hr,hf,hb',_,_⟩:=(h.later hb).VT (P:=P) (T:=T) (g:=W.heap.size) (c:=c) (cs:=[u]) hi o.type hT hi0 hz0 hz1 hz2 Np δ hby rfl (Vk W [u] E) (fun q hq=>by rw[List.mem_singleton.1 hq];exact h1) hn;exact Y8 hgd s x ho hs hx hr (k v' w' hf ((hb.mono h.B).trans hb'))
end Mem
namespace oC
end oC
namespace Shape
open Tree
def upto:Nat→F→F
 |0,_=>.nil
 |_+1,.nil=>.nil
 |j+1,.cons k x y c r=>.cons k x y c (upto j r)
theorem Qqj:∀j,upto j .nil=.nil
 |0=>rfl
 |_+1=>rfl
theorem Ga:∀(j:Nat)(f:F),f.len≤j→upto j f=f
 |j,.nil,_=>Qqj j
 |0,.cons _ _ _ _ r,h=>by simp[F.len]at h
 |j+1,.cons k x y c r,h=>by
  simp only[upto];rw[Ga j r (by simp only[F.len]at h;omega)]
theorem K4:∀(j:Nat)(f:F)(k:Int)(x y:ByteArray)(c r:F),f.drop j=.cons k x y c r→
 nodes (upto (j+1) f)=nodes (upto j f)++nodes (one k x y c)∧Zt (upto (j+1) f)=Zt (upto j f)++Zt (one k x y c)∧(upto (j+1) f).size=(upto j f).size+(c.size+1)∧
 (∀a,places a (upto (j+1) f)=places a (upto j f)++[a+(upto j f).size])∧(∀p a,Jn p a (upto (j+1) f)=Jn p a (upto j f)++Jn p (a+(upto j f).size) (one k x y c))∧
 (∀a,Z7 a (upto (j+1) f)=Z7 a (upto j f)++Z7 (a+(upto j f).size) (one k x y c))
 |j,.nil,k,x,y,c,r,h=>by rw[F.drop_nil]at h;cases h
 |0,.cons k' x' y' c' r',k,x,y,c,r,h=>by
  simp only[F.drop,F.cons.injEq]at h;obtain⟨rfl,rfl,rfl,rfl,rfl⟩:=h;refine⟨?_,?_,?_,fun a=>?_,fun p a=>?_,fun a=>?_⟩;all_goals simp[upto,nodes,Zt,F.size,places,Jn,Z7,one]
 |j+1,.cons k' x' y' c' r',k,x,y,c,r,h=>by
  obtain⟨h1,h2,h3,h4,h5,h6⟩:=K4 j r' k x y c r h;refine⟨?_,?_,?_,fun a=>?_,fun p a=>?_,fun a=>?_⟩
  ·simp only[upto,nodes,List.cons_append,JZ]at h1⊢;rw[h1]
  ·simp only[upto,Zt,List.cons_append,JZ]at h2⊢;rw[h2]
  ·simp only[upto,F.size]at h3⊢;omega
  ·have:=h4 (a+1+c'.size);simp only[upto,places,List.cons_append,F.size]at this⊢;rw[this];simp only[List.cons.injEq,List.append_cancel_left_eq,true_and];exact⟨ω,trivial⟩
  ·have:=h5 p (a+1+c'.size);simp only[upto,Jn,List.cons_append,JZ,F.size]at this⊢;rw[this,show a+1+c'.size+(upto j r').size=a+(c'.size+(upto j r').size+1)by omega]
  ·have:=h6 (a+1+c'.size);simp only[upto,Z7,List.cons_append,JZ,F.size]at this⊢;rw[this,show a+1+c'.size+(upto j r').size=a+(c'.size+(upto j r').size+1)by omega]
theorem Yr:∀(j:Nat)(f:F)(a:Nat),places a (upto j f)=(places a f).take j
 |0,f,a=>by simp[upto,places]
 |j+1,.nil,a=>by simp[upto,places]
 |j+1,.cons k x y c r,a=>by
  simp only[upto,places,List.take_succ_cons];rw[Yr j r]
theorem Uh:∀(j:Nat)(f:F),(upto j f).size≤f.size
 |0,f=>Nat.zero_le _
 |_+1,.nil=>Nat.le_refl _
 |j+1,.cons k x y c r=>by have:=Uh j r;simp only[upto,F.size];omega
def dn:Nat→F→F
 |0,f=>f
 |_+1,.nil=>.nil
 |d+1,.cons _ _ _ c _=>dn d c
theorem Qy5:∀d,dn d .nil=.nil
 |0=>rfl
 |_+1=>rfl
theorem X1:∀(d:Nat)(f:F)(k:Int)(x y:ByteArray)(c r:F),dn d f=.cons k x y c r→dn (d+1) f=c
 |0,f,k,x,y,c,r,h=>by
  simp only[dn]at h;subst h;rfl
 |d+1,.nil,k,x,y,c,r,h=>by cases h
 |d+1,.cons _ _ _ c' _,k,x,y,c,r,h=>X1 d c' k x y c r h
def Bj:Nat→F→List Nd
 |0,_=>[]
 |_+1,.nil=>[]
 |d+1,.cons k x y c _=>⟨k,x,y,c⟩::Bj d c
theorem Yx:∀(d:Nat)(f:F)(k:Int)(x y:ByteArray)(c r:F),dn d f=.cons k x y c r→Bj (d+1) f=Bj d f++[⟨k,x,y,c⟩]∧(Bj d f).length=d
 |0,f,k,x,y,c,r,h=>by
  simp only[dn]at h;subst h;exact⟨rfl,rfl⟩
 |d+1,.nil,k,x,y,c,r,h=>by cases h
 |d+1,.cons k' x' y' c' r',k,x,y,c,r,h=>by
  obtain⟨h1,h2⟩:=Yx d c' k x y c r h;refine⟨?_,by simp[Bj,h2]⟩;rw[show Bj (d+1+1) (.cons k' x' y' c' r')=⟨k',x',y',c'⟩::Bj (d+1) c' from rfl,h1];rfl
theorem pV:∀(d:Nat)(f:F),(dn d f).size+d≤f.size∨dn d f=.nil
 |0,f=>.inl (Nat.le_refl _)
 |d+1,.nil=>.inr rfl
 |d+1,.cons k x y c r=>by
  rcases pV d c with h|h
  ·exact .inl (by simp only[dn,F.size];omega)
  ·exact .inr h
def pl(p:Int)(a:Nat)(d:Nat):Int:=if d=0 then p else(a:Int)+d-1
def tN(d j:Nat)(f:F):List Nd:=Bj d f++nodes (upto j (dn d f))
def tP(p:Int)(a d j:Nat)(f:F):List Int:=(List.range d).map (pl p a)++Jn (pl p a d) (a+d) (upto j (dn d f))
def tS(d j:Nat)(f:F):List Int:=List.replicate d 0++Zt (upto j (dn d f))
def tK(a d j:Nat)(f:F):List (List Nat):=List.replicate d []++Z7 (a+d) (upto j (dn d f))
def Py(a d j m:Nat)(f:F):List (List Nat):=List.replicate d []++(places (a+d+1) (dn (d+1) f)).take m::Z7 (a+d+1) (upto j (dn (d+1) f))
section
variable {p:Int}{a d j m:Nat}{f:F}{k:Int}{x y:ByteArray}{c r:F}
theorem Qzn:tN 0 1 (one k x y c)=nodes (one k x y c)∧tP p a 0 1 (one k x y c)=Jn p a (one k x y c)∧tS 0 1 (one k x y c)=Zt (one k x y c)∧tK a 0 1 (one k x y c)=Z7 a (one k x y c):=by
 refine⟨?_,?_,?_,?_⟩ <;> simp[tN,tP,tS,tK,Bj,dn,one,upto,pl]
theorem Qzl:tN 1 0 (one k x y c)=[⟨k,x,y,c⟩]∧tP p a 1 0 (one k x y c)=[p]∧tS 1 0 (one k x y c)=[0]∧tK a 1 0 (one k x y c)=[[]]:=by
 refine⟨?_,?_,?_,?_⟩ <;> simp[tN,tP,tS,tK,Bj,one,upto,pl,nodes,Jn,Zt,Z7]
theorem Qxp(h:dn d f=.cons k x y c r):tN d 0 f++[⟨k,x,y,c⟩]=tN (d+1) 0 f∧tP p a d 0 f++[pl p a d]=tP p a (d+1) 0 f∧tS d 0 f++[0]=tS (d+1) 0 f∧tK a d 0 f++[[]]=tK a (d+1) 0 f:=by
 refine⟨?_,?_,?_,?_⟩
 ·simp only[tN,upto,nodes,He];exact(Yx d f k x y c r h).1.symm
 ·simp only[tP,upto,Jn,He,List.range_succ,List.map_append];rfl
 ·simp only[tS,upto,Zt,He];exact List.replicate_succ'.symm
 ·simp only[tK,upto,Z7,He];exact List.replicate_succ'.symm
theorem Qqs(h:dn d f=.nil):tN d 0 f=tN d 1 f∧tP p a d 0 f=tP p a d 1 f∧tS d 0 f=tS d 1 f∧tK a d 0 f=tK a d 1 f:=by
 refine⟨?_,?_,?_,?_⟩ <;> simp[tN,tP,tS,tK,h,upto]
theorem L8(h:dn d f=.cons k x y c r)(j:Nat):(tN (d+1) j f).length=d+1+(upto j c).size∧(tP p a (d+1) j f).length=d+1+(upto j c).size∧(tS (d+1) j f).length=d+1+(upto j c).size∧∀m,(Py a d j m f).length=d+1+(upto j c).size:=by
 have e:=X1 d f k x y c r h;have h1:=(Yx d f k x y c r h);refine⟨?_,?_,?_,fun m=>?_⟩
 ·simp only[tN,ZU,Qj,h1.1,h1.2,e,List.length_cons,List.length_nil]
 ·simp only[tP,ZU,List.length_map,List.length_range,Y1,e]
 ·simp only[tS,ZU,List.length_replicate,E6,e]
 ·simp only[Py,ZU,List.length_replicate,List.length_cons,Vh,e];omega
theorem Qz8(h:dn d f=.cons k x y c r)(j:Nat)(L0:List Nd):(L0++tN (d+1) j f)[L0.length+d]?=some ⟨k,x,y,c⟩:=by
 obtain⟨h1,h2⟩:=Yx d f k x y c r h;rw[GK ω,Nat.add_sub_cancel_left];simp only[tN,h1,JZ];rw[GK ω,h2,Nat.sub_self];rfl
theorem à(j m:Nat)(h:dn d f=.cons k x y c r)(k0:List (List Nat))(hk:k0.length=a):(k0++Py a d j m f)[a+d]?=some ((places (a+d+1) c).take m):=by
 subst hk;rw[GK ω,Nat.add_sub_cancel_left];simp only[Py];rw[GK ψ,List.length_replicate,Nat.sub_self,X1 d f k x y c r h];rfl
theorem Ą{q:Nat}(j m:Nat)(h:dn d f=.cons k x y c r)(k0:List (List Nat))(hk:k0.length=a)(hq:(places (a+d+1) c)[m]?=some q):(k0++Py a d j m f).set (a+d) ((places (a+d+1) c).take m++[q])=k0++Py a d j (m+1) f:=by
 subst hk;rw[List.set_append_right _ _ ω,Nat.add_sub_cancel_left];simp only[Py];rw[List.set_append_right _ _ ψ,List.length_replicate,Nat.sub_self,X1 d f k x y c r h,List.take_add_one,hq];rfl
theorem Qqu:tK a (d+1) 1 f=Py a d 1 0 f:=by
 simp only[tK,Py,List.take_zero,List.replicate_succ',JZ,Nat.add_assoc];rfl
theorem Ŧ{j:Nat}(b:Nat)(h:c.drop j=.cons k x y f r):(places b c)[j]?=some (b+(upto j c).size):=by
 have h1:=(K4 j c k x y f r h).2.2.2.1 b;rw[Yr,Yr]at h1;rw[List.take_add_one]at h1;have h2:=List.append_cancel_left h1;cases hp:(places b c)[j]? with
 |none=>rw[hp]at h2;cases h2
 |some q=>rw[hp]at h2;injection h2 with h2 _;rw[h2]
theorem Qzm{k':Int}{x' y':ByteArray}{c' r':F}(hd:dn d f=.cons k x y c r)(h:c.drop j=.cons k' x' y' c' r')(m:Nat):tN (d+1) (j+1) f=tN (d+1) j f++nodes (one k' x' y' c')∧tP p a (d+1) (j+1) f=tP p a (d+1) j f++Jn ((a+d:Nat):Int) (a+(d+1+(upto j c).size)) (one k' x' y' c')∧
 tS (d+1) (j+1) f=tS (d+1) j f++Zt (one k' x' y' c')∧Py a d (j+1) m f=Py a d j m f++Z7 (a+(d+1+(upto j c).size)) (one k' x' y' c'):=by
 have e:=X1 d f k x y c r hd;obtain⟨h1,h2,h3,h4,h5,h6⟩:=K4 j _ k' x' y' c' r' h;refine⟨?_,?_,?_,?_⟩
 ·simp only[tN,e,h1,JZ]
 ·simp only[tP,e,h5,JZ]
  congr 3
  ·unfold pl;rw[if_neg ω];omega
  ·omega
 ·simp only[tS,e,h2,JZ]
 ·simp only[Py,e,h6,JZ,List.cons_append];rw[show a+d+1+(upto j c).size=a+(d+1+(upto j c).size)by omega]
theorem Qz7{z0:List Int}{k0:List (List Nat)}(hd:dn d f=.cons k x y c r)(j m:Nat)(hj:c.len≤j)(hm:c.len≤m):tN (d+1) j f=tN d 1 f∧tP p a (d+1) j f=tP p a d 1 f∧(z0++tS (d+1) j f).set (z0.length+d) (((c.size+1:Nat):Int))=z0++tS d 1 f∧Py a d j m f=tK a d 1 f:=by
 have e:=X1 d f k x y c r hd;obtain⟨h1,h2⟩:=Yx d f k x y c r hd;refine⟨?_,?_,?_,?_⟩
 ·simp only[tN,h1,e,hd,Ga j c hj,upto,nodes,He,JZ];rfl
 ·simp only[tP,e,hd,Ga j c hj,upto,Jn,He,List.range_succ,List.map_append,JZ]
  congr 1
  show pl p a d::Jn (pl p a (d+1)) (a+(d+1)) c=_
  congr 2
  unfold pl;rw[if_neg ω];omega
 ·rw[List.set_append_right _ _ ω,Nat.add_sub_cancel_left];simp only[tS,e,hd,Ga j c hj,upto,Zt,He,List.replicate_succ',JZ];rw[List.set_append_right _ _ ψ,List.length_replicate,Nat.sub_self];rfl
 ·simp only[Py,tK,e,hd,Ga j c hj,upto,Z7,He];rw[List.take_of_length_le (by rw[Jc];exact hm)]
end
theorem ï:∀(d:Nat)(f:F)(i:Nat),i≤d→dn d f≠.nil→dn i f≠.nil
 |0,f,i,hi,h=>by rw[Nat.le_zero.1 hi];exact h
 |d+1,.nil,i,hi,h=>absurd (Qy5 _) h
 |d+1,.cons k x y c r,0,_,_=>by simp[dn]
 |d+1,.cons k x y c r,i+1,hi,h=>ï d c i ω h
theorem Qwl{d:Nat}{f:F}(h:dn d f≠.nil):∃k x y c r,dn d f=.cons k x y c r:=by
 cases hf:dn d f with
 |nil=>exact absurd hf h
 |cons k x y c r=>exact⟨k,x,y,c,r,rfl⟩
end Shape
end Go.Proofs.YtmepekognmlblaaGreatDoor
namespace Go.Proofs
def Tryz.GP:Go.Shelf.Ren:=⟨fun|176=>109|249=>132|288=>140|283=>148|284=>149|285=>150|286=>151|129=>155|317=>154|318=>156|319=>157|320=>158|337=>166|338=>167|n=>n,fun|37=>103|2=>2|3=>3|53=>44|4=>4|9=>9|171=>168|0=>0|173=>171|212=>175|51=>176|5=>5|20=>20|213=>177|46=>148|232=>188|233=>189|n=>n,fun|17=>0|18=>2|19=>3|n=>n⟩
theorem Tryz.EY:Go.Proofs.LaysM.n176 prog Tryz.GP:={
 mixed:=by kernel_rfl
 f129:=func155.trans (congrArg some (by kernel_rfl))
 f176:=func109.trans (congrArg some (by kernel_rfl))
 f249:=func132.trans (congrArg some (by kernel_rfl))
 f283:=func148.trans (congrArg some (by kernel_rfl))
 f284:=func149.trans (congrArg some (by kernel_rfl))
 f285:=func150.trans (congrArg some (by kernel_rfl))
 f286:=func151.trans (congrArg some (by kernel_rfl))
 f288:=func140.trans (congrArg some (by kernel_rfl))
 f317:=func154.trans (congrArg some (by kernel_rfl))
 f318:=func156.trans (congrArg some (by kernel_rfl))
 f319:=func157.trans (congrArg some (by kernel_rfl))
 f320:=func158.trans (congrArg some (by kernel_rfl))
 f337:=func166.trans (congrArg some (by kernel_rfl))
 f338:=func167.trans (congrArg some (by kernel_rfl))
 t0:=underlying0
 a0:=Tryz.isAgg0
 z0:=Tryz.sizeOf0
 v0:=Tryz.zeroValue0
 t2:=underlying2
 a2:=Tryz.isAgg2
 z2:=Tryz.sizeOf2
 v2:=Tryz.zeroValue2
 t3:=underlying3
 a3:=Tryz.isAgg3
 z3:=Tryz.sizeOf3
 v3:=Tryz.zeroValue3
 t4:=underlying4
 a4:=Tryz.isAgg4
 z4:=Tryz.sizeOf4
 v4:=Tryz.zeroValue4
 t5:=underlying5
 a5:=Tryz.isAgg5
 z5:=Tryz.sizeOf5
 v5:=Tryz.zeroValue5
 t9:=underlying9
 a9:=Tryz.isAgg9
 z9:=Tryz.sizeOf9
 v9:=Tryz.zeroValue9
 t20:=underlying20
 a20:=Tryz.isAgg20
 z20:=Tryz.sizeOf20
 v20:=Tryz.zeroValue20
 t37:=underlying103
 a37:=Tryz.isAgg103
 z37:=Tryz.sizeOf103
 v37:=Tryz.zeroValue103
 t46:=underlying148
 a46:=Tryz.isAgg148
 z46:=Tryz.sizeOf148
 v46:=Tryz.zeroValue148
 t51:=underlying176
 a51:=Tryz.isAgg176
 z51:=Tryz.sizeOf176
 v51:=Tryz.zeroValue176
 t53:=underlying44
 a53:=Tryz.isAgg44
 z53:=Tryz.sizeOf44
 v53:=Tryz.zeroValue44
 t171:=underlying168
 a171:=Tryz.isAgg168
 z171:=Tryz.sizeOf168
 v171:=Tryz.zeroValue168
 t173:=underlying171
 a173:=Tryz.isAgg171
 z173:=Tryz.sizeOf171
 v173:=Tryz.zeroValue171
 t212:=underlying175
 a212:=Tryz.isAgg175
 z212:=Tryz.sizeOf175
 v212:=Tryz.zeroValue175
 t213:=underlying177
 a213:=Tryz.isAgg177
 z213:=Tryz.sizeOf177
 t232:=underlying188
 a232:=Tryz.isAgg188
 z232:=Tryz.sizeOf188
 v232:=Tryz.zeroValue188
 t233:=underlying189
 a233:=Tryz.isAgg189
 z233:=Tryz.sizeOf189
 v233:=Tryz.zeroValue189
 g17:=by kernel_rfl
 g18:=by kernel_rfl
 g19:=by kernel_rfl
 i0:=by kernel_rfl
 i2:=by kernel_rfl
 i3:=by kernel_rfl
 i4:=by kernel_rfl
 i5:=by kernel_rfl
 i9:=by kernel_rfl
 i20:=by kernel_rfl
 i37:=by kernel_rfl
 i46:=by kernel_rfl
 i51:=by kernel_rfl
 i53:=by kernel_rfl
 i171:=by kernel_rfl
 i173:=by kernel_rfl
 i212:=by kernel_rfl
 i232:=by kernel_rfl
 i233:=by kernel_rfl
 m17:=by kernel_rfl
 m18:=by kernel_rfl
 m19:=by kernel_rfl }
open Go.RowKit in
theorem Tryz.JI(B n:Nat)(i:Int)(h0 : -9223372036854775808≤i)(h1:i≤9223372036854775807)(sv:Value)(xs:List Value)(w:World)(hown:w.ownsRow B 5 1 sv n xs)(hBw:B≤w.heap.size)(hlim:n+21≤140737488355328)
 (nX:Lib.TabBelow prog B w "internal/strconv.uint64pow10" .u64 Lib.pow10Tab) :
 Calls prog 109 #[sv,ι γ i,ι γ 10] w fun e w'=>∃v',e=ρ v'∧w'.ownsRow B 5 1 v' (n+(Lib.itoa i).length) (xs++Lib.byteCells (Lib.itoa i))∧RowKit.Below B w w'∧Lib.OthersKept 5 none w w':=Any.strconv_AppendInt_10 Tryz.EY B n i h0 h1 sv xs w hown hBw hlim nX
