import Derived.Test.YtmepekognmlblaaGreatDoorS01
import Derived.Lib.Bytes
import Derived.WalkKit
import Derived.OpenShut
import Derived.Below
import Derived.Lib.Hide
import Derived.Deep.QuietTactic
import Derived.BigQuiet
import Derived.Test.YtmepekognmlblaaGreatDoorChecked
import Derived.Outline
import Derived.WalkMore
import Derived.OneCell
import Derived.OwnWalk
set_option maxHeartbeats 4000000
set_option linter.unusedVariables false
open Go.ChangeShapes Go.WideShapes Go.ChangeAt Go.RowKit Go.Proofs.Tryz
open Go.World renaming cell?_of_block→JW
open _root_.List renaming length_cons→GW
open Go.Value renaming string→σ,int→ι,slice→ς
open Go.IntKind renaming i64→γ
open Go.Ending renaming returned→ρ
namespace Go.Proofs.YtmepekognmlblaaGreatDoor
namespace Tree
inductive F where
 |nil
 |cons (k:Int) (x y:ByteArray) (c r:F)
namespace F
def len:F→Nat
 | .nil=>0
 | .cons _ _ _ _ r=>r.len+1
def size:F→Nat
 | .nil=>0
 | .cons _ _ _ c r=>c.size+r.size+1
def drop:Nat→F→F
 |0,f=>f
 |_+1,.nil=>.nil
 |n+1,.cons _ _ _ _ r=>r.drop n
theorem QL:∀f:F,f.len≤f.size
 | .nil=>Nat.le_refl _
 | .cons _ _ _ c r=>by have:=QL r;simp only[len,size];omega
theorem drop_nil:∀n:Nat,F.drop n .nil=.nil
 |0=>rfl
 |_+1=>rfl
theorem Sa:∀(n:Nat)(f:F),(f.drop n).len=f.len-n
 |0,f=>rfl
 |n+1,.nil=>by simp[drop,len]
 |n+1,.cons _ _ _ _ r=>by simp only[drop,len,Sa n r];omega
theorem drop_drop:∀(n m:Nat)(f:F),(f.drop n).drop m=f.drop (n+m)
 |0,m,f=>by rw[Nat.zero_add];rfl
 |n+1,m,.nil=>by simp only[drop_nil]
 |n+1,m,.cons _ _ _ _ r=>by rw[show n+1+m=(n+m)+1 by omega];simp only[drop,drop_drop n m r]
theorem JG:∀(n:Nat)(f:F),f.len≤n→f.drop n=.nil
 |n,.nil,_=>drop_nil n
 |0,.cons _ _ _ _ r,h=>by simp[len]at h
 |n+1,.cons _ _ _ _ r,h=>JG n r (by simp only[len]at h;omega)
theorem drop_cons:∀{n:Nat}{f:F},n<f.len→∃k x y c r,f.drop n=.cons k x y c r∧f.drop (n+1)=r
 |n,.nil,h=>by simp[len]at h
 |0,.cons k x y c r,_=>⟨k,x,y,c,r,rfl,rfl⟩
 |n+1,.cons _ _ _ _ r,h=>by
  obtain⟨k,x,y,c,r',h1,h2⟩:=drop_cons (n:=n) (f:=r) (by simp only[len]at h;omega);exact⟨k,x,y,c,r',h1,h2⟩
theorem MT{f:F}(h:f.len=0):f=.nil:=by
 cases f with
 |nil=>rfl
 |cons=>simp[len]at h
end F
def Zl(s:ByteArray):Nat :=
 if s.toList==[124,124]then 1
 else if s.toList==[38,38]then 2
 else if s.toList==[61,61]||s.toList==[33,61]||s.toList==[60]||s.toList==[60,61]||s.toList==[62]||s.toList==[62,61]then 3
 else if s.toList==[43]||s.toList==[45]||s.toList==[124]||s.toList==[94]then 4
 else if s.toList==[42]||s.toList==[47]||s.toList==[37]||s.toList==[60,60]||s.toList==[62,62]||s.toList==[38]||s.toList==[38,94]then 5
 else 0
def Q6(pk:Int)(px:ByteArray)(i:Nat)(kk:Int)(kx:ByteArray):Bool :=
 if pk=29 then(if i=0 then kk==29&&decide (Zl kx<Zl px)else if i=1 then kk==29&&decide (Zl kx≤Zl px)else false)
 else if pk=28 then kk==29||kk==28
 else if pk=30∨pk=31∨pk=32 then decide (i=0)&&(kk==29||kk==28)
 else false
def more(pk:Int)(i:Nat)(kk:Int):Nat :=
 if pk=28∨pk=10∨pk=11∨pk=12∨pk=13∨pk=15∨pk=17 then 1
 else if pk=30∨pk=31 then(if 0<i then 1 else 0)
 else if pk=18 then(if i=2∧kk=18 then 1 else 0)
 else 0
def down(pk:Int)(px:ByteArray)(i:Nat)(kk:Int)(kx:ByteArray):Nat:=(if Q6 pk px i kk kx then 1 else 0)+more pk i kk
theorem pW(pk:Int)(px:ByteArray)(i:Nat)(kk:Int)(kx:ByteArray):down pk px i kk kx≤2:=by
 unfold down more;repeat' split
 all_goals omega
def holds(k:Int):Bool:=k==1||k==17||k==13
def Qp(k:Int)(_:ByteArray):Bool:=k==9||k==10||k==11||k==12||k==13
def Qf(k:Int)(_:ByteArray):Bool:=k==9||k==26||k==27||k==28||k==29||k==30||k==31||k==32
def Vi(k:Int)(x:ByteArray):Bool:=k==9||k==31||k==32||(k==28&&x.toList==[42])
def V0(k:Int)(_:ByteArray):Bool:=k==5||k==8||k==17||k==18||k==19||k==20||k==21||k==22||k==23||k==24||k==25
def V5(k:Int)(_:ByteArray):Bool:=k==4||k==5||k==6||k==7||k==8
def Qd(l:List Int)(k:Int)(_:ByteArray):Bool:=l.any fun j=>k==j
inductive Pt where
 |many (p:Int→ByteArray→Bool)
 |one (l:List (Int→ByteArray→Bool))
def OI(p:Int→ByteArray→Bool):F→F
 | .nil=>.nil
 | .cons k x y c r=>if p k x then OI p r else .cons k x y c r
def Pt.take:Pt→F→Option F
 | .many p,f=>some (OI p f)
 | .one l,.nil=>none
 | .one l,.cons k x _ _ r=>if l.any (fun p=>p k x)then some r else none
def Qg:List Pt→F→Bool
 |[],.nil=>true
 |[],.cons ..=>false
 |p::ps,f=>match p.take f with
  |none=>false
  |some g=>Qg ps g
def Qc(k:Int)(x:ByteArray)(f:F):Bool :=
 if k=1 then Qg [.many (Qd [8]),.one [Qd [2]],.many (Qd [3,8]),.many V5] f
 else if k=2∨k=3∨k=8∨k=9∨k=26∨k=27∨k=24∨k=25∨k=33 then decide (f.len=0)
 else if k=4∨k=28∨k=32 then Qg [.one [Qf]] f
 else if k=5 then Qg [.one [Qp,Qd [33]],.one [Qf,Qd [33]]] f && !Qg [.one [Qd [33]],.one [Qd [33]]] f
 else if k=6∨k=10∨k=11∨k=14∨k=16 then Qg [.one [Qp]] f
 else if k=7 then Qg [.one [Qd [16],Qd [33]],.one [Qd [15]],.one [Qp,Qd [33]],.one [Qd [17]]] f
 else if k=12 then Qg [.one [Qp],.one [Qp]] f
 else if k=13 then Qg [.many (Qd [14,8])] f
 else if k=15 then Qg [.many (Qd [16])] f
 else if k=17 then Qg [.many V0] f
 else if k=18 then Qg [.one [Qf],.one [Qd [17]],.one [Qd [17,18],Qd [33]]] f
 else if k=19 then Qg [.one [Qf,Qd [33]],.one [Qd [17]]] f
 else if k=20 then Qg [.many Qf] f
 else if k=21 then(if x.toList==[58,61]then Qg [.one [Qd [9]],.one [Qf]] f else Qg [.one [Vi],.one [Qf]] f)
 else if k=22 then Qg [.one [Vi]] f
 else if k=23 then Qg [.one [Qd [30]]] f
 else if k=29∨k=31 then Qg [.one [Qf],.one [Qf]] f
 else if k=30 then Qg [.one [Qf],.many Qf] f
 else false
def Zd(nm:ByteArray→Bool)(tk:ByteArray→Int→Bool)(k:Int)(x:ByteArray):Bool :=
 if k=2∨k=4∨k=5∨k=6∨k=7∨k=14∨k=16∨k=9∨k=32 then nm x
 else if k=3∨k=27 then tk x 3
 else if k=26 then tk x 2
 else if k=8 then tk x 5
 else if k=21 then(x.toList==[61]||x.toList==[58,61]||x.toList==[43,61]||x.toList==[45,61]||x.toList==[42,61]||x.toList==[47,61]||x.toList==[37,61])
 else if k=22 then(x.toList==[43,43]||x.toList==[45,45])
 else if k=28 then(x.toList==[45]||x.toList==[33]||x.toList==[94]||x.toList==[42]||x.toList==[38]||x.toList==[43])
 else if k=29 then decide (0<Zl x)
 else x.toList==[]
def V9(tk:ByteArray→Int→Bool)(k:Int)(y:ByteArray)(item:Bool):Bool:=y.toList==[]||(item&&(k != 8&&tk y 5))
def Ed(nm:ByteArray→Bool)(tk:ByteArray→Int→Bool)(k:Int)(x y:ByteArray)(c:F)(item:Bool):Bool:=Zd nm tk k x&&(V9 tk k y item&&Qc k x c)
section
variable (nm:ByteArray→Bool)(tk:ByteArray→Int→Bool)
def Kd:(pk:Int)→(px:ByteArray)→(it:Bool)→(d:Nat)→(i:Nat)→F→Bool
 |_,_,_,_,_,.nil=>true
 |pk,px,it,d,i,.cons k x y c r=>(decide (d+down pk px i k x≤256)&&Ed nm tk k x y c it&&Kd k x (holds k) (d+down pk px i k x) 0 c)&&Kd pk px it d (i+1) r
def Vz(k:Int)(x y:ByteArray)(c:F)(it:Bool)(d:Nat):Bool:=decide (d≤256)&&Ed nm tk k x y c it&&Kd nm tk k x (holds k) d 0 c
def Vl(k:Int)(x y:ByteArray)(c:F):Bool:=k==1&&Vz nm tk k x y c false 0
theorem Qd2(pk:Int)(px:ByteArray)(it:Bool)(d i:Nat)(k:Int)(x y:ByteArray)(c r:F) :
 Kd nm tk pk px it d i (.cons k x y c r)=(Vz nm tk k x y c it (d+down pk px i k x)&&Kd nm tk pk px it d (i+1) r):=by
 simp only[Kd,Vz]
end
def same:F→F→Bool
 | .nil,.nil=>true
 | .cons k x y c r,.cons k' x' y' c' r'=>(k==k'&&x.toList==x'.toList&&y.toList==y'.toList&&same c c')&&same r r'
 |_,_=>false
theorem U3{a b:ByteArray}(h:a.toList=b.toList):a=b:=by
 rw[ByteArray.toList_eq,ByteArray.toList_eq]at h;cases a;cases b;simp at h;rw[h]
theorem iY:∀f:F,same f f=true
 | .nil=>rfl
 | .cons k x y c r=>by simp[same,iY c,iY r]
theorem same_eq:∀{f g:F},same f g=true→f=g
 | .nil,.nil,_=>rfl
 | .nil,.cons ..,h=>by simp[same]at h
 | .cons ..,.nil,h=>by simp[same]at h
 | .cons k x y c r,.cons k' x' y' c' r',h=>by
   simp only[same,Bool.and_eq_true,beq_iff_eq]at h;obtain⟨⟨⟨⟨h1,h2⟩,h3⟩,h4⟩,h5⟩:=h;rw[h1,U3 h2,U3 h3,same_eq h4,same_eq h5]
structure Nd where
 k:Int
 x:ByteArray
 y:ByteArray
 c:F
def Nd.size(n:Nd):Nat:=n.c.size+1
def nodes:F→List Nd
 | .nil=>[]
 | .cons k x y c r=>⟨k,x,y,c⟩::(nodes c++nodes r)
theorem Qj:∀f:F,(nodes f).length=f.size
 | .nil=>rfl
 | .cons k x y c r=>by simp only[nodes,F.size,List.length_cons,List.length_append,Qj c,Qj r]
def Fs(w:World)(S:Nat→Prop):Value→F→Prop
 |v,.nil=>∃A C,v=ς A 0 C∧C≤9223372036854775807
 |v,.cons k x y c r=>∃b off n C s,v = ς (some ⟨b,off,none⟩) (n+1) (C+1)∧r.len=n∧n≤C∧C+1≤9223372036854775807∧S b∧
  w.cell? ⟨b,off,none⟩=some (ι γ k)∧w.cell? ⟨b,off+1,none⟩=some (σ x)∧w.cell? ⟨b,off+2,none⟩=some (σ y)∧w.cell? ⟨b,off+3,none⟩=some s∧
  Fs w S s c∧∀A',(r=.nil∨A'=some ⟨b,off+4,none⟩)→Fs w S (ς A' n C) r
def Lo(B:Nat):Nat→Prop:=fun b=>b<B
section
variable {w w':World}{S S':Nat→Prop}{v:Value}{f:F}
theorem Fs.keep:∀{f:F}{v:Value},Fs w S v f→(∀b,S b→w'.heap[b]?=w.heap[b]?)→Fs w' S v f
 | .nil,v,h,_=>h
 | .cons k x y c r,v,⟨b,off,n,C,s,e,h1,h2,h3,hS,c0,c1,c2,c3,hk,hr⟩,hh =>
   ⟨b,off,n,C,s,e,h1,h2,h3,hS,(JW (w:=w) (hh b hS)).trans c0,(JW (w:=w) (hh b hS)).trans c1,(JW (w:=w) (hh b hS)).trans c2,(JW (w:=w) (hh b hS)).trans c3,
    hk.keep hh,fun A' hA=>(hr A' hA).keep hh⟩
theorem Fs.more:∀{f:F}{v:Value},Fs w S v f→(∀b,S b→S' b)→Fs w S' v f
 | .nil,v,h,_=>h
 | .cons k x y c r,v,⟨b,off,n,C,s,e,h1,h2,h3,hS,c0,c1,c2,c3,hk,hr⟩,hh =>
   ⟨b,off,n,C,s,e,h1,h2,h3,hh b hS,c0,c1,c2,c3,hk.more hh,fun A' hA=>(hr A' hA).more hh⟩
theorem Fs.below{B B0:Nat}(h:Fs w (Lo B) v f)(hb:Below B0 w w')(hB:B≤B0):Fs w' (Lo B) v f :=
 h.keep fun b hb'=>hb.block b (Nat.lt_of_lt_of_le hb' hB)
theorem Fs.up{B B':Nat}(h:Fs w (Lo B) v f)(hB:B≤B'):Fs w (Lo B') v f:=h.more fun b hb=>Nat.lt_of_lt_of_le hb hB
theorem Fs.drewN(h:Fs w S v f)(q:Nat):Fs (w.drewN q) S v f:=h.keep fun _ _=>rfl
theorem Fs.slice:∀{f:F}{v:Value},Fs w S v f→∃A C,v=ς A f.len C∧f.len≤C∧C≤9223372036854775807
 | .nil,v,⟨A,C,e,h⟩=>⟨A,C,e,Nat.zero_le _,h⟩
 | .cons k x y c r,v,⟨b,off,n,C,s,e,h1,h2,h3,_⟩=>⟨some ⟨b,off,none⟩,C+1,by rw[e,←h1];rfl,by simp only[F.len];omega,h3⟩
structure At(w:World)(S:Nat→Prop)(b off i:Nat)(k:Int)(x y:ByteArray)(c:F)(s:Value):Prop where
 c0:w.cell? ⟨b,off+i*4,none⟩=some (ι γ k)
 c1:w.cell? ⟨b,off+i*4+1,none⟩=some (σ x)
 c2:w.cell? ⟨b,off+i*4+2,none⟩=some (σ y)
 c3:w.cell? ⟨b,off+i*4+3,none⟩=some s
 kids:Fs w S s c
theorem Fs.drop:∀{f:F}{b off n C:Nat}(i:Nat),Fs w S (ς (some ⟨b,off,none⟩) n C) f→i≤n→∀A',(i=n∨A'=some ⟨b,off+i*4,none⟩)→Fs w S (ς A' (n-i) (C-i)) (f.drop i)
 | .nil,b,off,n,C,i,⟨A,C',e,h⟩,hi,A',hA=>by
   injection e with e1 e2 e3;subst e2;rw[F.drop_nil];exact⟨A',C-i,by rw[Nat.zero_sub],ω⟩
 | .cons k x y c r,b,off,n,C,0,h,hi,A',hA=>by
   rcases hA with hA|hA
   ·subst hA;obtain⟨b',Ni,n',C',s,e,_⟩:=h;injection e with _ e2 _;cases e2
   ·subst hA;simpa[F.drop]using h
 | .cons k x y c r,b,off,n,C,i+1,⟨b',Ni,n',C',s,e,h1,h2,h3,hS,c0,c1,c2,c3,hk,hr⟩,hi,A',hA=>by
   injection e with e1 e2 e3;injection e1 with e1;injection e1 with e4 e5;subst e2;subst e3;subst e4;subst e5;by_cases hz:r=.nil
   ·subst hz;simp only[F.drop,F.drop_nil];simp only[F.len]at h1;subst h1;exact⟨A',C'+1-(i+1),ψ,ω⟩
   ·have:=(hr (some ⟨b,off+4,none⟩) (.inr rfl)).drop i ω A' (by
     rcases hA with hA|hA
     ·exact .inl ω
     ·exact .inr (by rw[hA,show off+(i+1)*4=off+4+i*4 by omega]))
    simpa[F.drop,Nat.add_sub_add_right]using this
theorem Fs.at_{A:Option Addr}{n C:Nat}{i:Nat}{k:Int}{x y:ByteArray}{c r:F}(h:Fs w S (ς A n C) f)(hf:f.drop i=.cons k x y c r):∃b off s,A=some ⟨b,off,none⟩∧S b∧i<n∧At w S b off i k x y c s:=by
 have hlen:i<f.len:=by have:=F.Sa i f;rw[hf]at this;simp only[F.len]at this;omega
 obtain⟨A',C',e,_⟩:=h.slice;injection e with e1 e2 e3;subst e1;subst e2;subst e3;cases f with
 |nil=>simp[F.len]at hlen
 |cons k' x' y' c' r'=>have h':=h;obtain⟨b,off,n',C'',s',e,_,_,_,hS,_⟩:=h';injection e with e1 e2 e3;subst e1;subst e3;have hd:=h.drop i ω (some ⟨b,off+i*4,none⟩) (.inr rfl);rw[hf]at hd;obtain⟨b2,UW,n2,C2,s,e,_,_,_,_,c0,c1,c2,c3,hk,_⟩:=hd;injection e with e1 e2 e3;injection e1 with e1;injection e1 with e4 e5;subst e4;subst e5;exact⟨b,off,s,rfl,hS,hlen,c0,c1,c2,c3,hk⟩
end
-- BEGIN LEVEL
theorem iX(s:ByteArray)(w:World):Calls prog 84 #[σ s] w fun e w'=>e = ρ (ι γ (Zl s:Int))∧w'=w:=by
 have hl:Zl s=Zl s:=rfl;conv at hl=>rhs;unfold Zl
 cases b0:(s.toList==[124,124])with
 |true =>
  have hv:Zl s=1:=by rw[hl];simp[b0]
  rw[hv];clear hv hl;go_enter func84,ntmps84;go_wp2;go_ret;exact⟨rfl,rfl⟩
 |false =>
 cases b1:(s.toList==[38,38])with
 |true =>
  have hv:Zl s=2:=by rw[hl];simp[b0,b1]
  rw[hv];clear hv hl;go_enter func84,ntmps84;go_wp2;go_ret;exact⟨rfl,rfl⟩
 |false =>
 cases b2:(s.toList==[61,61])with
 |true =>
  have hv:Zl s=3:=by rw[hl];simp[b0,b1,b2]
  rw[hv];clear hv hl;go_enter func84,ntmps84;go_wp2;go_ret;exact⟨rfl,rfl⟩
 |false =>
 cases b3:(s.toList==[33,61])with
 |true =>
  have hv:Zl s=3:=by rw[hl];simp[b0,b1,b2,b3]
  rw[hv];clear hv hl;go_enter func84,ntmps84;go_wp2;go_ret;exact⟨rfl,rfl⟩
 |false =>
 cases b4:(s.toList==[60])with
 |true =>
  have hv:Zl s=3:=by rw[hl];simp[b0,b1,b2,b3,b4]
  rw[hv];clear hv hl;go_enter func84,ntmps84;go_wp2;go_ret;exact⟨rfl,rfl⟩
 |false =>
 cases b5:(s.toList==[60,61])with
 |true =>
  have hv:Zl s=3:=by rw[hl];simp[b0,b1,b2,b3,b4,b5]
  rw[hv];clear hv hl;go_enter func84,ntmps84;go_wp2;go_ret;exact⟨rfl,rfl⟩
 |false =>
 cases b6:(s.toList==[62])with
 |true =>
  have hv:Zl s=3:=by rw[hl];simp[b0,b1,b2,b3,b4,b5,b6]
  rw[hv];clear hv hl;go_enter func84,ntmps84;go_wp2;go_ret;exact⟨rfl,rfl⟩
 |false =>
 cases b7:(s.toList==[62,61])with
 |true =>
  have hv:Zl s=3:=by rw[hl];simp[b0,b1,b2,b3,b4,b5,b6,b7]
  rw[hv];clear hv hl;go_enter func84,ntmps84;go_wp2;go_ret;exact⟨rfl,rfl⟩
 |false =>
 cases b8:(s.toList==[43])with
 |true =>
  have hv:Zl s=4:=by rw[hl];simp[b0,b1,b2,b3,b4,b5,b6,b7,b8]
  rw[hv];clear hv hl;go_enter func84,ntmps84;go_wp2;go_ret;exact⟨rfl,rfl⟩
 |false =>
 cases b9:(s.toList==[45])with
 |true =>
  have hv:Zl s=4:=by rw[hl];simp[b0,b1,b2,b3,b4,b5,b6,b7,b8,b9]
  rw[hv];clear hv hl;go_enter func84,ntmps84;go_wp2;go_ret;exact⟨rfl,rfl⟩
 |false =>
 cases Rn:(s.toList==[124])with
 |true =>
  have hv:Zl s=4:=by rw[hl];simp[b0,b1,b2,b3,b4,b5,b6,b7,b8,b9,Rn]
  rw[hv];clear hv hl;go_enter func84,ntmps84;go_wp2;go_ret;exact⟨rfl,rfl⟩
 |false =>
 cases PV:(s.toList==[94])with
 |true =>
  have hv:Zl s=4:=by rw[hl];simp[b0,b1,b2,b3,b4,b5,b6,b7,b8,b9,Rn,PV]
  rw[hv];clear hv hl;go_enter func84,ntmps84;go_wp2;go_ret;exact⟨rfl,rfl⟩
 |false =>
 cases UC:(s.toList==[42])with
 |true =>
  have hv:Zl s=5:=by rw[hl];simp[b0,b1,b2,b3,b4,b5,b6,b7,b8,b9,Rn,PV,UC]
  rw[hv];clear hv hl;go_enter func84,ntmps84;go_wp2;go_ret;exact⟨rfl,rfl⟩
 |false =>
 cases TN:(s.toList==[47])with
 |true =>
  have hv:Zl s=5:=by rw[hl];simp[b0,b1,b2,b3,b4,b5,b6,b7,b8,b9,Rn,PV,UC,TN]
  rw[hv];clear hv hl;go_enter func84,ntmps84;go_wp2;go_ret;exact⟨rfl,rfl⟩
 |false =>
 cases OA:(s.toList==[37])with
 |true =>
  have hv:Zl s=5:=by rw[hl];simp[b0,b1,b2,b3,b4,b5,b6,b7,b8,b9,Rn,PV,UC,TN,OA]
  rw[hv];clear hv hl;go_enter func84,ntmps84;go_wp2;go_ret;exact⟨rfl,rfl⟩
 |false =>
 cases qs:(s.toList==[60,60])with
 |true =>
  have hv:Zl s=5:=by rw[hl];simp[b0,b1,b2,b3,b4,b5,b6,b7,b8,b9,Rn,PV,UC,TN,OA,qs]
  rw[hv];clear hv hl;go_enter func84,ntmps84;go_wp2;go_ret;exact⟨rfl,rfl⟩
 |false =>
 cases vp:(s.toList==[62,62])with
 |true =>
  have hv:Zl s=5:=by rw[hl];simp[b0,b1,b2,b3,b4,b5,b6,b7,b8,b9,Rn,PV,UC,TN,OA,qs,vp]
  rw[hv];clear hv hl;go_enter func84,ntmps84;go_wp2;go_ret;exact⟨rfl,rfl⟩
 |false =>
 cases qp:(s.toList==[38])with
 |true =>
  have hv:Zl s=5:=by rw[hl];simp[b0,b1,b2,b3,b4,b5,b6,b7,b8,b9,Rn,PV,UC,TN,OA,qs,vp,qp]
  rw[hv];clear hv hl;go_enter func84,ntmps84;go_wp2;go_ret;exact⟨rfl,rfl⟩
 |false =>
 cases ya:(s.toList==[38,94])with
 |true =>
  have hv:Zl s=5:=by rw[hl];simp[b0,b1,b2,b3,b4,b5,b6,b7,b8,b9,Rn,PV,UC,TN,OA,qs,vp,qp,ya]
  rw[hv];clear hv hl;go_enter func84,ntmps84;go_wp2;go_ret;exact⟨rfl,rfl⟩
 |false =>
 have hv:Zl s=0:=by rw[hl];simp[b0,b1,b2,b3,b4,b5,b6,b7,b8,b9,Rn,PV,UC,TN,OA,qs,vp,qp,ya]
 rw[hv];clear hv hl;go_enter func84,ntmps84;go_wp2;go_ret;exact⟨rfl,rfl⟩
-- END LEVEL
end Tree
namespace Lex
def kd(c:Int):Int :=
 if 97≤c∧c≤122 then 1 else if 65≤c∧c≤90 then 1 else if c=95 then 1 else if 48≤c∧c≤57 then 2 else if c=34 then 3 else if c=59 then 6
 else if c=32 then 7 else if c=9 then 7 else if c=13 then 7 else if c=10 then 8 else 4
def qu(c:Int):Bool:=kd c==1||kd c==2
def NB(c:Int):Bool:=kd c==2
def blk(c:Int):Bool:=kd c==7
def lead(p:Int→Bool):List Int→Nat
 |[]=>0
 |c::r=>if p c then lead p r+1 else 0
def Xu(l:List Int):Nat:=lead qu l
def bC(l:List Int):Nat:=lead NB l
def OE(l:List Int):Nat:=if 1<bC l∧l.getD 0 0=48 then 0 else bC l
def Zb:List Int→Nat
 |[]=>0
 |c::r =>
  if c=34 then 1
  else if c=10 then 0
  else if c=92 then
   match r with
   |[]=>0
   |d::r'=>if d=10 then 0 else if Zb r'=0 then 0 else Zb r'+2
  else if Zb r=0 then 0 else Zb r+1
def DI:List Int→Nat
 |[]=>0
 |_::r=>if Zb r=0 then 0 else Zb r+1
def Kc(l:List Int):Nat:=lead (fun c=>c != 10) l
def Xb:List Int→Nat
 |[]=>0
 |c::r=>if Xb r=0 then(if blk c then 0 else 1)else Xb r+1
def Bw(l:List Int):Nat:=Xb (l.take (Kc l))
def Y4:List (List Int):=[[60,60],[62,62],[38,94],[38,38],[124,124],[61,61],[33,61],[60,61],[62,61],[58,61],[43,61],[45,61],[42,61],[47,61],[37,61],[43,43],[45,45]]
def vI:List (List Int):=[[40],[41],[91],[93],[123],[125],[44],[46],[61],[43],[45],[42],[47],[37],[38],[124],[94],[60],[62],[33]]
def Qk(l:List Int):Nat:=if l.take 2∈Y4 then 2 else if l.take 1∈vI then 1 else 0
def piece:List Int→Int×Nat
 |[]=>(4,0)
 |c::r =>
  if kd c=1 then(1,Xu (c::r))
  else if kd c=2 then(2,OE (c::r))
  else if kd c=3 then(3,DI (c::r))
  else if kd c=4 then(if(c::r).take 2=[47,47]then(5,Bw (c::r))else(4,Qk (c::r)))
  else(kd c,1)
theorem Yd(p:Int→Bool):∀l,lead p l≤l.length
 |[]=>Nat.le_refl _
 |c::r=>by
  have:=Yd p r;simp only[lead,GW];split <;> omega
theorem Ļ(p:Int→Bool):∀(l:List Int)(i:Nat),i<lead p l→p (l.getD i 0)=true
 |[],i,h=>by simp[lead]at h
 |c::r,i,h=>by
  simp only[lead]at h;split at h
  ·rename_i hc
   cases i with
   |zero=>simpa using hc
   |succ i=>simpa using Ļ p r i ω
  ·omega
theorem ŝ(p:Int→Bool):∀(l:List Int),lead p l<l.length→p (l.getD (lead p l) 0)=false
 |[],h=>by simp[lead]at h
 |c::r,h=>by
  simp only[lead,GW]at h⊢;split
  ·rename_i hc
   rw[if_pos hc]at h;simpa using ŝ p r ω
  ·rename_i hc
   simpa using hc
theorem Qyt{c:Int}:kd c=7↔c=32∨c=9∨c=13:=by
 unfold kd;repeat' split
 all_goals omega
theorem FU{c:Int}:blk c=true↔c=32∨c=9∨c=13:=by unfold blk;rw[beq_iff_eq];exact Qyt
theorem fG:∀(n:Nat)(l:List Int),l.length≤n→Zb l≤l.length
 |_,[],_=>by simp[Zb]
 |0,_::_,h=>by simp at h
 |n+1,c::r,h=>by
  have hr:=fG n r (by simpa using h);unfold Zb;split
  ·simp
  split
  ·simp
  split
  ·cases r with
   |nil=>simp
   |cons d r' =>
    have hr':=fG n r' (by simp at h;omega);simp only[GW];split
    ·omega
    ·split <;> omega
  ·simp only[GW];split <;> omega
theorem Qq4(z:List Int):Zb (10::z)=0:=by
 unfold Zb;rw[if_neg ω,if_pos rfl]
theorem AX:∀l,Xb l≤l.length
 |[]=>Nat.le_refl _
 |c::r=>by
  have:=AX r;simp only[Xb,GW];split
  ·split <;> omega
  ·omega
theorem Qe3:∀(l:List Int)(i:Nat),Xb l≤i→i<l.length→blk (l.getD i 0)=true
 |[],i,_,h=>by simp at h
 |c::r,i,h1,h2=>by
  have ih:=Qe3 r;simp only[Xb]at h1;split at h1
  ·rename_i h0
   split at h1
   ·rename_i hc
    cases i with
    |zero=>simpa using hc
    |succ i=>simpa using ih i ω (by simpa using h2)
   ·cases i with
    |zero=>omega
    |succ i=>simpa using ih i ω (by simpa using h2)
  ·cases i with
   |zero=>omega
   |succ i=>simpa using ih i ω (by simpa using h2)
theorem Qcq:∀(l:List Int),0<Xb l→blk (l.getD (Xb l-1) 0)=false
 |[],h=>by simp[Xb]at h
 |c::r,h=>by
  have ih:=Qcq r;simp only[Xb]at h⊢;split
  ·rename_i h0
   rw[if_pos h0]at h;split
   ·rename_i hc;rw[if_pos hc]at h;omega
   ·rename_i hc;simpa using hc
  ·rename_i h0
   obtain⟨k,hk⟩:∃k,Xb r=k+1:=⟨Xb r-1,ω⟩;have:=ih ω;rw[hk]at this⊢;simpa using this
