import Derived.Test.YtmepekognmlblaaGreatDoorG02
import Derived.Test.YtmepekognmlblaaGreatDoorG03
import Derived.Test.YtmepekognmlblaaGreatDoorG04
import Derived.Shelf.Abstract
import Derived.Shelf.Slices.SearchI
import Derived.Shelf.Slices.Empties
import Derived.Shelf.SlSorted.Search
import Derived.Test.YtmepekognmlblaaGreatDoorProg
set_option maxHeartbeats 4000000
set_option linter.unusedVariables false
open Go.RowKit Go.Proofs.Tryz Go.ChangeShapes Go.WideShapes Go.ChangeAt Go.Shelf
open Go.RowKit.Below renaming refl→QE
open _root_.Nat renaming le_refl→QI
open Go.Lib renaming hid→QA
open Go.Value renaming string→σ,int→ι,slice→ς,pointer→π,bool→τ,agg→ξ
open Go.IntKind renaming i64→γ
open Go.Ending renaming returned→ρ
namespace Go.Proofs.YtmepekognmlblaaGreatDoor
namespace Match
abbrev P2:=Int×Int
def Kj(ka kb:List Int)(last:Int)(used:List Int)(p:P2):Bool :=
 decide (last<p.1)&&decide (p.1<(ka.length:Int))&&decide (0≤p.2)&&decide (p.2<(kb.length:Int)) && !used.contains p.2&&decide (ka.getD p.1.toNat 0=kb.getD p.2.toNat 0)
def X7(ka kb:List Int):Int→List Int→List P2→Bool
 |_,_,[]=>true
 |last,used,p::r=>Kj ka kb last used p&&X7 ka kb p.1 (p.2::used) r
def Z9(ka kb:List Int)(L:List P2):Bool:=(L.head? == some (0,0))&&X7 ka kb (-1) [] L
def V7(n:Nat)(used:List Int):List Bool:=(List.range n).map fun(j:Nat)=>used.contains (j:Int)
theorem Xv(n:Nat)(used:List Int):(V7 n used).length=n:=by simp[V7]
theorem Qhl(n:Nat):V7 n []=List.replicate n false:=by
 unfold V7;rw[List.eq_replicate_iff];refine⟨ψ,fun b hb=>?_⟩;obtain⟨j,_,rfl⟩:=List.mem_map.1 hb;rfl
theorem G3{n:Nat}{used:List Int}{j:Nat}(h:j<n):(V7 n used)[j]?=some (used.contains (j:Int)):=by
 unfold V7;rw[List.getElem?_map,List.getElem?_range h];rfl
theorem Qhk{n:Nat}{used:List Int}{j:Nat}(h:j<n):(V7 n used).set j true=V7 n ((j:Int)::used):=by
 apply List.ext_getElem?;intro i;by_cases hi:i<n
 ·rw[G3 hi,List.getElem?_set];by_cases hij:j=i
  ·subst hij;rw[if_pos rfl,if_pos (by rw[Xv];exact h)];simp
  ·rw[if_neg hij,G3 hi];have:¬(i:Int)=(j:Int):=ω
   simp[this]
 ·rw[List.getElem?_eq_none (by rw[List.length_set,Xv];omega),List.getElem?_eq_none (by rw[Xv];omega)]
def Yu(n:Nat)(L:List P2):List Int:=L.foldl (fun l p=>l.set p.1.toNat p.2) (List.replicate n (-1))
theorem Qew(L:List P2):∀l:List Int,(L.foldl (fun l p=>l.set p.1.toNat p.2) l).length=l.length:=by
 induction L with
 |nil=>intro l;rfl
 |cons p r ih=>intro l;rw[List.foldl_cons,ih,List.length_set]
theorem Qe5(n:Nat)(L:List P2):(Yu n L).length=n:=by unfold Yu;rw[Qew];simp
end Match
namespace Mem
def Vx(w:World)(S:Nat→Prop)(A:Option Addr)(xs:List Value):Prop :=
 xs=[]∨∃b off,A=some ⟨b,off,none⟩∧S b∧∀i u,xs[i]?=some u→w.cell? ⟨b,off+i,none⟩=some u
def U7(w:World)(S:Nat→Prop)(v:Value)(xs:List Value):Prop:=∃A c,v=ς A xs.length c∧xs.length≤c∧c≤maxLen∧Vx w S A xs
def Jr(w:World)(S:Nat→Prop)(v:Value)(K:List (List Int)):Prop:=∃us:List Value,us.length=K.length∧U7 w S v us∧∀(i:Nat)(u:Value)(l:List Int),us[i]?=some u→K[i]?=some l→U7 w S u (l.map (ι γ))
def In(s t:Nat):Nat→Prop:=fun b=>s≤b∧b<t
section
variable {w w':World}{S S':Nat→Prop}{A:Option Addr}{xs:List Value}{v:Value}{K:List (List Int)}
theorem Vx.keep(h:Vx w S A xs)(hb:∀b,S b→w'.heap[b]?=w.heap[b]?):Vx w' S A xs:=by
 rcases h with h|⟨b,off,e,hS,hc⟩
 ·exact .inl h
 ·exact .inr ⟨b,off,e,hS,fun i u hi=>(World.cell?_of_block (w:=w) (hb b hS)).trans (hc i u hi)⟩
theorem Vx.more(h:Vx w S A xs)(hs:∀b,S b→S' b):Vx w S' A xs:=by
 rcases h with h|⟨b,off,e,hS,hc⟩
 ·exact .inl h
 ·exact .inr ⟨b,off,e,hs b hS,hc⟩
theorem Vx.at_(h:Vx w S A xs){i:Nat}{u:Value}(hi:xs[i]?=some u):∃b off,A=some ⟨b,off,none⟩∧S b∧w.cell? ⟨b,off+i,none⟩=some u:=by
 rcases h with h|⟨b,off,e,hS,hc⟩
 ·rw[h]at hi;simp at hi
 ·exact⟨b,off,e,hS,hc i u hi⟩
theorem U7.keep(h:U7 w S v xs)(hb:∀b,S b→w'.heap[b]?=w.heap[b]?):U7 w' S v xs:=by
 obtain⟨A,c,e,h1,h2,h3⟩:=h;exact⟨A,c,e,h1,h2,h3.keep hb⟩
theorem U7.more(h:U7 w S v xs)(hs:∀b,S b→S' b):U7 w S' v xs:=by
 obtain⟨A,c,e,h1,h2,h3⟩:=h;exact⟨A,c,e,h1,h2,h3.more hs⟩
theorem Jr.keep(h:Jr w S v K)(hb:∀b,S b→w'.heap[b]?=w.heap[b]?):Jr w' S v K:=by
 obtain⟨us,h1,h2,h3⟩:=h;exact⟨us,h1,h2.keep hb,fun i u l hu hl=>(h3 i u l hu hl).keep hb⟩
theorem Jr.more(h:Jr w S v K)(hs:∀b,S b→S' b):Jr w S' v K:=by
 obtain⟨us,h1,h2,h3⟩:=h;exact⟨us,h1,h2.more hs,fun i u l hu hl=>(h3 i u l hu hl).more hs⟩
theorem QH.Nb{B:Nat}{R:List QC}{i n:Nat}{e:TypeId}(h:QH w B R)(hi:R[i]?=some (Qb e 1 v n xs)):U7 w (In B w.heap.size) v xs:=by
 have ho:w.ownsRow 0 e 1 v n xs:=h.get hi;have hl:xs.length=n:=by rw[ho.1,Nat.mul_one]
 rcases ho.2 with⟨rfl,rfl⟩|⟨g,cap,cur,rfl,_,hg,h1,h2,_⟩
 ·exact⟨none,0,by rw[hl],ω,by unfold maxLen;omega,.inl (List.eq_nil_of_length_eq_zero hl)⟩
 ·refine⟨some ⟨g,0,none⟩,cap,by rw[hl],ω,h2,.inr ⟨g,0,rfl,?_,fun j u hj=>?_⟩⟩
  ·exact h.lt (List.mem_of_getElem? hi) (t:=Qb e 1 (ς (some ⟨g,0,none⟩) n cap) n xs) rfl
  ·rw[Nat.zero_add];exact h.cell hi hj
end
end Mem
namespace Tree
theorem QM{k j:Int}(h:¬k=j):(k==j)=false:=by simpa using h
theorem Qo5(k:Int)(x y:ByteArray)(A:Option Addr)(n C:Nat)(w:World):Calls prog 91 #[ξ #[ι γ k,σ x,σ y,ς A n C]] w fun e w'=>e = ρ (τ (Qp k x))∧Below w.heap.size w w':=by
 by_cases h9:k=9
 ·subst h9;rw[show Qp 9 x=true from rfl];go_enter func91,ntmps91;go_wp2;go_ret;exact⟨rfl,(QE _ _).alloc (QI _) _⟩
 by_cases h10:k=10
 ·subst h10;rw[show Qp 10 x=true from rfl];go_enter func91,ntmps91;go_wp2;go_ret;exact⟨rfl,(QE _ _).alloc (QI _) _⟩
 by_cases h11:k=11
 ·subst h11;rw[show Qp 11 x=true from rfl];go_enter func91,ntmps91;go_wp2;go_ret;exact⟨rfl,(QE _ _).alloc (QI _) _⟩
 by_cases h12:k=12
 ·subst h12;rw[show Qp 12 x=true from rfl];go_enter func91,ntmps91;go_wp2;go_ret;exact⟨rfl,(QE _ _).alloc (QI _) _⟩
 by_cases Lh:k=13
 ·subst Lh;rw[show Qp 13 x=true from rfl];go_enter func91,ntmps91;go_wp2;go_ret;exact⟨rfl,(QE _ _).alloc (QI _) _⟩
 rw[show Qp k x=false by unfold Qp;simp[h9,h10,h11,h12,Lh]];have b9:=QM h9;have Rn:=QM h10;have PV:=QM h11;have UC:=QM h12;have TN:=QM Lh;clear h9 h10 h11 h12 Lh;go_enter func91,ntmps91;go_wp2;go_ret;exact⟨rfl,(QE _ _).alloc (QI _) _⟩
theorem Qo4(k:Int)(x y:ByteArray)(A:Option Addr)(n C:Nat)(w:World):Calls prog 90 #[ξ #[ι γ k,σ x,σ y,ς A n C]] w fun e w'=>e = ρ (τ (Qf k x))∧Below w.heap.size w w':=by
 by_cases h9:k=9
 ·subst h9;rw[show Qf 9 x=true from rfl];go_enter func90,ntmps90;go_wp2;go_ret;exact⟨rfl,(QE _ _).alloc (QI _) _⟩
 by_cases Mt:k=26
 ·subst Mt;rw[show Qf 26 x=true from rfl];go_enter func90,ntmps90;go_wp2;go_ret;exact⟨rfl,(QE _ _).alloc (QI _) _⟩
 by_cases Mr:k=27
 ·subst Mr;rw[show Qf 27 x=true from rfl];go_enter func90,ntmps90;go_wp2;go_ret;exact⟨rfl,(QE _ _).alloc (QI _) _⟩
 by_cases Pf:k=28
 ·subst Pf;rw[show Qf 28 x=true from rfl];go_enter func90,ntmps90;go_wp2;go_ret;exact⟨rfl,(QE _ _).alloc (QI _) _⟩
 by_cases Mq:k=29
 ·subst Mq;rw[show Qf 29 x=true from rfl];go_enter func90,ntmps90;go_wp2;go_ret;exact⟨rfl,(QE _ _).alloc (QI _) _⟩
 by_cases Mp:k=30
 ·subst Mp;rw[show Qf 30 x=true from rfl];go_enter func90,ntmps90;go_wp2;go_ret;exact⟨rfl,(QE _ _).alloc (QI _) _⟩
 by_cases RX:k=31
 ·subst RX;rw[show Qf 31 x=true from rfl];go_enter func90,ntmps90;go_wp2;go_ret;exact⟨rfl,(QE _ _).alloc (QI _) _⟩
 by_cases RV:k=32
 ·subst RV;rw[show Qf 32 x=true from rfl];go_enter func90,ntmps90;go_wp2;go_ret;exact⟨rfl,(QE _ _).alloc (QI _) _⟩
 rw[show Qf k x=false by unfold Qf;simp[h9,Mt,Mr,Pf,Mq,Mp,RX,RV]];have b9:=QM h9;have b26:=QM Mt;have b27:=QM Mr;have lZ:=QM Pf;have b29:=QM Mq;have b30:=QM Mp;have br:=QM RX;have b32:=QM RV;clear h9 Mt Mr Pf Mq Mp RX RV;go_enter func90,ntmps90;go_wp2;go_ret;exact⟨rfl,(QE _ _).alloc (QI _) _⟩
theorem Qo6(k:Int)(x y:ByteArray)(A:Option Addr)(n C:Nat)(w:World):Calls prog 92 #[ξ #[ι γ k,σ x,σ y,ς A n C]] w fun e w'=>e = ρ (τ (V0 k x))∧Below w.heap.size w w':=by
 by_cases h5:k=5
 ·subst h5;rw[show V0 5 x=true from rfl];go_enter func92,ntmps92;go_wp2;go_ret;exact⟨rfl,(QE _ _).alloc (QI _) _⟩
 by_cases h8:k=8
 ·subst h8;rw[show V0 8 x=true from rfl];go_enter func92,ntmps92;go_wp2;go_ret;exact⟨rfl,(QE _ _).alloc (QI _) _⟩
 by_cases EM:k=17
 ·subst EM;rw[show V0 17 x=true from rfl];go_enter func92,ntmps92;go_wp2;go_ret;exact⟨rfl,(QE _ _).alloc (QI _) _⟩
 by_cases Mu:k=18
 ·subst Mu;rw[show V0 18 x=true from rfl];go_enter func92,ntmps92;go_wp2;go_ret;exact⟨rfl,(QE _ _).alloc (QI _) _⟩
 by_cases h19:k=19
 ·subst h19;rw[show V0 19 x=true from rfl];go_enter func92,ntmps92;go_wp2;go_ret;exact⟨rfl,(QE _ _).alloc (QI _) _⟩
 by_cases h20:k=20
 ·subst h20;rw[show V0 20 x=true from rfl];go_enter func92,ntmps92;go_wp2;go_ret;exact⟨rfl,(QE _ _).alloc (QI _) _⟩
 by_cases h21:k=21
 ·subst h21;rw[show V0 21 x=true from rfl];go_enter func92,ntmps92;go_wp2;go_ret;exact⟨rfl,(QE _ _).alloc (QI _) _⟩
 by_cases h22:k=22
 ·subst h22;rw[show V0 22 x=true from rfl];go_enter func92,ntmps92;go_wp2;go_ret;exact⟨rfl,(QE _ _).alloc (QI _) _⟩
 by_cases h23:k=23
 ·subst h23;rw[show V0 23 x=true from rfl];go_enter func92,ntmps92;go_wp2;go_ret;exact⟨rfl,(QE _ _).alloc (QI _) _⟩
 by_cases Ov:k=24
 ·subst Ov;rw[show V0 24 x=true from rfl];go_enter func92,ntmps92;go_wp2;go_ret;exact⟨rfl,(QE _ _).alloc (QI _) _⟩
 by_cases Ou:k=25
 ·subst Ou;rw[show V0 25 x=true from rfl];go_enter func92,ntmps92;go_wp2;go_ret;exact⟨rfl,(QE _ _).alloc (QI _) _⟩
 rw[show V0 k x=false by unfold V0;simp[h5,h8,EM,Mu,h19,h20,h21,h22,h23,Ov,Ou]];have b5:=QM h5;have b8:=QM h8;have qp:=QM EM;have ya:=QM Mu;have b19:=QM h19;have b20:=QM h20;have b21:=QM h21;have b22:=QM h22;have b23:=QM h23;have b24:=QM Ov;have b25:=QM Ou;clear h5 h8 EM Mu h19 h20 h21 h22 h23 Ov Ou;go_enter func92,ntmps92;go_wp2;go_ret;exact⟨rfl,(QE _ _).alloc (QI _) _⟩
theorem Qln(k:Int)(x y:ByteArray)(A:Option Addr)(n C:Nat)(w:World):Calls prog 89 #[ξ #[ι γ k,σ x,σ y,ς A n C]] w fun e w'=>e = ρ (τ (V5 k x))∧Below w.heap.size w w':=by
 by_cases h4:k=4
 ·subst h4;rw[show V5 4 x=true from rfl];go_enter func89,ntmps89;go_wp2;go_ret;exact⟨rfl,(QE _ _).alloc (QI _) _⟩
 by_cases h5:k=5
 ·subst h5;rw[show V5 5 x=true from rfl];go_enter func89,ntmps89;go_wp2;go_ret;exact⟨rfl,(QE _ _).alloc (QI _) _⟩
 by_cases h6:k=6
 ·subst h6;rw[show V5 6 x=true from rfl];go_enter func89,ntmps89;go_wp2;go_ret;exact⟨rfl,(QE _ _).alloc (QI _) _⟩
 by_cases h7:k=7
 ·subst h7;rw[show V5 7 x=true from rfl];go_enter func89,ntmps89;go_wp2;go_ret;exact⟨rfl,(QE _ _).alloc (QI _) _⟩
 by_cases h8:k=8
 ·subst h8;rw[show V5 8 x=true from rfl];go_enter func89,ntmps89;go_wp2;go_ret;exact⟨rfl,(QE _ _).alloc (QI _) _⟩
 rw[show V5 k x=false by unfold V5;simp[h4,h5,h6,h7,h8]];have b4:=QM h4;have b5:=QM h5;have b6:=QM h6;have b7:=QM h7;have b8:=QM h8;clear h4 h5 h6 h7 h8;go_enter func89,ntmps89;go_wp2;go_ret;exact⟨rfl,(QE _ _).alloc (QI _) _⟩
theorem Qo7(k:Int)(x y:ByteArray)(A:Option Addr)(n C:Nat)(w:World):Calls prog 93 #[ξ #[ι γ k,σ x,σ y,ς A n C]] w fun e w'=>e = ρ (τ (Vi k x))∧Below w.heap.size w w':=by
 by_cases h9:k=9
 ·subst h9;rw[show Vi 9 x=true from rfl];go_enter func93,ntmps93;go_wp2;go_ret;exact⟨rfl,(QE _ _).alloc (QI _) _⟩
 by_cases RX:k=31
 ·subst RX;rw[show Vi 31 x=true from rfl];go_enter func93,ntmps93;go_wp2;go_ret;exact⟨rfl,(QE _ _).alloc (QI _) _⟩
 by_cases RV:k=32
 ·subst RV;rw[show Vi 32 x=true from rfl];go_enter func93,ntmps93;go_wp2;go_ret;exact⟨rfl,(QE _ _).alloc (QI _) _⟩
 by_cases Pf:k=28
 ·subst Pf;cases hx:(x.toList==[42])with
  |true=>rw[show Vi 28 x=true by unfold Vi;rw[hx];rfl];go_enter func93,ntmps93;go_wp2;go_ret;exact⟨rfl,(QE _ _).alloc (QI _) _⟩
  |false=>rw[show Vi 28 x=false by unfold Vi;rw[hx];rfl];go_enter func93,ntmps93;go_wp2;go_ret;exact⟨rfl,(QE _ _).alloc (QI _) _⟩
 rw[show Vi k x=false by unfold Vi;simp[h9,RX,RV,Pf]];have b9:=QM h9;have br:=QM RX;have b32:=QM RV;have lZ:=QM Pf;clear h9 RX RV Pf;go_enter func93,ntmps93;go_wp2;go_ret;exact⟨rfl,(QE _ _).alloc (QI _) _⟩
theorem Qo8(k:Int)(w:World):Calls prog 42 #[ι γ k] w fun e w'=>e = ρ (τ (holds k))∧w'=w:=by
 by_cases h1:k=1
 ·subst h1;rw[show holds 1=true from rfl];go_enter func42,ntmps42;go_wp2;go_ret;exact⟨rfl,rfl⟩
 by_cases EM:k=17
 ·subst EM;rw[show holds 17=true from rfl];go_enter func42,ntmps42;go_wp2;go_ret;exact⟨rfl,rfl⟩
 by_cases Lh:k=13
 ·subst Lh;rw[show holds 13=true from rfl];go_enter func42,ntmps42;go_wp2;go_ret;exact⟨rfl,rfl⟩
 rw[show holds k=false by unfold holds;simp[h1,EM,Lh]];have b1:=QM h1;have qp:=QM EM;have TN:=QM Lh;clear h1 EM Lh;go_enter func42,ntmps42;go_wp2;go_ret;exact⟨rfl,rfl⟩
theorem fR{α:Type}{p:α→Bool}{l:List α}{k:Nat}{u:α}(hu:l[k]?=some u)(h:(l.take k).any p=false)(hp:p u=false):(l.take (k+1)).any p=false:=by
 rw[List.take_add_one,hu,List.any_append,h];simp[hp]
theorem fJ{α:Type}{p:α→Bool}{l:List α}{k:Nat}{u:α}(hu:l[k]?=some u)(hp:p u=true):l.any p=true :=
 List.any_eq_true.2 ⟨u,List.mem_of_getElem? hu,hp⟩
theorem fI{α:Type}{p:α→Bool}{l:List α}{n:Nat}(hn:l.length≤n)(h:(l.take n).any p=false):l.any p=false:=by
 rwa[List.take_of_length_le hn]at h
theorem Qyw(x:ByteArray)(b n C:Nat)(l:List ByteArray)(w:World)(hl:l.length=n)(hn:n≤1000000)(hc:∀i u,l[i]?=some u→w.cell? ⟨b,i,none⟩=some (σ u)) :
 Calls prog 114 #[ς (some ⟨b,0,none⟩) n C,σ x] w fun e w'=>(∃r:Int,e=ρ (ι γ r)∧decide (0≤r)=l.any (fun u:ByteArray=>x.toList==u.toList))∧w'=w:=by
 have Hl:=QA hl;have Hc:=QA hc;clear hl hc;go_enter func114,ntmps114;go_wp2
 go_loop [8] (fun i=>∃k:Nat,k≤n∧i=ι γ k∧Hid ((l.take k).any (fun u:ByteArray=>x.toList==u.toList)=false)) (fun i=>n-(intOf i).toNat)
 case atStart=>exact⟨0,Nat.zero_le _,rfl,by show _=_;simp⟩
 case round =>
  obtain⟨k,hk,rfl,hno⟩:=hrel;by_cases hlt:k<n
  ·obtain⟨u,hu⟩:∃u,l[k]?=some u:=⟨_,List.getElem?_eq_getElem (by rw[Hl.out];exact hlt)⟩;have hcell:=Hc.out k u hu;have hlt':(k:Int)<(n:Int):=ω
   have ZW:(0:Int)≤(k:Int):=ω
   cases hx:(x.toList==u.toList)with
   |true=>have HH:=QA (fJ (p:=fun u:ByteArray=>x.toList==u.toList) hu hx);clear hu;go_wp2;go_ret;exact⟨⟨_,rfl,by rw[HH.out];exact decide_eq_true ω⟩,rfl⟩
   |false =>
    have HH:=QA (fR (p:=fun u:ByteArray=>x.toList==u.toList) hu hno.out hx);clear hu hno;go_wp2
    go_round
    case rel=>exact⟨k+1,ω,by go_num,HH.out⟩
    case measure=>simp[intOf];omega
  ·have hn':¬(k:Int)<(n:Int):=ω
   obtain rfl:k=n:=ω
   have HH:=QA (fI (by rw[Hl.out];exact Nat.le_refl _) hno.out);clear hno;go_wp2;go_ret;exact⟨⟨_,rfl,by rw[HH.out];rfl⟩,rfl⟩
theorem Pj(x:ByteArray)(b n C:Nat)(l:List ByteArray)(w:World)(hl:l.length=n)(hn:n≤1000000)(hc:∀i u,l[i]?=some u→w.cell? ⟨b,i,none⟩=some (σ u)) :
 Calls prog 83 #[ς (some ⟨b,0,none⟩) n C,σ x] w fun e w'=>e=ρ (τ (l.any (fun u:ByteArray=>x.toList==u.toList)))∧w'=w:=by
 have HX:=QA (Qyw x b n C l w hl hn hc);generalize l.any (fun u:ByteArray=>x.toList==u.toList)=bb at *;clear hl hc;go_enter func83,ntmps83;go_wp2_with fail;refine HX.out.mono ?_;rintro e w' ⟨⟨r,rfl,hr⟩,rfl⟩;have Hr:=QA hr;clear hr;go_wp2;go_ret;exact⟨by rw[←Hr.out];rfl,rfl⟩
theorem Qyx(x:Int)(b n C:Nat)(l:List Int)(w:World)(hl:l.length=n)(hn:n≤1000000)(hc:∀i u,l[i]?=some u→w.cell? ⟨b,i,none⟩=some (ι γ u)) :
 Calls prog 135 #[ς (some ⟨b,0,none⟩) n C,ι γ x] w fun e w'=>(∃r:Int,e=ρ (ι γ r)∧decide (0≤r)=l.any (fun u:Int=>x==u))∧w'=w:=by
 have Hl:=QA hl;have Hc:=QA hc;clear hl hc;go_enter func135,ntmps135;go_wp2
 go_loop [8] (fun i=>∃k:Nat,k≤n∧i=ι γ k∧Hid ((l.take k).any (fun u:Int=>x==u)=false)) (fun i=>n-(intOf i).toNat)
 case atStart=>exact⟨0,Nat.zero_le _,rfl,by show _=_;simp⟩
 case round =>
  obtain⟨k,hk,rfl,hno⟩:=hrel;by_cases hlt:k<n
  ·obtain⟨u,hu⟩:∃u,l[k]?=some u:=⟨_,List.getElem?_eq_getElem (by rw[Hl.out];exact hlt)⟩;have hcell:=Hc.out k u hu;have hlt':(k:Int)<(n:Int):=ω
   have ZW:(0:Int)≤(k:Int):=ω
   cases hx:(x==u)with
   |true=>have HH:=QA (fJ (p:=fun u:Int=>x==u) hu hx);clear hu;go_wp2;go_ret;exact⟨⟨_,rfl,by rw[HH.out];exact decide_eq_true ω⟩,rfl⟩
   |false =>
    have HH:=QA (fR (p:=fun u:Int=>x==u) hu hno.out hx);clear hu hno;go_wp2
    go_round
    case rel=>exact⟨k+1,ω,by go_num,HH.out⟩
    case measure=>simp[intOf];omega
  ·have hn':¬(k:Int)<(n:Int):=ω
   obtain rfl:k=n:=ω
   have HH:=QA (fI (by rw[Hl.out];exact Nat.le_refl _) hno.out);clear hno;go_wp2;go_ret;exact⟨⟨_,rfl,by rw[HH.out];rfl⟩,rfl⟩
theorem Qpp(x:Int)(b n C:Nat)(l:List Int)(w:World)(hl:l.length=n)(hn:n≤1000000)(hc:∀i u,l[i]?=some u→w.cell? ⟨b,i,none⟩=some (ι γ u)) :
 Calls prog 116 #[ς (some ⟨b,0,none⟩) n C,ι γ x] w fun e w'=>e=ρ (τ (l.any (fun u:Int=>x==u)))∧w'=w:=by
 have HX:=QA (Qyx x b n C l w hl hn hc);generalize l.any (fun u:Int=>x==u)=bb at *;clear hl hc;go_enter func116,ntmps116;go_wp2_with fail;refine HX.out.mono ?_;rintro e w' ⟨⟨r,rfl,hr⟩,rfl⟩;have Hr:=QA hr;clear hr;go_wp2;go_ret;exact⟨by rw[←Hr.out];rfl,rfl⟩
open Mem
def Vp(gf:Nat):Prop:=∀args w,(callFunc gf args).run prog w=.ok (.enter gf args) w
def Zj(w:World)(v:Value)(p:Int→ByteArray→Bool):Prop :=
 ∃gf caps,v=.func (.func gf) #[] caps∧Vp gf∧∀W,Below w.heap.size w W→∀k x y A n C,Calls prog gf (#[ξ #[ι γ k,σ x,σ y,ς A n C]]++caps) W fun e W'=>e=ρ (τ (p k x))∧Below W.heap.size W W'
theorem Zj.later{w w':World}{v:Value}{p:Int→ByteArray→Bool}(h:Zj w v p)(hb:Below w.heap.size w w'):Zj w' v p:=by
 obtain⟨gf,caps,e,he,hc⟩:=h;exact⟨gf,caps,e,he,fun W hW=>hc W (hb.trans (hW.mono hb.size))⟩
theorem Qr2(gf:Nat)(caps:Array Value)(eg:Vp gf)(p:Int→ByteArray→Bool)(cb b off n C:Nat)(k:Int)(x y:ByteArray)(A:Option Addr)(m c:Nat)(w:World)
 (hk:w.cell? ⟨cb,0,none⟩=some (ς (some ⟨b,off,none⟩) n C)) (hn:(0:Int)<(n:Int)) (c0:w.cell? ⟨b,off,none⟩=some (ι γ k)) (c1:w.cell? ⟨b,off+1,none⟩=some (σ x)) (c2:w.cell? ⟨b,off+2,none⟩=some (σ y)) (c3:w.cell? ⟨b,off+3,none⟩=some (ς A m c))
 (hc:Calls prog gf (#[ξ #[ι γ k,σ x,σ y,ς A m c]]++caps) w fun e W'=>e=ρ (τ (p k x))∧Below w.heap.size w W') :
 Calls prog 119 #[.func (.func gf) #[] caps,π (some ⟨cb,0,none⟩)] w fun e W'=>e=ρ (τ (p k x))∧Below w.heap.size w W':=by
 have HC:=QA hc;clear hc;unfold Vp at eg;go_enter func119,ntmps119;go_wp2_with (go_at_fn gf;refine c₁ HC.out fun W Dk=>?_);go_ret;exact⟨rfl,Dk⟩
theorem Qlo(ps:List (Int→ByteArray→Bool))(g n C cb b off nk Ck:Nat)(k:Int)(x y:ByteArray)(A:Option Addr)(m c:Nat)(w:World)(hg:g<w.heap.size)(hl:ps.length=n)(hn:n≤1000000)
 (hts:∀i p,ps[i]?=some p→∃v,w.cell? ⟨g,i,none⟩=some v∧Zj w v p) (hcb:cb<w.heap.size) (hb:b<w.heap.size)
 (hk:w.cell? ⟨cb,0,none⟩=some (ς (some ⟨b,off,none⟩) nk Ck)) (kP:(0:Int)<(nk:Int)) (c0:w.cell? ⟨b,off,none⟩=some (ι γ k)) (c1:w.cell? ⟨b,off+1,none⟩=some (σ x)) (c2:w.cell? ⟨b,off+2,none⟩=some (σ y)) (c3:w.cell? ⟨b,off+3,none⟩=some (ς A m c)) :
 Calls prog 136 #[ς (some ⟨g,0,none⟩) n C,.func (.func 119) #[] #[π (some ⟨cb,0,none⟩)]] w fun e w'=>(∃r:Int,e=ρ (ι γ r)∧decide (0≤r)=ps.any (fun p=>p k x))∧Below w.heap.size w w':=by
 have Hl:=QA hl;have Ht:=QA hts
 have HP:Hid (∀wr,Below w.heap.size w wr→∀i p v,ps[i]? = some p→wr.cell? ⟨g,i,none⟩=some v→Calls prog 119 #[v,π (some ⟨cb,0,none⟩)] wr fun e W'=>e = ρ (τ (p k x))∧Below wr.heap.size wr W'):=by
  intro wr hwr i p v hp hv;obtain⟨v',hv',gf,caps,rfl,he,hc⟩:=hts i p hp;have e:=(hwr.cell (p:=⟨g,i,none⟩) hg).trans hv';rw[hv]at e;injection e with e;subst e;exact Qr2 gf caps he p cb b off nk Ck k x y A m c wr ((hwr.cell hcb).trans hk) kP ((hwr.cell hb).trans c0) ((hwr.cell hb).trans c1) ((hwr.cell hb).trans c2) ((hwr.cell hb).trans c3) (hc wr hwr k x y A m c)
 have HG:=QA hg;clear hl hts hk c0 c1 c2 c3 hg hcb hb kP;go_enter func136,ntmps136;go_wp2
 go_loopw [8] (fun i wr=>∃k0:Nat,k0≤n∧i=ι γ k0∧Hid ((ps.take k0).any (fun p=>p k x)=false)∧Hid (Below w.heap.size w wr)) (fun i _=>n-(intOf i).toNat)
 case atStart=>exact⟨0,Nat.zero_le _,rfl,(by show _=_;simp),Below.refl _ _⟩
 case round =>
  obtain⟨k0,ZW,rfl,hno,ZT⟩:=hrel;by_cases hlt:k0<n
  ·obtain⟨p,hp⟩:∃p,ps[k0]?=some p:=⟨_,List.getElem?_eq_getElem (by rw[Hl.out];exact hlt)⟩;obtain⟨v,hv,gf,caps,rfl,_,_⟩:=Ht.out k0 p hp;have hcell:=(ZT.out.cell (p:=⟨g,k0,none⟩) HG.out).trans hv;have hlt':(k0:Int)<(n:Int):=ω
   have Wz:(0:Int)≤(k0:Int):=ω
   have HC:=QA (HP.out wr ZT.out k0 p _ hp hcell);clear hv;cases hx:p k x with
   |true=>rw[hx]at HC;have HH:=QA (fJ (p:=fun p=>p k x) hp hx);clear hp hx;go_wp2_with fail;refine c₁ HC.out fun w' hb1=>?_;have Z':=VO ZT hb1;clear hb1;go_wp2;go_ret;exact⟨⟨_,rfl,by rw[HH.out];exact decide_eq_true ω⟩,Z'.out⟩
   |false =>
    rw[hx]at HC;have HH:=QA (fR (p:=fun p=>p k x) hp hno.out hx);clear hp hno hx;go_wp2_with fail;refine c₁ HC.out fun w' hb1=>?_;have Z':=VO ZT hb1;clear hb1;go_wp2
    go_roundw
    case rel=>exact⟨k0+1,ω,by go_num,HH.out,Z'.out⟩
    case measure=>simp[intOf];omega
  ·have hn':¬(k0:Int)<(n:Int):=ω
   obtain rfl:k0=n:=ω
   have HH:=QA (fI (by rw[Hl.out];exact Nat.le_refl _) hno.out);clear hno;go_wp2;go_ret;exact⟨⟨_,rfl,by rw[HH.out];rfl⟩,ZT.out⟩
theorem Qey(ps:List (Int→ByteArray→Bool))(g n C cb b off nk Ck:Nat)(k:Int)(x y:ByteArray)(A:Option Addr)(m c:Nat)(w:World)(hg:g<w.heap.size)(hl:ps.length=n)(hn:n≤1000000)
 (hts:∀i p,ps[i]?=some p→∃v,w.cell? ⟨g,i,none⟩=some v∧Zj w v p) (hcb:cb<w.heap.size) (hb:b<w.heap.size)
 (hk:w.cell? ⟨cb,0,none⟩=some (ς (some ⟨b,off,none⟩) nk Ck)) (kP:(0:Int)<(nk:Int)) (c0:w.cell? ⟨b,off,none⟩=some (ι γ k)) (c1:w.cell? ⟨b,off+1,none⟩=some (σ x)) (c2:w.cell? ⟨b,off+2,none⟩=some (σ y)) (c3:w.cell? ⟨b,off+3,none⟩=some (ς A m c)) :
 Calls prog 120 #[ς (some ⟨g,0,none⟩) n C,.func (.func 119) #[] #[π (some ⟨cb,0,none⟩)]] w fun e w'=>e=ρ (τ (ps.any (fun p=>p k x)))∧Below w.heap.size w w':=by
 have HX:=QA (Qlo ps g n C cb b off nk Ck k x y A m c w hg hl hn hts hcb hb hk kP c0 c1 c2 c3);generalize ps.any (fun p=>p k x)=bb at *;clear hl hts hk c0 c1 c2 c3 hg hcb hb kP;go_enter func120,ntmps120;go_wp2_with fail;refine HX.out.mono ?_;rintro e w' ⟨⟨r,rfl,hr⟩,ZT⟩;have Hr:=QA hr;clear hr;go_wp2;go_ret;exact⟨by rw[←Hr.out];rfl,ZT⟩
end Tree
namespace Ro
end Ro
namespace Lex
open Ro
def OG(xs:List Int):Int:=if bad xs<xs.length then 3 else if left xs=[]then 0 else 4
def pC(xs:List Int):Nat:=if bad xs<xs.length then bad xs else if left xs=[]then 0 else xs.length-(left xs).length
def vB(xs:List Int):List Tok:=if OG xs=0 then ZH xs else[]
def vG(s:List Int):Bool:=decide (0<s.length)&&(kd (s.getD 0 0)==1)&&decide (Xu s=s.length) && !isWord s
end Lex
namespace Mem
def Eh(l:List Oper)(s i:Nat):Bool:=((l[s]?).map fun o=>o.after.any fun e=>Region.binds .any e&&e.on==i).getD false
variable {P:Program}{Q:Exit→Act→World→Prop}
end Mem
namespace oC
def RC{α:Type}(f:α→Value)(d:α)(w:World)(B:Nat)(A:Option Addr)(xs:List α):Prop :=
 xs=[]∨∃b off,A=some ⟨b,off,none⟩∧b<B∧∀i,i<xs.length→w.cell? ⟨b,off+i,none⟩=some (f (xs.getD i d))
section
variable {α:Type}{f:α→Value}{d:α}{w w':World}{B B':Nat}{A:Option Addr}{xs:List α}
end
theorem below_drewN{B:Nat}{a w:World}(h:Below B a w)(n:Nat):Below B a (w.drewN n):=⟨h.os,h.tape,h.output,h.size,h.block⟩
theorem Qc2{a b:ByteArray}(h:a.toList=b.toList):a=b:=by
 rw[ByteArray.toList_eq,ByteArray.toList_eq]at h;cases a;cases b;simp at h;rw[h]
theorem Zq:(Tryz.prog.info? 3).map (fun i=>(i.zero,i.size,i.bytes))=some (some (.int γ 0),1,8):=χ
theorem Qfj{w:World}{base:Nat}{e:TypeId}{size:Nat}{v:Value}{n:Nat}{xs:List Value}(h:w.ownsRow base e size v n xs):∃a cap,v=ς a n cap∧n≤cap∧cap≤maxLen:=by
 rcases h.2 with⟨hv,h0⟩|⟨g,cap,_,hv,_,_,h1,h2,_⟩
 ·exact⟨none,0,by rw[hv,h0],ω,by unfold maxLen;omega⟩
 ·exact⟨_,cap,hv,h1,h2⟩
theorem Qik{w:World}{base base':Nat}{e:TypeId}{size:Nat}{v:Value}{n:Nat}{xs:List Value}(h:w.ownsRow base e size v n xs)(hb:base'≤base):w.ownsRow base' e size v n xs :=
 ⟨h.1,by
  rcases h.2 with h' |⟨g,cap,cur,a,b,c⟩
  ·exact .inl h'
  ·exact .inr ⟨g,cap,cur,a,ω,c⟩⟩
section
variable {w w':World}{base:Nat}{e:TypeId}{size:Nat}{v:Value}{n:Nat}{vs:List Value}
theorem YW(h:w.ownsRow base e size v n vs){B:Nat}(hb:Below B w w')(hB:w.heap.size≤B):w'.ownsRow base e size v n vs :=
 ⟨h.1,by
  rcases h.2 with h' |⟨g,cap,cur,a,b,hg,r⟩
  ·exact .inl h'
  ·exact .inr ⟨g,cap,cur,a,b,(hb.block g (by have:=lt_of_block hg;omega)).trans hg,r⟩⟩
end
section
variable {P:Program}{T E:TypeId}{i0:TypeInfo}{z:Value}{Hd:Nat}
end
abbrev RI(w:World)(B:Nat)(A:Option Addr)(xs:List Int):Prop:=RC (Value.int γ) 0 w B A xs
theorem Qzr{k:IntKind}{a b:Int}(h:a=b):ρ (.int k a)=ρ (.int k b):=by rw[h]
end oC
end Go.Proofs.YtmepekognmlblaaGreatDoor
namespace Go.Proofs
def Tryz.PF:Go.Shelf.Ren:=⟨fun|25=>96|31=>121|32=>122|37=>137|n=>n,fun|22=>32|3=>3|4=>4|40=>148|0=>0|n=>n,fun|n=>n⟩
theorem Tryz.RA:Go.Proofs.Lays2.n25 prog Tryz.PF:={
 mixed:=by kernel_rfl
 f25:=func96.trans (congrArg some (by kernel_rfl))
 f31:=func121.trans (congrArg some (by kernel_rfl))
 f32:=func122.trans (congrArg some (by kernel_rfl))
 f37:=func137.trans (congrArg some (by kernel_rfl))
 t0:=underlying0
 a0:=Tryz.isAgg0
 z0:=Tryz.sizeOf0
 v0:=Tryz.zeroValue0
 t3:=underlying3
 a3:=Tryz.isAgg3
 z3:=Tryz.sizeOf3
 v3:=Tryz.zeroValue3
 t4:=underlying4
 a4:=Tryz.isAgg4
 z4:=Tryz.sizeOf4
 v4:=Tryz.zeroValue4
 t22:=underlying32
 a22:=Tryz.isAgg32
 z22:=Tryz.sizeOf32
 v22:=Tryz.zeroValue32
 t40:=underlying148
 a40:=Tryz.isAgg148
 z40:=Tryz.sizeOf148
 v40:=Tryz.zeroValue148 }
def Tryz.PE:Go.Shelf.Ren:=⟨fun|16=>94|n=>n,fun|3=>3|35=>70|4=>4|38=>148|n=>n,fun|n=>n⟩
theorem Tryz.MW:Go.Proofs.SlLaysO.n16 prog Tryz.PE:={
 mixed:=by kernel_rfl
 f16:=func94.trans (congrArg some (by kernel_rfl))
 t3:=underlying3
 a3:=Tryz.isAgg3
 z3:=Tryz.sizeOf3
 v3:=Tryz.zeroValue3
 t4:=underlying4
 a4:=Tryz.isAgg4
 z4:=Tryz.sizeOf4
 v4:=Tryz.zeroValue4
 t35:=underlying70
 a35:=Tryz.isAgg70
 z35:=Tryz.sizeOf70
 v35:=Tryz.zeroValue70
 t38:=underlying148
 a38:=Tryz.isAgg148
 z38:=Tryz.sizeOf148
 v38:=Tryz.zeroValue148 }
theorem Tryz.ZG(b off n c:Nat)(zs:List Int)(x:Int)(w:World)(hz:n≤zs.length)(hbig:n<4611686018427387904)(hc:∀j,j<zs.length→w.cell? ⟨b,off+j,none⟩=some (ι γ (zs.getD j 0)))(hs:(zs.take n).Pairwise (·≤·)) :
 Calls prog 96 #[ς (some ⟨b,off,none⟩) n c,ι γ x] w fun e w'=>e=ρ (.tuple #[ι γ ((zs.take n).countP (·<x):Nat),τ ((zs.take n).contains x)])∧∃q,w'=w.drewN q:=Any.slices_BinarySearch_int Tryz.RA b off n c zs x w hz hbig hc hs
theorem Tryz.ZF(a:Option Addr)(c:Nat)(x:Int)(w:World) :
 Calls prog 96 #[ς a 0 c,ι γ x] w fun e w'=>e=ρ (.tuple #[ι γ 0,τ false])∧w'=w:=Any.slices_BinarySearch_int_empty Tryz.RA a c x w
open Go.RowKit Go.Sort in
theorem Tryz.YT(g:Nat)(cb:Array Value)(n:Nat)(p:Nat→Bool)(w:World)(eg:∀args w,(callFunc g args).run prog w=.ok (.enter g args) w)(hsz:n<4611686018427387904)
 (hf:∀(m:Nat)(os:Array Obj)(i:Nat),i<n→Calls prog g (#[ι γ i]++cb) (grow (w.drewN m) os) fun e w'=>e=ρ (τ (p i))∧∃q os',w'=grow ((grow (w.drewN m) os).drewN q) os')
 (hmono:∀a b,a≤b→b<n→p a=true→p b=true) :
 Calls prog 94 #[ι γ n,.func (.func g) #[] cb] w fun e w'=>e=ρ (ι γ ((List.range n).countP (fun i=>!p i):Nat))∧∃q os,w'=grow (w.drewN q) os:=Any.sort_Search Tryz.MW g cb n p w eg hsz hf hmono
