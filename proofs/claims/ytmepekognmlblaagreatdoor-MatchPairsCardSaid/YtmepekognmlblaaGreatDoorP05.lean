import Derived.Test.YtmepekognmlblaaGreatDoorP02
import Derived.Test.YtmepekognmlblaaGreatDoorP04
import Derived.Laws.BytesArg
set_option maxHeartbeats 4000000
set_option linter.unusedVariables false
open Go.RowKit Go.Proofs.Tryz Go.ChangeShapes Go.WideShapes Go.ChangeAt
open Go.RowKit.Below renaming refl→QE
open _root_.Nat renaming le_refl→QI
open Go.Lib renaming hid→QA
open Go.Value renaming string→σ,int→ι,slice→ς,bool→τ,agg→ξ
open Go.IntKind renaming i64→γ
open Go.Ending renaming returned→ρ
namespace Go.Proofs.YtmepekognmlblaaGreatDoor
namespace Mem
def Vx(w:World)(S:Nat→Prop)(A:Option Addr)(xs:List Value):Prop :=
 xs=[]∨∃b off,A=some ⟨b,off,none⟩∧S b∧∀i u,xs[i]?=some u→w.cell? ⟨b,off+i,none⟩=some u
def U7(w:World)(S:Nat→Prop)(v:Value)(xs:List Value):Prop:=∃A c,v=ς A xs.length c∧xs.length≤c∧c≤maxLen∧Vx w S A xs
def Jr(w:World)(S:Nat→Prop)(v:Value)(K:List (List Int)):Prop:=∃us:List Value,us.length=K.length∧U7 w S v us∧∀(i:Nat)(u:Value)(l:List Int),us[i]?=some u→K[i]?=some l→U7 w S u (l.map (ι γ))
def In(s t:Nat):Nat→Prop:=fun b=>s≤b∧b<t
section
variable {w w':World}{S S':Nat→Prop}{A:Option Addr}{xs:List Value}{v:Value}{K:List (List Int)}
theorem Vx.keep(h:Vx w S A xs)(hb:∀b,S b→w'.heap[b]?=w.heap[b]?):Vx w' S A xs:=by
 rcases h with h|⟨b,off,e,hS,hc⟩
 ·exact .inl h
 ·exact .inr ⟨b,off,e,hS,fun i u hi=>(World.cell?_of_block (w:=w) (hb b hS)).trans (hc i u hi)⟩
theorem Vx.more(h:Vx w S A xs)(hs:∀b,S b→S' b):Vx w S' A xs:=by
 rcases h with h|⟨b,off,e,hS,hc⟩
 ·exact .inl h
 ·exact .inr ⟨b,off,e,hs b hS,hc⟩
theorem Vx.at_(h:Vx w S A xs){i:Nat}{u:Value}(hi:xs[i]?=some u):∃b off,A=some ⟨b,off,none⟩∧S b∧w.cell? ⟨b,off+i,none⟩=some u:=by
 rcases h with h|⟨b,off,e,hS,hc⟩
 ·rw[h]at hi;simp at hi
 ·exact⟨b,off,e,hS,hc i u hi⟩
theorem U7.keep(h:U7 w S v xs)(hb:∀b,S b→w'.heap[b]?=w.heap[b]?):U7 w' S v xs:=by
 obtain⟨A,c,e,h1,h2,h3⟩:=h;exact⟨A,c,e,h1,h2,h3.keep hb⟩
theorem U7.more(h:U7 w S v xs)(hs:∀b,S b→S' b):U7 w S' v xs:=by
 obtain⟨A,c,e,h1,h2,h3⟩:=h;exact⟨A,c,e,h1,h2,h3.more hs⟩
theorem Jr.keep(h:Jr w S v K)(hb:∀b,S b→w'.heap[b]?=w.heap[b]?):Jr w' S v K:=by
 obtain⟨us,h1,h2,h3⟩:=h;exact⟨us,h1,h2.keep hb,fun i u l hu hl=>(h3 i u l hu hl).keep hb⟩
theorem Jr.more(h:Jr w S v K)(hs:∀b,S b→S' b):Jr w S' v K:=by
 obtain⟨us,h1,h2,h3⟩:=h;exact⟨us,h1,h2.more hs,fun i u l hu hl=>(h3 i u l hu hl).more hs⟩
theorem QH.Nb{B:Nat}{R:List QC}{i n:Nat}{e:TypeId}(h:QH w B R)(hi:R[i]?=some (Qb e 1 v n xs)):U7 w (In B w.heap.size) v xs:=by
 have ho:w.ownsRow 0 e 1 v n xs:=h.get hi;have hl:xs.length=n:=by rw[ho.1,Nat.mul_one]
 rcases ho.2 with⟨rfl,rfl⟩|⟨g,cap,cur,rfl,_,hg,h1,h2,_⟩
 ·exact⟨none,0,by rw[hl],ω,by unfold maxLen;omega,.inl (List.eq_nil_of_length_eq_zero hl)⟩
 ·refine⟨some ⟨g,0,none⟩,cap,by rw[hl],ω,h2,.inr ⟨g,0,rfl,?_,fun j u hj=>?_⟩⟩
  ·exact h.lt (List.mem_of_getElem? hi) (t:=Qb e 1 (ς (some ⟨g,0,none⟩) n cap) n xs) rfl
  ·rw[Nat.zero_add];exact h.cell hi hj
end
end Mem
namespace Tree
theorem QM{k j:Int}(h:¬k=j):(k==j)=false:=by simpa using h
theorem Qo5(k:Int)(x y:ByteArray)(A:Option Addr)(n C:Nat)(w:World):Calls prog 91 #[ξ #[ι γ k,σ x,σ y,ς A n C]] w fun e w'=>e = ρ (τ (Qp k x))∧Below w.heap.size w w':=by
 by_cases h9:k=9
 ·subst h9;rw[show Qp 9 x=true from rfl];go_enter func91,ntmps91;go_wp2;go_ret;exact⟨rfl,(QE _ _).alloc (QI _) _⟩
 by_cases h10:k=10
 ·subst h10;rw[show Qp 10 x=true from rfl];go_enter func91,ntmps91;go_wp2;go_ret;exact⟨rfl,(QE _ _).alloc (QI _) _⟩
 by_cases h11:k=11
 ·subst h11;rw[show Qp 11 x=true from rfl];go_enter func91,ntmps91;go_wp2;go_ret;exact⟨rfl,(QE _ _).alloc (QI _) _⟩
 by_cases h12:k=12
 ·subst h12;rw[show Qp 12 x=true from rfl];go_enter func91,ntmps91;go_wp2;go_ret;exact⟨rfl,(QE _ _).alloc (QI _) _⟩
 by_cases Lh:k=13
 ·subst Lh;rw[show Qp 13 x=true from rfl];go_enter func91,ntmps91;go_wp2;go_ret;exact⟨rfl,(QE _ _).alloc (QI _) _⟩
 rw[show Qp k x=false by unfold Qp;simp[h9,h10,h11,h12,Lh]];have b9:=QM h9;have Rn:=QM h10;have PV:=QM h11;have UC:=QM h12;have TN:=QM Lh;clear h9 h10 h11 h12 Lh;go_enter func91,ntmps91;go_wp2;go_ret;exact⟨rfl,(QE _ _).alloc (QI _) _⟩
theorem Qo4(k:Int)(x y:ByteArray)(A:Option Addr)(n C:Nat)(w:World):Calls prog 90 #[ξ #[ι γ k,σ x,σ y,ς A n C]] w fun e w'=>e = ρ (τ (Qf k x))∧Below w.heap.size w w':=by
 by_cases h9:k=9
 ·subst h9;rw[show Qf 9 x=true from rfl];go_enter func90,ntmps90;go_wp2;go_ret;exact⟨rfl,(QE _ _).alloc (QI _) _⟩
 by_cases Mt:k=26
 ·subst Mt;rw[show Qf 26 x=true from rfl];go_enter func90,ntmps90;go_wp2;go_ret;exact⟨rfl,(QE _ _).alloc (QI _) _⟩
 by_cases Mr:k=27
 ·subst Mr;rw[show Qf 27 x=true from rfl];go_enter func90,ntmps90;go_wp2;go_ret;exact⟨rfl,(QE _ _).alloc (QI _) _⟩
 by_cases Pf:k=28
 ·subst Pf;rw[show Qf 28 x=true from rfl];go_enter func90,ntmps90;go_wp2;go_ret;exact⟨rfl,(QE _ _).alloc (QI _) _⟩
 by_cases Mq:k=29
 ·subst Mq;rw[show Qf 29 x=true from rfl];go_enter func90,ntmps90;go_wp2;go_ret;exact⟨rfl,(QE _ _).alloc (QI _) _⟩
 by_cases Mp:k=30
 ·subst Mp;rw[show Qf 30 x=true from rfl];go_enter func90,ntmps90;go_wp2;go_ret;exact⟨rfl,(QE _ _).alloc (QI _) _⟩
 by_cases RX:k=31
 ·subst RX;rw[show Qf 31 x=true from rfl];go_enter func90,ntmps90;go_wp2;go_ret;exact⟨rfl,(QE _ _).alloc (QI _) _⟩
 by_cases RV:k=32
 ·subst RV;rw[show Qf 32 x=true from rfl];go_enter func90,ntmps90;go_wp2;go_ret;exact⟨rfl,(QE _ _).alloc (QI _) _⟩
 rw[show Qf k x=false by unfold Qf;simp[h9,Mt,Mr,Pf,Mq,Mp,RX,RV]];have b9:=QM h9;have Þ:=QM Mt;have Ý:=QM Mr;have lZ:=QM Pf;have Ü:=QM Mq;have Û:=QM Mp;have br:=QM RX;have b32:=QM RV;clear h9 Mt Mr Pf Mq Mp RX RV;go_enter func90,ntmps90;go_wp2;go_ret;exact⟨rfl,(QE _ _).alloc (QI _) _⟩
theorem Qo6(k:Int)(x y:ByteArray)(A:Option Addr)(n C:Nat)(w:World):Calls prog 92 #[ξ #[ι γ k,σ x,σ y,ς A n C]] w fun e w'=>e = ρ (τ (V0 k x))∧Below w.heap.size w w':=by
 by_cases h5:k=5
 ·subst h5;rw[show V0 5 x=true from rfl];go_enter func92,ntmps92;go_wp2;go_ret;exact⟨rfl,(QE _ _).alloc (QI _) _⟩
 by_cases h8:k=8
 ·subst h8;rw[show V0 8 x=true from rfl];go_enter func92,ntmps92;go_wp2;go_ret;exact⟨rfl,(QE _ _).alloc (QI _) _⟩
 by_cases EM:k=17
 ·subst EM;rw[show V0 17 x=true from rfl];go_enter func92,ntmps92;go_wp2;go_ret;exact⟨rfl,(QE _ _).alloc (QI _) _⟩
 by_cases Mu:k=18
 ·subst Mu;rw[show V0 18 x=true from rfl];go_enter func92,ntmps92;go_wp2;go_ret;exact⟨rfl,(QE _ _).alloc (QI _) _⟩
 by_cases h19:k=19
 ·subst h19;rw[show V0 19 x=true from rfl];go_enter func92,ntmps92;go_wp2;go_ret;exact⟨rfl,(QE _ _).alloc (QI _) _⟩
 by_cases h20:k=20
 ·subst h20;rw[show V0 20 x=true from rfl];go_enter func92,ntmps92;go_wp2;go_ret;exact⟨rfl,(QE _ _).alloc (QI _) _⟩
 by_cases h21:k=21
 ·subst h21;rw[show V0 21 x=true from rfl];go_enter func92,ntmps92;go_wp2;go_ret;exact⟨rfl,(QE _ _).alloc (QI _) _⟩
 by_cases h22:k=22
 ·subst h22;rw[show V0 22 x=true from rfl];go_enter func92,ntmps92;go_wp2;go_ret;exact⟨rfl,(QE _ _).alloc (QI _) _⟩
 by_cases h23:k=23
 ·subst h23;rw[show V0 23 x=true from rfl];go_enter func92,ntmps92;go_wp2;go_ret;exact⟨rfl,(QE _ _).alloc (QI _) _⟩
 by_cases Ov:k=24
 ·subst Ov;rw[show V0 24 x=true from rfl];go_enter func92,ntmps92;go_wp2;go_ret;exact⟨rfl,(QE _ _).alloc (QI _) _⟩
 by_cases Ou:k=25
 ·subst Ou;rw[show V0 25 x=true from rfl];go_enter func92,ntmps92;go_wp2;go_ret;exact⟨rfl,(QE _ _).alloc (QI _) _⟩
 rw[show V0 k x=false by unfold V0;simp[h5,h8,EM,Mu,h19,h20,h21,h22,h23,Ov,Ou]];have b5:=QM h5;have b8:=QM h8;have qp:=QM EM;have ya:=QM Mu;have b19:=QM h19;have b20:=QM h20;have à:=QM h21;have ß:=QM h22;have b23:=QM h23;have b24:=QM Ov;have b25:=QM Ou;clear h5 h8 EM Mu h19 h20 h21 h22 h23 Ov Ou;go_enter func92,ntmps92;go_wp2;go_ret;exact⟨rfl,(QE _ _).alloc (QI _) _⟩
theorem Qln(k:Int)(x y:ByteArray)(A:Option Addr)(n C:Nat)(w:World):Calls prog 89 #[ξ #[ι γ k,σ x,σ y,ς A n C]] w fun e w'=>e = ρ (τ (V5 k x))∧Below w.heap.size w w':=by
 by_cases h4:k=4
 ·subst h4;rw[show V5 4 x=true from rfl];go_enter func89,ntmps89;go_wp2;go_ret;exact⟨rfl,(QE _ _).alloc (QI _) _⟩
 by_cases h5:k=5
 ·subst h5;rw[show V5 5 x=true from rfl];go_enter func89,ntmps89;go_wp2;go_ret;exact⟨rfl,(QE _ _).alloc (QI _) _⟩
 by_cases h6:k=6
 ·subst h6;rw[show V5 6 x=true from rfl];go_enter func89,ntmps89;go_wp2;go_ret;exact⟨rfl,(QE _ _).alloc (QI _) _⟩
 by_cases h7:k=7
 ·subst h7;rw[show V5 7 x=true from rfl];go_enter func89,ntmps89;go_wp2;go_ret;exact⟨rfl,(QE _ _).alloc (QI _) _⟩
 by_cases h8:k=8
 ·subst h8;rw[show V5 8 x=true from rfl];go_enter func89,ntmps89;go_wp2;go_ret;exact⟨rfl,(QE _ _).alloc (QI _) _⟩
 rw[show V5 k x=false by unfold V5;simp[h4,h5,h6,h7,h8]];have b4:=QM h4;have b5:=QM h5;have b6:=QM h6;have b7:=QM h7;have b8:=QM h8;clear h4 h5 h6 h7 h8;go_enter func89,ntmps89;go_wp2;go_ret;exact⟨rfl,(QE _ _).alloc (QI _) _⟩
theorem Qo7(k:Int)(x y:ByteArray)(A:Option Addr)(n C:Nat)(w:World):Calls prog 93 #[ξ #[ι γ k,σ x,σ y,ς A n C]] w fun e w'=>e = ρ (τ (Vi k x))∧Below w.heap.size w w':=by
 by_cases h9:k=9
 ·subst h9;rw[show Vi 9 x=true from rfl];go_enter func93,ntmps93;go_wp2;go_ret;exact⟨rfl,(QE _ _).alloc (QI _) _⟩
 by_cases RX:k=31
 ·subst RX;rw[show Vi 31 x=true from rfl];go_enter func93,ntmps93;go_wp2;go_ret;exact⟨rfl,(QE _ _).alloc (QI _) _⟩
 by_cases RV:k=32
 ·subst RV;rw[show Vi 32 x=true from rfl];go_enter func93,ntmps93;go_wp2;go_ret;exact⟨rfl,(QE _ _).alloc (QI _) _⟩
 by_cases Pf:k=28
 ·subst Pf;cases hx:(x.toList==[42])with
  |true=>rw[show Vi 28 x=true by unfold Vi;rw[hx];rfl];go_enter func93,ntmps93;go_wp2;go_ret;exact⟨rfl,(QE _ _).alloc (QI _) _⟩
  |false=>rw[show Vi 28 x=false by unfold Vi;rw[hx];rfl];go_enter func93,ntmps93;go_wp2;go_ret;exact⟨rfl,(QE _ _).alloc (QI _) _⟩
 rw[show Vi k x=false by unfold Vi;simp[h9,RX,RV,Pf]];have b9:=QM h9;have br:=QM RX;have b32:=QM RV;have lZ:=QM Pf;clear h9 RX RV Pf;go_enter func93,ntmps93;go_wp2;go_ret;exact⟨rfl,(QE _ _).alloc (QI _) _⟩
theorem Qo8(k:Int)(w:World):Calls prog 42 #[ι γ k] w fun e w'=>e = ρ (τ (holds k))∧w'=w:=by
 by_cases h1:k=1
 ·subst h1;rw[show holds 1=true from rfl];go_enter func42,ntmps42;go_wp2;go_ret;exact⟨rfl,rfl⟩
 by_cases EM:k=17
 ·subst EM;rw[show holds 17=true from rfl];go_enter func42,ntmps42;go_wp2;go_ret;exact⟨rfl,rfl⟩
 by_cases Lh:k=13
 ·subst Lh;rw[show holds 13=true from rfl];go_enter func42,ntmps42;go_wp2;go_ret;exact⟨rfl,rfl⟩
 rw[show holds k=false by unfold holds;simp[h1,EM,Lh]];have b1:=QM h1;have qp:=QM EM;have TN:=QM Lh;clear h1 EM Lh;go_enter func42,ntmps42;go_wp2;go_ret;exact⟨rfl,rfl⟩
theorem fR{α:Type}{p:α→Bool}{l:List α}{k:Nat}{u:α}(hu:l[k]?=some u)(h:(l.take k).any p=false)(hp:p u=false):(l.take (k+1)).any p=false:=by
 rw[List.take_add_one,hu,List.any_append,h];simp[hp]
theorem fJ{α:Type}{p:α→Bool}{l:List α}{k:Nat}{u:α}(hu:l[k]?=some u)(hp:p u=true):l.any p=true :=
 List.any_eq_true.2 ⟨u,List.mem_of_getElem? hu,hp⟩
theorem fI{α:Type}{p:α→Bool}{l:List α}{n:Nat}(hn:l.length≤n)(h:(l.take n).any p=false):l.any p=false:=by
 rwa[List.take_of_length_le hn]at h
theorem Qyw(x:ByteArray)(b n C:Nat)(l:List ByteArray)(w:World)(hl:l.length=n)(hn:n≤1000000)(hc:∀i u,l[i]?=some u→w.cell? ⟨b,i,none⟩=some (σ u)) :
 Calls prog 114 #[ς (some ⟨b,0,none⟩) n C,σ x] w fun e w'=>(∃r:Int,e=ρ (ι γ r)∧decide (0≤r)=l.any (fun u:ByteArray=>x.toList==u.toList))∧w'=w:=by
 have Hl:=QA hl;have Hc:=QA hc;clear hl hc;go_enter func114,ntmps114;go_wp2
 go_loop [8] (fun i=>∃k:Nat,k≤n∧i=ι γ k∧Hid ((l.take k).any (fun u:ByteArray=>x.toList==u.toList)=false)) (fun i=>n-(intOf i).toNat)
 case atStart=>exact⟨0,Nat.zero_le _,rfl,by show _=_;simp⟩
 case round =>
  obtain⟨k,hk,rfl,hno⟩:=hrel;by_cases hlt:k<n
  ·obtain⟨u,hu⟩:∃u,l[k]?=some u:=⟨_,List.getElem?_eq_getElem (by rw[Hl.out];exact hlt)⟩;have hcell:=Hc.out k u hu;have hlt':(k:Int)<(n:Int):=ω
   have ZW:(0:Int)≤(k:Int):=ω
   cases hx:(x.toList==u.toList)with
   |true=>have HH:=QA (fJ (p:=fun u:ByteArray=>x.toList==u.toList) hu hx);clear hu;go_wp2;go_ret;exact⟨⟨_,rfl,by rw[HH.out];exact decide_eq_true ω⟩,rfl⟩
   |false =>
    have HH:=QA (fR (p:=fun u:ByteArray=>x.toList==u.toList) hu hno.out hx);clear hu hno;go_wp2
    go_round
    case rel=>exact⟨k+1,ω,by go_num,HH.out⟩
    case measure=>simp[intOf];omega
  ·have hn':¬(k:Int)<(n:Int):=ω
   obtain rfl:k=n:=ω
   have HH:=QA (fI (by rw[Hl.out];exact Nat.le_refl _) hno.out);clear hno;go_wp2;go_ret;exact⟨⟨_,rfl,by rw[HH.out];rfl⟩,rfl⟩
theorem Pj(x:ByteArray)(b n C:Nat)(l:List ByteArray)(w:World)(hl:l.length=n)(hn:n≤1000000)(hc:∀i u,l[i]?=some u→w.cell? ⟨b,i,none⟩=some (σ u)) :
 Calls prog 83 #[ς (some ⟨b,0,none⟩) n C,σ x] w fun e w'=>e=ρ (τ (l.any (fun u:ByteArray=>x.toList==u.toList)))∧w'=w:=by
 have HX:=QA (Qyw x b n C l w hl hn hc);generalize l.any (fun u:ByteArray=>x.toList==u.toList)=bb at *;clear hl hc;go_enter func83,ntmps83;go_wp2_with fail;refine HX.out.mono ?_;rintro e w' ⟨⟨r,rfl,hr⟩,rfl⟩;have Hr:=QA hr;clear hr;go_wp2;go_ret;exact⟨by rw[←Hr.out];rfl,rfl⟩
theorem Qyx(x:Int)(b n C:Nat)(l:List Int)(w:World)(hl:l.length=n)(hn:n≤1000000)(hc:∀i u,l[i]?=some u→w.cell? ⟨b,i,none⟩=some (ι γ u)) :
 Calls prog 135 #[ς (some ⟨b,0,none⟩) n C,ι γ x] w fun e w'=>(∃r:Int,e=ρ (ι γ r)∧decide (0≤r)=l.any (fun u:Int=>x==u))∧w'=w:=by
 have Hl:=QA hl;have Hc:=QA hc;clear hl hc;go_enter func135,ntmps135;go_wp2
 go_loop [8] (fun i=>∃k:Nat,k≤n∧i=ι γ k∧Hid ((l.take k).any (fun u:Int=>x==u)=false)) (fun i=>n-(intOf i).toNat)
 case atStart=>exact⟨0,Nat.zero_le _,rfl,by show _=_;simp⟩
 case round =>
  obtain⟨k,hk,rfl,hno⟩:=hrel;by_cases hlt:k<n
  ·obtain⟨u,hu⟩:∃u,l[k]?=some u:=⟨_,List.getElem?_eq_getElem (by rw[Hl.out];exact hlt)⟩;have hcell:=Hc.out k u hu;have hlt':(k:Int)<(n:Int):=ω
   have ZW:(0:Int)≤(k:Int):=ω
   cases hx:(x==u)with
   |true=>have HH:=QA (fJ (p:=fun u:Int=>x==u) hu hx);clear hu;go_wp2;go_ret;exact⟨⟨_,rfl,by rw[HH.out];exact decide_eq_true ω⟩,rfl⟩
   |false =>
    have HH:=QA (fR (p:=fun u:Int=>x==u) hu hno.out hx);clear hu hno;go_wp2
    go_round
    case rel=>exact⟨k+1,ω,by go_num,HH.out⟩
    case measure=>simp[intOf];omega
  ·have hn':¬(k:Int)<(n:Int):=ω
   obtain rfl:k=n:=ω
   have HH:=QA (fI (by rw[Hl.out];exact Nat.le_refl _) hno.out);clear hno;go_wp2;go_ret;exact⟨⟨_,rfl,by rw[HH.out];rfl⟩,rfl⟩
theorem Qpp(x:Int)(b n C:Nat)(l:List Int)(w:World)(hl:l.length=n)(hn:n≤1000000)(hc:∀i u,l[i]?=some u→w.cell? ⟨b,i,none⟩=some (ι γ u)) :
 Calls prog 116 #[ς (some ⟨b,0,none⟩) n C,ι γ x] w fun e w'=>e=ρ (τ (l.any (fun u:Int=>x==u)))∧w'=w:=by
 have HX:=QA (Qyx x b n C l w hl hn hc);generalize l.any (fun u:Int=>x==u)=bb at *;clear hl hc;go_enter func116,ntmps116;go_wp2_with fail;refine HX.out.mono ?_;rintro e w' ⟨⟨r,rfl,hr⟩,rfl⟩;have Hr:=QA hr;clear hr;go_wp2;go_ret;exact⟨by rw[←Hr.out];rfl,rfl⟩
end Tree
namespace oC
def RC{α:Type}(f:α→Value)(d:α)(w:World)(B:Nat)(A:Option Addr)(xs:List α):Prop :=
 xs=[]∨∃b off,A=some ⟨b,off,none⟩∧b<B∧∀i,i<xs.length→w.cell? ⟨b,off+i,none⟩=some (f (xs.getD i d))
section
variable {α:Type}{f:α→Value}{d:α}{w w':World}{B B':Nat}{A:Option Addr}{xs:List α}
end
theorem below_drewN{B:Nat}{a w:World}(h:Below B a w)(n:Nat):Below B a (w.drewN n):=⟨h.os,h.tape,h.output,h.size,h.block⟩
theorem Qc2{a b:ByteArray}(h:a.toList=b.toList):a=b:=by
 rw[ByteArray.toList_eq,ByteArray.toList_eq]at h;cases a;cases b;simp at h;rw[h]
theorem Zq:(Tryz.prog.info? 3).map (fun i=>(i.zero,i.size,i.bytes))=some (some (.int γ 0),1,8):=χ
theorem Qfj{w:World}{base:Nat}{e:TypeId}{size:Nat}{v:Value}{n:Nat}{xs:List Value}(h:w.ownsRow base e size v n xs):∃a cap,v=ς a n cap∧n≤cap∧cap≤maxLen:=by
 rcases h.2 with⟨hv,h0⟩|⟨g,cap,_,hv,_,_,h1,h2,_⟩
 ·exact⟨none,0,by rw[hv,h0],ω,by unfold maxLen;omega⟩
 ·exact⟨_,cap,hv,h1,h2⟩
theorem Š{w:World}{base base':Nat}{e:TypeId}{size:Nat}{v:Value}{n:Nat}{xs:List Value}(h:w.ownsRow base e size v n xs)(hb:base'≤base):w.ownsRow base' e size v n xs :=
 ⟨h.1,by
  rcases h.2 with h' |⟨g,cap,cur,a,b,c⟩
  ·exact .inl h'
  ·exact .inr ⟨g,cap,cur,a,ω,c⟩⟩
section
variable {w w':World}{base:Nat}{e:TypeId}{size:Nat}{v:Value}{n:Nat}{vs:List Value}
theorem YW(h:w.ownsRow base e size v n vs){B:Nat}(hb:Below B w w')(hB:w.heap.size≤B):w'.ownsRow base e size v n vs :=
 ⟨h.1,by
  rcases h.2 with h' |⟨g,cap,cur,a,b,hg,r⟩
  ·exact .inl h'
  ·exact .inr ⟨g,cap,cur,a,b,(hb.block g (by have:=lt_of_block hg;omega)).trans hg,r⟩⟩
end
section
variable {P:Program}{T E:TypeId}{i0:TypeInfo}{z:Value}{Hd:Nat}
end
abbrev RI(w:World)(B:Nat)(A:Option Addr)(xs:List Int):Prop:=RC (Value.int γ) 0 w B A xs
theorem å{k:IntKind}{a b:Int}(h:a=b):ρ (.int k a)=ρ (.int k b):=by rw[h]
