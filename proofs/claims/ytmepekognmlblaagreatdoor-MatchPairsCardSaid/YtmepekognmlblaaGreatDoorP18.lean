import Derived.Test.YtmepekognmlblaaGreatDoorP13
import Derived.Test.YtmepekognmlblaaGreatDoorP14
import Derived.Test.YtmepekognmlblaaGreatDoorP16
import Derived.Test.YtmepekognmlblaaGreatDoorP17
import Derived.Deep.LoopGhost
set_option maxHeartbeats 16000000
set_option maxRecDepth 100000
set_option linter.unusedVariables false
open Go.Proofs.Tryz Go.ChangeShapes Go.WideShapes Go.ChangeAt Go.RowKit
open Go.Lib renaming hid→QA
open Go.World renaming cell?_alloc_at→VV
open Go.RowKit.Below renaming refl→QE
open _root_.Nat renaming le_refl→QI,zero_add→ZL,lt_of_lt_of_le→VE,le_trans→QW
open _root_.List renaming setIfInBounds_toArray→ZC,set_cons_succ→ZA,set_cons_zero→QZ
open Go.Value renaming string→σ,int→ι,slice→ς,pointer→π,bool→τ,agg→ξ
open Go.IntKind renaming i64→γ
open Go.Obj renaming cells→θ
open Go.Ending renaming returned→ρ
namespace Go.Proofs.YtmepekognmlblaaGreatDoor
namespace Tree
open Mem
theorem Qo2(k:Int)(x y:ByteArray)(A:Option Addr)(n C:Nat)(w:World)(b1:(k==1)=false)(b2:(k==2)=false)(b3:(k==3)=false)(b4:(k==4)=false)(b5:(k==5)=false)(b6:(k==6)=false)(b7:(k==7)=false)(b8:(k==8)=false)(b9:(k==9)=false)(Rn:(k==10)=false)(PV:(k==11)=false)(UC:(k==12)=false)(TN:(k==13)=false)(OA:(k==14)=false)(qs:(k==15)=false)(vp:(k==16)=false)(qp:(k==17)=false)(ya:(k==18)=false)(b19:(k==19)=false)(b20:(k==20)=false)(à:(k==21)=false)(ß:(k==22)=false)(b23:(k==23)=false)(b24:(k==24)=false)(b25:(k==25)=false)(Þ:(k==26)=false)(Ý:(k==27)=false)(lZ:(k==28)=false)(Ü:(k==29)=false)(Û:(k==30)=false)(br:(k==31)=false)(b32:(k==32)=false)(b33:(k==33)=false) :
 Calls prog 62 #[ξ #[ι γ k,σ x,σ y,ς A n C]] w fun e w'=>e=ρ (τ false)∧Below w.heap.size w w':=by
 have QS:=Ja w k x y A n C;have hlt:w.heap.size<(w.alloc (θ #[ι γ k,σ x,σ y,ς A n C] 24)).heap.size:=ψ
 have b1:=Qt w (θ #[ι γ k,σ x,σ y,ς A n C] 24) (θ #[ι γ 33] 3);go_enter func62,ntmps62;go_wp2_with fail;refine(QS.out).mono ?_;rintro e w3 ⟨hb3,v3,rfl,JY⟩;obtain⟨g3,c3,rfl,hrest⟩:=JY;have ZW:w3.cell? ⟨w.heap.size,0,none⟩=some (ι γ k):=by rw[hb3.cell (p:=⟨w.heap.size,0,none⟩) (by simp;omega),World.cell?_alloc_lt _ _ _ hlt,VV _ _ _ _ rfl];rfl
 have HB:=QA (b1.trans (hb3.mono b1.size));clear hb3 hrest QS b1;exact c23
theorem Qi7(k:Int)(x y:ByteArray)(A:Option Addr)(n C:Nat)(f:F)(w:World)(hf:Fs w (Lo w.heap.size) (ς A n C) f) :
 Calls prog 62 #[ξ #[ι γ k,σ x,σ y,ς A n C]] w fun e w'=>e=ρ (τ (Qc k x f))∧Below w.heap.size w w':=by
 by_cases h1:k=1
 ·subst h1;exact Qyq x y A n C f w hf
 by_cases h2:k=2
 ·subst h2;exact Qyp x y A n C f w hf
 by_cases h3:k=3
 ·subst h3;exact Qyo x y A n C f w hf
 by_cases h4:k=4
 ·subst h4;exact Qyn x y A n C f w hf
 by_cases h5:k=5
 ·subst h5;exact Qym x y A n C f w hf
 by_cases h6:k=6
 ·subst h6;exact Qyl x y A n C f w hf
 by_cases h7:k=7
 ·subst h7;exact Qyk x y A n C f w hf
 by_cases h8:k=8
 ·subst h8;exact Qyj x y A n C f w hf
 by_cases h9:k=9
 ·subst h9;exact Qyi x y A n C f w hf
 by_cases h10:k=10
 ·subst h10;exact Qv8 x y A n C f w hf
 by_cases h11:k=11
 ·subst h11;exact Qv7 x y A n C f w hf
 by_cases h12:k=12
 ·subst h12;exact Qv6 x y A n C f w hf
 by_cases Lh:k=13
 ·subst Lh;exact Qv5 x y A n C f w hf
 by_cases qg:k=14
 ·subst qg;exact Qv4 x y A n C f w hf
 by_cases vk:k=15
 ·subst vk;exact Qv3 x y A n C f w hf
 by_cases qf:k=16
 ·subst qf;exact Qv2 x y A n C f w hf
 by_cases EM:k=17
 ·subst EM;exact Qv1 x y A n C f w hf
 by_cases Mu:k=18
 ·subst Mu;exact Qv0 x y A n C f w hf
 by_cases h19:k=19
 ·subst h19;exact Qvz x y A n C f w hf
 by_cases h20:k=20
 ·subst h20;exact Qvy x y A n C f w hf
 by_cases h21:k=21
 ·subst h21;cases hx:(x.toList==[58,61])with
  |true=>exact Qi5 x y A n C f w hf hx
  |false=>exact Qgx x y A n C f w hf hx
 by_cases h22:k=22
 ·subst h22;exact Qvx x y A n C f w hf
 by_cases h23:k=23
 ·subst h23;exact Qvw x y A n C f w hf
 by_cases Ov:k=24
 ·subst Ov;exact Qvv x y A n C f w hf
 by_cases Ou:k=25
 ·subst Ou;exact Qvu x y A n C f w hf
 by_cases Mt:k=26
 ·subst Mt;exact Qvt x y A n C f w hf
 by_cases Mr:k=27
 ·subst Mr;exact Qvs x y A n C f w hf
 by_cases Pf:k=28
 ·subst Pf;exact Qvr x y A n C f w hf
 by_cases Mq:k=29
 ·subst Mq;exact Qvq x y A n C f w hf
 by_cases Mp:k=30
 ·subst Mp;exact Qvp x y A n C f w hf
 by_cases RX:k=31
 ·subst RX;exact Qvo x y A n C f w hf
 by_cases RV:k=32
 ·subst RV;exact Qvn x y A n C f w hf
 by_cases dH:k=33
 ·subst dH;exact Qvm x y A n C f w hf
 rw[show Qc k x f=false by unfold Qc;simp only[h1,h2,h3,h4,h5,h6,h7,h8,h9,h10,h11,h12,Lh,qg,vk,qf,EM,Mu,h19,h20,h21,h22,h23,Ov,Ou,Mt,Mr,Pf,Mq,Mp,RX,RV,dH,or_self,if_false]];exact Qo2 k x y A n C w (QM h1) (QM h2) (QM h3) (QM h4) (QM h5) (QM h6) (QM h7) (QM h8) (QM h9) (QM h10) (QM h11) (QM h12) (QM Lh) (QM qg) (QM vk) (QM qf) (QM EM) (QM Mu) (QM h19) (QM h20) (QM h21) (QM h22) (QM h23) (QM Ov) (QM Ou) (QM Mt) (QM Mr) (QM Pf) (QM Mq) (QM Mp) (QM RX) (QM RV) (QM dH)
theorem Ku(k:Int)(hk:k=2∨k=4∨k=5∨k=6∨k=7∨k=14∨k=16∨k=9∨k=32)(x y:ByteArray)(A:Option Addr)(n C:Nat)(w:World)(hx:x.size≤1000000)(hT:Lex.XF w):Calls prog 60 #[ξ #[ι γ k,σ x,σ y,ς A n C]] w fun e w'=>e = ρ (τ (Zd ZZ ZN k x))∧Below w.heap.size w w':=by
 have b1:=Qa w (θ #[ι γ k,σ x,σ y,ς A n C] 24);rw[show Zd ZZ ZN k x=ZZ x by rcases hk with rfl|rfl|rfl|rfl|rfl|rfl|rfl|rfl|rfl <;> (unfold Zd;simp)];have HC:=QA (Qu7 x hx (w.alloc (θ #[ι γ k,σ x,σ y,ς A n C] 24)));have HB:=QA b1;clear b1 hT hx;rcases hk with rfl|rfl|rfl|rfl|rfl|rfl|rfl|rfl|rfl
 all_goals(go_enter func60,ntmps60;go_wp2_with fail;refine c₁ HC.out fun w' hb=>?_;have HE:=VO HB hb;clear hb;go_wp2;go_ret;exact⟨rfl,HE.out⟩)
theorem rC(k s:Int)(hk:k=3∧s=3∨k=27∧s=3∨k=26∧s=2∨k=8∧s=5)(x y:ByteArray)(A:Option Addr)(n C:Nat)(w:World)(hx:x.size≤1000000)(hT:Lex.XF w):Calls prog 60 #[ξ #[ι γ k,σ x,σ y,ς A n C]] w fun e w'=>e = ρ (τ (Zd ZZ ZN k x))∧Below w.heap.size w w':=by
 have b1:=Qa w (θ #[ι γ k,σ x,σ y,ς A n C] 24);rw[show Zd ZZ ZN k x=ZN x s by rcases hk with⟨rfl,rfl⟩|⟨rfl,rfl⟩|⟨rfl,rfl⟩|⟨rfl,rfl⟩ <;> (unfold Zd;simp)];have HC:=QA (ĳ x s hx (w.alloc (θ #[ι γ k,σ x,σ y,ς A n C] 24)) (hT.below b1 hT.pos));have HB:=QA b1;clear b1 hT hx;rcases hk with⟨rfl,rfl⟩|⟨rfl,rfl⟩|⟨rfl,rfl⟩|⟨rfl,rfl⟩
 all_goals(go_enter func60,ntmps60;go_wp2_with fail;refine c₁ HC.out fun w' hb=>?_;have HE:=VO HB hb;clear hb;go_wp2;go_ret;exact⟨rfl,HE.out⟩)
theorem Qui(x y:ByteArray)(A:Option Addr)(n C:Nat)(w:World)(hx:x.size≤1000000)(hT:Lex.XF w):Calls prog 60 #[ξ #[ι γ 21,σ x,σ y,ς A n C]] w fun e w'=>e = ρ (τ (Zd ZZ ZN 21 x))∧Below w.heap.size w w':=by
 have b1:=Qa w (θ #[ι γ 21,σ x,σ y,ς A n C] 24);rw[show Zd ZZ ZN 21 x=([(⟨#[61]⟩:ByteArray),(⟨#[58,61]⟩:ByteArray),(⟨#[43,61]⟩:ByteArray),(⟨#[45,61]⟩:ByteArray),(⟨#[42,61]⟩:ByteArray),(⟨#[47,61]⟩:ByteArray),(⟨#[37,61]⟩:ByteArray)].any fun u=>x.toList==u.toList)by unfold Zd;simp[Bool.or_assoc]];have HB:=QA (Qt w (θ #[ι γ 21,σ x,σ y,ς A n C] 24) (θ #[σ ⟨#[61]⟩,σ ⟨#[58,61]⟩,σ ⟨#[43,61]⟩,σ ⟨#[45,61]⟩,σ ⟨#[42,61]⟩,σ ⟨#[47,61]⟩,σ ⟨#[37,61]⟩] 9))
 have HC:=QA (Pj x (w.heap.size+1) 7 7 [(⟨#[61]⟩:ByteArray),(⟨#[58,61]⟩:ByteArray),(⟨#[43,61]⟩:ByteArray),(⟨#[45,61]⟩:ByteArray),(⟨#[42,61]⟩:ByteArray),(⟨#[47,61]⟩:ByteArray),(⟨#[37,61]⟩:ByteArray)] ((w.alloc (θ #[ι γ 21,σ x,σ y,ς A n C] 24)).alloc (θ #[σ ⟨#[61]⟩,σ ⟨#[58,61]⟩,σ ⟨#[43,61]⟩,σ ⟨#[45,61]⟩,σ ⟨#[42,61]⟩,σ ⟨#[47,61]⟩,σ ⟨#[37,61]⟩] 9)) rfl ω (fun i u hu=>by
  rw[VV _ _ _ _ ψ]
  match i,hu with
  |0,hu=>cases hu;rfl
  |1,hu=>cases hu;rfl
  |2,hu=>cases hu;rfl
  |3,hu=>cases hu;rfl
  |4,hu=>cases hu;rfl
  |5,hu=>cases hu;rfl
  |6,hu=>cases hu;rfl
  |(_+7),hu=>simp at hu))
 generalize([(⟨#[61]⟩:ByteArray),(⟨#[58,61]⟩:ByteArray),(⟨#[43,61]⟩:ByteArray),(⟨#[45,61]⟩:ByteArray),(⟨#[42,61]⟩:ByteArray),(⟨#[47,61]⟩:ByteArray),(⟨#[37,61]⟩:ByteArray)].any fun u=>x.toList==u.toList)=bb at *;exact c54
theorem Quh(x y:ByteArray)(A:Option Addr)(n C:Nat)(w:World)(hx:x.size≤1000000)(hT:Lex.XF w):Calls prog 60 #[ξ #[ι γ 28,σ x,σ y,ς A n C]] w fun e w'=>e = ρ (τ (Zd ZZ ZN 28 x))∧Below w.heap.size w w':=by
 have b1:=Qa w (θ #[ι γ 28,σ x,σ y,ς A n C] 24);rw[show Zd ZZ ZN 28 x=([(⟨#[45]⟩:ByteArray),(⟨#[33]⟩:ByteArray),(⟨#[94]⟩:ByteArray),(⟨#[42]⟩:ByteArray),(⟨#[38]⟩:ByteArray),(⟨#[43]⟩:ByteArray)].any fun u=>x.toList==u.toList)by unfold Zd;simp[Bool.or_assoc]];have HB:=QA (Qt w (θ #[ι γ 28,σ x,σ y,ς A n C] 24) (θ #[σ ⟨#[45]⟩,σ ⟨#[33]⟩,σ ⟨#[94]⟩,σ ⟨#[42]⟩,σ ⟨#[38]⟩,σ ⟨#[43]⟩] 9))
 have HC:=QA (Pj x (w.heap.size+1) 6 6 [(⟨#[45]⟩:ByteArray),(⟨#[33]⟩:ByteArray),(⟨#[94]⟩:ByteArray),(⟨#[42]⟩:ByteArray),(⟨#[38]⟩:ByteArray),(⟨#[43]⟩:ByteArray)] ((w.alloc (θ #[ι γ 28,σ x,σ y,ς A n C] 24)).alloc (θ #[σ ⟨#[45]⟩,σ ⟨#[33]⟩,σ ⟨#[94]⟩,σ ⟨#[42]⟩,σ ⟨#[38]⟩,σ ⟨#[43]⟩] 9)) rfl ω (fun i u hu=>by
  rw[VV _ _ _ _ ψ]
  match i,hu with
  |0,hu=>cases hu;rfl
  |1,hu=>cases hu;rfl
  |2,hu=>cases hu;rfl
  |3,hu=>cases hu;rfl
  |4,hu=>cases hu;rfl
  |5,hu=>cases hu;rfl
  |(_+6),hu=>simp at hu))
 generalize([(⟨#[45]⟩:ByteArray),(⟨#[33]⟩:ByteArray),(⟨#[94]⟩:ByteArray),(⟨#[42]⟩:ByteArray),(⟨#[38]⟩:ByteArray),(⟨#[43]⟩:ByteArray)].any fun u=>x.toList==u.toList)=bb at *;exact c54
theorem Qqr(x y:ByteArray)(A:Option Addr)(n C:Nat)(w:World)(hx:x.size≤1000000)(hT:Lex.XF w)(h1:(x.toList==[43,43])=true):Calls prog 60 #[ξ #[ι γ 22,σ x,σ y,ς A n C]] w fun e w'=>e = ρ (τ (Zd ZZ ZN 22 x))∧Below w.heap.size w w':=by
 have b1:=Qa w (θ #[ι γ 22,σ x,σ y,ς A n C] 24);rw[show Zd ZZ ZN 22 x=true by unfold Zd;simp[h1]];exact c111
theorem Qqq(x y:ByteArray)(A:Option Addr)(n C:Nat)(w:World)(hx:x.size≤1000000)(hT:Lex.XF w)(h1:(x.toList==[43,43])=false)(h2:(x.toList==[45,45])=true):Calls prog 60 #[ξ #[ι γ 22,σ x,σ y,ς A n C]] w fun e w'=>e = ρ (τ (Zd ZZ ZN 22 x))∧Below w.heap.size w w':=by
 have b1:=Qa w (θ #[ι γ 22,σ x,σ y,ς A n C] 24);rw[show Zd ZZ ZN 22 x=true by unfold Zd;simp[h1,h2]];exact c111
theorem Qqp(x y:ByteArray)(A:Option Addr)(n C:Nat)(w:World)(hx:x.size≤1000000)(hT:Lex.XF w)(h1:(x.toList==[43,43])=false)(h2:(x.toList==[45,45])=false):Calls prog 60 #[ξ #[ι γ 22,σ x,σ y,ς A n C]] w fun e w'=>e = ρ (τ (Zd ZZ ZN 22 x))∧Below w.heap.size w w':=by
 have b1:=Qa w (θ #[ι γ 22,σ x,σ y,ς A n C] 24);rw[show Zd ZZ ZN 22 x=false by unfold Zd;simp[h1,h2]];exact c111
theorem Qug(x y:ByteArray)(A:Option Addr)(n C:Nat)(w:World)(hx:x.size≤1000000)(hT:Lex.XF w):Calls prog 60 #[ξ #[ι γ 29,σ x,σ y,ς A n C]] w fun e w'=>e = ρ (τ (Zd ZZ ZN 29 x))∧Below w.heap.size w w':=by
 have b1:=Qa w (θ #[ι γ 29,σ x,σ y,ς A n C] 24);rw[show Zd ZZ ZN 29 x=decide (0<Zl x)by unfold Zd;simp];have HC:=QA (iX x (w.alloc (θ #[ι γ 29,σ x,σ y,ς A n C] 24)));have HB:=QA b1;generalize Zl x=lx at *;exact c54
theorem Qnw(x y:ByteArray)(A:Option Addr)(n C:Nat)(w:World)(hx:x.size≤1000000)(hT:Lex.XF w)(k:Int)(b2:(k==2)=false)(b4:(k==4)=false)(b5:(k==5)=false)(b6:(k==6)=false)(b7:(k==7)=false)(OA:(k==14)=false)(vp:(k==16)=false)(b9:(k==9)=false)(b32:(k==32)=false)(b3:(k==3)=false)(Ý:(k==27)=false)(Þ:(k==26)=false)(b8:(k==8)=false)(à:(k==21)=false)(ß:(k==22)=false)(lZ:(k==28)=false)(Ü:(k==29)=false)(bb:Bool)(hbb:(x.toList==[])=bb):Calls prog 60 #[ξ #[ι γ k,σ x,σ y,ς A n C]] w fun e w'=>e = ρ (τ bb)∧Below w.heap.size w w':=by
 have HB:=QA (Qa w (θ #[ι γ k,σ x,σ y,ς A n C] 24));clear hT hx;cases bb with
 |true =>
  have he:x.toList=[]:=by simpa using hbb
  go_enter func60,ntmps60;exact c23
 |false =>
  have he:¬x.toList=[]:=by simpa using hbb
  have xA:x.toList.isEmpty=false:=by simpa using hbb
  go_enter func60,ntmps60;exact c23
theorem Qqo(k:Int)(x y:ByteArray)(A:Option Addr)(n C:Nat)(w:World)(hx:x.size≤1000000)(hT:Lex.XF w):Calls prog 60 #[ξ #[ι γ k,σ x,σ y,ς A n C]] w fun e w'=>e = ρ (τ (Zd ZZ ZN k x))∧Below w.heap.size w w':=by
 by_cases h2:k=2
 ·subst h2;exact Ku 2 δ x y A n C w hx hT
 by_cases h4:k=4
 ·subst h4;exact Ku 4 δ x y A n C w hx hT
 by_cases h5:k=5
 ·subst h5;exact Ku 5 δ x y A n C w hx hT
 by_cases h6:k=6
 ·subst h6;exact Ku 6 δ x y A n C w hx hT
 by_cases h7:k=7
 ·subst h7;exact Ku 7 δ x y A n C w hx hT
 by_cases qg:k=14
 ·subst qg;exact Ku 14 δ x y A n C w hx hT
 by_cases qf:k=16
 ·subst qf;exact Ku 16 δ x y A n C w hx hT
 by_cases h9:k=9
 ·subst h9;exact Ku 9 δ x y A n C w hx hT
 by_cases RV:k=32
 ·subst RV;exact Ku 32 δ x y A n C w hx hT
 by_cases h3:k=3
 ·subst h3;exact rC 3 3 δ x y A n C w hx hT
 by_cases Mr:k=27
 ·subst Mr;exact rC 27 3 δ x y A n C w hx hT
 by_cases Mt:k=26
 ·subst Mt;exact rC 26 2 δ x y A n C w hx hT
 by_cases h8:k=8
 ·subst h8;exact rC 8 5 δ x y A n C w hx hT
 by_cases h21:k=21
 ·subst h21;exact Qui x y A n C w hx hT
 by_cases h22:k=22
 ·subst h22;cases h1:(x.toList==[43,43])with
  |true=>exact Qqr x y A n C w hx hT h1
  |false =>
   cases h2:(x.toList==[45,45])with
   |true=>exact Qqq x y A n C w hx hT h1 h2
   |false=>exact Qqp x y A n C w hx hT h1 h2
 by_cases Pf:k=28
 ·subst Pf;exact Quh x y A n C w hx hT
 by_cases Mq:k=29
 ·subst Mq;exact Qug x y A n C w hx hT
 rw[show Zd ZZ ZN k x=(x.toList==[])by unfold Zd;simp only[h2,h4,h5,h6,h7,qg,qf,h9,RV,h3,Mr,Mt,h8,h21,h22,Pf,Mq,or_self,if_false]];exact Qnw x y A n C w hx hT k (QM h2) (QM h4) (QM h5) (QM h6) (QM h7) (QM qg) (QM qf) (QM h9) (QM RV) (QM h3) (QM Mr) (QM Mt) (QM h8) (QM h21) (QM h22) (QM Pf) (QM Mq) _ rfl
theorem Qnu(k:Int)(x y:ByteArray)(A:Option Addr)(n C:Nat)(it:Bool)(w:World)(hy:y.size≤1000000)(hT:Lex.XF w) :
 Calls prog 61 #[ξ #[ι γ k,σ x,σ y,ς A n C],τ it] w fun e w'=>e=ρ (τ (V9 ZN k y it))∧Below w.heap.size w w':=by
 have b1:=Qa w (θ #[ι γ k,σ x,σ y,ς A n C] 24);have HC:=QA (ĳ y 5 hy (w.alloc (θ #[ι γ k,σ x,σ y,ς A n C] 24)) (hT.below b1 hT.pos));have HB:=QA b1;clear b1 hT hy;cases AO:(y.toList==[])with
 |true =>
  have he:y.toList=[]:=by simpa using AO
  rw[show V9 ZN k y it=true by unfold V9;rw[AO];rfl];go_enter func61,ntmps61;exact c23
 |false =>
  have he:¬y.toList=[]:=by simpa using AO
  have xA:y.toList.isEmpty=false:=by simpa using AO
  cases it with
  |false=>rw[show V9 ZN k y false=false by unfold V9;rw[AO];rfl];go_enter func61,ntmps61;exact c23
  |true =>
   by_cases h8:k=8
   ·subst h8;rw[show V9 ZN 8 y true=false by unfold V9;rw[AO];rfl];go_enter func61,ntmps61;exact c23
   ·have k8:=QM h8;have k8':(k != 8)=true:=by simpa using h8
    rw[show V9 ZN k y true=ZN y 5 by unfold V9;rw[AO,k8'];rfl];clear h8;go_enter func61,ntmps61;exact c171
theorem Qti(k:Int)(x y:ByteArray)(A:Option Addr)(n C:Nat)(f:F)(it:Bool)(w:World)(hf:Fs w (Lo w.heap.size) (ς A n C) f)(hx:x.size≤1000000)(hy:y.size≤1000000)(hT:Lex.XF w) :
 Calls prog 41 #[ξ #[ι γ k,σ x,σ y,ς A n C],τ it] w fun e w'=>e=ρ (τ (Ed ZZ ZN k x y f it))∧Below w.heap.size w w':=by
 have b1:=Qa w (θ #[ι γ k,σ x,σ y,ς A n C] 24);have aj:=QA (fun(W:World)(hW:Below w.heap.size w W)=>Qqo k x y A n C W hx (hT.below hW hT.pos));have DR:=QA (fun(W:World)(hW:Below w.heap.size w W)=>Qnu k x y A n C it W hy (hT.below hW hT.pos));have Re:=QA (fun(W:World)(hW:Below w.heap.size w W)=>Qi7 k x y A n C f W (hf.later hW));have HV:Hid (Ed ZZ ZN k x y f it=(Zd ZZ ZN k x&&(V9 ZN k y it&&Qc k x f))):=rfl;have HB:=QA b1;have KB:Hid (∀W,Below (w.alloc (θ #[ι γ k,σ x,σ y,ς A n C] 24)).heap.size (w.alloc (θ #[ι γ k,σ x,σ y,ς A n C] 24)) W→
  W.cell? ⟨w.heap.size,0,none⟩=some (ι γ k)∧W.cell? ⟨w.heap.size,1,none⟩=some (σ x)∧W.cell? ⟨w.heap.size,2,none⟩=some (σ y)∧W.cell? ⟨w.heap.size,3,none⟩=some (ς A n C)):=fun W hW=>by
  have Oz:∀i v,#[ι γ k,σ x,σ y,ς A n C][i]? = some v→W.cell? ⟨w.heap.size,i,none⟩=some v:=fun i v hv=>by
   rw[hW.cell (p:=⟨w.heap.size,i,none⟩) ψ,VV _ _ _ _ rfl];simpa using hv
  exact⟨Oz 0 _ rfl,Oz 1 _ rfl,Oz 2 _ rfl,Oz 3 _ rfl⟩
 generalize Ed ZZ ZN k x y f it=bb at *;generalize Zd ZZ ZN k x=b0 at *;generalize V9 ZN k y it=b2 at *;generalize Qc k x f=b3 at *;clear b1 hT hx hy hf;cases b0 with
 |false=>have hv:bb=false:=HV.out;subst hv;go_enter func41,ntmps41;go_wp2_with fail;refine c₁ (aj.out _ HB.out) fun w1 hb=>?_;have HE:=VO HB hb;clear hb;exact c170
 |true =>
  cases b2 with
  |false=>have hv:bb=false:=HV.out;subst hv;go_enter func41,ntmps41;go_wp2_with fail;refine c₁ (aj.out _ HB.out) fun w1 hb=>?_;have HE:=VO HB hb;obtain⟨q0,q1,q2,q3⟩:=KB.out w1 hb;clear hb;go_wp2_with fail;refine c₁ (DR.out _ HE.out) fun w2 hb=>?_;have BJ:=VO HE hb;clear hb;go_wp2;go_ret;exact⟨rfl,BJ.out⟩
  |true=>have hv:bb=b3:=HV.out;subst hv;go_enter func41,ntmps41;go_wp2_with fail;refine c₁ (aj.out _ HB.out) fun w1 hb=>?_;have HE:=VO HB hb;have JP:=QA hb;obtain⟨q0,q1,q2,q3⟩:=KB.out w1 hb;clear hb;go_wp2_with fail;refine c₁ (DR.out _ HE.out) fun w2 hb=>?_;have BJ:=VO HE hb;obtain⟨r0,r1,r2,r3⟩:=KB.out w2 (JP.out.trans (hb.mono JP.out.size));clear hb q0 q1 q2 q3;go_wp2_with fail;refine c₁ (Re.out _ BJ.out) fun w3 hb=>?_;have HE3:=VO BJ hb;clear hb;go_wp2;go_ret;exact⟨rfl,HE3.out⟩
def Zp:F→Prop
 | .nil=>True
 | .cons k x y c r=>x.size≤1000000∧y.size≤1000000∧Zp c∧Zp r
theorem Zp.drop:∀{n:Nat}{f:F},Zp f→Zp (f.drop n)
 |0,f,h=>h
 |n+1,.nil,_=>by simp[F.drop,Zp]
 |n+1,.cons k x y c r,h=>Zp.drop (n:=n) h.2.2.2
def Boxed(w:World)(g:Nat)(k:Int)(x y:ByteArray)(s:Value):Prop:=w.heap[g]?=some (θ #[ι γ k,σ x,σ y,s] 24 (0,0))
theorem Boxed.cells{w:World}{g:Nat}{k:Int}{x y:ByteArray}{s:Value}(h:Boxed w g k x y s) :
 w.cell? ⟨g,0,none⟩=some (ι γ k)∧w.cell? ⟨g,1,none⟩=some (σ x)∧w.cell? ⟨g,2,none⟩=some (σ y)∧w.cell? ⟨g,3,none⟩=some s:=by
 unfold Boxed at h;refine⟨?_,?_,?_,?_⟩ <;> simp[World.cell?,h]
theorem Boxed.below{w w':World}{g:Nat}{k:Int}{x y:ByteArray}{s:Value}(h:Boxed w g k x y s){B:Nat}(hb:Below B w w')(hg:g<B):Boxed w' g k x y s:=(hb.block g hg).trans h
theorem Boxed.lt{w:World}{g:Nat}{k:Int}{x y:ByteArray}{s:Value}(h:Boxed w g k x y s):g<w.heap.size:=lt_of_block h
theorem Vc(w:World)(k:Int)(x y:ByteArray)(s:Value):Boxed (w.alloc (θ #[ι γ k,σ x,σ y,s] 24)) w.heap.size k x y s:=heap_alloc_new w _
theorem JO{w:World}{g:Nat}{k:Int}{x y:ByteArray}{s:Value}(h:Boxed w g k x y s):w.frozen? ⟨g,0,none⟩=false∧w.frozen? ⟨g,1,none⟩=false∧w.frozen? ⟨g,2,none⟩=false∧w.frozen? ⟨g,3,none⟩=false:=by
 unfold Boxed at h;refine⟨?_,?_,?_,?_⟩ <;> simp[World.frozen?,h]
structure á(w wr:World)(cr:Nat)(res:Bool)(k:Int)(x y:ByteArray)(A:Option Addr)(n C:Nat)(c:F)(it:Bool)(d:Nat):Prop where
 QF:Below w.heap.size w wr
 box:Boxed wr w.heap.size k x y (ς A n C)
 fs:Fs wr (Lo w.heap.size) (ς A n C) c
 hx:x.size≤1000000
 hy:y.size≤1000000
 sm:Zp c
 eq:Vz ZZ ZN k x y c it d=res
theorem Qld{k:Int}{x y:ByteArray}{c:F}{it:Bool}{d:Nat}(h:256<d):Vz ZZ ZN k x y c it d=false:=by
 unfold Vz;rw[decide_eq_false ω];rfl
theorem Qlc{k:Int}{x y:ByteArray}{c:F}{it:Bool}{d:Nat}(h:Ed ZZ ZN k x y c it=false):Vz ZZ ZN k x y c it d=false:=by
 unfold Vz;rw[h];simp
theorem Qlb{k:Int}{x y:ByteArray}{it:Bool}{d:Nat}(hd:d≤256)(h:Ed ZZ ZN k x y .nil it=true):Vz ZZ ZN k x y .nil it d=true:=by
 unfold Vz;rw[h,decide_eq_true hd];rfl
theorem Qle{k:Int}{x y:ByteArray}{it:Bool}{d:Nat}{k1:Int}{x1 y1:ByteArray}{c1 r1:F}(hd:d≤256)(h:Ed ZZ ZN k x y (.cons k1 x1 y1 c1 r1) it=true) :
 Vz ZZ ZN k x y (.cons k1 x1 y1 c1 r1) it d=(Vz ZZ ZN k1 x1 y1 c1 (holds k) (d+down k x 0 k1 x1)&&Kd ZZ ZN k x (holds k) d 1 r1):=by
 conv=>lhs;unfold Vz
 rw[h,decide_eq_true hd,Qd2];rfl
theorem Z8{w:World}{g:Nat}{cs:Array Value}{T:TypeId}(h:w.heap[g]?=some (θ cs T (0,0)))(i:Nat)(v:Value):(w.setCell ⟨g,i,none⟩ v).heap[g]?=some (θ (cs.setIfInBounds i v) T (0,0)):=by
 have hlt:=lt_of_block h;have h':w.heap[g]=θ cs T (0,0):=by simpa[Array.getElem?_eq_getElem hlt]using h
 show(w.heap.modify g _)[g]?=_;rw[Array.getElem?_eq_getElem (by simpa using hlt),Array.getElem_modify_self,h'];simp
theorem X3{w:World}{g:Nat}{k k1:Int}{x y x1 y1:ByteArray}{s s1:Value}(h:Boxed w g k x y s) :
 Boxed ((((w.setCell ⟨g,0,none⟩ (ι γ k1)).setCell ⟨g,1,none⟩ (σ x1)).setCell ⟨g,2,none⟩ (σ y1)).setCell ⟨g,3,none⟩ s1) g k1 x1 y1 s1:=by
 unfold Boxed at h⊢;have:=Z8 (Z8 (Z8 (Z8 h 0 (ι γ k1)) 1 (σ x1)) 2 (σ y1)) 3 s1;simpa using this
theorem Ji(w:World)(g:Nat)(v0 v1 v2 v3:Value):Below g w ((((w.setCell ⟨g,0,none⟩ v0).setCell ⟨g,1,none⟩ v1).setCell ⟨g,2,none⟩ v2).setCell ⟨g,3,none⟩ v3) :=
 ((((QE g w).setCell (QI _) v0).setCell (QI _) v1).setCell (QI _) v2).setCell (QI _) v3
theorem Ge{f:F}{j:Nat}{k:Int}{x y:ByteArray}{c r:F}(h:f.drop j=.cons k x y c r):c.size<f.size:=by
 induction j generalizing f with
 |zero=>rw[show f=.cons k x y c r from h];exact c160
 |succ j ih =>
  cases f with
  |nil=>simp[F.drop]at h
  |cons k' x' y' c' r'=>have:=ih (f:=r') h;exact c160
theorem wrap_small{i:Int}(h1 : -1000000000000≤i)(h2:i≤9223372036854775807):IntKind.i64.wrap i=i:=by
 rw[IntKind.wrap_i64];omega
theorem â{w W:World}{S:Nat→Prop}{b off:Nat}{k:Int}{x y:ByteArray}{c:F}{s:Value}(h:At w S b off 0 k x y c s)(hb:Below w.heap.size w W)(hlt:b<w.heap.size) :
 W.cell? ⟨b,off,none⟩=some (ι γ k)∧W.cell? ⟨b,off+1,none⟩=some (σ x)∧W.cell? ⟨b,off+2,none⟩=some (σ y)∧W.cell? ⟨b,off+3,none⟩=some s:=by
 have c0:=h.c0;have c1:=h.c1;have c2:=h.c2;have c3:=h.c3;simp only[Nat.zero_mul,Nat.add_zero]at c0 c1 c2 c3;exact⟨(hb.cell (p:=⟨b,off,none⟩) hlt).trans c0,(hb.cell (p:=⟨b,off+1,none⟩) hlt).trans c1,(hb.cell (p:=⟨b,off+2,none⟩) hlt).trans c2,(hb.cell (p:=⟨b,off+3,none⟩) hlt).trans c3⟩
def iO(N:Nat):Prop:=∀(cr:Nat)(k:Int)(x y:ByteArray)(A:Option Addr)(n C:Nat)(c:F)(it:Bool)(d:Nat)(w:World),c.size≤N→Fs w (Lo w.heap.size) (ς A n C) c→x.size≤1000000→y.size≤1000000→Zp c→d≤1000→Lex.XF w→cr<w.heap.size→
 w.cell? ⟨cr,0,none⟩=some (.func (.func 40) #[] #[π (some ⟨cr,0,none⟩)])→
 Calls Tryz.prog 40 #[ξ #[ι γ k,σ x,σ y,ς A n C],τ it,ι γ (d:Int),π (some ⟨cr,0,none⟩)] w fun e w'=>e=ρ (τ (Vz ZZ ZN k x y c it d))∧Below w.heap.size w w'
theorem Qib(N:Nat)(ih:∀M,M<N→iO M):iO N:=by
 intro cr k x y A n C c it d w hN hf hx hy hsm hd1 hT hcr hcl;have wJ:=QA ih;have HT:=QA hT;have MM:Hid (∀W,Below w.heap.size w W→W.cell? ⟨cr,0,none⟩=some (.func (.func 40) #[] #[π (some ⟨cr,0,none⟩)])):=fun W hW=>(hW.cell (p:=⟨cr,0,none⟩) hcr).trans hcl
 have b1:=Qa w (θ #[ι γ k,σ x,σ y,ς A n C] 24);have HR:Hid (á w (w.alloc (θ #[ι γ k,σ x,σ y,ς A n C] 24)) cr (Vz ZZ ZN k x y c it d) k x y A n C c it d):=⟨b1,Vc _ _ _ _ _,hf.below b1 (QI _),hx,hy,hsm,rfl⟩;generalize Vz ZZ ZN k x y c it d=res at *;clear ih hT hf hx hy hsm hcl b1;go_enter Tryz.func40,Tryz.ntmps40;go_wp2
 go_loopg [1,2] (c.size+1) (fun p s1 s2 wr=>∃(k:Int)(x y:ByteArray)(A:Option Addr)(n C:Nat)(c:F)(it:Bool)(d:Nat),c.size<p∧c.size≤N∧s1=τ it∧s2=ι γ (d:Int)∧d≤1000∧Hid (á w wr cr res k x y A n C c it d))
 case atStart=>exact⟨k,x,y,A,n,C,c,it,d,ω,hN,rfl,rfl,hd1,HR.out⟩
 case round =>
  clear HR hN hd1;obtain⟨k,x,y,A,n,C,c,it,d,hsz,hN,rfl,rfl,hd1,HM⟩:=hrel;obtain⟨q0,q1,q2,q3⟩:=HM.out.box.cells;by_cases hd:256<d
  ·have HE:Hid (res=false):=HM.out.eq.symm.trans (Qld hd);have hdi:¬(d:Int)≤256:=ω
   clear hd;exact c120
  have hd2:d≤256:=ω
  have hdi:(d:Int)≤256:=ω
  have MK:=QA (Qti k x y A n C c it wr (HM.out.fs.up HM.out.QF.size) HM.out.hx HM.out.hy (HT.out.below HM.out.QF HT.out.pos));have TY:Hid (∀W,Below wr.heap.size wr W→Boxed W w.heap.size k x y (ς A n C)):=fun W hW=>HM.out.box.below hW HM.out.box.lt
  cases hft:Ed ZZ ZN k x y c it with
  |false=>have HE:Hid (res=false):=HM.out.eq.symm.trans (Qlc hft);rw[hft]at MK;clear hd hft;go_wp2_with fail;refine c₁ MK.out fun wf LZ=>?_;have HB:=QA (HM.out.QF.trans (LZ.mono HM.out.QF.size));clear LZ;exact c148
  |true =>
   cases hc:c with
   |nil=>rw[hc]at hft HM MK;have HE:Hid (res=true):=HM.out.eq.symm.trans (Qlb hd2 hft);obtain⟨A0,C0,e,_,_⟩:=HM.out.fs.slice;injection e with e1 e2 e3;subst e1;subst e3;simp only[F.len]at e2;subst e2;rw[hft]at MK;clear hd hft hc;go_wp2_with fail;refine c₁ MK.out fun wf LZ=>?_;have HB:=QA (HM.out.QF.trans (LZ.mono HM.out.QF.size));obtain⟨r0,r1,r2,r3⟩:=(TY.out wf LZ).cells;clear LZ q0 q1 q2 q3;exact c148
   |cons k1 x1 y1 c1 r1 =>
    rw[hc]at hft HM MK hsz hN;have jn:Hid ((Vz ZZ ZN k1 x1 y1 c1 (holds k) (d+down k x 0 k1 x1)&&Kd ZZ ZN k x (holds k) d 1 r1)=res):=(Qle hd2 hft).symm.trans HM.out.eq;obtain⟨b,off,s1,rfl,FK,hn0,hat⟩:=HM.out.fs.at_ (i:=0) rfl;obtain⟨A1,C1,rfl,Lg,mU⟩:=hat.kids.slice;have Px:=QA hat;obtain⟨qc,Ld,RS,hrl,hr⟩:=HM.out.fs.tail;obtain⟨A',n',C',hsl,en,eC,hA'⟩:=Ju b off n C qc Ld;have hr2:=hr A' hA';rw[←en,←eC]at hr2;rw[←en]at hrl;have XQ:=QA hr2;have NQ:=QA hrl;have hCn:n'≤C':=ω
    have FT:C'≤9223372036854775807:=ω
    have hnz:((n:Int)==0)=false:=QM ω;have LN:Hid (b<w.heap.size):=FK;have mG:(0:Int)<(n:Int):=ω
    rw[hft]at MK;clear hd hft hc hat hr hr2 hrl hA' en eC FK;go_wp2_with fail;refine c₁ MK.out fun wf LZ=>?_;have UQ:=QA (HM.out.QF.trans (LZ.mono HM.out.QF.size));have Ad:=QA (TY.out wf LZ);obtain⟨r0,O4,r2,r3⟩:=Ad.out.cells;have QP:=QA (HM.out.fs.below LZ HM.out.QF.size);have HRS:=QA (XQ.out.below LZ HM.out.QF.size);have Bd:=QA (Px.out.kids.below LZ HM.out.QF.size);have EP:Hid (∀W,Below wf.heap.size wf W→W.cell? ⟨b,off,none⟩=some (ι γ k1)∧W.cell? ⟨b,off+1,none⟩=some (σ x1)∧W.cell? ⟨b,off+2,none⟩=some (σ y1)∧W.cell? ⟨b,off+3,none⟩=some (ς A1 c1.len C1)):=fun W hW=>â Px.out (LZ.trans (hW.mono LZ.size)) (VE LN.out HM.out.QF.size)
    have HHD:=QA (Qo8 k wf);clear LZ q0 q1 q2 q3 MK;go_wp2_with fail;refine c₁ HHD.out fun wg hw=>?_;subst hw;clear HHD;go_wp2
    go_loopw [29] (fun i wr=>∃j:Nat,j≤n'∧i=ι γ (j:Int)∧Hid (Kd ZZ ZN k x (holds k) d (j+1) (r1.drop j)=Kd ZZ ZN k x (holds k) d 1 r1)∧Hid (Below wg.heap.size wg wr)) (fun i _=>n'-(intOf i).toNat)
    case atStart=>exact⟨0,Nat.zero_le _,rfl,rfl,QE _ _⟩
    case round =>
     obtain⟨j,hj,rfl,hkr,ZT⟩:=hrel;by_cases hlt:j<n'
     ·obtain⟨kk,kx,ky,kc,kr,hdr,YZ⟩:=F.drop_cons (n:=j) (f:=r1) (by rw[NQ.out];exact hlt);obtain⟨b2,UW,s2,rfl,PO,_,VA⟩:=HRS.out.at_ hdr;obtain⟨Ak,Ck,rfl,_,_⟩:=VA.kids.slice;have hb2:b2<wr.heap.size:=VE PO (QW UQ.out.size ZT.out.size);have PN:b2<wg.heap.size:=VE PO UQ.out.size;have e0:=(ZT.out.cell (p:=⟨b2,UW+j*4,none⟩) PN).trans VA.c0;have e1:=(ZT.out.cell (p:=⟨b2,UW+j*4+1,none⟩) PN).trans VA.c1;have e2:=(ZT.out.cell (p:=⟨b2,UW+j*4+2,none⟩) PN).trans VA.c2;have e3:=(ZT.out.cell (p:=⟨b2,UW+j*4+3,none⟩) PN).trans VA.c3;have hlt':(j:Int)<(n':Int):=ω
      have Mf:(0:Int)≤(j:Int):=ω
      have RP:=pW k x (j+1) kk kx;have bk:=Qa wr (θ #[ι γ kk,σ kx,σ ky,ς Ak kc.len Ck] 24);have H8:Hid (∀W,Below (wr.alloc (θ #[ι γ kk,σ kx,σ ky,ς Ak kc.len Ck] 24)).heap.size (wr.alloc (θ #[ι γ kk,σ kx,σ ky,ς Ak kc.len Ck] 24)) W→
       W.cell? ⟨cr,0,none⟩=some (.func (.func 40) #[] #[π (some ⟨cr,0,none⟩)])∧
       (W.cell? ⟨wr.heap.size,0,none⟩=some (ι γ kk)∧W.cell? ⟨wr.heap.size,1,none⟩=some (σ kx)∧W.cell? ⟨wr.heap.size,2,none⟩=some (σ ky)∧W.cell? ⟨wr.heap.size,3,none⟩=some (ς Ak kc.len Ck))∧
       (W.cell? ⟨w.heap.size,0,none⟩=some (ι γ k)∧W.cell? ⟨w.heap.size,1,none⟩=some (σ x)∧W.cell? ⟨w.heap.size,2,none⟩=some (σ y)∧W.cell? ⟨w.heap.size,3,none⟩=some (ς (some ⟨b,off,none⟩) n C))):=fun W hW=>by
       have hw1:Below wg.heap.size wg W:=ZT.out.trans ((bk.trans (hW.mono bk.size)).mono ZT.out.size);refine⟨MM.out W (UQ.out.trans (hw1.mono UQ.out.size)),((Vc wr _ _ _ _).below hW ψ).cells,(Ad.out.below hw1 Ad.out.lt).cells⟩
      have LU:kc.size<N:=by have:=Ge hdr;simp only[F.size]at hN;omega
      have Fl:Zp (F.cons kk kx ky kc kr):=by have:=HM.out.sm;simp only[Zp]at this;have h2:=Zp.drop (n:=j) this.2.2.2;rwa[hdr]at h2
      have uV:Hid (∀W,Below (wr.alloc (θ #[ι γ kk,σ kx,σ ky,ς Ak kc.len Ck] 24)).heap.size (wr.alloc (θ #[ι γ kk,σ kx,σ ky,ς Ak kc.len Ck] 24)) W→
       Calls Tryz.prog 43 #[ξ #[ι γ k,σ x,σ y,ς (some ⟨b,off,none⟩) n C],ι γ ((j:Int)+1)] W fun e w'=>e=ρ (ι γ ((down k x (j+1) kk kx:Nat):Int))∧Below W.heap.size W w'):=fun W hW=>by
       have hw1:Below wg.heap.size wg W:=ZT.out.trans ((bk.trans (hW.mono bk.size)).mono ZT.out.size);have SR:=UQ.out.trans (hw1.mono UQ.out.size);have:=Qed k x y (some ⟨b,off,none⟩) n C (.cons k1 x1 y1 c1 r1) (j+1) kk kx ky kc kr W ((QP.out.below hw1 UQ.out.size).up SR.size) hdr;rwa[show((j+1:Nat):Int)=(j:Int)+1 from by omega]at this
      obtain⟨rk,kJ⟩:=Mem.QD (Vz ZZ ZN kk kx ky kc (holds k) (d+down k x (j+1) kk kx));have Sm:Hid (∀W,Below (wr.alloc (θ #[ι γ kk,σ kx,σ ky,ς Ak kc.len Ck] 24)).heap.size (wr.alloc (θ #[ι γ kk,σ kx,σ ky,ς Ak kc.len Ck] 24)) W→
       Calls Tryz.prog 40 #[ξ #[ι γ kk,σ kx,σ ky,ς Ak kc.len Ck],τ (holds k),ι γ ((d:Int)+((down k x (j+1) kk kx:Nat):Int)),π (some ⟨cr,0,none⟩)] W fun e w'=>e=ρ (τ rk)∧Below W.heap.size W w'):=fun W hW=>by
       have hw1:Below wg.heap.size wg W:=ZT.out.trans ((bk.trans (hW.mono bk.size)).mono ZT.out.size);have SR:=UQ.out.trans (hw1.mono UQ.out.size);have:=wJ.out kc.size LU cr kk kx ky Ak kc.len Ck kc (holds k) (d+down k x (j+1) kk kx) W (QI _) ((VA.kids.below hw1 UQ.out.size).up SR.size) Fl.1 Fl.2.1 Fl.2.2.1 ω (HT.out.below SR HT.out.pos) (by have:=SR.size;omega) (MM.out W SR);rwa[kJ,Int.natCast_add]at this
      have uK:Hid (Kd ZZ ZN k x (holds k) d 1 r1=(rk&&Kd ZZ ZN k x (holds k) d (j+1+1) (r1.drop (j+1)))):=by show _=_;rw[←hkr.out,hdr,Qd2,kJ,YZ]
      have uY:Hid (∀W,Below (wr.alloc (θ #[ι γ kk,σ kx,σ ky,ς Ak kc.len Ck] 24)).heap.size (wr.alloc (θ #[ι γ kk,σ kx,σ ky,ς Ak kc.len Ck] 24)) W→Below wg.heap.size wg W):=fun W hW=>ZT.out.trans ((bk.trans (hW.mono bk.size)).mono ZT.out.size)
      have Q15:IntKind.i64.wrap ((j:Int)+1)=(j:Int)+1:=wrap_small ω ω;have hwr:IntKind.i64.wrap ((d:Int)+((down k x (j+1) kk kx:Nat):Int))=(d:Int)+((down k x (j+1) kk kx:Nat):Int):=wrap_small ω ω;clear hdr YZ PO VA RP bk LU Fl kJ hkr r0 O4 r2 r3;generalize down k x (j+1) kk kx=dn at *;go_wp2;refine Qv [Cd.is (Value.func (.func 40) #[] #[π (some ⟨cr,0,none⟩)]),Cd.is (ξ #[ι γ kk,σ kx,σ ky,ς Ak kc.len Ck]),Cd.is (τ (holds k)),Cd.is (ι γ (d:Int)),Cd.is (ξ #[ι γ k,σ x,σ y,ς (some ⟨b,off,none⟩) n C]),Cd.is (ι γ (j:Int)),Cd.is (ι γ ((j:Int)+1)),Cd.is (ι γ (dn:Int)),Cd.is (ι γ ((d:Int)+(dn:Int))),Cd.is (τ rk),Cd.is (τ (!rk))] ?steps ?behind
      case steps =>
       intro xv W hW;refine⟨?s0,?s1,?s2,?s3,?s4,?s5,?s6,?s7,?s8,?s9,?JQ,trivial⟩;all_goals intro hd K hK
       all_goals(try simp only[Act.put,ZC,ZA,QZ]at hK)
       case s0=>clear hd;obtain⟨hq,_,_⟩:=H8.out W hW;exact c16
       case s1=>clear hd;obtain⟨_,⟨hq0,hq1,hq2,Ns⟩,_⟩:=H8.out W hW;exact c16
       case s2|s3|s5=>clear hd;exact c16
       case s4=>clear hd;obtain⟨_,_,⟨hq0,hq1,hq2,Ns⟩⟩:=H8.out W hW;exact c16
       case s6=>have JB:xv 5=ι γ (j:Int):=hd 5;clear hd;rw[JB]at hK⊢;exact c16
       case s7=>have JJ:xv 4=ξ #[ι γ k,σ x,σ y,ς (some ⟨b,off,none⟩) n C]:=hd 4;have JR:xv 6=ι γ ((j:Int)+1):=hd 6;clear hd;rw[JJ]at hK⊢;rw[JR]at hK⊢;go_simp;go_at_call 43;refine(uV.out W hW).mono ?_;exact c128
       case s8=>have hx3:xv 3=ι γ (d:Int):=hd 3;have YX:xv 7=ι γ (dn:Int):=hd 7;clear hd;rw[hx3]at hK⊢;rw[YX]at hK⊢;exact c16
       case s9=>have hx0:xv 0=Value.func (.func 40) #[] #[π (some ⟨cr,0,none⟩)]:=hd 0;have hx1:xv 1=ξ #[ι γ kk,σ kx,σ ky,ς Ak kc.len Ck]:=hd 1;have hx2:xv 2=τ (holds k):=hd 2;have UX:xv 8=ι γ ((d:Int)+(dn:Int)):=hd 8;clear hd;rw[hx0]at hK⊢;rw[hx1]at hK⊢;rw[hx2]at hK⊢;rw[UX]at hK⊢;go_simp;go_at_call 40;refine(Sm.out W hW).mono ?_;exact c128
       case JQ=>have Lx:xv 9=τ rk:=hd 9;clear hd;rw[Lx]at hK⊢;exact c16
      case behind =>
       intro xv W hW hx;have h10:xv 10=τ (!rk):=hx 10;rw[h10];have HW:=QA (uY.out W hW);clear hx h10 hW uY H8 uV Sm;cases rk with
       |true =>
        have SF:Hid (Kd ZZ ZN k x (holds k) d (j+1+1) (r1.drop (j+1))=Kd ZZ ZN k x (holds k) d 1 r1):=by show _=_;rw[uK.out];rfl
        go_wp2
        go_roundw
        case rel=>exact⟨j+1,ω,by go_num,SF.out,HW.out⟩
        case measure=>simp[intOf];omega
       |false =>
        have HE:Hid (res=false):=by show _=_;rw[←jn.out,uK.out];simp
        go_wp2;go_ret;exact⟨by rw[HE.out];rfl,UQ.out.trans (HW.out.mono UQ.out.size)⟩
     ·have hn':¬(j:Int)<(n':Int):=ω
      obtain rfl:j=n':=ω
      have HQ:Hid (Vz ZZ ZN k1 x1 y1 c1 (holds k) (d+down k x 0 k1 x1)=res):=by show _=_;rw[←jn.out,←hkr.out,F.JG _ _ (by rw[NQ.out];exact QI _)];simp[Kd]
      have YR:=QA (UQ.out.trans (ZT.out.mono UQ.out.size));have uQ:Hid (w.heap.size<wr.heap.size):=VE Ad.out.lt ZT.out.size;have zz:Hid (∀W,Below wr.heap.size wr W→Boxed W w.heap.size k x y (ς (some ⟨b,off,none⟩) n C)):=fun W hW=>Ad.out.below (ZT.out.trans (hW.mono ZT.out.size)) Ad.out.lt
      have QY:Hid (∀W,Below wr.heap.size wr W→W.cell? ⟨w.heap.size,0,none⟩=some (ι γ k)∧W.cell? ⟨w.heap.size,1,none⟩=some (σ x)∧W.cell? ⟨w.heap.size,2,none⟩=some (σ y)∧W.cell? ⟨w.heap.size,3,none⟩=some (ς (some ⟨b,off,none⟩) n C)):=fun W hW=>(zz.out W hW).cells
      have Sl:Hid (∀W,Below wr.heap.size wr W→W.cell? ⟨b,off,none⟩=some (ι γ k1)∧W.cell? ⟨b,off+1,none⟩=some (σ x1)∧W.cell? ⟨b,off+2,none⟩=some (σ y1)∧W.cell? ⟨b,off+3,none⟩=some (ς A1 c1.len C1)):=fun W hW=>EP.out W (ZT.out.trans (hW.mono ZT.out.size))
      have uU:Hid (∀W,Below wr.heap.size wr W→Calls Tryz.prog 43 #[ξ #[ι γ k,σ x,σ y,ς (some ⟨b,off,none⟩) n C],ι γ 0] W fun e w'=>e = ρ (ι γ ((down k x 0 k1 x1:Nat):Int))∧Below W.heap.size W w'):=fun W hW=>by
       have hw1:Below wg.heap.size wg W:=ZT.out.trans (hW.mono ZT.out.size);have SR:=UQ.out.trans (hw1.mono UQ.out.size);exact Qed k x y (some ⟨b,off,none⟩) n C (.cons k1 x1 y1 c1 r1) 0 k1 x1 y1 c1 r1 W ((QP.out.below hw1 UQ.out.size).up SR.size) rfl
      have sD:=QA (Bd.out.below ZT.out UQ.out.size);have RP:=pW k x 0 k1 x1;have Q14:IntKind.i64.wrap ((d:Int)+((down k x 0 k1 x1:Nat):Int))=(d:Int)+((down k x 0 k1 x1:Nat):Int):=wrap_small ω ω;have hbl:b<wr.heap.size:=Nat.lt_trans LN.out uQ.out;clear hkr ZT jn NQ HRS EP Bd r0 O4 r2 r3;generalize down k x 0 k1 x1=dn at *;go_wp2;refine Qbq 9 (fun W=>Below wr.heap.size wr W) (fun W W'=>Below w.heap.size W W'∧(Boxed W w.heap.size k1 x1 y1 (ς A1 c1.len C1)→Boxed W' w.heap.size k1 x1 y1 (ς A1 c1.len C1))∧W.heap.size≤W'.heap.size) [Cd.is (π (some ⟨w.heap.size,3,none⟩)),Cd.is (ς (some ⟨b,off,none⟩) n C),Cd.is (π (some ⟨b,off,none⟩)),Cd.is (ξ #[ι γ k1,σ x1,σ y1,ς A1 c1.len C1]),Cd.is (τ (holds k)),Cd.is (ι γ (d:Int)),Cd.is (ξ #[ι γ k,σ x,σ y,ς (some ⟨b,off,none⟩) n C]),Cd.is (ι γ (dn:Int)),Cd.is (ι γ ((d:Int)+(dn:Int))),⟨fun _ W=>Boxed W w.heap.size k1 x1 y1 (ς A1 c1.len C1),fun _ W W' hT h=>hT.2.1 h⟩,Cd.is (τ (holds k)),Cd.is (ι γ ((d:Int)+(dn:Int)))] χ δ χ ((QE _ _).drew) ⟨QE _ _,fun h=>h,QI _⟩ (fun _ _ _ h k=>⟨h.1.trans k.1,fun z=>k.2.1 (h.2.1 z),QW h.2.2 k.2.2⟩) ?steps ?behind
      case steps =>
       intro xv W hW a ha
       skip
       simp only[Qi]at ha;simp only[ZC,ZA,QZ,ZL,Nat.reduceAdd]at ha;subst ha;refine⟨?s0,?s1,?s2,?s3,?s4,?s5,?s6,?s7,?s8,?s9,?JQ,?GA,trivial⟩;all_goals intro hI hS hd K hK
       all_goals(try simp only[Act.put,ZC,ZA,QZ]at hK)
       case s0|s4=>clear hd;exact c81
       case s1=>have hx0:xv 0=π (some ⟨w.heap.size,3,none⟩):=hd 0 χ;clear hd;rw[hx0]at hK⊢;exact c112
       case s2=>have hx1:xv 1=ς (some ⟨b,off,none⟩) n C:=hd 1 χ;clear hd;rw[hx1]at hK⊢;exact c81
       case s3=>have hx2:xv 2=π (some ⟨b,off,none⟩):=hd 2 χ;clear hd;rw[hx2]at hK⊢;refine(if_pos (by rfl)).mpr ?_;have JD:=hS (.inl χ);obtain⟨hq0,hq1,hq2,Ns⟩:=Sl.out W JD;exact c25
       case s5=>clear hd;refine(if_pos (by rfl)).mpr ?_;clear hS;have h11:xv 11=ι γ (d:Int):=hI 11 χ;rw[h11]at hK⊢;go_simp;exact hK.out _ _ ⟨QE _ _,fun h=>h,QI _⟩ (.inr fun h=>h) rfl
       case s6=>clear hd;exact c112
       case s7=>have JR:xv 6=ξ #[ι γ k,σ x,σ y,ς (some ⟨b,off,none⟩) n C]:=hd 6 χ;clear hd;rw[JR]at hK⊢;refine(if_pos (by rfl)).mpr ?_;have JD:=hS (.inl χ);clear hS;go_simp;go_at_call 43;refine c₁ (uU.out W JD) fun w' hb=>?_;exact hK.out _ _ ⟨hb.mono (Nat.le_of_lt (VE uQ.out JD.size)),fun h=>h.below hb (VE uQ.out JD.size),hb.size⟩ (.inr fun h=>h.trans (hb.mono h.size)) rfl
       case s8=>have JB:xv 5=ι γ (d:Int):=hd 5 χ;have YX:xv 7=ι γ (dn:Int):=hd 7 χ;clear hd;rw[JB]at hK⊢;rw[YX]at hK⊢;exact c81
       case s9=>have hx3:xv 3=ξ #[ι γ k1,σ x1,σ y1,ς A1 c1.len C1]:=hd 3 χ;clear hd;rw[hx3]at hK⊢;refine(if_pos (by rfl)).mpr ?_;have JD:=hS (.inr rfl);obtain⟨hq0,hq1,hq2,Ns⟩:=QY.out W JD;have hbk:=zz.out W JD;have hz:=JO hbk;clear hS;go_simp;exact hK.out undef _ ⟨Ji _ _ _ _ _ _,fun _=>X3 hbk,(Ji _ _ _ _ _ _).size⟩ (.inl trivial) (X3 hbk)
       case JQ=>have JJ:xv 4=τ (holds k):=hd 4 χ;clear hd;rw[JJ]at hK⊢;exact c81
       case GA=>have UX:xv 8=ι γ ((d:Int)+(dn:Int)):=hd 8 χ;clear hd;rw[UX]at hK⊢;exact c81
      case behind =>
       intro xv W hW hx a ha
       skip
       simp only[Qi]at ha;simp only[ZC,ZA,QZ,ZL,Nat.reduceAdd]at ha;subst ha;have h10:xv 10=τ (holds k):=hx 10 δ;have h11:xv 11=ι γ ((d:Int)+(dn:Int)):=hx 11 δ;have h9:Boxed W w.heap.size k1 x1 y1 (ς A1 c1.len C1):=hx 9 δ;rw[h10,h11];have wZ:=QA h9;have HW:Hid (Below w.heap.size wr W):=⟨hW.1.os,hW.1.tape,hW.1.output,hW.1.size,hW.1.block⟩;clear hx h10 h11 h9 hW uU Sl QY zz;go_wp2
       go_roundg (c1.size+1)
       case measure=>simp only[F.size]at hsz;omega
       case rel =>
        refine⟨k1,x1,y1,A1,c1.len,C1,c1,holds k,d+dn,ω,?_,rfl,by rw[Int.natCast_add],ω,?_⟩
        ·simp only[F.size]at hN;omega
        ·have hs:=HM.out.sm;simp only[Zp]at hs;exact⟨YR.out.trans HW.out,wZ.out,sD.out.below HW.out (QI _),hs.1,hs.2.1,hs.2.2.1,HQ.out⟩
