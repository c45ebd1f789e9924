import Derived.Test.YtmepekognmlblaaGreatDoorS15
import Derived.Test.YtmepekognmlblaaGreatDoorS16
import Derived.Test.YtmepekognmlblaaGreatDoorS17
import Derived.Test.YtmepekognmlblaaGreatDoorS19
set_option maxHeartbeats 8000000
set_option maxRecDepth 100000
set_option linter.unusedVariables false
open Go.Proofs.Tryz Go.ChangeShapes Go.WideShapes Go.ChangeAt Go.RowKit
open Go.Lib renaming hid→QA
open Go.World renaming cell?_alloc_at→VV
open Go.Value renaming string→σ,int→ι,slice→ς,bool→τ,agg→ξ
open Go.IntKind renaming i64→γ
open Go.Obj renaming cells→θ
open Go.Ending renaming returned→ρ
namespace Go.Proofs.YtmepekognmlblaaGreatDoor
namespace Tree
open Mem
theorem Qo2(k:Int)(x y:ByteArray)(A:Option Addr)(n C:Nat)(w:World)(b1:(k==1)=false)(b2:(k==2)=false)(b3:(k==3)=false)(b4:(k==4)=false)(b5:(k==5)=false)(b6:(k==6)=false)(b7:(k==7)=false)(b8:(k==8)=false)(b9:(k==9)=false)(Rn:(k==10)=false)(PV:(k==11)=false)(UC:(k==12)=false)(TN:(k==13)=false)(OA:(k==14)=false)(qs:(k==15)=false)(vp:(k==16)=false)(qp:(k==17)=false)(ya:(k==18)=false)(b19:(k==19)=false)(b20:(k==20)=false)(l9:(k==21)=false)(l7:(k==22)=false)(b23:(k==23)=false)(b24:(k==24)=false)(b25:(k==25)=false)(u9:(k==26)=false)(u6:(k==27)=false)(lZ:(k==28)=false)(u5:(k==29)=false)(gU:(k==30)=false)(br:(k==31)=false)(b32:(k==32)=false)(b33:(k==33)=false) :
 Calls prog 62 #[ξ #[ι γ k,σ x,σ y,ς A n C]] w fun e w'=>e=ρ (τ false)∧Below w.heap.size w w':=by
 have QS:=E1 w k x y A n C;have hlt:w.heap.size<(w.alloc (θ #[ι γ k,σ x,σ y,ς A n C] 24)).heap.size:=ψ
 have b1:=Qt w (θ #[ι γ k,σ x,σ y,ς A n C] 24) (θ #[ι γ 33] 3);go_enter func62,ntmps62;go_wp2_with fail;refine(QS.out).mono ?_;rintro e w3 ⟨hb3,v3,rfl,JY⟩;obtain⟨g3,c3,rfl,hrest⟩:=JY;have ZW:w3.cell? ⟨w.heap.size,0,none⟩=some (ι γ k):=by rw[hb3.cell (p:=⟨w.heap.size,0,none⟩) (by simp;omega),World.cell?_alloc_lt _ _ _ hlt,VV _ _ _ _ rfl];rfl
 have HB:=QA (b1.trans (hb3.mono b1.size));clear hb3 hrest QS b1;exact c23
theorem Qi7(k:Int)(x y:ByteArray)(A:Option Addr)(n C:Nat)(f:F)(w:World)(hf:Fs w (Lo w.heap.size) (ς A n C) f) :
 Calls prog 62 #[ξ #[ι γ k,σ x,σ y,ς A n C]] w fun e w'=>e=ρ (τ (Qc k x f))∧Below w.heap.size w w':=by
 by_cases h1:k=1
 ·subst h1;exact Qyq x y A n C f w hf
 by_cases h2:k=2
 ·subst h2;exact Qyp x y A n C f w hf
 by_cases h3:k=3
 ·subst h3;exact Qyo x y A n C f w hf
 by_cases h4:k=4
 ·subst h4;exact Qyn x y A n C f w hf
 by_cases h5:k=5
 ·subst h5;exact Qym x y A n C f w hf
 by_cases h6:k=6
 ·subst h6;exact Qyl x y A n C f w hf
 by_cases h7:k=7
 ·subst h7;exact Qyk x y A n C f w hf
 by_cases h8:k=8
 ·subst h8;exact Qyj x y A n C f w hf
 by_cases h9:k=9
 ·subst h9;exact Qyi x y A n C f w hf
 by_cases h10:k=10
 ·subst h10;exact Qv8 x y A n C f w hf
 by_cases h11:k=11
 ·subst h11;exact Qv7 x y A n C f w hf
 by_cases h12:k=12
 ·subst h12;exact Qv6 x y A n C f w hf
 by_cases Lh:k=13
 ·subst Lh;exact Qv5 x y A n C f w hf
 by_cases qg:k=14
 ·subst qg;exact Qv4 x y A n C f w hf
 by_cases vk:k=15
 ·subst vk;exact Qv3 x y A n C f w hf
 by_cases qf:k=16
 ·subst qf;exact Qv2 x y A n C f w hf
 by_cases EM:k=17
 ·subst EM;exact Qv1 x y A n C f w hf
 by_cases Mu:k=18
 ·subst Mu;exact Qv0 x y A n C f w hf
 by_cases h19:k=19
 ·subst h19;exact Qvz x y A n C f w hf
 by_cases h20:k=20
 ·subst h20;exact Qvy x y A n C f w hf
 by_cases h21:k=21
 ·subst h21;cases hx:(x.toList==[58,61])with
  |true=>exact Qi5 x y A n C f w hf hx
  |false=>exact Qgx x y A n C f w hf hx
 by_cases h22:k=22
 ·subst h22;exact Qvx x y A n C f w hf
 by_cases h23:k=23
 ·subst h23;exact Qvw x y A n C f w hf
 by_cases Ov:k=24
 ·subst Ov;exact Qvv x y A n C f w hf
 by_cases Ou:k=25
 ·subst Ou;exact Qvu x y A n C f w hf
 by_cases Mt:k=26
 ·subst Mt;exact Qvt x y A n C f w hf
 by_cases Mr:k=27
 ·subst Mr;exact Qvs x y A n C f w hf
 by_cases Pf:k=28
 ·subst Pf;exact Qvr x y A n C f w hf
 by_cases Mq:k=29
 ·subst Mq;exact Qvq x y A n C f w hf
 by_cases Mp:k=30
 ·subst Mp;exact Qvp x y A n C f w hf
 by_cases RX:k=31
 ·subst RX;exact Qvo x y A n C f w hf
 by_cases RV:k=32
 ·subst RV;exact Qvn x y A n C f w hf
 by_cases dH:k=33
 ·subst dH;exact Qvm x y A n C f w hf
 rw[show Qc k x f=false by unfold Qc;simp only[h1,h2,h3,h4,h5,h6,h7,h8,h9,h10,h11,h12,Lh,qg,vk,qf,EM,Mu,h19,h20,h21,h22,h23,Ov,Ou,Mt,Mr,Pf,Mq,Mp,RX,RV,dH,or_self,if_false]];exact Qo2 k x y A n C w (QM h1) (QM h2) (QM h3) (QM h4) (QM h5) (QM h6) (QM h7) (QM h8) (QM h9) (QM h10) (QM h11) (QM h12) (QM Lh) (QM qg) (QM vk) (QM qf) (QM EM) (QM Mu) (QM h19) (QM h20) (QM h21) (QM h22) (QM h23) (QM Ov) (QM Ou) (QM Mt) (QM Mr) (QM Pf) (QM Mq) (QM Mp) (QM RX) (QM RV) (QM dH)
theorem Ku(k:Int)(hk:k=2∨k=4∨k=5∨k=6∨k=7∨k=14∨k=16∨k=9∨k=32)(x y:ByteArray)(A:Option Addr)(n C:Nat)(w:World)(hx:x.size≤1000000)(hT:Lex.XF w):Calls prog 60 #[ξ #[ι γ k,σ x,σ y,ς A n C]] w fun e w'=>e = ρ (τ (Zd ZZ ZN k x))∧Below w.heap.size w w':=by
 have b1:=Qa w (θ #[ι γ k,σ x,σ y,ς A n C] 24);rw[show Zd ZZ ZN k x=ZZ x by rcases hk with rfl|rfl|rfl|rfl|rfl|rfl|rfl|rfl|rfl <;> (unfold Zd;simp)];have HC:=QA (Qu7 x hx (w.alloc (θ #[ι γ k,σ x,σ y,ς A n C] 24)));have HB:=QA b1;clear b1 hT hx;rcases hk with rfl|rfl|rfl|rfl|rfl|rfl|rfl|rfl|rfl
 all_goals(go_enter func60,ntmps60;go_wp2_with fail;refine c₁ HC.out fun w' hb=>?_;have HE:=VO HB hb;clear hb;go_wp2;go_ret;exact⟨rfl,HE.out⟩)
theorem rC(k s:Int)(hk:k=3∧s=3∨k=27∧s=3∨k=26∧s=2∨k=8∧s=5)(x y:ByteArray)(A:Option Addr)(n C:Nat)(w:World)(hx:x.size≤1000000)(hT:Lex.XF w):Calls prog 60 #[ξ #[ι γ k,σ x,σ y,ς A n C]] w fun e w'=>e = ρ (τ (Zd ZZ ZN k x))∧Below w.heap.size w w':=by
 have b1:=Qa w (θ #[ι γ k,σ x,σ y,ς A n C] 24);rw[show Zd ZZ ZN k x=ZN x s by rcases hk with⟨rfl,rfl⟩|⟨rfl,rfl⟩|⟨rfl,rfl⟩|⟨rfl,rfl⟩ <;> (unfold Zd;simp)];have HC:=QA (Ć x s hx (w.alloc (θ #[ι γ k,σ x,σ y,ς A n C] 24)) (hT.below b1 hT.pos));have HB:=QA b1;clear b1 hT hx;rcases hk with⟨rfl,rfl⟩|⟨rfl,rfl⟩|⟨rfl,rfl⟩|⟨rfl,rfl⟩
 all_goals(go_enter func60,ntmps60;go_wp2_with fail;refine c₁ HC.out fun w' hb=>?_;have HE:=VO HB hb;clear hb;go_wp2;go_ret;exact⟨rfl,HE.out⟩)
theorem Qui(x y:ByteArray)(A:Option Addr)(n C:Nat)(w:World)(hx:x.size≤1000000)(hT:Lex.XF w):Calls prog 60 #[ξ #[ι γ 21,σ x,σ y,ς A n C]] w fun e w'=>e = ρ (τ (Zd ZZ ZN 21 x))∧Below w.heap.size w w':=by
 have b1:=Qa w (θ #[ι γ 21,σ x,σ y,ς A n C] 24);rw[show Zd ZZ ZN 21 x=([(⟨#[61]⟩:ByteArray),(⟨#[58,61]⟩:ByteArray),(⟨#[43,61]⟩:ByteArray),(⟨#[45,61]⟩:ByteArray),(⟨#[42,61]⟩:ByteArray),(⟨#[47,61]⟩:ByteArray),(⟨#[37,61]⟩:ByteArray)].any fun u=>x.toList==u.toList)by unfold Zd;simp[Bool.or_assoc]];have HB:=QA (Qt w (θ #[ι γ 21,σ x,σ y,ς A n C] 24) (θ #[σ ⟨#[61]⟩,σ ⟨#[58,61]⟩,σ ⟨#[43,61]⟩,σ ⟨#[45,61]⟩,σ ⟨#[42,61]⟩,σ ⟨#[47,61]⟩,σ ⟨#[37,61]⟩] 9))
 have HC:=QA (Pj x (w.heap.size+1) 7 7 [(⟨#[61]⟩:ByteArray),(⟨#[58,61]⟩:ByteArray),(⟨#[43,61]⟩:ByteArray),(⟨#[45,61]⟩:ByteArray),(⟨#[42,61]⟩:ByteArray),(⟨#[47,61]⟩:ByteArray),(⟨#[37,61]⟩:ByteArray)] ((w.alloc (θ #[ι γ 21,σ x,σ y,ς A n C] 24)).alloc (θ #[σ ⟨#[61]⟩,σ ⟨#[58,61]⟩,σ ⟨#[43,61]⟩,σ ⟨#[45,61]⟩,σ ⟨#[42,61]⟩,σ ⟨#[47,61]⟩,σ ⟨#[37,61]⟩] 9)) rfl ω (fun i u hu=>by
  rw[VV _ _ _ _ ψ]
  match i,hu with
  |0,hu=>cases hu;rfl
  |1,hu=>cases hu;rfl
  |2,hu=>cases hu;rfl
  |3,hu=>cases hu;rfl
  |4,hu=>cases hu;rfl
  |5,hu=>cases hu;rfl
  |6,hu=>cases hu;rfl
  |(_+7),hu=>simp at hu))
 generalize([(⟨#[61]⟩:ByteArray),(⟨#[58,61]⟩:ByteArray),(⟨#[43,61]⟩:ByteArray),(⟨#[45,61]⟩:ByteArray),(⟨#[42,61]⟩:ByteArray),(⟨#[47,61]⟩:ByteArray),(⟨#[37,61]⟩:ByteArray)].any fun u=>x.toList==u.toList)=bb at *;exact c54
theorem Quh(x y:ByteArray)(A:Option Addr)(n C:Nat)(w:World)(hx:x.size≤1000000)(hT:Lex.XF w):Calls prog 60 #[ξ #[ι γ 28,σ x,σ y,ς A n C]] w fun e w'=>e = ρ (τ (Zd ZZ ZN 28 x))∧Below w.heap.size w w':=by
 have b1:=Qa w (θ #[ι γ 28,σ x,σ y,ς A n C] 24);rw[show Zd ZZ ZN 28 x=([(⟨#[45]⟩:ByteArray),(⟨#[33]⟩:ByteArray),(⟨#[94]⟩:ByteArray),(⟨#[42]⟩:ByteArray),(⟨#[38]⟩:ByteArray),(⟨#[43]⟩:ByteArray)].any fun u=>x.toList==u.toList)by unfold Zd;simp[Bool.or_assoc]];have HB:=QA (Qt w (θ #[ι γ 28,σ x,σ y,ς A n C] 24) (θ #[σ ⟨#[45]⟩,σ ⟨#[33]⟩,σ ⟨#[94]⟩,σ ⟨#[42]⟩,σ ⟨#[38]⟩,σ ⟨#[43]⟩] 9))
 have HC:=QA (Pj x (w.heap.size+1) 6 6 [(⟨#[45]⟩:ByteArray),(⟨#[33]⟩:ByteArray),(⟨#[94]⟩:ByteArray),(⟨#[42]⟩:ByteArray),(⟨#[38]⟩:ByteArray),(⟨#[43]⟩:ByteArray)] ((w.alloc (θ #[ι γ 28,σ x,σ y,ς A n C] 24)).alloc (θ #[σ ⟨#[45]⟩,σ ⟨#[33]⟩,σ ⟨#[94]⟩,σ ⟨#[42]⟩,σ ⟨#[38]⟩,σ ⟨#[43]⟩] 9)) rfl ω (fun i u hu=>by
  rw[VV _ _ _ _ ψ]
  match i,hu with
  |0,hu=>cases hu;rfl
  |1,hu=>cases hu;rfl
  |2,hu=>cases hu;rfl
  |3,hu=>cases hu;rfl
  |4,hu=>cases hu;rfl
  |5,hu=>cases hu;rfl
  |(_+6),hu=>simp at hu))
 generalize([(⟨#[45]⟩:ByteArray),(⟨#[33]⟩:ByteArray),(⟨#[94]⟩:ByteArray),(⟨#[42]⟩:ByteArray),(⟨#[38]⟩:ByteArray),(⟨#[43]⟩:ByteArray)].any fun u=>x.toList==u.toList)=bb at *;exact c54
theorem Qqr(x y:ByteArray)(A:Option Addr)(n C:Nat)(w:World)(hx:x.size≤1000000)(hT:Lex.XF w)(h1:(x.toList==[43,43])=true):Calls prog 60 #[ξ #[ι γ 22,σ x,σ y,ς A n C]] w fun e w'=>e = ρ (τ (Zd ZZ ZN 22 x))∧Below w.heap.size w w':=by
 have b1:=Qa w (θ #[ι γ 22,σ x,σ y,ς A n C] 24);rw[show Zd ZZ ZN 22 x=true by unfold Zd;simp[h1]];exact c111
theorem Qqq(x y:ByteArray)(A:Option Addr)(n C:Nat)(w:World)(hx:x.size≤1000000)(hT:Lex.XF w)(h1:(x.toList==[43,43])=false)(h2:(x.toList==[45,45])=true):Calls prog 60 #[ξ #[ι γ 22,σ x,σ y,ς A n C]] w fun e w'=>e = ρ (τ (Zd ZZ ZN 22 x))∧Below w.heap.size w w':=by
 have b1:=Qa w (θ #[ι γ 22,σ x,σ y,ς A n C] 24);rw[show Zd ZZ ZN 22 x=true by unfold Zd;simp[h1,h2]];exact c111
theorem Qqp(x y:ByteArray)(A:Option Addr)(n C:Nat)(w:World)(hx:x.size≤1000000)(hT:Lex.XF w)(h1:(x.toList==[43,43])=false)(h2:(x.toList==[45,45])=false):Calls prog 60 #[ξ #[ι γ 22,σ x,σ y,ς A n C]] w fun e w'=>e = ρ (τ (Zd ZZ ZN 22 x))∧Below w.heap.size w w':=by
 have b1:=Qa w (θ #[ι γ 22,σ x,σ y,ς A n C] 24);rw[show Zd ZZ ZN 22 x=false by unfold Zd;simp[h1,h2]];exact c111
theorem Qug(x y:ByteArray)(A:Option Addr)(n C:Nat)(w:World)(hx:x.size≤1000000)(hT:Lex.XF w):Calls prog 60 #[ξ #[ι γ 29,σ x,σ y,ς A n C]] w fun e w'=>e = ρ (τ (Zd ZZ ZN 29 x))∧Below w.heap.size w w':=by
 have b1:=Qa w (θ #[ι γ 29,σ x,σ y,ς A n C] 24);rw[show Zd ZZ ZN 29 x=decide (0<Zl x)by unfold Zd;simp];have HC:=QA (iX x (w.alloc (θ #[ι γ 29,σ x,σ y,ς A n C] 24)));have HB:=QA b1;generalize Zl x=lx at *;exact c54
theorem Qnw(x y:ByteArray)(A:Option Addr)(n C:Nat)(w:World)(hx:x.size≤1000000)(hT:Lex.XF w)(k:Int)(b2:(k==2)=false)(b4:(k==4)=false)(b5:(k==5)=false)(b6:(k==6)=false)(b7:(k==7)=false)(OA:(k==14)=false)(vp:(k==16)=false)(b9:(k==9)=false)(b32:(k==32)=false)(b3:(k==3)=false)(u6:(k==27)=false)(u9:(k==26)=false)(b8:(k==8)=false)(l9:(k==21)=false)(l7:(k==22)=false)(lZ:(k==28)=false)(u5:(k==29)=false)(bb:Bool)(hbb:(x.toList==[])=bb):Calls prog 60 #[ξ #[ι γ k,σ x,σ y,ς A n C]] w fun e w'=>e = ρ (τ bb)∧Below w.heap.size w w':=by
 have HB:=QA (Qa w (θ #[ι γ k,σ x,σ y,ς A n C] 24));clear hT hx;cases bb with
 |true =>
  have he:x.toList=[]:=by simpa using hbb
  go_enter func60,ntmps60;exact c23
 |false =>
  have he:¬x.toList=[]:=by simpa using hbb
  have xA:x.toList.isEmpty=false:=by simpa using hbb
  go_enter func60,ntmps60;exact c23
theorem Qqo(k:Int)(x y:ByteArray)(A:Option Addr)(n C:Nat)(w:World)(hx:x.size≤1000000)(hT:Lex.XF w):Calls prog 60 #[ξ #[ι γ k,σ x,σ y,ς A n C]] w fun e w'=>e = ρ (τ (Zd ZZ ZN k x))∧Below w.heap.size w w':=by
 by_cases h2:k=2
 ·subst h2;exact Ku 2 δ x y A n C w hx hT
 by_cases h4:k=4
 ·subst h4;exact Ku 4 δ x y A n C w hx hT
 by_cases h5:k=5
 ·subst h5;exact Ku 5 δ x y A n C w hx hT
 by_cases h6:k=6
 ·subst h6;exact Ku 6 δ x y A n C w hx hT
 by_cases h7:k=7
 ·subst h7;exact Ku 7 δ x y A n C w hx hT
 by_cases qg:k=14
 ·subst qg;exact Ku 14 δ x y A n C w hx hT
 by_cases qf:k=16
 ·subst qf;exact Ku 16 δ x y A n C w hx hT
 by_cases h9:k=9
 ·subst h9;exact Ku 9 δ x y A n C w hx hT
 by_cases RV:k=32
 ·subst RV;exact Ku 32 δ x y A n C w hx hT
 by_cases h3:k=3
 ·subst h3;exact rC 3 3 δ x y A n C w hx hT
 by_cases Mr:k=27
 ·subst Mr;exact rC 27 3 δ x y A n C w hx hT
 by_cases Mt:k=26
 ·subst Mt;exact rC 26 2 δ x y A n C w hx hT
 by_cases h8:k=8
 ·subst h8;exact rC 8 5 δ x y A n C w hx hT
 by_cases h21:k=21
 ·subst h21;exact Qui x y A n C w hx hT
 by_cases h22:k=22
 ·subst h22;cases h1:(x.toList==[43,43])with
  |true=>exact Qqr x y A n C w hx hT h1
  |false =>
   cases h2:(x.toList==[45,45])with
   |true=>exact Qqq x y A n C w hx hT h1 h2
   |false=>exact Qqp x y A n C w hx hT h1 h2
 by_cases Pf:k=28
 ·subst Pf;exact Quh x y A n C w hx hT
 by_cases Mq:k=29
 ·subst Mq;exact Qug x y A n C w hx hT
 rw[show Zd ZZ ZN k x=(x.toList==[])by unfold Zd;simp only[h2,h4,h5,h6,h7,qg,qf,h9,RV,h3,Mr,Mt,h8,h21,h22,Pf,Mq,or_self,if_false]];exact Qnw x y A n C w hx hT k (QM h2) (QM h4) (QM h5) (QM h6) (QM h7) (QM qg) (QM qf) (QM h9) (QM RV) (QM h3) (QM Mr) (QM Mt) (QM h8) (QM h21) (QM h22) (QM Pf) (QM Mq) _ rfl
theorem Qnu(k:Int)(x y:ByteArray)(A:Option Addr)(n C:Nat)(it:Bool)(w:World)(hy:y.size≤1000000)(hT:Lex.XF w) :
 Calls prog 61 #[ξ #[ι γ k,σ x,σ y,ς A n C],τ it] w fun e w'=>e=ρ (τ (V9 ZN k y it))∧Below w.heap.size w w':=by
 have b1:=Qa w (θ #[ι γ k,σ x,σ y,ς A n C] 24);have HC:=QA (Ć y 5 hy (w.alloc (θ #[ι γ k,σ x,σ y,ς A n C] 24)) (hT.below b1 hT.pos));have HB:=QA b1;clear b1 hT hy;cases AO:(y.toList==[])with
 |true =>
  have he:y.toList=[]:=by simpa using AO
  rw[show V9 ZN k y it=true by unfold V9;rw[AO];rfl];go_enter func61,ntmps61;exact c23
 |false =>
  have he:¬y.toList=[]:=by simpa using AO
  have xA:y.toList.isEmpty=false:=by simpa using AO
  cases it with
  |false=>rw[show V9 ZN k y false=false by unfold V9;rw[AO];rfl];go_enter func61,ntmps61;exact c23
  |true =>
   by_cases h8:k=8
   ·subst h8;rw[show V9 ZN 8 y true=false by unfold V9;rw[AO];rfl];go_enter func61,ntmps61;exact c23
   ·have k8:=QM h8;have k8':(k != 8)=true:=by simpa using h8
    rw[show V9 ZN k y true=ZN y 5 by unfold V9;rw[AO,k8'];rfl];clear h8;go_enter func61,ntmps61;exact c170
theorem Qti(k:Int)(x y:ByteArray)(A:Option Addr)(n C:Nat)(f:F)(it:Bool)(w:World)(hf:Fs w (Lo w.heap.size) (ς A n C) f)(hx:x.size≤1000000)(hy:y.size≤1000000)(hT:Lex.XF w) :
 Calls prog 41 #[ξ #[ι γ k,σ x,σ y,ς A n C],τ it] w fun e w'=>e=ρ (τ (Ed ZZ ZN k x y f it))∧Below w.heap.size w w':=by
 have b1:=Qa w (θ #[ι γ k,σ x,σ y,ς A n C] 24);have aj:=QA (fun(W:World)(hW:Below w.heap.size w W)=>Qqo k x y A n C W hx (hT.below hW hT.pos));have DR:=QA (fun(W:World)(hW:Below w.heap.size w W)=>Qnu k x y A n C it W hy (hT.below hW hT.pos));have Re:=QA (fun(W:World)(hW:Below w.heap.size w W)=>Qi7 k x y A n C f W (hf.later hW));have HV:Hid (Ed ZZ ZN k x y f it=(Zd ZZ ZN k x&&(V9 ZN k y it&&Qc k x f))):=rfl;have HB:=QA b1;have KB:Hid (∀W,Below (w.alloc (θ #[ι γ k,σ x,σ y,ς A n C] 24)).heap.size (w.alloc (θ #[ι γ k,σ x,σ y,ς A n C] 24)) W→
  W.cell? ⟨w.heap.size,0,none⟩=some (ι γ k)∧W.cell? ⟨w.heap.size,1,none⟩=some (σ x)∧W.cell? ⟨w.heap.size,2,none⟩=some (σ y)∧W.cell? ⟨w.heap.size,3,none⟩=some (ς A n C)):=fun W hW=>by
  have Oz:∀i v,#[ι γ k,σ x,σ y,ς A n C][i]? = some v→W.cell? ⟨w.heap.size,i,none⟩=some v:=fun i v hv=>by
   rw[hW.cell (p:=⟨w.heap.size,i,none⟩) ψ,VV _ _ _ _ rfl];simpa using hv
  exact⟨Oz 0 _ rfl,Oz 1 _ rfl,Oz 2 _ rfl,Oz 3 _ rfl⟩
 generalize Ed ZZ ZN k x y f it=bb at *;generalize Zd ZZ ZN k x=b0 at *;generalize V9 ZN k y it=b2 at *;generalize Qc k x f=b3 at *;clear b1 hT hx hy hf;cases b0 with
 |false=>have hv:bb=false:=HV.out;subst hv;go_enter func41,ntmps41;go_wp2_with fail;refine c₁ (aj.out _ HB.out) fun w1 hb=>?_;have HE:=VO HB hb;exact c168
 |true =>
  cases b2 with
  |false=>have hv:bb=false:=HV.out;subst hv;go_enter func41,ntmps41;go_wp2_with fail;refine c₁ (aj.out _ HB.out) fun w1 hb=>?_;have HE:=VO HB hb;obtain⟨q0,q1,q2,q3⟩:=KB.out w1 hb;clear hb;go_wp2_with fail;refine c₁ (DR.out _ HE.out) fun w2 hb=>?_;have BJ:=VO HE hb;clear hb;go_wp2;go_ret;exact⟨rfl,BJ.out⟩
  |true=>have hv:bb=b3:=HV.out;subst hv;go_enter func41,ntmps41;go_wp2_with fail;refine c₁ (aj.out _ HB.out) fun w1 hb=>?_;have HE:=VO HB hb;have JP:=QA hb;obtain⟨q0,q1,q2,q3⟩:=KB.out w1 hb;clear hb;go_wp2_with fail;refine c₁ (DR.out _ HE.out) fun w2 hb=>?_;have BJ:=VO HE hb;obtain⟨r0,r1,r2,r3⟩:=KB.out w2 (JP.out.trans (hb.mono JP.out.size));clear hb q0 q1 q2 q3;go_wp2_with fail;refine c₁ (Re.out _ BJ.out) fun w3 hb=>?_;have HE3:=VO BJ hb;clear hb;go_wp2;go_ret;exact⟨rfl,HE3.out⟩
