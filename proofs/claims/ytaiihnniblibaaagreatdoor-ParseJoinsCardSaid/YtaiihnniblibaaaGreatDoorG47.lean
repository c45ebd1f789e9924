import Derived.Test.YtaiihnniblibaaaGreatDoorG46
set_option maxHeartbeats 16000000
set_option maxRecDepth 100000
set_option linter.unusedVariables false
open Go.ChangeShapes Go.WideShapes Go.ChangeAt Go.RowKit
open Go.Lib renaming hid→QA
open Go.Value renaming string→σ,int→ι,slice→ς,bool→τ,agg→ξ
open Go.IntKind renaming i64→κ
open Go.Obj renaming cells→θ
open Go.Ending renaming returned→ρ
namespace Go.Proofs.YtaiihnniblibaaaGreatDoor
namespace JI
open Tree Mem KL QB
theorem Qda(k:Int)(x y:ByteArray)(A:Option Addr)(n C:Nat)(c:F)(w:World)(hf:Fs w (Lo w.heap.size) (ς A n C) c)(hT:Lex.LO w) :
    Calls Tryz.prog 3 #[ξ #[ι κ k,σ x,σ y,ς A n C]] w fun e w'=>e=ρ (τ true)∧Below w.heap.size w w':=by
  have hb:=Qb w (θ #[ι κ k,σ x,σ y,ς A n C] 24);have Lf:c.len=n:=(Z5 hf).symm;have HX:=QA (Zp w k x y (ς A n C));have yl:=QA (mj k x y A n C c _ (hf.later hb));have HF:Hid (∀W,Below w.heap.size w W→Fs W (Lo W.heap.size) (ς A n C) c):=fun W hW=>hf.later hW
  have HT:Hid (∀W,Below w.heap.size w W→Lex.LO W):=fun W hW=>hT.below hW hT.pos
  have HB:=QA hb;have EF:=QA Lf;obtain⟨q0,q1,q2,q3⟩:=HX.out _ (Below.refl _ _);clear hf hT hb Lf;obtain⟨sb,Dr⟩:=Mem.ZB (SM k x y c);rw[Dr]at yl;have Br:=QA Dr;clear Dr;go_enter Tryz.func3,Tryz.ntmps3;go_wp2_with fail;refine c₁ yl.out fun w2 hb=>?_;have zO:=QA hb;have QR:=QN HB hb;clear hb q0 q1 q2 q3 yl;cases sb with
  |false=>have HK:=QA (QB.Kt w2 (HT.out w2 QR.out));go_wp2_with fail;refine c₁ HK.out fun w3 hb=>?_;have XG:=QN QR hb;clear hb;go_wp2;go_ret;exact⟨rfl,XG.out⟩
  |true =>
   have hsh:=Br.out;unfold SM at hsh;rw[Bool.and_eq_true,decide_eq_true_eq]at hsh;obtain⟨Ml,hsz⟩:=hsh;have Ss:=lH Ml;have HR:=QA (cB k x y A n C c w2 (HF.out w2 QR.out) (by have:=Ss.hx;omega) (by have:=Ss.hy;omega) (mK Ml));obtain⟨hS1,ej⟩:=tj Ml (by omega);have UG:=QA hS1;have Ni:=QA ej;obtain⟨rb,UA⟩:=Mem.ZB (Jt JC JT k x y c);rw[UA]at HR;have Rj:=QA UA;obtain⟨q0,q1,q2,q3⟩:=HX.out _ zO.out;clear Ml hsz Ss hS1 ej UA Br;go_wp2_with fail;refine c₁ HR.out fun w3 hb=>?_;have dY:=QN zO hb;have XG:=QN QR hb;clear hb q0 q1 q2 q3 HR;cases rb with
   |false=>have HK:=QA (QB.Kt w3 (HT.out w3 XG.out));go_wp2_with fail;refine c₁ HK.out fun w4 hb=>?_;have GC:=QN XG hb;clear hb;go_wp2;go_ret;exact⟨rfl,GC.out⟩
   |true =>
    obtain⟨rfl,rfl,rfl⟩:=xA Rj.out;obtain⟨hby,IM⟩:=Qml kR.1 Rj.out;have QL:=QA (gm (nm:=JC) (tk:=JT) 1 ⟨#[]⟩ 0 1 ⟨#[]⟩ ⟨#[]⟩ A n C c w3 (HF.out w3 XG.out) (Kq Rj.out) (Jr Rj.out).1 (by have:=UG.out;omega));rw[AU]at QL;have Sb:=QA hby
    have zI:=QA IM;obtain⟨q0,q1,q2,q3⟩:=HX.out _ dY.out;clear hby IM Rj UG;generalize X9 c=Z at *;go_wp2_with fail;refine c₁ QL.out fun w4 hb=>?_;have dX:=QN dY hb;have GC:=QN XG hb;obtain⟨c3,W3,Lh,hc3,Hq,hbW,UA⟩:=Lex.xc w4 (strOfNums Z) (by rw[strOfNums_size];have:=Ni.out;unfold maxLen;omega);have hnn:Lex.nums (strOfNums Z)=Z:=Vz (Lex.Gy _) Sb.out (Lex.Xo _);rw[hnn]at UA;rw[strOfNums_size]at Lh hc3;have dW:=QN dX hbW;have Hc:=QN GC hbW;have HP:=QA (zy _ Z.length c3 Z W3 _ UA (Nat.le_refl _) rfl hc3 Hq (by have:=Ni.out;omega) (HT.out W3 Hc.out));clear hb q0 q1 q2 q3 UA hnn hbW hc3 Hq QL;go_wp2_with fail;refine HP.out.mono ?_;rintro e w6 ⟨hb,h6⟩;rw[zI.out]at h6;obtain⟨A6,C6,he,GI⟩:=h6;have he:e=ρ (.tuple #[ξ #[ι κ 1,σ ⟨#[]⟩,σ ⟨#[]⟩,ς A6 c.len C6],ι κ 0,ι κ 0]):=he;have GI:Fs w6 (Mi W3.heap.size w6.heap.size) (ς A6 c.len C6) c:=GI;have jc:Fs w6 (Lo w6.heap.size) (ς A6 c.len C6) c:=GI.more fun b hb=>hb.2
    rw[EF.out]at he jc;subst he;have h7:=Qb w6 (θ #[ι κ 1,σ ⟨#[]⟩,σ ⟨#[]⟩,ς A6 n C6] 24);have HY:=QA (Zp w6 1 ⟨#[]⟩ ⟨#[]⟩ (ς A6 n C6));have TM:=hb.trans (h7.mono hb.size);have yC:=QN dW TM;have Sc:=QN Hc TM;have HG:=QA (jc.later h7);have HK:=QA (QB.Kt _ (HT.out _ Sc.out));clear hb GI jc h7 TM HP GC dX Hc dW Ni;go_wp2_with fail;refine c₁ HK.out fun w8 hb=>?_;obtain⟨q0,q1,q2,q3⟩:=HX.out _ (yC.out.trans (hb.mono yC.out.size));obtain⟨r0,r1,r2,r3⟩:=HY.out _ hb;have CT:=QN Sc hb;have hs:Y1 1 ⟨#[]⟩ ⟨#[]⟩ c 1 ⟨#[]⟩ ⟨#[]⟩ c=true:=by simp[Y1,zC]
    have Bo:=QA (mi c.size 1 ⟨#[]⟩ ⟨#[]⟩ A n C c 1 ⟨#[]⟩ ⟨#[]⟩ A6 n C6 c w8 (Nat.le_refl _) (HF.out w8 CT.out) (HG.out.later hb));rw[hs]at Bo;clear hb hs HK HG Sc yC;go_wp2_with fail;refine c₁ Bo.out fun w9 hb=>?_;have HB9:=QN CT hb;clear hb;go_wp2;go_ret;exact⟨rfl,HB9.out⟩
