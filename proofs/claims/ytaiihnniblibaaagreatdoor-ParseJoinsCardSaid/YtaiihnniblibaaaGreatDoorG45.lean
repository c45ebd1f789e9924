import Derived.Test.YtaiihnniblibaaaGreatDoorG43
import Derived.Test.YtaiihnniblibaaaGreatDoorG44
import Derived.Deep.Cut
import Derived.Deep.CutRange
set_option maxHeartbeats 16000000
set_option maxRecDepth 100000
set_option linter.unusedVariables false
open Go.Proofs.Tryz Go.ChangeShapes Go.WideShapes Go.ChangeAt Go.RowKit
open Go.Lib renaming hid→QA
open Go.RowKit.Below renaming refl→QF
open Go.Value renaming string→σ,int→ι,slice→ς,pointer→π,bool→τ,agg→ξ
open Go.IntKind renaming i64→κ
open Go.Obj renaming cells→θ
open Go.Ending renaming returned→ρ
namespace Go.Proofs.YtaiihnniblibaaaGreatDoor
namespace Tree
open Mem
def Xi:F→Prop
  | .nil=>True
  | .cons k x y c r=>x.size≤100000∧y.size≤100000∧Xi c∧Xi r
theorem Xi.drop:∀{n:Nat}{f:F},Xi f→Xi (f.drop n)
  |0,f,h=>h
  |n+1,.nil,_=>by simp[F.drop,Xi]
  |n+1,.cons k x y c r,h=>Xi.drop (n:=n) h.2.2.2
theorem cz(k:Int)(x y:ByteArray)(c:F)(it:Bool):Fb JC JT k x y c it=(Qa k x c&&Vj JT k y it):=by
  unfold Fb Qa;cases Q2 JC JT k x <;> cases Vj JT k y it <;> cases Q1 k x c <;> rfl
theorem Qk5{k:Int}{x y:ByteArray}{c:F}{it:Bool}{d:Nat}(hd:d≤256)(hs:Qa k x c=true):Zg JC JT k x y c it d=(Vj JT k y it&&Z4 JC JT k x (holds k) d 0 c):=by
  unfold Zg;rw[decide_eq_true hd,cz,hs];rfl
theorem Qk6{k:Int}{x y:ByteArray}{c:F}{it:Bool}{d:Nat}(hs:Qa k x c=false):Zg JC JT k x y c it d=false:=Qnb (by rw[cz,hs];rfl)
def ko(N:Nat):Prop:=∀(k:Int)(x y:ByteArray)(A:Option Addr)(n C:Nat)(c:F)(it:Bool)(d:Nat)(w:World),c.size≤N→Fs w (Lo w.heap.size) (ς A n C) c→x.size≤100000→y.size≤100000→Xi c→d≤1000→
  Calls prog 16 #[ξ #[ι κ k,σ x,σ y,ς A n C],ι κ (d:Int),τ it] w fun e w'=>e=ρ (τ (Zg JC JT k x y c it d))∧Below w.heap.size w w'
theorem oX(N:Nat)(ih:∀M,M<N→ko M):ko N:=by
  intro k x y A n C c it d w hN hf hx hy hsm hd1;have yE:=QA ih;have b1:=Qb w (θ #[ι κ k,σ x,σ y,ς A n C] 24);have QJ:=QA b1;have HF:=QA hf;have Bo:=QA hsm;have Te:Hid (c.size≤N):=hN;have HS:=QA (Qpr k x y A n C c (w.alloc (θ #[ι κ k,σ x,σ y,ς A n C] 24)) (hf.later b1) hx);have HY:=QA (fun W=>Y4 y 5 hy W);have QK:Hid (∀W,Below (w.alloc (θ #[ι κ k,σ x,σ y,ς A n C] 24)).heap.size (w.alloc (θ #[ι κ k,σ x,σ y,ς A n C] 24)) W→W.cell? ⟨w.heap.size,0,none⟩=some (ι κ k)∧W.cell? ⟨w.heap.size,1,none⟩=some (σ x)∧W.cell? ⟨w.heap.size,2,none⟩=some (σ y)∧W.cell? ⟨w.heap.size,3,none⟩=some (ς A n C)):=fun W hW=>((Qrd w k x y (ς A n C)).below hW (by simp)).cells
  clear ih b1 hsm hN hx hy;by_cases hd:256<d
  ·rw[Qnc hd];have hdi:(256:Int)<(d:Int):=by omega
   clear hd hf HS;go_enter func16,ntmps16;go_wp2;go_ret;exact⟨rfl,QJ.out⟩
  have hd2:d≤256:=by omega
  have hdi:¬(256:Int)<(d:Int):=by omega
  cases hs:Qa k x c with
  |false=>rw[Qk6 hs];rw[hs]at HS;clear hd hf hs;go_enter func16,ntmps16;go_wp2_with fail;refine c₁ HS.out fun w2 hb=>?_;have QR:=QN QJ hb;clear hb;go_wp2;go_ret;exact⟨rfl,QR.out⟩
  |true =>
   obtain⟨res,hres⟩:=Mem.ZB (Zg JC JT k x y c it d);rw[hres];have yI:Hid ((Vj JT k y it&&Z4 JC JT k x (holds k) d 0 c)=res):=(Qk5 hd2 hs).symm.trans hres;rw[hs]at HS;obtain⟨A0,C0,e,YR,UN⟩:=hf.slice;injection e with e1 e2 e3;subst e1;subst e3;have EF:Hid (c.len=n):=e2.symm;rw[←e2]at YR;clear hd hf hs hres e2;go_enter func16,ntmps16;go_wp2_with fail;refine c₁ HS.out fun w2 hb=>?_;have QR:=QN QJ hb;obtain⟨q0,q1,q2,q3⟩:=QK.out w2 hb;have JO:Hid (∀W,Below w2.heap.size w2 W→W.cell? ⟨w.heap.size,0,none⟩=some (ι κ k)∧W.cell? ⟨w.heap.size,1,none⟩=some (σ x)∧W.cell? ⟨w.heap.size,2,none⟩=some (σ y)∧W.cell? ⟨w.heap.size,3,none⟩=some (ς A n C)):=fun W hW=>QK.out W (hb.trans (hW.mono hb.size))
   have HK:=QA (HY.out w2);clear hb QK HS HY
   go_upto_region 3 with(fail)
   go_cut [32]from 16 to 32 (fun s W=>s=τ (!Vj JT k y it)∧Hid (Below w2.heap.size w2 W))
   case first =>
     cases Nu:(y.toList==[])with
     |true =>
      have he:y.toList=[]:=by simpa using Nu
      have MF:Hid (Vj JT k y it=true):=by show _=_;unfold Vj;rw[Nu];rfl
      go_wp2
      go_meet
      case rel=>exact⟨by rw[MF.out];rfl,QF _ _⟩
     |false =>
      have he:¬y.toList=[]:=by simpa using Nu
      have UD:y.toList.isEmpty=false:=by simpa using Nu
      cases it with
      |false =>
       have MF:Hid (Vj JT k y false=false):=by show _=_;unfold Vj;rw[Nu];rfl
       go_wp2
       go_meet
       case rel=>exact⟨by rw[MF.out];rfl,QF _ _⟩
      |true =>
       by_cases h8:k=8
       ·subst h8;have MF:Hid (Vj JT 8 y true=false):=by show _=_;unfold Vj;rw[Nu];rfl
        go_wp2
        go_meet
        case rel=>exact⟨by rw[MF.out];rfl,QF _ _⟩
       ·have NA:(k != 8)=true:=by simpa using h8
        have ia:=ZC h8;have MF:Hid (Vj JT k y true=JT y 5):=by show _=_;unfold Vj;rw[Nu,NA];rfl
        generalize JT y 5=tv at *;clear Nu h8;go_wp2_with fail;refine c₁ HK.out fun w3 hb=>?_;have XG:=QA hb;clear hb;go_wp2
        go_meet
        case rel=>exact⟨by rw[MF.out],XG.out⟩
   case rest =>
     obtain⟨rfl,XG⟩:=hcut;have GC:=QA (QR.out.trans (XG.out.mono QR.out.size));have BF:Hid (∀W,Below wc.heap.size wc W→W.cell? ⟨w.heap.size,0,none⟩=some (ι κ k)∧W.cell? ⟨w.heap.size,1,none⟩=some (σ x)∧W.cell? ⟨w.heap.size,2,none⟩=some (σ y)∧W.cell? ⟨w.heap.size,3,none⟩=some (ς A n C)):=fun W hW=>JO.out W (XG.out.trans (hW.mono XG.out.size))
     clear q0 q1 q2 q3 HK JO XG QR;obtain⟨q0,q1,q2,q3⟩:=BF.out wc (QF _ _);generalize Vj JT k y it=tr at *;cases tr with
     |false=>have HE:Hid (res=false):=yI.out.symm;go_wp2;go_ret;exact⟨by rw[HE.out];rfl,GC.out⟩
     |true =>
      have Ws:Hid (Z4 JC JT k x (holds k) d 0 c=res):=yI.out;clear yI
      go_upto_region 5 with(fail)
      go_cut [7]from 33 to 45 (fun s W=>s=τ (holds k)∧W=wc)
      case first =>
        by_cases h1:k=1
        ·subst h1;go_wp2
         go_meet
         case rel=>exact⟨rfl,rfl⟩
        by_cases VB:k=17
        ·subst VB;go_wp2
         go_meet
         case rel=>exact⟨rfl,rfl⟩
        by_cases VQ:k=13
        ·subst VQ;go_wp2
         go_meet
         case rel=>exact⟨rfl,rfl⟩
        have HHK:Hid (holds k=false):=by show _=_;unfold holds;simp[h1,VB,VQ]
        have b1:=ZC h1;have TT:=ZC VB;have Ll:=ZC VQ;clear h1 VB VQ;go_wp2
        go_meet
        case rel=>exact⟨by rw[HHK.out],rfl⟩
      case rest =>
        obtain⟨rfl,hw⟩:=hcut;subst hw;go_wp2
        go_loopw [8] (fun i wr=>∃j:Nat,j≤n∧i=ι κ (j:Int)∧Hid (Z4 JC JT k x (holds k) d j (c.drop j)=Z4 JC JT k x (holds k) d 0 c)∧Hid (Below wc.heap.size wc wr)) (fun i _=>n-(intOf i).toNat)
        case atStart=>exact⟨0,Nat.zero_le _,rfl,rfl,QF _ _⟩
        case round =>
          clear q0 q1 q2 q3;obtain⟨j,hj,rfl,hkr,ZW⟩:=hrel;obtain⟨q0,q1,q2,q3⟩:=BF.out wr ZW.out;by_cases hlt:j<n
          ·obtain⟨kk,kx,ky,kc,kr,hdr,JG⟩:=F.drop_cons (n:=j) (f:=c) (by rw[EF.out];exact hlt);obtain⟨b,off,s2,rfl,XP,_,hat⟩:=HF.out.at_ hdr;obtain⟨Ak,Ck,rfl,_,_⟩:=hat.kids.slice;have hlt':(j:Int)<(n:Int):=by omega
           have Mk:(0:Int)≤(j:Int):=by omega
           have GW:=oJ k x j kk kx;have Rt:=QA (GC.out.trans (ZW.out.mono GC.out.size));have H9:Hid (∀W,Below wr.heap.size wr W→
               (W.cell? ⟨w.heap.size,0,none⟩=some (ι κ k)∧W.cell? ⟨w.heap.size,1,none⟩=some (σ x)∧W.cell? ⟨w.heap.size,2,none⟩=some (σ y)∧W.cell? ⟨w.heap.size,3,none⟩=some (ς (some ⟨b,off,none⟩) n C))∧
               (W.cell? ⟨b,off+j*4,none⟩=some (ι κ kk)∧W.cell? ⟨b,off+j*4+1,none⟩=some (σ kx)∧W.cell? ⟨b,off+j*4+2,none⟩=some (σ ky)∧W.cell? ⟨b,off+j*4+3,none⟩=some (ς Ak kc.len Ck))):=fun W hW=>by
             have UJ:=Rt.out.trans (hW.mono Rt.out.size);exact⟨BF.out W (ZW.out.trans (hW.mono ZW.out.size)),(UJ.cell (p:=⟨b,off+j*4,none⟩) XP).trans hat.c0,(UJ.cell (p:=⟨b,off+j*4+1,none⟩) XP).trans hat.c1,(UJ.cell (p:=⟨b,off+j*4+2,none⟩) XP).trans hat.c2,(UJ.cell (p:=⟨b,off+j*4+3,none⟩) XP).trans hat.c3⟩
           have ZH:kc.size<N:=Nat.lt_of_lt_of_le (gi hdr) Te.out;have Me:Xi (F.cons kk kx ky kc kr):=by have h2:=Xi.drop (n:=j) Bo.out;rwa[hdr]at h2
           have XS:Hid (∀W,Below wr.heap.size wr W→Calls prog 24 #[ξ #[ι κ k,σ x,σ y,ς (some ⟨b,off,none⟩) n C],ι κ (j:Int)] W fun e w'=>e = ρ (ι κ ((down k x j kk kx:Nat):Int))∧Below W.heap.size W w'):=fun W hW =>
             Qky k x y (some ⟨b,off,none⟩) n C c j kk kx ky kc kr W (HF.out.later (Rt.out.trans (hW.mono Rt.out.size))) hdr
           obtain⟨rk,vK⟩:=Mem.ZB (Zg JC JT kk kx ky kc (holds k) (d+down k x j kk kx))
           have Ia:Hid (∀W,Below wr.heap.size wr W→Calls prog 16 #[ξ #[ι κ kk,σ kx,σ ky,ς Ak kc.len Ck],ι κ ((d:Int)+((down k x j kk kx:Nat):Int)),τ (holds k)] W fun e w'=>e = ρ (τ rk)∧Below W.heap.size W w'):=fun W hW=>by
             have UJ:=Rt.out.trans (hW.mono Rt.out.size);have:=yE.out kc.size ZH kk kx ky Ak kc.len Ck kc (holds k) (d+down k x j kk kx) W (Nat.le_refl _) (hat.kids.later UJ) Me.1 Me.2.1 Me.2.2.1 (by omega);rwa[vK,Int.natCast_add]at this
           have dZ:Hid (Z4 JC JT k x (holds k) d 0 c=(rk&&Z4 JC JT k x (holds k) d (j+1) (c.drop (j+1)))):=by show _=_;rw[←hkr.out,hdr,G0,vK,JG]
           have fx:IntKind.i64.wrap ((j:Int)+1)=(j:Int)+1:=wrap_small (by omega) (by omega);have hwr:IntKind.i64.wrap ((d:Int)+((down k x j kk kx:Nat):Int))=(d:Int)+((down k x j kk kx:Nat):Int):=wrap_small (by omega) (by omega);clear hdr JG hat GW ZH Me vK hkr;generalize down k x j kk kx=dn at *;go_wp2;refine Qz [Cd.is (π (some ⟨w.heap.size,3,none⟩)),Cd.is (ς (some ⟨b,off,none⟩) n C),Cd.is (ι κ (j:Int)),Cd.is (π (some ⟨b,off+j*4,none⟩)),Cd.is (ξ #[ι κ kk,σ kx,σ ky,ς Ak kc.len Ck]),Cd.is (ι κ (d:Int)),Cd.is (ξ #[ι κ k,σ x,σ y,ς (some ⟨b,off,none⟩) n C]),Cd.is (ι κ (j:Int)),Cd.is (ι κ (dn:Int)),Cd.is (ι κ ((d:Int)+(dn:Int))),Cd.is (τ (holds k)),Cd.is (τ rk),Cd.is (τ (!rk))] ?steps ?behind
           case steps =>
             intro xv W hW;refine⟨?s0,?s1,?s2,?s3,?s4,?s5,?s6,?s7,?s8,?s9,?GH,?Sg,?Ik,trivial⟩;all_goals intro hd K hK
             all_goals(try simp only[Act.put,List.setIfInBounds_toArray,List.set_cons_succ,List.set_cons_zero]at hK)
             case s0|s2|s5|s7|GH=>clear hd;go_simp;exact hK.out _ _ (QF _ _) rfl
             case s1=>have hx0:xv 0=π (some ⟨w.heap.size,3,none⟩):=hd 0;clear hd;rw[hx0]at hK⊢;obtain⟨⟨hq0,hq1,hq2,XA⟩,_⟩:=H9.out W hW;go_simp;exact hK.out _ _ (QF _ _) rfl
             case s3=>have hx1:xv 1=ς (some ⟨b,off,none⟩) n C:=hd 1;have hx2:xv 2=ι κ (j:Int):=hd 2;clear hd;rw[hx1]at hK⊢;rw[hx2]at hK⊢;go_simp;exact hK.out _ _ (QF _ _) rfl
             case s4=>have hx3:xv 3=π (some ⟨b,off+j*4,none⟩):=hd 3;clear hd;rw[hx3]at hK⊢;obtain⟨_,⟨hq0,hq1,hq2,XA⟩⟩:=H9.out W hW;go_simp;exact hK.out _ _ (QF _ _) rfl
             case s6=>clear hd;obtain⟨⟨hq0,hq1,hq2,XA⟩,_⟩:=H9.out W hW;go_simp;exact hK.out _ _ (QF _ _) rfl
             case s8=>have JK:xv 6=ξ #[ι κ k,σ x,σ y,ς (some ⟨b,off,none⟩) n C]:=hd 6;have VM:xv 7=ι κ (j:Int):=hd 7;clear hd;rw[JK]at hK⊢;rw[VM]at hK⊢;go_simp;go_at_call 24;refine c₁ (XS.out W hW) fun w' hb=>?_;exact hK.out _ _ hb rfl
             case s9=>have ZY:xv 5=ι κ (d:Int):=hd 5;have UI:xv 8=ι κ (dn:Int):=hd 8;clear hd;rw[ZY]at hK⊢;rw[UI]at hK⊢;go_simp;exact hK.out _ _ (QF _ _) rfl
             case Sg=>have ZP:xv 4=ξ #[ι κ kk,σ kx,σ ky,ς Ak kc.len Ck]:=hd 4;have IC:xv 9=ι κ ((d:Int)+(dn:Int)):=hd 9;have Dk:xv 10=τ (holds k):=hd 10;clear hd;rw[ZP]at hK⊢;rw[IC]at hK⊢;rw[Dk]at hK⊢;go_simp;go_at_call 16;refine c₁ (Ia.out W hW) fun w' hb=>?_;exact hK.out _ _ hb rfl
             case Ik=>have Dj:xv 11=τ rk:=hd 11;clear hd;rw[Dj]at hK⊢;go_simp;exact hK.out _ _ (QF _ _) rfl
           case behind =>
             intro xv W hW hx;have h12:xv 12=τ (!rk):=hx 12;rw[h12];have HW:=QN ZW hW;clear hx h12 hW H9 XS Ia;cases rk with
             |true =>
              have Bv:Hid (Z4 JC JT k x (holds k) d (j+1) (c.drop (j+1))=Z4 JC JT k x (holds k) d 0 c):=by show _=_;rw[dZ.out];rfl
              go_wp2
              go_roundw
              case rel=>exact⟨j+1,by omega,by go_num,Bv.out,HW.out⟩
              case measure=>simp[intOf];omega
             |false =>
              have HE:Hid (res=false):=by show _=_;rw[←Ws.out,dZ.out];simp
              go_wp2;go_ret;exact⟨by rw[HE.out];rfl,GC.out.trans (HW.out.mono GC.out.size)⟩
          ·have hn':¬(j:Int)<(n:Int):=by omega
           obtain rfl:j=n:=by omega
           have HE:Hid (res=true):=by show _=_;rw[←Ws.out,←hkr.out,F.JH _ _ (by rw[EF.out];exact Nat.le_refl _)];simp[Z4]
           have GA:=QA (GC.out.trans (ZW.out.mono GC.out.size));clear hkr ZW;go_wp2;go_ret;exact⟨by rw[HE.out];rfl,GA.out⟩
theorem Q1v(N:Nat):ko N:=by
  induction N using Nat.strongRecOn with
  |_ N ih=>exact oX N ih
theorem cB(k:Int)(x y:ByteArray)(A:Option Addr)(n C:Nat)(c:F)(w:World)(hf:Fs w (Lo w.heap.size) (ς A n C) c)(hx:x.size≤100000)(hy:y.size≤100000)(hsm:Xi c) :
    Calls prog 7 #[ξ #[ι κ k,σ x,σ y,ς A n C]] w fun e w'=>e=ρ (τ (Jt JC JT k x y c))∧Below w.heap.size w w':=by
  have b1:=Qb w (θ #[ι κ k,σ x,σ y,ς A n C] 24);have HC:=QA (Q1v c.size k x y A n C c false 0 _ (Nat.le_refl _) (hf.later b1) hx hy hsm (by omega));have HB:=QA b1;clear b1 hf hx hy hsm;by_cases hk:k=1
  ·subst hk;rw[show Jt JC JT 1 x y c=Zg JC JT 1 x y c false 0 from rfl];generalize Zg JC JT 1 x y c false 0=bb at *;go_enter func7,ntmps7;go_wp2_with fail;refine c₁ HC.out fun w' hb=>?_;have HE:=QN HB hb;clear hb;go_wp2;go_ret;exact⟨rfl,HE.out⟩
  ·have k1:=ZC hk;rw[show Jt JC JT k x y c=false by unfold Jt;rw[k1];rfl];clear hk HC;go_enter func7,ntmps7;go_wp2;go_ret;exact⟨rfl,HB.out⟩
