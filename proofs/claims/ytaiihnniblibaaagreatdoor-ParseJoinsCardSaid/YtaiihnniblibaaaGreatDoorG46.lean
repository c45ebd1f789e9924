import Derived.Test.YtaiihnniblibaaaGreatDoorG39
import Derived.Test.YtaiihnniblibaaaGreatDoorG45
set_option maxHeartbeats 4000000
set_option maxRecDepth 100000
set_option linter.unusedVariables false
open Go.ChangeShapes Go.WideShapes Go.ChangeAt Go.RowKit
open Go.Lib renaming hid→QA
open _root_.ByteArray renaming size_append→VT
open _root_.Nat renaming le_trans→VJ
open _root_.List renaming length_cons→VX,length_append→JF
open _root_.Bool renaming and_eq_true→Rg
open Go.Value renaming string→σ,int→ι,slice→ς,bool→τ,agg→ξ
open Go.IntKind renaming i64→κ
open Go.Obj renaming cells→θ
open Go.Ending renaming returned→ρ
namespace Go.Proofs.YtaiihnniblibaaaGreatDoor
namespace JI
open Tree Mem
def Good(k:Int):Prop:=k≠1∧k≠15
theorem rz{k:Int}(h:Zx k):Good k:=⟨h.1,h.2.2.1⟩
section
variable {nm:ByteArray→Bool}{tk:ByteArray→Int→Bool}
theorem Xx{pk:Int}{px:ByteArray}{it:Bool}{d:Nat}:∀(f:F)(i j:Nat){k:Int}{x y:ByteArray}{c r:F},Z4 nm tk pk px it d i f=true→f.drop j=.cons k x y c r→Zg nm tk k x y c it (d+down pk px (i+j) k x)=true∧c.size<f.size
  | .nil,i,j,k,x,y,c,r,_,hd=>by rw[F.drop_nil]at hd;cases hd
  | .cons k' x' y' c' r',i,0,k,x,y,c,r,h,hd=>by
    simp only[F.drop,F.cons.injEq]at hd;obtain⟨rfl,rfl,rfl,rfl,rfl⟩:=hd;exact⟨(Qp h).1,by simp only[F.size];omega⟩
  | .cons k' x' y' c' r',i,j+1,k,x,y,c,r,h,hd=>by
    obtain⟨h1,h2⟩:=Xx r' (i+1) j (Qp h).2 hd;exact⟨by rwa[show i+(j+1)=i+1+j by omega],by simp only[F.size];omega⟩
theorem U6{p:Int→ByteArray→Bool}:∀(f:F)(j:Nat){k:Int}{x y:ByteArray}{c r:F},K7 p f→f.drop j=.cons k x y c r→p k x=true
  | .nil,j,k,x,y,c,r,_,hd=>by rw[F.drop_nil]at hd;cases hd
  | .cons k' x' y' c' r',0,k,x,y,c,r,h,hd=>by
    simp only[F.drop,F.cons.injEq]at hd;obtain⟨rfl,rfl,rfl,rfl,rfl⟩:=hd;exact h.1
  | .cons k' x' y' c' r',j+1,k,x,y,c,r,h,hd=>U6 r' j h.2 hd
theorem kA{x y:ByteArray}{c:F}{it:Bool}{d:Nat}(h:Zg nm tk 8 x y c it d=true):y.toList=[]:=by
  obtain⟨_,_,h,_⟩:=Qd h;unfold Vj at h;simpa using h
end
theorem qm:∀(c:F)(j:Nat){k:Int}{x y:ByteArray}{kc r:F},c.drop j=.cons k x y kc r→(sW k x kc).size≤(sM c).size
  | .nil,j,k,x,y,kc,r,hd=>by rw[F.drop_nil]at hd;cases hd
  | .cons k' x' y' c' r',0,k,x,y,kc,r,hd=>by
    simp only[F.drop,F.cons.injEq]at hd;obtain⟨rfl,rfl,rfl,rfl,rfl⟩:=hd;rw[AR,VT];omega
  | .cons k' x' y' c' r',j+1,k,x,y,kc,r,hd=>by
    have h1:=qm r' j hd;rw[AR,VT];cases r' with
    |nil=>rw[show F.drop (j+1) (.cons k' x' y' c' .nil)=F.drop j .nil from rfl,F.drop_nil]at hd;cases hd
    |cons k2 x2 y2 c2 r2=>rw[pX,VT];omega
theorem pV(k:Int)(x y:ByteArray)(c:F):(sW k x c).size≤(sI k x y c).size:=by
  unfold sI;split <;> simp only[VT] <;> omega
theorem jT:∀(c:F)(j:Nat){k:Int}{x y:ByteArray}{kc r:F},(∀(j:Nat)(k:Int)(x y:ByteArray)(kc r:F),c.drop j=.cons k x y kc r→k=8→y.toList=[])→c.drop j=.cons k x y kc r→(sI k x y kc).size≤(sT c).size
  | .nil,j,k,x,y,kc,r,_,hd=>by rw[F.drop_nil]at hd;cases hd
  | .cons k' x' y' c' r',0,k,x,y,kc,r,h8,hd=>by
    simp only[F.drop,F.cons.injEq]at hd;obtain⟨rfl,rfl,rfl,rfl,rfl⟩:=hd;rw[FH _ _ _ _ _ (h8 0 _ _ _ _ _ rfl),VT];omega
  | .cons k' x' y' c' r',j+1,k,x,y,kc,r,h8,hd=>by
    have h1:=jT r' j (fun j k x y kc r h=>h8 (j+1) k x y kc r h) hd;rw[FH _ _ _ _ _ (h8 0 _ _ _ _ _ rfl),VT];omega
theorem Yu{c:F}(h:decide (c.len=0)=true):c=.nil:=F.UR (by simpa using h)
theorem Qpd(nm:ByteArray→Bool)(tk:ByteArray→Int→Bool):∀(N:Nat)(k:Int)(x y:ByteArray)(c:F)(it:Bool)(d:Nat),c.size≤N→Good k→Zg nm tk k x y c it d=true→(sW k x c).size≤1000000→Q0 k x y c:=by
  intro N
  induction N using Nat.strongRecOn with
  |_ N ih =>
   intro k x y c it d hN hg hn hsz;obtain⟨_,htx,_,ZE,hks⟩:=Qd hn
   have KW:∀(j:Nat)(k0:Int)(x0 y0:ByteArray)(c0 r0:F),c.drop j = .cons k0 x0 y0 c0 r0→Good k0→(k0≠33→(sW k0 x0 c0).size≤1000000)→Q0 k0 x0 y0 c0:=fun j k0 x0 y0 c0 r0 hd hg hs=>by
     obtain⟨h1,h2⟩:=Xx c 0 j hks hd;by_cases e:k0=33
     ·subst e;obtain⟨_,h3,_,h4,_⟩:=Qd h1;obtain rfl:=Yu (show decide (c0.len=0)=true from h4);have h3:(x0.toList==[])=true:=h3;obtain rfl:x0=⟨#[]⟩:=by
         have:=beq_iff_eq.1 h3;rw[ByteArray.toList_eq]at this;exact ByteArray.ext (Array.ext' (by simpa using this))
      exact tL _
     ·exact ih c0.size (by omega) k0 x0 y0 c0 _ _ (Nat.le_refl _) hg h1 (hs e)
   have CO:(∀(j:Nat)(k0:Int)(x0 y0:ByteArray)(c0 r0:F),c.drop j=.cons k0 x0 y0 c0 r0→Good k0)→(sM c).size≤1000000→E7 c:=fun hgd hs A n C W hf =>
     gw A n C c W hf (fun j k x y kc r hd=>KW j k x y kc r hd (hgd j k x y kc r hd) fun _=>VJ (qm c j hd) hs) hs
   have BR:(∀(j:Nat)(k0:Int)(x0 y0:ByteArray)(c0 r0:F),c.drop j = .cons k0 x0 y0 c0 r0→Good k0)→(sT c).size≤1000000→kX c:=fun hgd hs A n C W hf=>by
     have h8:∀(j:Nat)(k:Int)(x y:ByteArray)(kc r:F),c.drop j = .cons k x y kc r→k=8→y.toList=[]:=fun j k x y kc r hd e=>by
       subst e;exact kA (Xx c 0 j hks hd).1
     refine U4 A n C c W hf (fun j k x y kc r hd=>⟨h8 j k x y kc r hd,fun A n C W hf=>?_⟩) hs;have VA:=VJ (jT c j h8 hd) hs;exact Y9 k x y A n C kc W hf (KW j k x y kc r hd (hgd j k x y kc r hd) fun _=>VJ (pV k x y kc) VA) VA
   have XD:∀(p:Int→ByteArray→Bool),Qe (.one [p]::[]) c=true→(∀k x,p k x=true→Good k)→∃k0 x0 y0 c0,c=.cons k0 x0 y0 c0 .nil∧p k0 x0=true∧((k0≠33→(sW k0 x0 c0).size≤1000000)→Q0 k0 x0 y0 c0):=by intro p h hp;obtain⟨k0,x0,y0,c0,r0,rfl,hp0,VZ⟩:=Zi h;obtain rfl:=Kw VZ;exact⟨k0,x0,y0,c0,rfl,Z0 hp0,KW 0 k0 x0 y0 c0 _ rfl (hp _ _ (Z0 hp0))⟩
   have two:∀(p q:Int→ByteArray→Bool),Qe (.one [p]::.one [q]::[]) c=true→(∀k x,p k x=true→Good k)→(∀k x,q k x=true→Good k)→∃k0 x0 y0 c0 k1 x1 y1 c1,c=.cons k0 x0 y0 c0 (.cons k1 x1 y1 c1 .nil)∧p k0 x0=true∧q k1 x1=true∧((k0≠33→(sW k0 x0 c0).size≤1000000)→Q0 k0 x0 y0 c0)∧((k1≠33→(sW k1 x1 c1).size≤1000000)→Q0 k1 x1 y1 c1):=by intro p q h hp hq;obtain⟨k0,x0,y0,c0,r0,rfl,hp0,VZ⟩:=Zi h;obtain⟨k1,x1,y1,c1,r1,rfl,hp1,hr1⟩:=Zi VZ;obtain rfl:=Kw hr1;exact⟨k0,x0,y0,c0,k1,x1,y1,c1,rfl,Z0 hp0,Z0 hp1,KW 0 k0 x0 y0 c0 _ rfl (hp _ _ (Z0 hp0)),KW 1 k1 x1 y1 c1 _ rfl (hq _ _ (Z0 hp1))⟩
   have gV:∀(k:Int)(x:ByteArray),Qg k x=true→Good k:=fun k x h=>rz (J2 h)
   have gT:∀(k:Int)(x:ByteArray),Qt k x=true→Good k:=fun k x h=>rz (Ys h)
   have gO:∀(l:List Int),(∀u∈l,u≠1∧u≠15)→∀(k:Int)(x:ByteArray),Qk l k x=true→Good k:=fun l hl k x h=>by
     unfold Qk at h;obtain⟨u,hu,e⟩:=List.any_eq_true.1 h;obtain rfl:k=u:=by simpa using e
     exact hl k hu
   have gP:∀(k:Int)(x:ByteArray),Zv k x=true→Good k:=fun k x h=>by
     unfold Zv at h;simp only[Bool.or_eq_true,Bool.and_eq_true,beq_iff_eq]at h;unfold Good;omega
   have gS:∀(k:Int)(x:ByteArray),Js k x=true→Good k:=fun k x h=>by
     unfold Js at h;simp only[Bool.or_eq_true,beq_iff_eq]at h;unfold Good;omega
   have PV:k=2∨k=3∨k=4∨k=5∨k=6∨k=7∨k=8∨k=9∨k=10∨k=11∨k=12∨k=13∨k=14∨k=16∨k=17∨k=18∨k=19∨k=20∨k=21∨k=22∨k=23∨k=24∨k=25∨k=26∨k=27∨k=28∨k=29∨k=30∨k=31∨k=32∨k=33:=by
     unfold Good at hg;refine Decidable.byContradiction fun hne=>?_
     unfold Q1 at ZE;repeat rw[if_neg (by omega)]at ZE
     cases ZE
   rcases PV with rfl|rfl|rfl|rfl|rfl|rfl|rfl|rfl|rfl|rfl|rfl|rfl|rfl|rfl|rfl|rfl|rfl|rfl|rfl|rfl|rfl|rfl|rfl|rfl|rfl|rfl|rfl|rfl|rfl|rfl|rfl
   ·obtain rfl:=Yu (show decide (c.len=0)=true from ZE);exact fun A n C W hf=>Qwq x y A n C W hf hsz
   ·obtain rfl:=Yu (show decide (c.len=0)=true from ZE);exact fun A n C W hf=>Qwp x y A n C W hf hsz
   ·obtain⟨k0,x0,y0,c0,rfl,_,h0⟩:=XD Qg ZE gV;exact fun A n C W hf=>Qwo x y A n C k0 x0 y0 c0 W hf (h0 fun _=>by rw[cO]at hsz;simp only[VT]at hsz;omega) hsz
   ·have ZE:(Qe [.one [Qt,Qk [33]],.one [Qg,Qk [33]]] c && !Qe [.one [Qk [33]],.one [Qk [33]]] c)=true:=ZE;rw[Bool.and_eq_true]at ZE;obtain⟨k0,x0,y0,c0,r0,rfl,hp0,VZ⟩:=Zi ZE.1;obtain⟨k1,x1,y1,c1,r1,rfl,hp1,hr1⟩:=Zi VZ;obtain rfl:=Kw hr1;have ZH:=hsz;rw[cP x k0 k1 x0 y0 x1 y1 c0 c1 _ rfl]at ZH
    have a0:k0≠33→(sW k0 x0 c0).size≤1000000:=fun e=>by
      rw[if_neg e]at ZH;split at ZH <;> simp only[VT]at ZH <;> omega
    have a1:k1≠33→(sW k1 x1 c1).size≤1000000:=fun e=>by
      rw[if_neg e]at ZH;split at ZH <;> simp only[VT]at ZH <;> omega
    have g0:Good k0:=(Ec hp0).elim (gT _ _) (gO _ (by decide) _ _);have g1:Good k1:=(Ec hp1).elim (gV _ _) (gO _ (by decide) _ _);exact fun A n C W hf=>Qwn x y A n C k0 k1 x0 y0 x1 y1 c0 c1 W hf (KW 0 k0 x0 y0 c0 _ rfl g0 a0) (KW 1 k1 x1 y1 c1 _ rfl g1 a1) hsz
   ·obtain⟨k0,x0,y0,c0,rfl,_,h0⟩:=XD Qt ZE gT;exact fun A n C W hf=>Qwm x y A n C k0 x0 y0 c0 W hf (h0 fun _=>by rw[cQ]at hsz;simp only[VT]at hsz;omega) hsz
   ·obtain⟨k0,x0,y0,c0,r0,rfl,hp0,VZ⟩:=Zi (show Qe (.one [Qk [16],Qk [33]]::.one [Qk [15]]::.one [Qt,Qk [33]]::.one [Qk [17]]::[]) c=true from ZE);obtain⟨k1,x1,y1,c1,r1,rfl,hp1,hr1⟩:=Zi VZ;obtain⟨k2,x2,y2,c2,r2,rfl,hp2,hr2⟩:=Zi hr1;obtain⟨k3,x3,y3,c3,r3,rfl,Mg,hr3⟩:=Zi hr2;obtain rfl:=Kw hr3;obtain rfl:=Vl (Z0 hp1);obtain⟨JU,fQ⟩:=Xx _ 0 1 hks (k:=15) (x:=x1) (y:=y1) (c:=c1) rfl;obtain⟨_,_,_,TD,JL⟩:=Qd JU;have hall:=Eb (show Qe [.many (Qk [16])] c1=true from TD);have ZH:=hsz;rw[cR x k0 k2 k3 x0 y0 x1 y1 x2 y2 x3 y3 c0 c1 c2 c3 _ _ rfl rfl]at ZH
    have a0:k0≠33→(sW k0 x0 c0).size≤1000000:=fun e=>by
      rw[if_neg e]at ZH;split at ZH <;> simp only[VT]at ZH <;> omega
    have a1:(sM c1).size≤1000000:=by split at ZH <;> simp only[VT]at ZH <;> omega
    have a2:k2≠33→(sW k2 x2 c2).size≤1000000:=fun e=>by
      rw[if_neg e]at ZH;simp only[VT]at ZH;omega
    have a3:(sW k3 x3 c3).size≤1000000:=by simp only[VT]at ZH;omega
    have g0:Good k0:=(Ec hp0).elim (gO _ (by decide) _ _) (gO _ (by decide) _ _);have g2:Good k2:=(Ec hp2).elim (gT _ _) (gO _ (by decide) _ _);have g3:Good k3:=gO _ (by decide) _ _ (Z0 Mg)
    have h1:E7 c1:=fun A n C W hf=>gw A n C c1 W hf (fun j k x y kc r hd=>by
      obtain⟨q1,q2⟩:=Xx c1 0 j JL hd;exact ih kc.size (by omega) k x y kc _ _ (Nat.le_refl _) (gO [16] (by decide) _ _ (U6 c1 j hall hd)) q1 (VJ (qm c1 j hd) a1)) a1
    exact fun A n C W hf=>Qwl x y A n C k0 k2 k3 x0 y0 x1 y1 x2 y2 x3 y3 c0 c1 c2 c3 W hf (KW 0 k0 x0 y0 c0 _ rfl g0 a0) (KW 2 k2 x2 y2 c2 _ rfl g2 a2) (KW 3 k3 x3 y3 c3 _ rfl g3 fun _=>a3) h1 hsz
   ·obtain rfl:=Yu (show decide (c.len=0)=true from ZE);exact fun A n C W hf=>Qwk x y A n C W hf hsz
   ·obtain rfl:=Yu (show decide (c.len=0)=true from ZE);exact fun A n C W hf=>Qwj x y A n C W hf hsz
   ·obtain⟨k0,x0,y0,c0,rfl,_,h0⟩:=XD Qt ZE gT;exact fun A n C W hf=>Qr6 x y A n C k0 x0 y0 c0 W hf (h0 fun _=>by rw[dA]at hsz;simp only[VT]at hsz;omega) hsz
   ·obtain⟨k0,x0,y0,c0,rfl,_,h0⟩:=XD Qt ZE gT;exact fun A n C W hf=>Qr5 x y A n C k0 x0 y0 c0 W hf (h0 fun _=>by rw[lg]at hsz;simp only[VT]at hsz;omega) hsz
   ·obtain⟨k0,x0,y0,c0,k1,x1,y1,c1,rfl,_,_,h0,h1⟩:=two Qt Qt ZE gT gT;have ZH:=hsz;rw[lh]at ZH;simp only[VT]at ZH;exact fun A n C W hf=>Qr4 x y A n C k0 k1 x0 y0 x1 y1 c0 c1 W hf (h0 fun _=>by omega) (h1 fun _=>by omega) hsz
   ·have hall:=Eb (show Qe [.many (Qk [14,8])] c=true from ZE);have ZH:=hsz;rw[lj]at ZH;unfold sB at ZH;simp only[VT]at ZH;exact fun A n C W hf=>Qr3 x y A n C c W hf (BR (fun j k0 x0 y0 c0 r0 hd=>gO _ (by decide) _ _ (U6 c j hall hd)) (by omega)) hsz
   ·obtain⟨k0,x0,y0,c0,rfl,_,h0⟩:=XD Qt ZE gT;exact fun A n C W hf=>Qr2 x y A n C k0 x0 y0 c0 W hf (h0 fun _=>by rw[ll]at hsz;simp only[VT]at hsz;omega) hsz
   ·obtain⟨k0,x0,y0,c0,rfl,_,h0⟩:=XD Qt ZE gT;exact fun A n C W hf=>Qr1 x y A n C k0 x0 y0 c0 W hf (h0 fun _=>by rw[lq]at hsz;simp only[VT]at hsz;omega) hsz
   ·have hall:=Eb (show Qe [.many Js] c=true from ZE);have ZH:=hsz;rw[lu]at ZH;unfold sB at ZH;simp only[VT]at ZH;exact fun A n C W hf=>Qr0 x y A n C c W hf (BR (fun j k0 x0 y0 c0 r0 hd=>gS _ _ (U6 c j hall hd)) (by omega))
   ·obtain⟨k0,x0,y0,c0,r0,rfl,hp0,VZ⟩:=Zi (show Qe (.one [Qg]::.one [Qk [17]]::.one [Qk [17,18],Qk [33]]::[]) c=true from ZE);obtain⟨k1,x1,y1,c1,r1,rfl,hp1,hr1⟩:=Zi VZ;obtain⟨k2,x2,y2,c2,r2,rfl,hp2,hr2⟩:=Zi hr1;obtain rfl:=Kw hr2;have ZH:=hsz;rw[ly x k0 k1 k2 x0 y0 x1 y1 x2 y2 c0 c1 c2 _ rfl]at ZH;have a0:(sW k0 x0 c0).size≤1000000:=by split at ZH <;> simp only[VT]at ZH <;> omega
    have a1:(sW k1 x1 c1).size≤1000000:=by split at ZH <;> simp only[VT]at ZH <;> omega
    have a2:k2≠33→(sW k2 x2 c2).size≤1000000:=fun e=>by rw[if_neg e]at ZH;simp only[VT]at ZH;omega
    have g2:Good k2:=(Ec hp2).elim (gO _ (by decide) _ _) (gO _ (by decide) _ _);exact fun A n C W hf=>Qrz x y A n C k0 k1 k2 x0 y0 x1 y1 x2 y2 c0 c1 c2 W hf (KW 0 k0 x0 y0 c0 _ rfl (gV _ _ (Z0 hp0)) fun _=>a0) (KW 1 k1 x1 y1 c1 _ rfl (gO _ (by decide) _ _ (Z0 hp1)) fun _=>a1) (KW 2 k2 x2 y2 c2 _ rfl g2 a2) hsz
   ·obtain⟨k0,x0,y0,c0,r0,rfl,hp0,VZ⟩:=Zi (show Qe (.one [Qg,Qk [33]]::.one [Qk [17]]::[]) c=true from ZE);obtain⟨k1,x1,y1,c1,r1,rfl,hp1,hr1⟩:=Zi VZ;obtain rfl:=Kw hr1;have ZH:=hsz;rw[lA]at ZH;have a0:k0≠33→(sW k0 x0 c0).size≤1000000:=fun e=>by rw[if_neg e]at ZH;simp only[VT]at ZH;omega
    have a1:(sW k1 x1 c1).size≤1000000:=by split at ZH <;> simp only[VT]at ZH <;> omega
    have g0:Good k0:=(Ec hp0).elim (gV _ _) (gO _ (by decide) _ _);exact fun A n C W hf=>Qry x y A n C k0 k1 x0 y0 x1 y1 c0 c1 W hf (KW 0 k0 x0 y0 c0 _ rfl g0 a0) (KW 1 k1 x1 y1 c1 _ rfl (gO _ (by decide) _ _ (Z0 hp1)) fun _=>a1) hsz
   ·have hall:=Eb (show Qe [.many Qg] c=true from ZE);have hm:(sM c).size≤1000000:=by
       cases c with
       |nil=>exact Nat.zero_le _
       |cons k0 x0 y0 c0 r=>rw[lB]at hsz;simp only[VT]at hsz;omega
    exact fun A n C W hf=>Qrx x y A n C c W hf (CO (fun j k0 x0 y0 c0 r0 hd=>gV _ _ (U6 c j hall hd)) hm) hsz
   ·have h2:∃k0 x0 y0 c0 k1 x1 y1 c1,c=.cons k0 x0 y0 c0 (.cons k1 x1 y1 c1 .nil)∧((k0≠33→(sW k0 x0 c0).size≤1000000)→Q0 k0 x0 y0 c0)∧((k1≠33→(sW k1 x1 c1).size≤1000000)→Q0 k1 x1 y1 c1):=by
       have ZE:(if x.toList==[58,61]then Qe [.one [Qk [9]],.one [Qg]] c else Qe [.one [Zv],.one [Qg]] c)=true:=ZE;split at ZE
       ·obtain⟨k0,x0,y0,c0,k1,x1,y1,c1,e,_,_,h⟩:=two (Qk [9]) Qg ZE (gO _ (by decide)) gV;exact⟨k0,x0,y0,c0,k1,x1,y1,c1,e,h⟩
       ·obtain⟨k0,x0,y0,c0,k1,x1,y1,c1,e,_,_,h⟩:=two Zv Qg ZE gP gV;exact⟨k0,x0,y0,c0,k1,x1,y1,c1,e,h⟩
    obtain⟨k0,x0,y0,c0,k1,x1,y1,c1,rfl,h0,h1⟩:=h2;have ZH:=hsz;rw[lC]at ZH;simp only[VT]at ZH;exact fun A n C W hf=>Qrw x y A n C k0 k1 x0 y0 x1 y1 c0 c1 W hf (h0 fun _=>by omega) (h1 fun _=>by omega) hsz
   ·obtain⟨k0,x0,y0,c0,rfl,_,h0⟩:=XD Zv ZE gP;exact fun A n C W hf=>Qrv x y A n C k0 x0 y0 c0 W hf (h0 fun _=>by rw[eU]at hsz;simp only[VT]at hsz;omega) hsz
   ·obtain⟨k0,x0,y0,c0,rfl,_,h0⟩:=XD (Qk [30]) ZE (gO _ (by decide));exact fun A n C W hf=>Qru x y A n C k0 x0 y0 c0 W hf (h0 fun _=>by rw[eV]at hsz;exact hsz) hsz
   ·obtain rfl:=Yu (show decide (c.len=0)=true from ZE);exact fun A n C W hf=>Qrt x y A n C W hf hsz
   ·obtain rfl:=Yu (show decide (c.len=0)=true from ZE);exact fun A n C W hf=>Qrs x y A n C W hf hsz
   ·obtain rfl:=Yu (show decide (c.len=0)=true from ZE);exact fun A n C W hf=>Qrr x y A n C W hf hsz
   ·obtain rfl:=Yu (show decide (c.len=0)=true from ZE);exact fun A n C W hf=>Qrq x y A n C W hf hsz
   ·obtain⟨k0,x0,y0,c0,rfl,_,h0⟩:=XD Qg ZE gV;exact fun A n C W hf=>Qrp x y A n C k0 x0 y0 c0 W hf (h0 fun _=>by rw[eW]at hsz;have:=Kg (Qi 28 x 0 k0 x0) (sW k0 x0 c0);simp only[VT]at hsz;omega) hsz
   ·obtain⟨k0,x0,y0,c0,k1,x1,y1,c1,rfl,_,_,h0,h1⟩:=two Qg Qg ZE gV gV;have ZH:=hsz;rw[eX]at ZH;simp only[VT]at ZH;have q0:=Kg (Qi 29 x 0 k0 x0) (sW k0 x0 c0);have q1:=Kg (Qi 29 x 1 k1 x1) (sW k1 x1 c1);exact fun A n C W hf=>Qro x y A n C k0 k1 x0 y0 x1 y1 c0 c1 W hf (h0 fun _=>by omega) (h1 fun _=>by omega) hsz
   ·obtain⟨k0,x0,y0,c0,r0,rfl,hp0,VZ⟩:=Zi (show Qe (.one [Qg]::.many Qg::[]) c=true from ZE);have hall:=Eb VZ;have ZH:=hsz;rw[eY]at ZH;simp only[VT]at ZH;have q0:=Kg (Qi 30 x 0 k0 x0) (sW k0 x0 c0);have hm:(sM r0).size≤1000000:=by omega
    exact fun A n C W hf=>Qrn x y A n C k0 x0 y0 c0 r0 W hf (KW 0 k0 x0 y0 c0 _ rfl (gV _ _ (Z0 hp0)) fun _=>by omega) (fun A n C W hf=>gw A n C r0 W hf (fun j k x y kc r hd=>KW (j+1) k x y kc r hd (gV _ _ (U6 r0 j hall hd)) fun _=>VJ (qm r0 j hd) hm) hm) hsz
   ·obtain⟨k0,x0,y0,c0,k1,x1,y1,c1,rfl,_,_,h0,h1⟩:=two Qg Qg ZE gV gV;have ZH:=hsz;rw[eZ]at ZH;simp only[VT]at ZH;have q0:=Kg (Qi 31 x 0 k0 x0) (sW k0 x0 c0);exact fun A n C W hf=>Qrm x y A n C k0 k1 x0 y0 x1 y1 c0 c1 W hf (h0 fun _=>by omega) (h1 fun _=>by omega) hsz
   ·obtain⟨k0,x0,y0,c0,rfl,_,h0⟩:=XD Qg ZE gV;exact fun A n C W hf=>Qrl x y A n C k0 x0 y0 c0 W hf (h0 fun _=>by rw[ld]at hsz;have:=Kg (Qi 32 x 0 k0 x0) (sW k0 x0 c0);simp only[VT]at hsz;omega) hsz
   ·obtain rfl:=Yu (show decide (c.len=0)=true from ZE);have h3:(x.toList==[])=true:=htx;obtain rfl:x=⟨#[]⟩:=by
       have:=beq_iff_eq.1 h3;rw[ByteArray.toList_eq]at this;exact ByteArray.ext (Array.ext' (by simpa using this))
    exact tL y
def DV(c:F)(j:Nat)(p:ByteArray):Prop:=p++sT (c.drop j)=sT c
theorem Qsy{c:F}{j:Nat}{p:ByteArray}{k:Int}{x y:ByteArray}{kc r:F}(h:DV c j p)(hd:c.drop j=.cons k x y kc r)(hd2:c.drop (j+1)=r)(h8:k=8→y.toList=[]):DV c (j+1) (p++sI k x y kc):=by
  unfold DV at h⊢;rw[hd,FH _ _ _ _ _ h8]at h;rw[hd2,ByteArray.append_assoc];exact h
theorem Qsx{c:F}{j:Nat}{p:ByteArray}(h:DV c j p):p.size≤(sT c).size:=by
  unfold DV at h;have:=congrArg ByteArray.size h;rw[VT]at this;omega
theorem Qj1(k:Int)(x y:ByteArray)(A:Option Addr)(n C:Nat)(c:F)(w:World)(hf:Fs w (Lo w.heap.size) (ς A n C) c)(hw:∀j k x y kc r,c.drop j=.cons k x y kc r→(k=8→y.toList=[])∧lF k x y kc)(hsz:(sT c).size≤1000000) :
    Calls Tryz.prog 10 #[ξ #[ι κ k,σ x,σ y,ς A n C]] w fun e w'=>e=ρ (σ (sT c))∧Below w.heap.size w w':=by
  have hb:=Qb w (θ #[ι κ k,σ x,σ y,ς A n C] 24);have Lf:c.len=n:=(Z5 hf).symm;obtain⟨w1,hw1⟩:=Mem.ZB (w.alloc (θ #[ι κ k,σ x,σ y,ς A n C] 24));have HX:Hid (Cl w1 w.heap.size 0 1 2 3 k x y (ς A n C)):=hw1 ▸ Zp w k x y (ς A n C);have Lp:=QA hw1;rw[hw1]at hb;have HB:=QA hb;have HF:=QA hf;have HW:=QA hw;have Te:=QA hsz;have EF:=QA Lf;obtain⟨_,_,e,YR,UN⟩:=hf.slice;injection e with e0 e1 e2;clear e0;rw[←e1]at YR;rw[←e2]at YR UN;clear hf hw hsz hb Lf hw1 e1 e2;go_enter Tryz.func10,Tryz.ntmps10;go_wp2;rw[Lp.out]
  go_loopw [3,4] (fun s i wr=>∃(j:Nat)(p:ByteArray),j≤n∧i=ι κ (j:Int)∧s=σ p∧Hid (DV c j p)∧Hid (Below w1.heap.size w1 wr)) (fun _ i _=>n-(intOf i).toNat)
  case atStart=>exact⟨0,⟨#[]⟩,Nat.zero_le _,rfl,rfl,Fu _,Below.refl _ _⟩
  case round =>
    obtain⟨j,p,hj,rfl,rfl,Hf,ZW⟩:=hrel;obtain⟨q0,q1,q2,q3⟩:=HX.out wr ZW.out;by_cases hlt:j<n
    ·obtain⟨kk,kx,ky,kc,kr,hdr,JG⟩:=F.drop_cons (n:=j) (f:=c) (by rw[EF.out];exact hlt);obtain⟨b,off,Ak,Ck,rfl,hc0,Sq⟩:=AB j hdr HF.out (HB.out.trans (ZW.out.mono HB.out.size));have hlt':(j:Int)<(n:Int):=by omega
     have Mk:(0:Int)≤(j:Int):=by omega
     obtain⟨h8,hit⟩:=HW.out j kk kx ky kc kr hdr;have MD:=QA (hit Ak kc.len Ck wr (Sq.later (HB.out.trans (ZW.out.mono HB.out.size))));have UG:=QA (Qsy Hf.out hdr JG h8);have hp1:=VJ (Qsx UG.out) Te.out;rw[VT]at hp1;generalize sI kk kx ky kc=sk at *;have hp2:p.size≤1000000:=by omega
     have Mg:sk.size≤1000000:=by omega
     obtain⟨r0,r1,r2,r3⟩:=hc0 wr (Below.refl _ _);clear Hf hdr JG hc0 Sq h8 hit hp1;go_wp2_with fail;refine c₁ MD.out fun w2 hb=>?_;have QR:=QN ZW hb;clear hb ZW r0 r1 r2 r3;go_wp2
     go_roundw
     case rel=>exact⟨j+1,p++sk,by omega,by go_num,rfl,UG.out,QR.out⟩
     case measure=>simp[intOf];omega
    ·have hjn:j=n:=by omega
     have hp:p=sT c:=by have h:=Hf.out;unfold DV at h;rw[F.JH j _ (by rw[EF.out];omega),pq,Za]at h;exact h
     subst hjn;subst hp;have QR:=QA (HB.out.trans (ZW.out.mono HB.out.size));clear Hf ZW;go_wp2;go_ret;exact⟨rfl,QR.out⟩
theorem gm{nm:ByteArray→Bool}{tk:ByteArray→Int→Bool}(pk:Int)(px:ByteArray)(d:Nat)(k:Int)(x y:ByteArray)(A:Option Addr)(n C:Nat)(c:F)(w:World)(hf:Fs w (Lo w.heap.size) (ς A n C) c)(hall:K7 NQ c)(hks:Z4 nm tk pk px true d 0 c=true)(hsz:(sT c).size≤1000000) :
    Calls Tryz.prog 10 #[ξ #[ι κ k,σ x,σ y,ς A n C]] w fun e w'=>e=ρ (σ (sT c))∧Below w.heap.size w w':=by
  have h8:∀(j:Nat)(k:Int)(x y:ByteArray)(kc r:F),c.drop j = .cons k x y kc r→k=8→y.toList=[]:=fun j k x y kc r hd e=>by
    subst e;exact kA (Xx c 0 j hks hd).1
  refine Qj1 k x y A n C c w hf (fun j k x y kc r hd=>⟨h8 j k x y kc r hd,fun A n C W hf=>?_⟩) hsz;have VA:=VJ (jT c j h8 hd) hsz;have hg:Good k:=by have:=U6 c j hall hd;unfold NQ at this;simp only[Bool.or_eq_true,beq_iff_eq]at this;unfold Good;omega
  exact Y9 k x y A n C kc W hf (Qpd nm tk kc.size k x y kc _ _ (Nat.le_refl _) hg (Xx c 0 j hks hd).1 (VJ (pV k x y kc) VA)) VA
end JI
namespace JI
open Tree QB KL
def LC(E:Pc):Nat:=(Lex.cat E).length
theorem Bh(a b:Pc):LC (a++b)=LC a+LC b:=by unfold LC;rw[V6,JF]
theorem Fw(p:Int×List Int)(E:Pc):LC (p::E)=p.2.length+LC E:=by
  obtain⟨k,t⟩:=p;show(t++Lex.cat E).length=_;rw[JF];rfl
theorem X7:LC []=0:=rfl
def SW:List Pc→Nat
  |[]=>0
  |w::ws=>(LC w+4)+SW ws
theorem Q3m(ws:List Pc):LC (gP ws 0)+LC (gP ws 1)+LC (gP ws 2)+LC (gP ws 3)≤SW ws:=by
  unfold gP
  match ws with
  |[]=>simp[X7,SW]
  |[a]=>simp[X7,SW]
  |[a,b]=>simp[X7,SW];omega
  |[a,b,c]=>simp[X7,SW];omega
  |a::b::c::d::r=>simp[SW];omega
theorem lw(u:List UInt8):(bl u).length=u.length:=by unfold bl;exact List.length_map ..
theorem ln(x:ByteArray):(ZA x).length=x.size:=by
  unfold ZA;rw[List.length_map,ByteArray.toList_eq,Array.length_toList];rfl
theorem rA(b:Bool)(w:Pc):LC (Kr b w)≤LC w+2:=by
  unfold Kr;split
  ·simp only[Fw,Bh,X7,pM,lw,VX,List.length_nil];omega
  ·omega
theorem xV:∀ws:List Pc,LC (V5 ws)≤SW ws
  |[]=>Nat.le_refl _
  |[w]=>by
   show LC (w++[])≤_;simp only[Bh,X7,SW];omega
  |w::v::ws=>by
   have h:=xV (v::ws);show LC (w++(pM [44]::pB::V5 (v::ws)))≤_;simp only[SW]at h⊢;simp only[Fw,Bh,pM,pB,lw,VX,List.length_nil];omega
def YW:F→Nat
  | .nil=>0
  | .cons k x y c r=>x.size+y.size+3+YW r
theorem xd:∀(c:F)(ws:List Pc),LC (K3 c ws)≤SW ws+YW c
  | .nil,ws=>by simp[K3,X7]
  | .cons k x y c r,[]=>by simp[K3,X7]
  | .cons k x y c r,w::ws=>by
    have h:=xd r ws;show LC (Cx k x y w++K3 r ws)≤_;simp only[SW,YW,Bh];have h2:LC (Cx k x y w)≤LC w+x.size+y.size+2:=by
      unfold Cx;split
      ·simp only[Fw,X7,pN,ln,VX,List.length_nil];omega
      ·split <;> simp only[Bh,Fw,X7,pN,pB,ln,VX,List.length_nil] <;> omega
    omega
theorem aj(ws:List Pc):LC (gP ws 0)+LC (V5 ws.tail)≤SW ws:=by
  cases ws with
  |nil=>exact Nat.le_refl _
  |cons w ws=>have:=xV ws;show LC w+LC (V5 ws)≤_;simp only[SW];omega
theorem Q1m{b:Prop}[Decidable b]{E G:Pc}{M:Nat}(h1:b→LC E≤M)(h2:¬b→LC G≤M):LC (if b then E else G)≤M:=by
  by_cases h:b
  ·rw[if_pos h];exact h1 h
  ·rw[if_neg h];exact h2 h
theorem Q2s(k:Int)(x:ByteArray)(c:F)(ws:List Pc):LC (WE k x c ws)≤24+x.size+SW ws+YW c:=by
  have h1:=Q3m ws;have h2:=xV ws;have h3:=xd c ws;have h4:=aj ws;unfold WE;have p1:=fun b=>rA b (gP ws 0)
  have p2:=fun b=>rA b (gP ws 1)
  repeat' refine Q1m (fun _=>?_) (fun _=>?_)
  all_goals(try simp only[Fq,Fw,Bh,X7,pW,pM,pB,pN,lw,ln,VX,List.length_nil])
  all_goals(repeat' split)
  all_goals(try simp only[Fw,Bh,X7,lw,VX,List.length_nil])
  all_goals first
    |omega
    |(have:=p1 (Qi 28 x 0 (GX c 0) (LI c 0));omega)
    |(have:=p1 (Qi 29 x 0 (GX c 0) (LI c 0));have:=p2 (Qi 29 x 1 (GX c 1) (LI c 1));omega)
    |(have:=p1 (Qi 30 x 0 (GX c 0) (LI c 0));omega)
    |(have:=p1 (Qi 31 x 0 (GX c 0) (LI c 0));omega)
    |(have:=p1 (Qi 32 x 0 (GX c 0) (LI c 0));omega)
def CX:F→Nat
  | .nil=>0
  | .cons k x y c r=>32+2*x.size+y.size+CX c+CX r
theorem kN:∀c:F,SW (Ja c)+YW c≤CX c
  | .nil=>Nat.le_refl _
  | .cons k x y c r=>by
    have h1:=kN c;have h2:=kN r;have h3:=Q2s k x c (Ja c);simp only[Ja,SW,YW,CX];omega
theorem Qso(c:F):(X9 c).length≤CX c:=Nat.le_trans (xd c (Ja c)) (kN c)
theorem kv:∀c:F,Up (nodes c)≤50000→CX c≤32*c.size+2*Up (nodes c)
  | .nil,_=>Nat.zero_le _
  | .cons k x y c r,h=>by
    simp only[nodes,Y0,Yi,wt]at h⊢;have h1:=kv c (by omega);have h2:=kv r (by omega);simp only[CX,F.size];omega
theorem AU(c:F):sT c=strOfNums (X9 c):=rfl
theorem tj{k:Int}{x y:ByteArray}{c:F}(h:Ta k x y c=true)(hs:c.size<600):(sT c).size≤200000∧(X9 c).length≤200000:=by
  unfold Ta at h;rw[Bool.and_eq_true,decide_eq_true_eq,decide_eq_true_eq]at h;obtain⟨h1,h2⟩:=h;have hl:(((⟨k,x,y,c⟩:Nd)::nodes c)).length=c.size+1:=by rw[VX,Gg]
  rw[List.take_of_length_le (by omega),Y0]at h1;have h3:=kv c (by omega);have h4:=Qso c;have h5:(sT c).size=(X9 c).length:=by rw[AU,strOfNums_size]
  omega
open Mem
theorem gj:∀(c:F),(∀nd∈nodes c,wt nd≤50000)→Xi c
  | .nil,_=>trivial
  | .cons k x y c r,h=>by
    have h0:=h ⟨k,x,y,c⟩ (by simp[nodes]);simp only[wt]at h0;exact⟨by omega,by omega,gj c fun nd hn=>h nd (by simp[nodes,hn]),gj r fun nd hn=>h nd (by simp[nodes,hn])⟩
theorem mK{k:Int}{x y:ByteArray}{c:F}(h:Ta k x y c=true):Xi c:=by
  unfold Ta at h;rw[Rg,decide_eq_true_eq,decide_eq_true_eq]at h;obtain⟨h1,h2⟩:=h;have hl:(((⟨k,x,y,c⟩:Nd)::nodes c)).length=c.size+1:=by rw[List.length_cons,Gg]
  rw[List.length_take,hl]at h2;rw[List.take_of_length_le (by omega)]at h1;exact gj c fun nd hn=>Nat.le_trans (tG (List.mem_cons_of_mem _ hn)) h1
def SM(k:Int)(x y:ByteArray)(c:F):Bool:=Ta k x y c&&decide (c.size+1<600)
theorem mj(k:Int)(x y:ByteArray)(A:Option Addr)(n C:Nat)(c:F)(w:World)(hf:Fs w (Lo w.heap.size) (ς A n C) c) :
    Calls Tryz.prog 6 #[ξ #[ι κ k,σ x,σ y,ς A n C]] w fun e w'=>e=ρ (τ (SM k x y c))∧Below w.heap.size w w':=by
  have hb:=Qb w (θ #[ι κ k,σ x,σ y,ς A n C] 24);have HX:=Lib.hid (Zp w k x y (ς A n C));have HF:=Lib.hid (oN k x y A n C c _ (hf.later hb));have HZ:Hid (∀W,Below w.heap.size w W→Calls Tryz.prog 15 #[ξ #[ι κ k,σ x,σ y,ς A n C],ι κ 600] W fun e w'=>e=ρ (ι κ ((min (c.size+1) 600:Nat):Int))∧Below W.heap.size W w'):=fun W hW=>Qks k x y A n C c 600 W (hf.later hW) (by omega) (by omega)
  have HS:Hid (SM k x y c=(Ta k x y c&&decide (c.size+1<600))):=rfl;have HB:=Lib.hid hb;obtain⟨q0,q1,q2,q3⟩:=HX.out _ (Below.refl _ _);clear hf hb;generalize SM k x y c=sb at *;cases KF:Ta k x y c with
  |false=>rw[KF]at HF HS;obtain rfl:=HS.out;clear HS KF;go_enter Tryz.func6,Tryz.ntmps6;go_wp2_with fail;refine c₁ HF.out fun w2 hb=>?_;have QR:=QN HB hb;clear hb;go_wp2;go_ret;exact⟨rfl,QR.out⟩
  |true =>
   rw[KF]at HF HS;rw[Bool.true_and]at HS;obtain⟨m,hm⟩:=Mem.ZB (min (c.size+1) 600);have HM:Hid (sb=decide ((m:Int)<600)):=by show _=_;rw[HS.out];exact decide_eq_decide.2 (by omega)
   rw[hm]at HZ;clear HS KF hm;go_enter Tryz.func6,Tryz.ntmps6;go_wp2_with fail;refine c₁ HF.out fun w2 hb=>?_;have QR:=QN HB hb;clear q0 q1 q2 q3;obtain⟨q0,q1,q2,q3⟩:=HX.out _ hb;have hz:=HZ.out w2 QR.out;have Wc:=Lib.hid hz;clear hb hz;go_wp2_with fail;refine c₁ Wc.out fun w3 hb=>?_;have XG:=QN QR hb;clear hb;go_wp2;go_ret;exact⟨by rw[HM.out];rfl,XG.out⟩
theorem tu(x:ByteArray):ZA x=Lex.nums x:=by unfold ZA Lex.nums;rw[ByteArray.toList_eq]
theorem Q1g{x:ByteArray}(h:JC x=true):Lex.Xd (ZA x)=true:=by rw[tu];exact h
theorem Q0t{x:ByteArray}{k:Int}(h:JT x k=true):Lex.K6 (ZA x)=0∧∃t r,Lex.Uz (ZA x)=t::r∧t.kind=k∧strOfNums t.text=x:=by
  unfold JT at h;rw[←tu]at h;rw[Rg,decide_eq_true_eq]at h;refine⟨h.1,?_⟩;cases hl:Lex.Uz (ZA x)with
  |nil=>rw[hl]at h;cases h.2
  |cons t r=>rw[hl]at h;have h2:=h.2;simp only[Rg,beq_iff_eq]at h2;exact⟨t,r,rfl,h2.1,Jp h2.2⟩
theorem kR:KU JC JT∧∀x,JT x 5=true→∃q,x.toList=47::47::q:=Q0r (fun x h=>Q1g h) (fun x k h=>Q0t h)
theorem xA{k:Int}{x y:ByteArray}{c:F}(h:Jt JC JT k x y c=true):k=1∧x=⟨#[]⟩∧y=⟨#[]⟩:=by
  unfold Jt at h;rw[Rg,beq_iff_eq]at h;obtain⟨rfl,h⟩:=h;obtain⟨_,h1,h2,_⟩:=Qd h;have h1:(x.toList==[])=true:=h1;have h2:(y.toList==[]||(false&&(((1:Int) != 8)&&JT y 5)))=true:=h2;rw[Bool.false_and,Bool.or_false]at h2
  have e:∀z:ByteArray,(z.toList==[])=true→z=⟨#[]⟩:=fun z hz=>by
    have:=beq_iff_eq.1 hz;rw[ByteArray.toList_eq]at this;exact ByteArray.ext (Array.ext' (by simpa using this))
  exact⟨rfl,e x h1,e y h2⟩
