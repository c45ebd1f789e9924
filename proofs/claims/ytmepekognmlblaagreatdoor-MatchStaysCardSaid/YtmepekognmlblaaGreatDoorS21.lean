import Derived.Test.YtmepekognmlblaaGreatDoorS13
import Derived.Test.YtmepekognmlblaaGreatDoorS20
import Derived.Deep.LoopGhost
set_option maxHeartbeats 16000000
set_option maxRecDepth 100000
set_option linter.unusedVariables false
open Go.ChangeShapes Go.WideShapes Go.ChangeAt Go.RowKit
open Go.Lib renaming hid→QA
open Go.RowKit.Below renaming refl→QE
open _root_.Nat renaming le_refl→QI,zero_add→ZL,lt_of_lt_of_le→VE,le_trans→QW
open _root_.List renaming setIfInBounds_toArray→ZC,set_cons_succ→ZA,set_cons_zero→QZ
open Go.Value renaming string→σ,int→ι,slice→ς,pointer→π,bool→τ,agg→ξ
open Go.IntKind renaming i64→γ
open Go.Obj renaming cells→θ
open Go.Ending renaming returned→ρ
namespace Go.Proofs.YtmepekognmlblaaGreatDoor
namespace Tree
open Mem
def Zp:F→Prop
 | .nil=>True
 | .cons k x y c r=>x.size≤1000000∧y.size≤1000000∧Zp c∧Zp r
theorem Zp.drop:∀{n:Nat}{f:F},Zp f→Zp (f.drop n)
 |0,f,h=>h
 |n+1,.nil,_=>by simp[F.drop,Zp]
 |n+1,.cons k x y c r,h=>Zp.drop (n:=n) h.2.2.2
def Boxed(w:World)(g:Nat)(k:Int)(x y:ByteArray)(s:Value):Prop:=w.heap[g]?=some (θ #[ι γ k,σ x,σ y,s] 24 (0,0))
theorem Boxed.cells{w:World}{g:Nat}{k:Int}{x y:ByteArray}{s:Value}(h:Boxed w g k x y s) :
 w.cell? ⟨g,0,none⟩=some (ι γ k)∧w.cell? ⟨g,1,none⟩=some (σ x)∧w.cell? ⟨g,2,none⟩=some (σ y)∧w.cell? ⟨g,3,none⟩=some s:=by
 unfold Boxed at h;refine⟨?_,?_,?_,?_⟩ <;> simp[World.cell?,h]
theorem Boxed.below{w w':World}{g:Nat}{k:Int}{x y:ByteArray}{s:Value}(h:Boxed w g k x y s){B:Nat}(hb:Below B w w')(hg:g<B):Boxed w' g k x y s:=(hb.block g hg).trans h
theorem Boxed.lt{w:World}{g:Nat}{k:Int}{x y:ByteArray}{s:Value}(h:Boxed w g k x y s):g<w.heap.size:=lt_of_block h
theorem Vc(w:World)(k:Int)(x y:ByteArray)(s:Value):Boxed (w.alloc (θ #[ι γ k,σ x,σ y,s] 24)) w.heap.size k x y s:=heap_alloc_new w _
theorem JO{w:World}{g:Nat}{k:Int}{x y:ByteArray}{s:Value}(h:Boxed w g k x y s):w.frozen? ⟨g,0,none⟩=false∧w.frozen? ⟨g,1,none⟩=false∧w.frozen? ⟨g,2,none⟩=false∧w.frozen? ⟨g,3,none⟩=false:=by
 unfold Boxed at h;refine⟨?_,?_,?_,?_⟩ <;> simp[World.frozen?,h]
structure p6(w wr:World)(cr:Nat)(res:Bool)(k:Int)(x y:ByteArray)(A:Option Addr)(n C:Nat)(c:F)(it:Bool)(d:Nat):Prop where
 QF:Below w.heap.size w wr
 box:Boxed wr w.heap.size k x y (ς A n C)
 fs:Fs wr (Lo w.heap.size) (ς A n C) c
 hx:x.size≤1000000
 hy:y.size≤1000000
 sm:Zp c
 eq:Vz ZZ ZN k x y c it d=res
theorem Qld{k:Int}{x y:ByteArray}{c:F}{it:Bool}{d:Nat}(h:256<d):Vz ZZ ZN k x y c it d=false:=by
 unfold Vz;rw[decide_eq_false ω];rfl
theorem Qlc{k:Int}{x y:ByteArray}{c:F}{it:Bool}{d:Nat}(h:Ed ZZ ZN k x y c it=false):Vz ZZ ZN k x y c it d=false:=by
 unfold Vz;rw[h];simp
theorem Qlb{k:Int}{x y:ByteArray}{it:Bool}{d:Nat}(hd:d≤256)(h:Ed ZZ ZN k x y .nil it=true):Vz ZZ ZN k x y .nil it d=true:=by
 unfold Vz;rw[h,decide_eq_true hd];rfl
theorem Qle{k:Int}{x y:ByteArray}{it:Bool}{d:Nat}{k1:Int}{x1 y1:ByteArray}{c1 r1:F}(hd:d≤256)(h:Ed ZZ ZN k x y (.cons k1 x1 y1 c1 r1) it=true) :
 Vz ZZ ZN k x y (.cons k1 x1 y1 c1 r1) it d=(Vz ZZ ZN k1 x1 y1 c1 (holds k) (d+down k x 0 k1 x1)&&Kd ZZ ZN k x (holds k) d 1 r1):=by
 conv=>lhs;unfold Vz
 rw[h,decide_eq_true hd,Qd2];rfl
theorem Z8{w:World}{g:Nat}{cs:Array Value}{T:TypeId}(h:w.heap[g]?=some (θ cs T (0,0)))(i:Nat)(v:Value):(w.setCell ⟨g,i,none⟩ v).heap[g]?=some (θ (cs.setIfInBounds i v) T (0,0)):=by
 have hlt:=lt_of_block h;have h':w.heap[g]=θ cs T (0,0):=by simpa[Array.getElem?_eq_getElem hlt]using h
 show(w.heap.modify g _)[g]?=_;rw[Array.getElem?_eq_getElem (by simpa using hlt),Array.getElem_modify_self,h'];simp
theorem X3{w:World}{g:Nat}{k k1:Int}{x y x1 y1:ByteArray}{s s1:Value}(h:Boxed w g k x y s) :
 Boxed ((((w.setCell ⟨g,0,none⟩ (ι γ k1)).setCell ⟨g,1,none⟩ (σ x1)).setCell ⟨g,2,none⟩ (σ y1)).setCell ⟨g,3,none⟩ s1) g k1 x1 y1 s1:=by
 unfold Boxed at h⊢;have:=Z8 (Z8 (Z8 (Z8 h 0 (ι γ k1)) 1 (σ x1)) 2 (σ y1)) 3 s1;simpa using this
theorem Ji(w:World)(g:Nat)(v0 v1 v2 v3:Value):Below g w ((((w.setCell ⟨g,0,none⟩ v0).setCell ⟨g,1,none⟩ v1).setCell ⟨g,2,none⟩ v2).setCell ⟨g,3,none⟩ v3) :=
 ((((QE g w).setCell (QI _) v0).setCell (QI _) v1).setCell (QI _) v2).setCell (QI _) v3
theorem Ge{f:F}{j:Nat}{k:Int}{x y:ByteArray}{c r:F}(h:f.drop j=.cons k x y c r):c.size<f.size:=by
 induction j generalizing f with
 |zero=>rw[show f=.cons k x y c r from h];exact c160
 |succ j ih =>
  cases f with
  |nil=>simp[F.drop]at h
  |cons k' x' y' c' r'=>have:=ih (f:=r') h;exact c160
theorem wrap_small{i:Int}(h1 : -1000000000000≤i)(h2:i≤9223372036854775807):IntKind.i64.wrap i=i:=by
 rw[IntKind.wrap_i64];omega
theorem p7{w W:World}{S:Nat→Prop}{b off:Nat}{k:Int}{x y:ByteArray}{c:F}{s:Value}(h:At w S b off 0 k x y c s)(hb:Below w.heap.size w W)(hlt:b<w.heap.size) :
 W.cell? ⟨b,off,none⟩=some (ι γ k)∧W.cell? ⟨b,off+1,none⟩=some (σ x)∧W.cell? ⟨b,off+2,none⟩=some (σ y)∧W.cell? ⟨b,off+3,none⟩=some s:=by
 have c0:=h.c0;have c1:=h.c1;have c2:=h.c2;have c3:=h.c3;simp only[Nat.zero_mul,Nat.add_zero]at c0 c1 c2 c3;exact⟨(hb.cell (p:=⟨b,off,none⟩) hlt).trans c0,(hb.cell (p:=⟨b,off+1,none⟩) hlt).trans c1,(hb.cell (p:=⟨b,off+2,none⟩) hlt).trans c2,(hb.cell (p:=⟨b,off+3,none⟩) hlt).trans c3⟩
def iO(N:Nat):Prop:=∀(cr:Nat)(k:Int)(x y:ByteArray)(A:Option Addr)(n C:Nat)(c:F)(it:Bool)(d:Nat)(w:World),c.size≤N→Fs w (Lo w.heap.size) (ς A n C) c→x.size≤1000000→y.size≤1000000→Zp c→d≤1000→Lex.XF w→cr<w.heap.size→
 w.cell? ⟨cr,0,none⟩=some (.func (.func 40) #[] #[π (some ⟨cr,0,none⟩)])→
 Calls Tryz.prog 40 #[ξ #[ι γ k,σ x,σ y,ς A n C],τ it,ι γ (d:Int),π (some ⟨cr,0,none⟩)] w fun e w'=>e=ρ (τ (Vz ZZ ZN k x y c it d))∧Below w.heap.size w w'
theorem Qib(N:Nat)(ih:∀M,M<N→iO M):iO N:=by
 intro cr k x y A n C c it d w hN hf hx hy hsm hd1 hT hcr hcl;have wJ:=QA ih;have HT:=QA hT;have MM:Hid (∀W,Below w.heap.size w W→W.cell? ⟨cr,0,none⟩=some (.func (.func 40) #[] #[π (some ⟨cr,0,none⟩)])):=fun W hW=>(hW.cell (p:=⟨cr,0,none⟩) hcr).trans hcl
 have b1:=Qa w (θ #[ι γ k,σ x,σ y,ς A n C] 24);have HR:Hid (p6 w (w.alloc (θ #[ι γ k,σ x,σ y,ς A n C] 24)) cr (Vz ZZ ZN k x y c it d) k x y A n C c it d):=⟨b1,Vc _ _ _ _ _,hf.below b1 (QI _),hx,hy,hsm,rfl⟩;generalize Vz ZZ ZN k x y c it d=res at *;clear ih hT hf hx hy hsm hcl b1;go_enter Tryz.func40,Tryz.ntmps40;go_wp2
 go_loopg [1,2] (c.size+1) (fun p s1 s2 wr=>∃(k:Int)(x y:ByteArray)(A:Option Addr)(n C:Nat)(c:F)(it:Bool)(d:Nat),c.size<p∧c.size≤N∧s1=τ it∧s2=ι γ (d:Int)∧d≤1000∧Hid (p6 w wr cr res k x y A n C c it d))
 case atStart=>exact⟨k,x,y,A,n,C,c,it,d,ω,hN,rfl,rfl,hd1,HR.out⟩
 case round =>
  clear HR hN hd1;obtain⟨k,x,y,A,n,C,c,it,d,hsz,hN,rfl,rfl,hd1,HM⟩:=hrel;obtain⟨q0,q1,q2,q3⟩:=HM.out.box.cells;by_cases hd:256<d
  ·have HE:Hid (res=false):=HM.out.eq.symm.trans (Qld hd);have hdi:¬(d:Int)≤256:=ω
   clear hd;exact c120
  have hd2:d≤256:=ω
  have hdi:(d:Int)≤256:=ω
  have MK:=QA (Qti k x y A n C c it wr (HM.out.fs.up HM.out.QF.size) HM.out.hx HM.out.hy (HT.out.below HM.out.QF HT.out.pos));have TY:Hid (∀W,Below wr.heap.size wr W→Boxed W w.heap.size k x y (ς A n C)):=fun W hW=>HM.out.box.below hW HM.out.box.lt
  cases hft:Ed ZZ ZN k x y c it with
  |false=>have HE:Hid (res=false):=HM.out.eq.symm.trans (Qlc hft);rw[hft]at MK;clear hd hft;go_wp2_with fail;refine c₁ MK.out fun wf LZ=>?_;have HB:=QA (HM.out.QF.trans (LZ.mono HM.out.QF.size));clear LZ;exact c148
  |true =>
   cases hc:c with
   |nil=>rw[hc]at hft HM MK;have HE:Hid (res=true):=HM.out.eq.symm.trans (Qlb hd2 hft);obtain⟨A0,C0,e,_,_⟩:=HM.out.fs.slice;injection e with e1 e2 e3;subst e1;subst e3;simp only[F.len]at e2;subst e2;rw[hft]at MK;clear hd hft hc;go_wp2_with fail;refine c₁ MK.out fun wf LZ=>?_;have HB:=QA (HM.out.QF.trans (LZ.mono HM.out.QF.size));obtain⟨r0,r1,r2,r3⟩:=(TY.out wf LZ).cells;clear LZ q0 q1 q2 q3;exact c148
   |cons k1 x1 y1 c1 r1 =>
    rw[hc]at hft HM MK hsz hN;have jn:Hid ((Vz ZZ ZN k1 x1 y1 c1 (holds k) (d+down k x 0 k1 x1)&&Kd ZZ ZN k x (holds k) d 1 r1)=res):=(Qle hd2 hft).symm.trans HM.out.eq;obtain⟨b,off,s1,rfl,FK,hn0,hat⟩:=HM.out.fs.at_ (i:=0) rfl;obtain⟨A1,C1,rfl,Lg,mU⟩:=hat.kids.slice;have Px:=QA hat;obtain⟨qc,Ld,RS,hrl,hr⟩:=HM.out.fs.tail;obtain⟨A',n',C',hsl,en,eC,hA'⟩:=Ju b off n C qc Ld;have hr2:=hr A' hA';rw[←en,←eC]at hr2;rw[←en]at hrl;have XQ:=QA hr2;have NQ:=QA hrl;have hCn:n'≤C':=ω
    have FT:C'≤9223372036854775807:=ω
    have hnz:((n:Int)==0)=false:=QM ω;have LN:Hid (b<w.heap.size):=FK;have mG:(0:Int)<(n:Int):=ω
    rw[hft]at MK;clear hd hft hc hat hr hr2 hrl hA' en eC FK;go_wp2_with fail;refine c₁ MK.out fun wf LZ=>?_;have UQ:=QA (HM.out.QF.trans (LZ.mono HM.out.QF.size));have Ad:=QA (TY.out wf LZ);obtain⟨r0,N3,r2,r3⟩:=Ad.out.cells;have QP:=QA (HM.out.fs.below LZ HM.out.QF.size);have HRS:=QA (XQ.out.below LZ HM.out.QF.size);have Bd:=QA (Px.out.kids.below LZ HM.out.QF.size);have EP:Hid (∀W,Below wf.heap.size wf W→W.cell? ⟨b,off,none⟩=some (ι γ k1)∧W.cell? ⟨b,off+1,none⟩=some (σ x1)∧W.cell? ⟨b,off+2,none⟩=some (σ y1)∧W.cell? ⟨b,off+3,none⟩=some (ς A1 c1.len C1)):=fun W hW=>p7 Px.out (LZ.trans (hW.mono LZ.size)) (VE LN.out HM.out.QF.size)
    have HHD:=QA (Qo8 k wf);clear LZ q0 q1 q2 q3 MK;go_wp2_with fail;refine c₁ HHD.out fun wg hw=>?_;subst hw;clear HHD;go_wp2
    go_loopw [29] (fun i wr=>∃j:Nat,j≤n'∧i=ι γ (j:Int)∧Hid (Kd ZZ ZN k x (holds k) d (j+1) (r1.drop j)=Kd ZZ ZN k x (holds k) d 1 r1)∧Hid (Below wg.heap.size wg wr)) (fun i _=>n'-(intOf i).toNat)
    case atStart=>exact⟨0,Nat.zero_le _,rfl,rfl,QE _ _⟩
    case round =>
     obtain⟨j,hj,rfl,hkr,ZT⟩:=hrel;by_cases hlt:j<n'
     ·obtain⟨kk,kx,ky,kc,kr,hdr,YZ⟩:=F.drop_cons (n:=j) (f:=r1) (by rw[NQ.out];exact hlt);obtain⟨b2,UW,s2,rfl,PO,_,VA⟩:=HRS.out.at_ hdr;obtain⟨Ak,Ck,rfl,_,_⟩:=VA.kids.slice;have hb2:b2<wr.heap.size:=VE PO (QW UQ.out.size ZT.out.size);have PN:b2<wg.heap.size:=VE PO UQ.out.size;have e0:=(ZT.out.cell (p:=⟨b2,UW+j*4,none⟩) PN).trans VA.c0;have e1:=(ZT.out.cell (p:=⟨b2,UW+j*4+1,none⟩) PN).trans VA.c1;have e2:=(ZT.out.cell (p:=⟨b2,UW+j*4+2,none⟩) PN).trans VA.c2;have e3:=(ZT.out.cell (p:=⟨b2,UW+j*4+3,none⟩) PN).trans VA.c3;have hlt':(j:Int)<(n':Int):=ω
      have Mf:(0:Int)≤(j:Int):=ω
      have RP:=pW k x (j+1) kk kx;have bk:=Qa wr (θ #[ι γ kk,σ kx,σ ky,ς Ak kc.len Ck] 24);have H8:Hid (∀W,Below (wr.alloc (θ #[ι γ kk,σ kx,σ ky,ς Ak kc.len Ck] 24)).heap.size (wr.alloc (θ #[ι γ kk,σ kx,σ ky,ς Ak kc.len Ck] 24)) W→
       W.cell? ⟨cr,0,none⟩=some (.func (.func 40) #[] #[π (some ⟨cr,0,none⟩)])∧
       (W.cell? ⟨wr.heap.size,0,none⟩=some (ι γ kk)∧W.cell? ⟨wr.heap.size,1,none⟩=some (σ kx)∧W.cell? ⟨wr.heap.size,2,none⟩=some (σ ky)∧W.cell? ⟨wr.heap.size,3,none⟩=some (ς Ak kc.len Ck))∧
       (W.cell? ⟨w.heap.size,0,none⟩=some (ι γ k)∧W.cell? ⟨w.heap.size,1,none⟩=some (σ x)∧W.cell? ⟨w.heap.size,2,none⟩=some (σ y)∧W.cell? ⟨w.heap.size,3,none⟩=some (ς (some ⟨b,off,none⟩) n C))):=fun W hW=>by
       have hw1:Below wg.heap.size wg W:=ZT.out.trans ((bk.trans (hW.mono bk.size)).mono ZT.out.size);refine⟨MM.out W (UQ.out.trans (hw1.mono UQ.out.size)),((Vc wr _ _ _ _).below hW ψ).cells,(Ad.out.below hw1 Ad.out.lt).cells⟩
      have LU:kc.size<N:=by have:=Ge hdr;simp only[F.size]at hN;omega
      have Fl:Zp (F.cons kk kx ky kc kr):=by have:=HM.out.sm;simp only[Zp]at this;have h2:=Zp.drop (n:=j) this.2.2.2;rwa[hdr]at h2
      have uV:Hid (∀W,Below (wr.alloc (θ #[ι γ kk,σ kx,σ ky,ς Ak kc.len Ck] 24)).heap.size (wr.alloc (θ #[ι γ kk,σ kx,σ ky,ς Ak kc.len Ck] 24)) W→
       Calls Tryz.prog 43 #[ξ #[ι γ k,σ x,σ y,ς (some ⟨b,off,none⟩) n C],ι γ ((j:Int)+1)] W fun e w'=>e=ρ (ι γ ((down k x (j+1) kk kx:Nat):Int))∧Below W.heap.size W w'):=fun W hW=>by
       have hw1:Below wg.heap.size wg W:=ZT.out.trans ((bk.trans (hW.mono bk.size)).mono ZT.out.size);have SR:=UQ.out.trans (hw1.mono UQ.out.size);have:=ź k x y (some ⟨b,off,none⟩) n C (.cons k1 x1 y1 c1 r1) (j+1) kk kx ky kc kr W ((QP.out.below hw1 UQ.out.size).up SR.size) hdr;rwa[show((j+1:Nat):Int)=(j:Int)+1 from by omega]at this
      obtain⟨rk,kJ⟩:=Mem.QD (Vz ZZ ZN kk kx ky kc (holds k) (d+down k x (j+1) kk kx));have Sm:Hid (∀W,Below (wr.alloc (θ #[ι γ kk,σ kx,σ ky,ς Ak kc.len Ck] 24)).heap.size (wr.alloc (θ #[ι γ kk,σ kx,σ ky,ς Ak kc.len Ck] 24)) W→
       Calls Tryz.prog 40 #[ξ #[ι γ kk,σ kx,σ ky,ς Ak kc.len Ck],τ (holds k),ι γ ((d:Int)+((down k x (j+1) kk kx:Nat):Int)),π (some ⟨cr,0,none⟩)] W fun e w'=>e=ρ (τ rk)∧Below W.heap.size W w'):=fun W hW=>by
       have hw1:Below wg.heap.size wg W:=ZT.out.trans ((bk.trans (hW.mono bk.size)).mono ZT.out.size);have SR:=UQ.out.trans (hw1.mono UQ.out.size);have:=wJ.out kc.size LU cr kk kx ky Ak kc.len Ck kc (holds k) (d+down k x (j+1) kk kx) W (QI _) ((VA.kids.below hw1 UQ.out.size).up SR.size) Fl.1 Fl.2.1 Fl.2.2.1 ω (HT.out.below SR HT.out.pos) (by have:=SR.size;omega) (MM.out W SR);rwa[kJ,Int.natCast_add]at this
      have uK:Hid (Kd ZZ ZN k x (holds k) d 1 r1=(rk&&Kd ZZ ZN k x (holds k) d (j+1+1) (r1.drop (j+1)))):=by show _=_;rw[←hkr.out,hdr,Qd2,kJ,YZ]
      have uY:Hid (∀W,Below (wr.alloc (θ #[ι γ kk,σ kx,σ ky,ς Ak kc.len Ck] 24)).heap.size (wr.alloc (θ #[ι γ kk,σ kx,σ ky,ς Ak kc.len Ck] 24)) W→Below wg.heap.size wg W):=fun W hW=>ZT.out.trans ((bk.trans (hW.mono bk.size)).mono ZT.out.size)
      have Q15:IntKind.i64.wrap ((j:Int)+1)=(j:Int)+1:=wrap_small ω ω;have hwr:IntKind.i64.wrap ((d:Int)+((down k x (j+1) kk kx:Nat):Int))=(d:Int)+((down k x (j+1) kk kx:Nat):Int):=wrap_small ω ω;clear hdr YZ PO VA RP bk LU Fl kJ hkr r0 N3 r2 r3;generalize down k x (j+1) kk kx=dn at *;go_wp2;refine Qv [Cd.is (Value.func (.func 40) #[] #[π (some ⟨cr,0,none⟩)]),Cd.is (ξ #[ι γ kk,σ kx,σ ky,ς Ak kc.len Ck]),Cd.is (τ (holds k)),Cd.is (ι γ (d:Int)),Cd.is (ξ #[ι γ k,σ x,σ y,ς (some ⟨b,off,none⟩) n C]),Cd.is (ι γ (j:Int)),Cd.is (ι γ ((j:Int)+1)),Cd.is (ι γ (dn:Int)),Cd.is (ι γ ((d:Int)+(dn:Int))),Cd.is (τ rk),Cd.is (τ (!rk))] ?steps ?behind
      case steps =>
       intro xv W hW;refine⟨?s0,?s1,?s2,?s3,?s4,?s5,?s6,?s7,?s8,?s9,?JQ,trivial⟩;all_goals intro hd K hK
       all_goals(try simp only[Act.put,ZC,ZA,QZ]at hK)
       case s0=>clear hd;obtain⟨hq,_,_⟩:=H8.out W hW;exact c16
       case s1=>clear hd;obtain⟨_,⟨hq0,hq1,hq2,Ns⟩,_⟩:=H8.out W hW;exact c16
       case s2|s3|s5=>clear hd;exact c16
       case s4=>clear hd;obtain⟨_,_,⟨hq0,hq1,hq2,Ns⟩⟩:=H8.out W hW;exact c16
       case s6=>have JB:xv 5=ι γ (j:Int):=hd 5;clear hd;rw[JB]at hK⊢;exact c16
       case s7=>have JJ:xv 4=ξ #[ι γ k,σ x,σ y,ς (some ⟨b,off,none⟩) n C]:=hd 4;have JR:xv 6=ι γ ((j:Int)+1):=hd 6;clear hd;rw[JJ]at hK⊢;rw[JR]at hK⊢;go_simp;go_at_call 43;refine(uV.out W hW).mono ?_;exact c128
       case s8=>have hx3:xv 3=ι γ (d:Int):=hd 3;have YX:xv 7=ι γ (dn:Int):=hd 7;clear hd;rw[hx3]at hK⊢;rw[YX]at hK⊢;exact c16
       case s9=>have hx0:xv 0=Value.func (.func 40) #[] #[π (some ⟨cr,0,none⟩)]:=hd 0;have hx1:xv 1=ξ #[ι γ kk,σ kx,σ ky,ς Ak kc.len Ck]:=hd 1;have hx2:xv 2=τ (holds k):=hd 2;have UX:xv 8=ι γ ((d:Int)+(dn:Int)):=hd 8;clear hd;rw[hx0]at hK⊢;rw[hx1]at hK⊢;rw[hx2]at hK⊢;rw[UX]at hK⊢;go_simp;go_at_call 40;refine(Sm.out W hW).mono ?_;exact c128
       case JQ=>have Lx:xv 9=τ rk:=hd 9;clear hd;rw[Lx]at hK⊢;exact c16
      case behind =>
       intro xv W hW hx;have h10:xv 10=τ (!rk):=hx 10;rw[h10];have HW:=QA (uY.out W hW);clear hx h10 hW uY H8 uV Sm;cases rk with
       |true =>
        have SF:Hid (Kd ZZ ZN k x (holds k) d (j+1+1) (r1.drop (j+1))=Kd ZZ ZN k x (holds k) d 1 r1):=by show _=_;rw[uK.out];rfl
        go_wp2
        go_roundw
        case rel=>exact⟨j+1,ω,by go_num,SF.out,HW.out⟩
        case measure=>simp[intOf];omega
       |false =>
        have HE:Hid (res=false):=by show _=_;rw[←jn.out,uK.out];simp
        go_wp2;go_ret;exact⟨by rw[HE.out];rfl,UQ.out.trans (HW.out.mono UQ.out.size)⟩
     ·have hn':¬(j:Int)<(n':Int):=ω
      obtain rfl:j=n':=ω
      have HQ:Hid (Vz ZZ ZN k1 x1 y1 c1 (holds k) (d+down k x 0 k1 x1)=res):=by show _=_;rw[←jn.out,←hkr.out,F.JG _ _ (by rw[NQ.out];exact QI _)];simp[Kd]
      have YR:=QA (UQ.out.trans (ZT.out.mono UQ.out.size));have uQ:Hid (w.heap.size<wr.heap.size):=VE Ad.out.lt ZT.out.size;have zz:Hid (∀W,Below wr.heap.size wr W→Boxed W w.heap.size k x y (ς (some ⟨b,off,none⟩) n C)):=fun W hW=>Ad.out.below (ZT.out.trans (hW.mono ZT.out.size)) Ad.out.lt
      have QY:Hid (∀W,Below wr.heap.size wr W→W.cell? ⟨w.heap.size,0,none⟩=some (ι γ k)∧W.cell? ⟨w.heap.size,1,none⟩=some (σ x)∧W.cell? ⟨w.heap.size,2,none⟩=some (σ y)∧W.cell? ⟨w.heap.size,3,none⟩=some (ς (some ⟨b,off,none⟩) n C)):=fun W hW=>(zz.out W hW).cells
      have Sl:Hid (∀W,Below wr.heap.size wr W→W.cell? ⟨b,off,none⟩=some (ι γ k1)∧W.cell? ⟨b,off+1,none⟩=some (σ x1)∧W.cell? ⟨b,off+2,none⟩=some (σ y1)∧W.cell? ⟨b,off+3,none⟩=some (ς A1 c1.len C1)):=fun W hW=>EP.out W (ZT.out.trans (hW.mono ZT.out.size))
      have uU:Hid (∀W,Below wr.heap.size wr W→Calls Tryz.prog 43 #[ξ #[ι γ k,σ x,σ y,ς (some ⟨b,off,none⟩) n C],ι γ 0] W fun e w'=>e = ρ (ι γ ((down k x 0 k1 x1:Nat):Int))∧Below W.heap.size W w'):=fun W hW=>by
       have hw1:Below wg.heap.size wg W:=ZT.out.trans (hW.mono ZT.out.size);have SR:=UQ.out.trans (hw1.mono UQ.out.size);exact ź k x y (some ⟨b,off,none⟩) n C (.cons k1 x1 y1 c1 r1) 0 k1 x1 y1 c1 r1 W ((QP.out.below hw1 UQ.out.size).up SR.size) rfl
      have sD:=QA (Bd.out.below ZT.out UQ.out.size);have RP:=pW k x 0 k1 x1;have Q14:IntKind.i64.wrap ((d:Int)+((down k x 0 k1 x1:Nat):Int))=(d:Int)+((down k x 0 k1 x1:Nat):Int):=wrap_small ω ω;have hbl:b<wr.heap.size:=Nat.lt_trans LN.out uQ.out;clear hkr ZT jn NQ HRS EP Bd r0 N3 r2 r3;generalize down k x 0 k1 x1=dn at *;go_wp2;refine Qbq 9 (fun W=>Below wr.heap.size wr W) (fun W W'=>Below w.heap.size W W'∧(Boxed W w.heap.size k1 x1 y1 (ς A1 c1.len C1)→Boxed W' w.heap.size k1 x1 y1 (ς A1 c1.len C1))∧W.heap.size≤W'.heap.size) [Cd.is (π (some ⟨w.heap.size,3,none⟩)),Cd.is (ς (some ⟨b,off,none⟩) n C),Cd.is (π (some ⟨b,off,none⟩)),Cd.is (ξ #[ι γ k1,σ x1,σ y1,ς A1 c1.len C1]),Cd.is (τ (holds k)),Cd.is (ι γ (d:Int)),Cd.is (ξ #[ι γ k,σ x,σ y,ς (some ⟨b,off,none⟩) n C]),Cd.is (ι γ (dn:Int)),Cd.is (ι γ ((d:Int)+(dn:Int))),⟨fun _ W=>Boxed W w.heap.size k1 x1 y1 (ς A1 c1.len C1),fun _ W W' hT h=>hT.2.1 h⟩,Cd.is (τ (holds k)),Cd.is (ι γ ((d:Int)+(dn:Int)))] χ δ χ ((QE _ _).drew) ⟨QE _ _,fun h=>h,QI _⟩ (fun _ _ _ h k=>⟨h.1.trans k.1,fun z=>k.2.1 (h.2.1 z),QW h.2.2 k.2.2⟩) ?steps ?behind
      case steps =>
       intro xv W hW a ha
       skip
       simp only[Qi]at ha;simp only[ZC,ZA,QZ,ZL,Nat.reduceAdd]at ha;subst ha;refine⟨?s0,?s1,?s2,?s3,?s4,?s5,?s6,?s7,?s8,?s9,?JQ,?GA,trivial⟩;all_goals intro hI hS hd K hK
       all_goals(try simp only[Act.put,ZC,ZA,QZ]at hK)
       case s0|s4=>clear hd;exact c81
       case s1=>have hx0:xv 0=π (some ⟨w.heap.size,3,none⟩):=hd 0 χ;clear hd;rw[hx0]at hK⊢;exact c112
       case s2=>have hx1:xv 1=ς (some ⟨b,off,none⟩) n C:=hd 1 χ;clear hd;rw[hx1]at hK⊢;exact c81
       case s3=>have hx2:xv 2=π (some ⟨b,off,none⟩):=hd 2 χ;clear hd;rw[hx2]at hK⊢;refine(if_pos (by rfl)).mpr ?_;have JD:=hS (.inl χ);obtain⟨hq0,hq1,hq2,Ns⟩:=Sl.out W JD;exact c25
       case s5=>clear hd;refine(if_pos (by rfl)).mpr ?_;clear hS;have h11:xv 11=ι γ (d:Int):=hI 11 χ;rw[h11]at hK⊢;go_simp;exact hK.out _ _ ⟨QE _ _,fun h=>h,QI _⟩ (.inr fun h=>h) rfl
       case s6=>clear hd;exact c112
       case s7=>have JR:xv 6=ξ #[ι γ k,σ x,σ y,ς (some ⟨b,off,none⟩) n C]:=hd 6 χ;clear hd;rw[JR]at hK⊢;refine(if_pos (by rfl)).mpr ?_;have JD:=hS (.inl χ);clear hS;go_simp;go_at_call 43;refine c₁ (uU.out W JD) fun w' hb=>?_;exact hK.out _ _ ⟨hb.mono (Nat.le_of_lt (VE uQ.out JD.size)),fun h=>h.below hb (VE uQ.out JD.size),hb.size⟩ (.inr fun h=>h.trans (hb.mono h.size)) rfl
       case s8=>have JB:xv 5=ι γ (d:Int):=hd 5 χ;have YX:xv 7=ι γ (dn:Int):=hd 7 χ;clear hd;rw[JB]at hK⊢;rw[YX]at hK⊢;exact c81
       case s9=>have hx3:xv 3=ξ #[ι γ k1,σ x1,σ y1,ς A1 c1.len C1]:=hd 3 χ;clear hd;rw[hx3]at hK⊢;refine(if_pos (by rfl)).mpr ?_;have JD:=hS (.inr rfl);obtain⟨hq0,hq1,hq2,Ns⟩:=QY.out W JD;have hbk:=zz.out W JD;have hz:=JO hbk;clear hS;go_simp;exact hK.out undef _ ⟨Ji _ _ _ _ _ _,fun _=>X3 hbk,(Ji _ _ _ _ _ _).size⟩ (.inl trivial) (X3 hbk)
       case JQ=>have JJ:xv 4=τ (holds k):=hd 4 χ;clear hd;rw[JJ]at hK⊢;exact c81
       case GA=>have UX:xv 8=ι γ ((d:Int)+(dn:Int)):=hd 8 χ;clear hd;rw[UX]at hK⊢;exact c81
      case behind =>
       intro xv W hW hx a ha
       skip
       simp only[Qi]at ha;simp only[ZC,ZA,QZ,ZL,Nat.reduceAdd]at ha;subst ha;have h10:xv 10=τ (holds k):=hx 10 δ;have h11:xv 11=ι γ ((d:Int)+(dn:Int)):=hx 11 δ;have h9:Boxed W w.heap.size k1 x1 y1 (ς A1 c1.len C1):=hx 9 δ;rw[h10,h11];have wZ:=QA h9;have HW:Hid (Below w.heap.size wr W):=⟨hW.1.os,hW.1.tape,hW.1.output,hW.1.size,hW.1.block⟩;clear hx h10 h11 h9 hW uU Sl QY zz;go_wp2
       go_roundg (c1.size+1)
       case measure=>simp only[F.size]at hsz;omega
       case rel =>
        refine⟨k1,x1,y1,A1,c1.len,C1,c1,holds k,d+dn,ω,?_,rfl,by rw[Int.natCast_add],ω,?_⟩
        ·simp only[F.size]at hN;omega
        ·have hs:=HM.out.sm;simp only[Zp]at hs;exact⟨YR.out.trans HW.out,wZ.out,sD.out.below HW.out (QI _),hs.1,hs.2.1,hs.2.2.1,HQ.out⟩
