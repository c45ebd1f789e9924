import Derived.Test.YtaiihnniblibaaaGreatDoorG16
set_option maxHeartbeats 32000000
set_option maxRecDepth 100000
set_option linter.unusedVariables false
open Go.Proofs.Tryz Go.ChangeShapes Go.WideShapes Go.ChangeAt Go.RowKit
open Go.Lib renaming hid→QA
open Go.RowKit.Below renaming refl→QF
open _root_.Nat renaming le_refl→QH,zero_add→JN,lt_succ_self→JW
open _root_.List renaming setIfInBounds_toArray→VG,set_cons_succ→VF,set_cons_zero→VE
open Go.Value renaming string→σ,int→ι,slice→ς,pointer→π,bool→τ,agg→ξ
open Go.IntKind renaming i64→κ
open Go.Obj renaming cells→θ
namespace Go.Proofs.YtaiihnniblibaaaGreatDoor
namespace QB
open Tree ZR Mem
theorem Gz{z:Nat}{f:Bool}{l:List Tk}(h:f=false):X5 z f l=.bad (QB.hd z l).place 5:=by unfold X5;rw[h];rfl
theorem Ux{z:Nat}{f:Bool}{l:List Tk}(h:f=true):X5 z f l=.ok () l:=by unfold X5;rw[h];rfl
theorem Qmo(P z:Nat)(l:List Tk)(d:Nat)(w:World)(h:PS w P z l d)(hd:d≤300)(p:Nat)(er:Int)(hx:XH z d l=.bad p er) :
  Calls prog 118 #[π (some ⟨P,0,none⟩)] w (Qn NV w P z d (Zl z d l)):=by
 have hlt:=h.lt;have HST:=QA (XJ.start h);have hsp:Zl z d l=Zl z d l:=rfl;conv at hsp=>rhs;unfold Zl
 have QO:P<w.heap.size+1:=by omega
 have YJ:w.heap.size≠P:=by omega
 have HX:Hid (∀W l',PS W P z l' d→Calls prog 71 #[π (some ⟨P,0,none⟩)] W (Qn NV W P z d (XH z d l'))):=fun W l' hW=>NP P z (l'.length+1) W d l' (JW _) hd hW
 clear h;rw[hx,Rd.QG]at hsp;have QL:=QA hsp;have JX:=QA hx;clear hsp hx;go_enter func118,ntmps118;go_wp2_with fail;refine c₁ (Qh (HX.out _ _ HST.out.ps) JX.out) fun w1 QD=>?_;have HE:=QA (HST.out.QS.trans QD);clear QD;go_wp2;exact⟨rfl,Qc QL.out HE.out⟩
theorem Qmn(P z:Nat)(l:List Tk)(d:Nat)(w:World)(h:PS w P z l d)(hd:d≤300)(nk:Int)(nx ny:ByteArray)(nc:F)(l1:List Tk)(hx:XH z d l=.ok ⟨nk,nx,ny,nc⟩ l1)(tk:Int)(tx:ByteArray)(tp:Nat)(tf:Bool)(ht:QB.hd z l1=⟨tk,tx,tp,tf⟩)(hb:(tx.toList==[58,61])=true) :
  Calls prog 118 #[π (some ⟨P,0,none⟩)] w (Qn NV w P z d (Zl z d l)):=by
 have hlt:=h.lt;have HST:=QA (XJ.start h);have hsp:Zl z d l=Zl z d l:=rfl;conv at hsp=>rhs;unfold Zl
 have QO:P<w.heap.size+1:=by omega
 have YJ:w.heap.size≠P:=by omega
 have HX:Hid (∀W l',PS W P z l' d→Calls prog 71 #[π (some ⟨P,0,none⟩)] W (Qn NV W P z d (XH z d l'))):=fun W l' hW=>NP P z (l'.length+1) W d l' (JW _) hd hW
 clear h;rw[hx,Rd.bind_ok,ht]at hsp;have XW:=RH tk tx tp tf;have JX:=QA hx;have Ht:=QA ht;clear hx ht;rw[if_pos (Vp hb)]at hsp;have HB:=QA hb;obtain⟨t',r,rfl⟩:=Vx (z:=z) (l:=l1) (u:=[58,61]) (by rw[Ht.out];exact HB.out) (by decide);obtain rfl:t'=⟨tk,tx,tp,tf⟩:=Ht.out;obtain⟨kb,hkb⟩:=Mem.ZB ((nk==9));rw[hkb]at hsp;have Pp:=QA hkb;clear hkb;have VH:=QA hsp;clear hsp;go_enter func118,ntmps118;go_wp2_with fail;refine(Qf (HX.out _ _ HST.out.ps) JX.out).mono ?_;rintro e wx ⟨v,rfl,⟨An,Cn,rfl,hf⟩,hps,QD⟩;have hf':=Q7 (B0':=w.heap.size+1) hf HST.out.size (QH _);replace HST:=hRe HST QD hps;simp only at hf'⊢;generalize hm:nc.len=mn at hf'⊢;have Ri:=QA hm;have VN:=(QF wx.heap.size wx).alloc (QH _) (θ #[ι κ nk,σ nx,σ ny,ς An mn Cn] 24);have QM:=QA (Qv wx 24 (ι κ nk) (σ nx) (σ ny) (ς An mn Cn));have QT:wx.heap.size≠P:=by have:=HST.out.size;omega
 have DR:=HST.out.size;have ZX:=QA (Xv (B0:=w.heap.size+1) (g:=wx.heap.size) (g':=wx.heap.size) (Zc hf' VN (QH _)) (QH _) (.inr (QH _)) (.inr (QH _)) VN.size);replace HST:=QY HST VN;clear hf hf' hps QD hm VN JX;go_wp2_with fail;cases kb with
 |false =>
  have hsp:=VH.out;rw[Gz rfl,Rd.QG]at hsp;have QL:=QA hsp;clear hsp;refine c₁ (Zn HST.out.ps Ht.out) fun wt hb=>?_;replace HST:=QY HST hb;replace ZX:=QA (Qm ZX.out hb QO);replace QM:=JB QM hb;clear hb;go_wp2;clear XW;generalize wx.heap.size=gx at *;refine Qz [Cd.is (π (some ⟨P,0,none⟩)),Cd.is (π (some ⟨P,0,none⟩)),Cd.is (π (some ⟨P,0,none⟩)),Cd.is (π (some ⟨gx,0,none⟩)),Cd.is (ι κ nk),Cd.is (τ false),⟨fun _ _=>False,fun _ _ _ _ h=>h⟩] ?steps ?behind
  case steps =>
   intro xv W hW;refine⟨?s0,?s1,?s2,?s3,?s4,?s5,?s6,trivial⟩;all_goals intro hd K hK
   all_goals(try simp only[Act.put,VG,VF,VE]at hK)
   case s0|s3=>clear hd;go_simp;exact hK.out _ _ (QF _ _) rfl
   case s1=>have hx0:xv 0=π (some ⟨P,0,none⟩):=hd 0;clear hd;rw[hx0]at hK⊢;go_simp;exact hK.out _ _ (QF _ _) rfl
   case s2=>have hx1:xv 1=π (some ⟨P,0,none⟩):=hd 1;clear hd;rw[hx1]at hK⊢;go_simp;exact hK.out _ _ (QF _ _) rfl
   case s4=>have hx3:xv 3=π (some ⟨gx,0,none⟩):=hd 3;clear hd;rw[hx3]at hK⊢;obtain⟨q0,q1,q2,q3⟩:=(QM.out.later hW).cells;go_simp;exact hK.out _ _ (QF _ _) rfl
   case s5=>have ZP:xv 4=ι κ nk:=hd 4;clear hd;rw[ZP]at hK⊢;have hkk:(nk==9)=false:=Pp.out;go_simp;exact hK.out _ _ (QF _ _) rfl
   case s6=>have hx2:xv 2=π (some ⟨P,0,none⟩):=hd 2;have ZY:xv 5=τ false:=hd 5;clear hd;rw[hx2]at hK⊢;rw[ZY]at hK⊢;go_simp;refine c₁ (K2 P z _ d W (HST.out.ps.later hW)) fun W' hb=>?_;have XZ:=QA (HST.out.QS.ZN (hW.trans (hb.mono hW.size)));rw[Ht.out];exact⟨rfl,Qc QL.out XZ.out⟩
  case behind=>intro xv W hW hx;exact(hx 6:False).elim
 |true =>
  have hsp:=VH.out;rw[Ux rfl,Rd.bind_ok,List.tail_cons]at hsp;have ZO:=QA hsp;clear hsp;cases hx2:XH z d r with
  |bad p er =>
   have hsp:=ZO.out;rw[hx2,Rd.QG]at hsp;have QL:=QA hsp;have QR:=QA hx2;clear hsp hx2;refine c₁ (Zn HST.out.ps Ht.out) fun wt hb=>?_;replace HST:=QY HST hb;replace ZX:=QA (Qm ZX.out hb QO);replace QM:=JB QM hb;clear hb;go_wp2;clear XW;generalize wx.heap.size=gx at *;refine Qz [Cd.is (π (some ⟨P,0,none⟩)),Cd.is (π (some ⟨P,0,none⟩)),Cd.is (π (some ⟨P,0,none⟩)),Cd.is (π (some ⟨gx,0,none⟩)),Cd.is (ι κ nk),Cd.is (τ true),Cd.any] ?steps ?behind
   case steps =>
    intro xv W hW;refine⟨?s0,?s1,?s2,?s3,?s4,?s5,?s6,trivial⟩;all_goals intro hd K hK
    all_goals(try simp only[Act.put,VG,VF,VE]at hK)
    case s0|s3=>clear hd;go_simp;exact hK.out _ _ (QF _ _) rfl
    case s1=>have hx0:xv 0=π (some ⟨P,0,none⟩):=hd 0;clear hd;rw[hx0]at hK⊢;go_simp;exact hK.out _ _ (QF _ _) rfl
    case s2=>have hx1:xv 1=π (some ⟨P,0,none⟩):=hd 1;clear hd;rw[hx1]at hK⊢;go_simp;exact hK.out _ _ (QF _ _) rfl
    case s4=>have hx3:xv 3=π (some ⟨gx,0,none⟩):=hd 3;clear hd;rw[hx3]at hK⊢;obtain⟨q0,q1,q2,q3⟩:=(QM.out.later hW).cells;go_simp;exact hK.out _ _ (QF _ _) rfl
    case s5=>have ZP:xv 4=ι κ nk:=hd 4;clear hd;rw[ZP]at hK⊢;have hkk:(nk==9)=true:=Pp.out;go_simp;exact hK.out _ _ (QF _ _) rfl
    case s6=>have hx2:xv 2=π (some ⟨P,0,none⟩):=hd 2;have ZY:xv 5=τ true:=hd 5;clear hd;rw[hx2]at hK⊢;rw[ZY]at hK⊢;go_simp;refine(Z3 P W).mono ?_;rintro e W' ⟨rfl,rfl⟩;exact hK.out _ _ (QF _ _) trivial
   case behind =>
    intro xv W hW hx;replace QM:=JB QM hW;replace ZX:=QA (Qm ZX.out hW QO);replace HST:=QY HST hW;clear hx hW;go_wp2_with fail;refine(Q5 P z _ _ d _ HST.out.ps).mono ?_;rintro e wd ⟨v,rfl,rfl,hps,QD⟩;replace HST:=hRe HST QD hps;replace ZX:=QA (Vr ZX.out QD QO);replace QM:=JY QM QD QT;clear hps QD;unfold VK;have Tx:=QM.out.lt;go_wp2;refine Q3 [3,6] (GN 3 6 P z d r r (Vm w.heap.size gx gx Jg) (JZ w.heap.size)) P (w.heap.size) [Cd.is (σ tx),Cd.is (ξ #[ι κ nk,σ nx,σ ny,ς An mn Cn]),Cd.is (π (some ⟨P,0,none⟩)),JV,JV,JV,JV] (GN.keep (Vm.later QO) JZ.later) ?start ?steps ?behind
    case start=>intro x;exact⟨fun h=>(by cases h),fun _=>HST.out.bx,fun h=>(by cases h),fun _=>HST.out.ps.drewN 1⟩
    case steps =>
     intro xv W hW;refine⟨?s0,?s1,?s2,?s3,?s4,?s5,?s6,trivial⟩;all_goals intro dn hdi QE hcl QC hg K hK
     all_goals(try simp only[Act.put,VG,VF,VE]at hK)
     case s0|s2=>clear QC QE;go_simp;exact hK.out _ _ (QF _ _) rfl
     case s1=>clear QC QE;obtain⟨q0,q1,q2,q3⟩:=(QM.out.VV hW QT (by omega)).cells;go_simp;exact hK.out _ _ (QF _ _) rfl
     case s3=>have hx2:xv 2=π (some ⟨P,0,none⟩):=QC 2 (QE 2);clear QC QE;rw[hx2]at hK⊢;go_simp;refine c₁ (Qh (HX.out W _ (hg.2.2.2 hdi)) QR.out) fun W' QD=>?_;exact⟨rfl,Qc QL.out (QP.back HST.out.QS (hW.trans (QP.QS QD)) (QH _))⟩
     case s4=>have hx1:xv 1=ξ #[ι κ nk,σ nx,σ ny,ς An mn Cn]:=QC 1 (QE 1);have hno:False:=QC 3 (QE 3);exact hno.elim
     case s5=>have hno:False:=QC 4 (QE 4);exact hno.elim
     case s6=>have hno:False:=QC 5 (QE 5);exact hno.elim
    case behind=>intro dn xv W hW hall hx hg;exact(hx 3:False).elim
  |ok b l3 =>
   have hsp:=ZO.out;obtain⟨bk,bx,VU,bc⟩:=b;rw[hx2,Rd.bind_ok]at hsp;have QL:=QA hsp;have QR:=QA hx2;clear hsp hx2;refine c₁ (Zn HST.out.ps Ht.out) fun wt hb=>?_;replace HST:=QY HST hb;replace ZX:=QA (Qm ZX.out hb QO);replace QM:=JB QM hb;clear hb;go_wp2;clear XW;generalize wx.heap.size=gx at *;refine Qz [Cd.is (π (some ⟨P,0,none⟩)),Cd.is (π (some ⟨P,0,none⟩)),Cd.is (π (some ⟨P,0,none⟩)),Cd.is (π (some ⟨gx,0,none⟩)),Cd.is (ι κ nk),Cd.is (τ true),Cd.any] ?steps ?behind
   case steps =>
    intro xv W hW;refine⟨?s0,?s1,?s2,?s3,?s4,?s5,?s6,trivial⟩;all_goals intro hd K hK
    all_goals(try simp only[Act.put,VG,VF,VE]at hK)
    case s0|s3=>clear hd;go_simp;exact hK.out _ _ (QF _ _) rfl
    case s1=>have hx0:xv 0=π (some ⟨P,0,none⟩):=hd 0;clear hd;rw[hx0]at hK⊢;go_simp;exact hK.out _ _ (QF _ _) rfl
    case s2=>have hx1:xv 1=π (some ⟨P,0,none⟩):=hd 1;clear hd;rw[hx1]at hK⊢;go_simp;exact hK.out _ _ (QF _ _) rfl
    case s4=>have hx3:xv 3=π (some ⟨gx,0,none⟩):=hd 3;clear hd;rw[hx3]at hK⊢;obtain⟨q0,q1,q2,q3⟩:=(QM.out.later hW).cells;go_simp;exact hK.out _ _ (QF _ _) rfl
    case s5=>have ZP:xv 4=ι κ nk:=hd 4;clear hd;rw[ZP]at hK⊢;have hkk:(nk==9)=true:=Pp.out;go_simp;exact hK.out _ _ (QF _ _) rfl
    case s6=>have hx2:xv 2=π (some ⟨P,0,none⟩):=hd 2;have ZY:xv 5=τ true:=hd 5;clear hd;rw[hx2]at hK⊢;rw[ZY]at hK⊢;go_simp;refine(Z3 P W).mono ?_;rintro e W' ⟨rfl,rfl⟩;exact hK.out _ _ (QF _ _) trivial
   case behind =>
    intro xv W hW hx;replace QM:=JB QM hW;replace ZX:=QA (Qm ZX.out hW QO);replace HST:=QY HST hW;clear hx hW;go_wp2_with fail;refine(Q5 P z _ _ d _ HST.out.ps).mono ?_;rintro e wd ⟨v,rfl,rfl,hps,QD⟩;replace HST:=hRe HST QD hps;replace ZX:=QA (Vr ZX.out QD QO);replace QM:=JY QM QD QT;clear hps QD;unfold VK;have Tx:=QM.out.lt;go_wp2;refine Q3 [3,6] (GN 3 6 P z d r l3 (Vm w.heap.size gx gx (QB.node 21 tx (Qo ⟨nk,nx,ny,nc⟩ (one ⟨bk,bx,VU,bc⟩)))) (JZ w.heap.size)) P (w.heap.size) [Cd.is (σ tx),Cd.is (ξ #[ι κ nk,σ nx,σ ny,ς An mn Cn]),Cd.is (π (some ⟨P,0,none⟩)),Pz gx gx QO ⟨bk,bx,VU,bc⟩,CA gx gx QO (Qo ⟨nk,nx,ny,nc⟩ (one ⟨bk,bx,VU,bc⟩)),Pz gx gx QO (QB.node 21 tx (Qo ⟨nk,nx,ny,nc⟩ (one ⟨bk,bx,VU,bc⟩))),Cd.any] (GN.keep (Vm.later QO) JZ.later) ?start ?steps ?behind
    case start=>intro x;exact⟨fun h=>(by cases h),fun _=>HST.out.bx,fun h=>(by cases h),fun _=>HST.out.ps.drewN 1⟩
    case steps =>
     intro xv W hW;refine⟨?s0,?s1,?s2,?s3,?s4,?s5,?s6,trivial⟩;all_goals intro dn hdi QE hcl QC hg K hK
     all_goals(try simp only[Act.put,VG,VF,VE]at hK)
     case s0|s2=>clear QC QE;go_simp;exact hK.out _ _ (QF _ _) rfl
     case s1=>clear QC QE;obtain⟨q0,q1,q2,q3⟩:=(QM.out.VV hW QT (by omega)).cells;go_simp;exact hK.out _ _ (QF _ _) rfl
     case s3=>have hx2:xv 2=π (some ⟨P,0,none⟩):=QC 2 (QE 2);clear QC QE;rw[hx2]at hK⊢;go_simp;refine(Qf (HX.out W _ (hg.2.2.2 hdi)) QR.out).mono ?_;rintro e W' ⟨v,rfl,hv,hps,QD⟩;exact hK.out _ _ ⟨QP.QS QD,GN.call (by decide) hg (Q4 hcl hdi (by kernel_rfl)) (fun h=>h.QS QD YJ) hps⟩ (Jv hv (by have hh:=HST.out.size;have hw:=hW.size;have hq0:=QM.out.lt;omega) (by have hh:=HST.out.size;have hw:=hW.size;have hq0:=QM.out.lt;omega) (by have hh:=HST.out.size;have hw:=hW.size;have hq0:=QM.out.lt;omega))
     case s4=>have hx1:xv 1=ξ #[ι κ nk,σ nx,σ ny,ς An mn Cn]:=QC 1 (QE 1);obtain⟨A3,C3,hx3,hf3⟩:UF (w.heap.size+1) gx gx ⟨bk,bx,VU,bc⟩ (xv 3) W:=QC 3 (QE 3);clear QC QE;rw[hx3]at hK⊢;rw[hx1]at hK⊢;go_simp;exact hK.out _ _ ((QF _ _).alloc (QH _) _) (NS W (w.heap.size+1) gx gx P (by have hh:=HST.out.size;have hw:=hW.size;have hq0:=QM.out.lt;omega) (by have hh:=HST.out.size;have hw:=hW.size;have hq0:=QM.out.lt;omega) (by have hh:=HST.out.size;have hw:=hW.size;have hq0:=QM.out.lt;omega) QO nk nx ny nc _ (Sj ZX.out hW QO) bk bx VU bc _ hf3)
     case s5=>have hx0:xv 0=σ tx:=QC 0 (QE 0);obtain⟨A4,C4,ZP,LY⟩:Yg (w.heap.size+1) gx gx (Qo ⟨nk,nx,ny,nc⟩ (one ⟨bk,bx,VU,bc⟩)) (xv 4) W:=QC 4 (QE 4);clear QC QE;rw[ZP]at hK⊢;rw[hx0]at hK⊢;go_simp;refine c₁ (Qu _ _ _ _ _ W) fun W' hb=>?_;exact hK.out _ _ hb ⟨A4,C4,rfl,Qm LY hb QO⟩
     case s6=>obtain⟨A5,C5,ZY,UC⟩:UF (w.heap.size+1) gx gx (QB.node 21 tx (Qo ⟨nk,nx,ny,nc⟩ (one ⟨bk,bx,VU,bc⟩))) (xv 5) W:=QC 5 (QE 5);rw[ZY]at hK⊢;have hds:dn 3=true:=QE 3;have QZ:=hg.2.1 hdi;obtain⟨b0,b1,b2,b3,VO⟩:=id QZ;obtain⟨g0,g1,g2,g3⟩:=VO.VD;obtain⟨y0,y1,y2,y3⟩:=VO.cells;simp only[QB.node]at UC hK⊢;go_simp;exact hK.out undef _ ⟨QP.ZT _ _ _ _ _,GN.store (by decide) (hds) (X0 VO rfl UC) (Va (hg.2.2.1 hds) (by omega) _ _ _ _)⟩ trivial
    case behind=>intro dn xv W hW hall hx hg;have hF:=hg.1 (hall 6);have hps:=hg.2.2.1 (hall 3);have ZW:=QP.back HST.out.QS hW (QH _);obtain⟨A,C,QZ,hpost⟩:=Ym (w:=w) QL.out hF hps ZW;have EE:=QA hpost;have JO:=QA QZ;clear hx hF hps ZW hpost hg hall hW QZ;go_wp2;refine bodyPost_ret (results_cell_row rfl _ _ w.heap.size 24 _ (0,0) _ rfl JO.out underlying24 rfl Q8) rfl ?_;exact EE.out
theorem Qrh{tk:Int}{tx:ByteArray}{tp:Nat}{tf:Bool}(h:Xg ⟨tk,tx,tp,tf⟩=true):((tx.toList==[61])=true)∨((tx.toList==[61])=false∧(tx.toList==[43,61])=true)∨((tx.toList==[61])=false∧(tx.toList==[43,61])=false∧(tx.toList==[45,61])=true)∨((tx.toList==[61])=false∧(tx.toList==[43,61])=false∧(tx.toList==[45,61])=false∧(tx.toList==[42,61])=true)∨((tx.toList==[61])=false∧(tx.toList==[43,61])=false∧(tx.toList==[45,61])=false∧(tx.toList==[42,61])=false∧(tx.toList==[47,61])=true)∨((tx.toList==[61])=false∧(tx.toList==[43,61])=false∧(tx.toList==[45,61])=false∧(tx.toList==[42,61])=false∧(tx.toList==[47,61])=false∧(tx.toList==[37,61])=true):=by
 unfold Xg QQ at h;simp only at h;cases b1:(tx.toList==[61]) <;> cases b2:(tx.toList==[43,61]) <;> cases b3:(tx.toList==[45,61]) <;> cases b4:(tx.toList==[42,61]) <;> cases b5:(tx.toList==[47,61]) <;> cases b6:(tx.toList==[37,61]) <;> simp[b1,b2,b3,b4,b5,b6]at h⊢
theorem lS{tk:Int}{tx:ByteArray}{tp:Nat}{tf:Bool}(h:¬Xg ⟨tk,tx,tp,tf⟩=true):(tx.toList==[61])=false∧(tx.toList==[43,61])=false∧(tx.toList==[45,61])=false∧(tx.toList==[42,61])=false∧(tx.toList==[47,61])=false∧(tx.toList==[37,61])=false:=by
 unfold Xg QQ at h;simp only at h;cases b1:(tx.toList==[61]) <;> cases b2:(tx.toList==[43,61]) <;> cases b3:(tx.toList==[45,61]) <;> cases b4:(tx.toList==[42,61]) <;> cases b5:(tx.toList==[47,61]) <;> cases b6:(tx.toList==[37,61]) <;> simp[b1,b2,b3,b4,b5,b6]at h⊢
theorem Qqw{tk:Int}{tx:ByteArray}{tp:Nat}{tf:Bool}(h:Yf ⟨tk,tx,tp,tf⟩=true):((tx.toList==[43,43])=true)∨((tx.toList==[43,43])=false∧(tx.toList==[45,45])=true):=by
 unfold Yf QQ at h;simp only at h;cases b1:(tx.toList==[43,43]) <;> cases b2:(tx.toList==[45,45]) <;> simp[b1,b2]at h⊢
theorem Q1t{tk:Int}{tx:ByteArray}{tp:Nat}{tf:Bool}(h:¬Yf ⟨tk,tx,tp,tf⟩=true):(tx.toList==[43,43])=false∧(tx.toList==[45,45])=false:=by
 unfold Yf QQ at h;simp only at h;cases b1:(tx.toList==[43,43]) <;> cases b2:(tx.toList==[45,45]) <;> simp[b1,b2]at h⊢
theorem sF{z:Nat}{l:List Tk}{t:Tk}(h:QB.hd z l=t)(ha:Xg t=true∨Yf t=true):∃t' r,l=t'::r:=by
 cases l with
 |nil =>
  subst h;exfalso
  revert ha
  simp[QB.hd,Xg,Yf,QQ,e0]
 |cons t r=>exact⟨t,r,rfl⟩
theorem Qmp(P z:Nat)(l:List Tk)(d:Nat)(w:World)(h:PS w P z l d)(hd:d≤300)(nk:Int)(nx ny:ByteArray)(nc:F)(l1:List Tk)(hx:XH z d l=.ok ⟨nk,nx,ny,nc⟩ l1)(tk:Int)(tx:ByteArray)(tp:Nat)(tf:Bool)(ht:QB.hd z l1=⟨tk,tx,tp,tf⟩)(hb0:(tx.toList==[58,61])=false)(hb:Xg ⟨tk,tx,tp,tf⟩=true) :
  Calls prog 118 #[π (some ⟨P,0,none⟩)] w (Qn NV w P z d (Zl z d l)):=by
 have hlt:=h.lt;have HST:=QA (XJ.start h);have hsp:Zl z d l=Zl z d l:=rfl;conv at hsp=>rhs;unfold Zl
 have QO:P<w.heap.size+1:=by omega
 have YJ:w.heap.size≠P:=by omega
 have HX:Hid (∀W l',PS W P z l' d→Calls prog 71 #[π (some ⟨P,0,none⟩)] W (Qn NV W P z d (XH z d l'))):=fun W l' hW=>NP P z (l'.length+1) W d l' (JW _) hd hW
 clear h;rw[hx,Rd.bind_ok,ht]at hsp;have XW:=RH tk tx tp tf;have JX:=QA hx;have Ht:=QA ht;clear hx ht;rw[if_neg (V3 hb0),if_pos hb]at hsp;have HB:=QA hb;rcases Qrh hb with b1|⟨b1,b2⟩|⟨b1,b2,b3⟩|⟨b1,b2,b3,b4⟩|⟨b1,b2,b3,b4,b5⟩|⟨b1,b2,b3,b4,b5,b6⟩
 all_goals
  obtain⟨t',r,rfl⟩:=sF Ht.out (.inl HB.out);obtain rfl:t'=⟨tk,tx,tp,tf⟩:=Ht.out;clear hb;obtain⟨kb,hkb⟩:=Mem.ZB (LB ⟨nk,nx,ny,nc⟩);rw[hkb]at hsp;have Pp:=QA hkb;clear hkb;cases kb with
  |false =>
   rw[Gz rfl,Rd.QG]at hsp;have QL:=QA hsp;clear hsp;go_enter func118,ntmps118;go_wp2_with fail;refine(Qf (HX.out _ _ HST.out.ps) JX.out).mono ?_;rintro e wx ⟨v,rfl,⟨An,Cn,rfl,hf⟩,hps,QD⟩;have hf':=Q7 (B0':=w.heap.size+1) hf HST.out.size (QH _);replace HST:=hRe HST QD hps;simp only at hf'⊢;generalize hm:nc.len=mn at hf'⊢;have Ri:=QA hm;have VN:=(QF wx.heap.size wx).alloc (QH _) (θ #[ι κ nk,σ nx,σ ny,ς An mn Cn] 24);have QM:=QA (Qv wx 24 (ι κ nk) (σ nx) (σ ny) (ς An mn Cn));have QT:wx.heap.size≠P:=by have:=HST.out.size;omega
   have DR:=HST.out.size;have ZX:=QA (Xv (B0:=w.heap.size+1) (g:=wx.heap.size) (g':=wx.heap.size) (Zc hf' VN (QH _)) (QH _) (.inr (QH _)) (.inr (QH _)) VN.size);replace HST:=QY HST VN;clear hf hf' hps QD hm VN JX;go_wp2_with fail;refine c₁ (Zn HST.out.ps Ht.out) fun wt hb=>?_;replace HST:=QY HST hb;replace ZX:=QA (Qm ZX.out hb QO);replace QM:=JB QM hb;clear hb;go_wp2;clear XW;generalize wx.heap.size=gx at *;refine Qz [Cd.is (π (some ⟨P,0,none⟩)),Cd.is (π (some ⟨P,0,none⟩)),Cd.is (π (some ⟨P,0,none⟩)),Cd.is (ξ #[ι κ nk,σ nx,σ ny,ς An mn Cn]),Cd.is (τ false),⟨fun _ _=>False,fun _ _ _ _ h=>h⟩] ?steps ?behind
   case steps =>
    intro xv W hW;refine⟨?s0,?s1,?s2,?s3,?s4,?s5,trivial⟩;all_goals intro hd K hK
    all_goals(try simp only[Act.put,VG,VF,VE]at hK)
    case s0=>clear hd;go_simp;exact hK.out _ _ (QF _ _) rfl
    case s1=>have hx0:xv 0=π (some ⟨P,0,none⟩):=hd 0;clear hd;rw[hx0]at hK⊢;go_simp;exact hK.out _ _ (QF _ _) rfl
    case s2=>have hx1:xv 1=π (some ⟨P,0,none⟩):=hd 1;clear hd;rw[hx1]at hK⊢;go_simp;exact hK.out _ _ (QF _ _) rfl
    case s3=>clear hd;obtain⟨q0,q1,q2,q3⟩:=(QM.out.later hW).cells;go_simp;exact hK.out _ _ (QF _ _) rfl
    case s4=>have hx3:xv 3=ξ #[ι κ nk,σ nx,σ ny,ς An mn Cn]:=hd 3;clear hd;rw[hx3]at hK⊢;go_simp;refine c₁ (AO nk nx ny nc An mn Cn W) fun W' hb=>?_;exact hK.out _ _ hb (by rw[Pp.out];rfl)
    case s5=>have hx2:xv 2=π (some ⟨P,0,none⟩):=hd 2;have ZP:xv 4=τ false:=hd 4;clear hd;rw[hx2]at hK⊢;rw[ZP]at hK⊢;go_simp;refine c₁ (K2 P z _ d W (HST.out.ps.later hW)) fun W' hb=>?_;have XZ:=QA (HST.out.QS.ZN (hW.trans (hb.mono hW.size)));rw[Ht.out];exact⟨rfl,Qc QL.out XZ.out⟩
   case behind=>intro xv W hW hx;exact(hx 5:False).elim
  |true =>
   rw[Ux rfl,Rd.bind_ok,List.tail_cons]at hsp;cases hx2:XH z d r with
   |bad p er =>
    rw[hx2,Rd.QG]at hsp;have QL:=QA hsp;have QR:=QA hx2;clear hsp hx2;go_enter func118,ntmps118;go_wp2_with fail;refine(Qf (HX.out _ _ HST.out.ps) JX.out).mono ?_;rintro e wx ⟨v,rfl,⟨An,Cn,rfl,hf⟩,hps,QD⟩;have hf':=Q7 (B0':=w.heap.size+1) hf HST.out.size (QH _);replace HST:=hRe HST QD hps;simp only at hf'⊢;generalize hm:nc.len=mn at hf'⊢;have Ri:=QA hm;have VN:=(QF wx.heap.size wx).alloc (QH _) (θ #[ι κ nk,σ nx,σ ny,ς An mn Cn] 24);have QM:=QA (Qv wx 24 (ι κ nk) (σ nx) (σ ny) (ς An mn Cn));have QT:wx.heap.size≠P:=by have:=HST.out.size;omega
    have DR:=HST.out.size;have ZX:=QA (Xv (B0:=w.heap.size+1) (g:=wx.heap.size) (g':=wx.heap.size) (Zc hf' VN (QH _)) (QH _) (.inr (QH _)) (.inr (QH _)) VN.size);replace HST:=QY HST VN;clear hf hf' hps QD hm VN JX;go_wp2_with fail;refine c₁ (Zn HST.out.ps Ht.out) fun wt hb=>?_;replace HST:=QY HST hb;replace ZX:=QA (Qm ZX.out hb QO);replace QM:=JB QM hb;clear hb;go_wp2;clear XW;generalize wx.heap.size=gx at *;refine Qz [Cd.is (π (some ⟨P,0,none⟩)),Cd.is (π (some ⟨P,0,none⟩)),Cd.is (π (some ⟨P,0,none⟩)),Cd.is (ξ #[ι κ nk,σ nx,σ ny,ς An mn Cn]),Cd.is (τ true),Cd.any] ?steps ?behind
    case steps =>
     intro xv W hW;refine⟨?s0,?s1,?s2,?s3,?s4,?s5,trivial⟩;all_goals intro hd K hK
     all_goals(try simp only[Act.put,VG,VF,VE]at hK)
     case s0=>clear hd;go_simp;exact hK.out _ _ (QF _ _) rfl
     case s1=>have hx0:xv 0=π (some ⟨P,0,none⟩):=hd 0;clear hd;rw[hx0]at hK⊢;go_simp;exact hK.out _ _ (QF _ _) rfl
     case s2=>have hx1:xv 1=π (some ⟨P,0,none⟩):=hd 1;clear hd;rw[hx1]at hK⊢;go_simp;exact hK.out _ _ (QF _ _) rfl
     case s3=>clear hd;obtain⟨q0,q1,q2,q3⟩:=(QM.out.later hW).cells;go_simp;exact hK.out _ _ (QF _ _) rfl
     case s4=>have hx3:xv 3=ξ #[ι κ nk,σ nx,σ ny,ς An mn Cn]:=hd 3;clear hd;rw[hx3]at hK⊢;go_simp;refine c₁ (AO nk nx ny nc An mn Cn W) fun W' hb=>?_;exact hK.out _ _ hb (by rw[Pp.out];rfl)
     case s5=>have hx2:xv 2=π (some ⟨P,0,none⟩):=hd 2;have ZP:xv 4=τ true:=hd 4;clear hd;rw[hx2]at hK⊢;rw[ZP]at hK⊢;go_simp;refine(Z3 P W).mono ?_;rintro e W' ⟨rfl,rfl⟩;exact hK.out _ _ (QF _ _) trivial
    case behind =>
     intro xv W hW hx;replace QM:=JB QM hW;replace ZX:=QA (Qm ZX.out hW QO);replace HST:=QY HST hW;clear hx hW;go_wp2_with fail;refine(Q5 P z _ _ d _ HST.out.ps).mono ?_;rintro e wd ⟨v,rfl,rfl,hps,QD⟩;replace HST:=hRe HST QD hps;replace ZX:=QA (Vr ZX.out QD QO);replace QM:=JY QM QD QT;clear hps QD;unfold VK;have Tx:=QM.out.lt;go_wp2;refine Q3 [3,6] (GN 3 6 P z d r r (Vm w.heap.size gx gx Jg) (JZ w.heap.size)) P (w.heap.size) [Cd.is (σ tx),Cd.is (ξ #[ι κ nk,σ nx,σ ny,ς An mn Cn]),Cd.is (π (some ⟨P,0,none⟩)),JV,JV,JV,JV] (GN.keep (Vm.later QO) JZ.later) ?start ?steps ?behind
     case start=>intro x;exact⟨fun h=>(by cases h),fun _=>HST.out.bx,fun h=>(by cases h),fun _=>HST.out.ps.drewN 1⟩
     case steps =>
      intro xv W hW;refine⟨?s0,?s1,?s2,?s3,?s4,?s5,?s6,trivial⟩;all_goals intro dn hdi QE hcl QC hg K hK
      all_goals(try simp only[Act.put,VG,VF,VE]at hK)
      case s0|s2=>clear QC QE;go_simp;exact hK.out _ _ (QF _ _) rfl
      case s1=>clear QC QE;obtain⟨q0,q1,q2,q3⟩:=(QM.out.VV hW QT (by omega)).cells;go_simp;exact hK.out _ _ (QF _ _) rfl
      case s3=>have hx2:xv 2=π (some ⟨P,0,none⟩):=QC 2 (QE 2);clear QC QE;rw[hx2]at hK⊢;go_simp;refine c₁ (Qh (HX.out W _ (hg.2.2.2 hdi)) QR.out) fun W' QD=>?_;exact⟨rfl,Qc QL.out (QP.back HST.out.QS (hW.trans (QP.QS QD)) (QH _))⟩
      case s4=>have hx1:xv 1=ξ #[ι κ nk,σ nx,σ ny,ς An mn Cn]:=QC 1 (QE 1);have hno:False:=QC 3 (QE 3);exact hno.elim
      case s5=>have hno:False:=QC 4 (QE 4);exact hno.elim
      case s6=>have hno:False:=QC 5 (QE 5);exact hno.elim
     case behind=>intro dn xv W hW hall hx hg;exact(hx 3:False).elim
   |ok b l3 =>
    obtain⟨bk,bx,VU,bc⟩:=b;rw[hx2,Rd.bind_ok]at hsp;have QL:=QA hsp;have QR:=QA hx2;clear hsp hx2;go_enter func118,ntmps118;go_wp2_with fail;refine(Qf (HX.out _ _ HST.out.ps) JX.out).mono ?_;rintro e wx ⟨v,rfl,⟨An,Cn,rfl,hf⟩,hps,QD⟩;have hf':=Q7 (B0':=w.heap.size+1) hf HST.out.size (QH _);replace HST:=hRe HST QD hps;simp only at hf'⊢;generalize hm:nc.len=mn at hf'⊢;have Ri:=QA hm;have VN:=(QF wx.heap.size wx).alloc (QH _) (θ #[ι κ nk,σ nx,σ ny,ς An mn Cn] 24);have QM:=QA (Qv wx 24 (ι κ nk) (σ nx) (σ ny) (ς An mn Cn));have QT:wx.heap.size≠P:=by have:=HST.out.size;omega
    have DR:=HST.out.size;have ZX:=QA (Xv (B0:=w.heap.size+1) (g:=wx.heap.size) (g':=wx.heap.size) (Zc hf' VN (QH _)) (QH _) (.inr (QH _)) (.inr (QH _)) VN.size);replace HST:=QY HST VN;clear hf hf' hps QD hm VN JX;go_wp2_with fail;refine c₁ (Zn HST.out.ps Ht.out) fun wt hb=>?_;replace HST:=QY HST hb;replace ZX:=QA (Qm ZX.out hb QO);replace QM:=JB QM hb;clear hb;go_wp2;clear XW;generalize wx.heap.size=gx at *;refine Qz [Cd.is (π (some ⟨P,0,none⟩)),Cd.is (π (some ⟨P,0,none⟩)),Cd.is (π (some ⟨P,0,none⟩)),Cd.is (ξ #[ι κ nk,σ nx,σ ny,ς An mn Cn]),Cd.is (τ true),Cd.any] ?steps ?behind
    case steps =>
     intro xv W hW;refine⟨?s0,?s1,?s2,?s3,?s4,?s5,trivial⟩;all_goals intro hd K hK
     all_goals(try simp only[Act.put,VG,VF,VE]at hK)
     case s0=>clear hd;go_simp;exact hK.out _ _ (QF _ _) rfl
     case s1=>have hx0:xv 0=π (some ⟨P,0,none⟩):=hd 0;clear hd;rw[hx0]at hK⊢;go_simp;exact hK.out _ _ (QF _ _) rfl
     case s2=>have hx1:xv 1=π (some ⟨P,0,none⟩):=hd 1;clear hd;rw[hx1]at hK⊢;go_simp;exact hK.out _ _ (QF _ _) rfl
     case s3=>clear hd;obtain⟨q0,q1,q2,q3⟩:=(QM.out.later hW).cells;go_simp;exact hK.out _ _ (QF _ _) rfl
     case s4=>have hx3:xv 3=ξ #[ι κ nk,σ nx,σ ny,ς An mn Cn]:=hd 3;clear hd;rw[hx3]at hK⊢;go_simp;refine c₁ (AO nk nx ny nc An mn Cn W) fun W' hb=>?_;exact hK.out _ _ hb (by rw[Pp.out];rfl)
     case s5=>have hx2:xv 2=π (some ⟨P,0,none⟩):=hd 2;have ZP:xv 4=τ true:=hd 4;clear hd;rw[hx2]at hK⊢;rw[ZP]at hK⊢;go_simp;refine(Z3 P W).mono ?_;rintro e W' ⟨rfl,rfl⟩;exact hK.out _ _ (QF _ _) trivial
    case behind =>
     intro xv W hW hx;replace QM:=JB QM hW;replace ZX:=QA (Qm ZX.out hW QO);replace HST:=QY HST hW;clear hx hW;go_wp2_with fail;refine(Q5 P z _ _ d _ HST.out.ps).mono ?_;rintro e wd ⟨v,rfl,rfl,hps,QD⟩;replace HST:=hRe HST QD hps;replace ZX:=QA (Vr ZX.out QD QO);replace QM:=JY QM QD QT;clear hps QD;unfold VK;have Tx:=QM.out.lt;go_wp2;refine Q3 [3,6] (GN 3 6 P z d r l3 (Vm w.heap.size gx gx (QB.node 21 tx (Qo ⟨nk,nx,ny,nc⟩ (one ⟨bk,bx,VU,bc⟩)))) (JZ w.heap.size)) P (w.heap.size) [Cd.is (σ tx),Cd.is (ξ #[ι κ nk,σ nx,σ ny,ς An mn Cn]),Cd.is (π (some ⟨P,0,none⟩)),Pz gx gx QO ⟨bk,bx,VU,bc⟩,CA gx gx QO (Qo ⟨nk,nx,ny,nc⟩ (one ⟨bk,bx,VU,bc⟩)),Pz gx gx QO (QB.node 21 tx (Qo ⟨nk,nx,ny,nc⟩ (one ⟨bk,bx,VU,bc⟩))),Cd.any] (GN.keep (Vm.later QO) JZ.later) ?start ?steps ?behind
     case start=>intro x;exact⟨fun h=>(by cases h),fun _=>HST.out.bx,fun h=>(by cases h),fun _=>HST.out.ps.drewN 1⟩
     case steps =>
      intro xv W hW;refine⟨?s0,?s1,?s2,?s3,?s4,?s5,?s6,trivial⟩;all_goals intro dn hdi QE hcl QC hg K hK
      all_goals(try simp only[Act.put,VG,VF,VE]at hK)
      case s0|s2=>clear QC QE;go_simp;exact hK.out _ _ (QF _ _) rfl
      case s1=>clear QC QE;obtain⟨q0,q1,q2,q3⟩:=(QM.out.VV hW QT (by omega)).cells;go_simp;exact hK.out _ _ (QF _ _) rfl
      case s3=>have hx2:xv 2=π (some ⟨P,0,none⟩):=QC 2 (QE 2);clear QC QE;rw[hx2]at hK⊢;go_simp;refine(Qf (HX.out W _ (hg.2.2.2 hdi)) QR.out).mono ?_;rintro e W' ⟨v,rfl,hv,hps,QD⟩;exact hK.out _ _ ⟨QP.QS QD,GN.call (by decide) hg (Q4 hcl hdi (by kernel_rfl)) (fun h=>h.QS QD YJ) hps⟩ (Jv hv (by have hh:=HST.out.size;have hw:=hW.size;have hq0:=QM.out.lt;omega) (by have hh:=HST.out.size;have hw:=hW.size;have hq0:=QM.out.lt;omega) (by have hh:=HST.out.size;have hw:=hW.size;have hq0:=QM.out.lt;omega))
      case s4=>have hx1:xv 1=ξ #[ι κ nk,σ nx,σ ny,ς An mn Cn]:=QC 1 (QE 1);obtain⟨A3,C3,hx3,hf3⟩:UF (w.heap.size+1) gx gx ⟨bk,bx,VU,bc⟩ (xv 3) W:=QC 3 (QE 3);clear QC QE;rw[hx3]at hK⊢;rw[hx1]at hK⊢;go_simp;exact hK.out _ _ ((QF _ _).alloc (QH _) _) (NS W (w.heap.size+1) gx gx P (by have hh:=HST.out.size;have hw:=hW.size;have hq0:=QM.out.lt;omega) (by have hh:=HST.out.size;have hw:=hW.size;have hq0:=QM.out.lt;omega) (by have hh:=HST.out.size;have hw:=hW.size;have hq0:=QM.out.lt;omega) QO nk nx ny nc _ (Sj ZX.out hW QO) bk bx VU bc _ hf3)
      case s5=>have hx0:xv 0=σ tx:=QC 0 (QE 0);obtain⟨A4,C4,ZP,LY⟩:Yg (w.heap.size+1) gx gx (Qo ⟨nk,nx,ny,nc⟩ (one ⟨bk,bx,VU,bc⟩)) (xv 4) W:=QC 4 (QE 4);clear QC QE;rw[ZP]at hK⊢;rw[hx0]at hK⊢;go_simp;refine c₁ (Qu _ _ _ _ _ W) fun W' hb=>?_;exact hK.out _ _ hb ⟨A4,C4,rfl,Qm LY hb QO⟩
      case s6=>obtain⟨A5,C5,ZY,UC⟩:UF (w.heap.size+1) gx gx (QB.node 21 tx (Qo ⟨nk,nx,ny,nc⟩ (one ⟨bk,bx,VU,bc⟩))) (xv 5) W:=QC 5 (QE 5);rw[ZY]at hK⊢;have hds:dn 3=true:=QE 3;have QZ:=hg.2.1 hdi;obtain⟨b0,b1,b2,b3,VO⟩:=id QZ;obtain⟨g0,g1,g2,g3⟩:=VO.VD;obtain⟨y0,y1,y2,y3⟩:=VO.cells;simp only[QB.node]at UC hK⊢;go_simp;exact hK.out undef _ ⟨QP.ZT _ _ _ _ _,GN.store (by decide) (hds) (X0 VO rfl UC) (Va (hg.2.2.1 hds) (by omega) _ _ _ _)⟩ trivial
     case behind=>intro dn xv W hW hall hx hg;have hF:=hg.1 (hall 6);have hps:=hg.2.2.1 (hall 3);have ZW:=QP.back HST.out.QS hW (QH _);obtain⟨A,C,QZ,hpost⟩:=Ym (w:=w) QL.out hF hps ZW;have EE:=QA hpost;have JO:=QA QZ;clear hx hF hps ZW hpost hg hall hW QZ;go_wp2;refine bodyPost_ret (results_cell_row rfl _ _ w.heap.size 24 _ (0,0) _ rfl JO.out underlying24 rfl Q8) rfl ?_;exact EE.out
theorem Qmm(P z:Nat)(l:List Tk)(d:Nat)(w:World)(h:PS w P z l d)(hd:d≤300)(nk:Int)(nx ny:ByteArray)(nc:F)(l1:List Tk)(hx:XH z d l=.ok ⟨nk,nx,ny,nc⟩ l1)(tk:Int)(tx:ByteArray)(tp:Nat)(tf:Bool)(ht:QB.hd z l1=⟨tk,tx,tp,tf⟩)(hb0:(tx.toList==[58,61])=false)(hb:¬Xg ⟨tk,tx,tp,tf⟩=true)(hi:Yf ⟨tk,tx,tp,tf⟩=true) :
  Calls prog 118 #[π (some ⟨P,0,none⟩)] w (Qn NV w P z d (Zl z d l)):=by
 have hlt:=h.lt;have HST:=QA (XJ.start h);have hsp:Zl z d l=Zl z d l:=rfl;conv at hsp=>rhs;unfold Zl
 have QO:P<w.heap.size+1:=by omega
 have YJ:w.heap.size≠P:=by omega
 have HX:Hid (∀W l',PS W P z l' d→Calls prog 71 #[π (some ⟨P,0,none⟩)] W (Qn NV W P z d (XH z d l'))):=fun W l' hW=>NP P z (l'.length+1) W d l' (JW _) hd hW
 clear h;rw[hx,Rd.bind_ok,ht]at hsp;have XW:=RH tk tx tp tf;have JX:=QA hx;have Ht:=QA ht;clear hx ht;rw[if_neg (V3 hb0),if_neg hb,if_pos hi]at hsp;obtain⟨b1,b2,b3,b4,b5,b6⟩:=lS hb;have HI:=QA hi;rcases Qqw hi with b7|⟨b7,b8⟩
 all_goals
  obtain⟨t',r,rfl⟩:=sF Ht.out (.inr HI.out);obtain rfl:t'=⟨tk,tx,tp,tf⟩:=Ht.out;clear hb hi;obtain⟨kb,hkb⟩:=Mem.ZB (LB ⟨nk,nx,ny,nc⟩);rw[hkb]at hsp;have Pp:=QA hkb;clear hkb;cases kb with
  |false =>
   rw[Gz rfl,Rd.QG]at hsp;have QL:=QA hsp;clear hsp;go_enter func118,ntmps118;go_wp2_with fail;refine(Qf (HX.out _ _ HST.out.ps) JX.out).mono ?_;rintro e wx ⟨v,rfl,⟨An,Cn,rfl,hf⟩,hps,QD⟩;have hf':=Q7 (B0':=w.heap.size+1) hf HST.out.size (QH _);replace HST:=hRe HST QD hps;simp only at hf'⊢;generalize hm:nc.len=mn at hf'⊢;have Ri:=QA hm;have VN:=(QF wx.heap.size wx).alloc (QH _) (θ #[ι κ nk,σ nx,σ ny,ς An mn Cn] 24);have QM:=QA (Qv wx 24 (ι κ nk) (σ nx) (σ ny) (ς An mn Cn));have QT:wx.heap.size≠P:=by have:=HST.out.size;omega
   have DR:=HST.out.size;have ZX:=QA (Xv (B0:=w.heap.size+1) (g:=wx.heap.size) (g':=wx.heap.size) (Zc hf' VN (QH _)) (QH _) (.inr (QH _)) (.inr (QH _)) VN.size);replace HST:=QY HST VN;clear hf hf' hps QD hm VN JX;go_wp2_with fail;refine c₁ (Zn HST.out.ps Ht.out) fun wt hb=>?_;replace HST:=QY HST hb;replace ZX:=QA (Qm ZX.out hb QO);replace QM:=JB QM hb;clear hb;go_wp2;clear XW;generalize wx.heap.size=gx at *;refine Qz [Cd.is (π (some ⟨P,0,none⟩)),Cd.is (π (some ⟨P,0,none⟩)),Cd.is (π (some ⟨P,0,none⟩)),Cd.is (ξ #[ι κ nk,σ nx,σ ny,ς An mn Cn]),Cd.is (τ false),⟨fun _ _=>False,fun _ _ _ _ h=>h⟩] ?steps ?behind
   case steps =>
    intro xv W hW;refine⟨?s0,?s1,?s2,?s3,?s4,?s5,trivial⟩;all_goals intro hd K hK
    all_goals(try simp only[Act.put,VG,VF,VE]at hK)
    case s0=>clear hd;go_simp;exact hK.out _ _ (QF _ _) rfl
    case s1=>have hx0:xv 0=π (some ⟨P,0,none⟩):=hd 0;clear hd;rw[hx0]at hK⊢;go_simp;exact hK.out _ _ (QF _ _) rfl
    case s2=>have hx1:xv 1=π (some ⟨P,0,none⟩):=hd 1;clear hd;rw[hx1]at hK⊢;go_simp;exact hK.out _ _ (QF _ _) rfl
    case s3=>clear hd;obtain⟨q0,q1,q2,q3⟩:=(QM.out.later hW).cells;go_simp;exact hK.out _ _ (QF _ _) rfl
    case s4=>have hx3:xv 3=ξ #[ι κ nk,σ nx,σ ny,ς An mn Cn]:=hd 3;clear hd;rw[hx3]at hK⊢;go_simp;refine c₁ (AO nk nx ny nc An mn Cn W) fun W' hb=>?_;exact hK.out _ _ hb (by rw[Pp.out];rfl)
    case s5=>have hx2:xv 2=π (some ⟨P,0,none⟩):=hd 2;have ZP:xv 4=τ false:=hd 4;clear hd;rw[hx2]at hK⊢;rw[ZP]at hK⊢;go_simp;refine c₁ (K2 P z _ d W (HST.out.ps.later hW)) fun W' hb=>?_;have XZ:=QA (HST.out.QS.ZN (hW.trans (hb.mono hW.size)));rw[Ht.out];exact⟨rfl,Qc QL.out XZ.out⟩
   case behind=>intro xv W hW hx;exact(hx 5:False).elim
  |true =>
   rw[Ux rfl,Rd.bind_ok,List.tail_cons]at hsp;have QL:=QA hsp;clear hsp;go_enter func118,ntmps118;go_wp2_with fail;refine(Qf (HX.out _ _ HST.out.ps) JX.out).mono ?_;rintro e wx ⟨v,rfl,⟨An,Cn,rfl,hf⟩,hps,QD⟩;have hf':=Q7 (B0':=w.heap.size+1) hf HST.out.size (QH _);replace HST:=hRe HST QD hps;simp only at hf'⊢;generalize hm:nc.len=mn at hf'⊢;have Ri:=QA hm;have VN:=(QF wx.heap.size wx).alloc (QH _) (θ #[ι κ nk,σ nx,σ ny,ς An mn Cn] 24);have QM:=QA (Qv wx 24 (ι κ nk) (σ nx) (σ ny) (ς An mn Cn));have QT:wx.heap.size≠P:=by have:=HST.out.size;omega
   have DR:=HST.out.size;have ZX:=QA (Xv (B0:=w.heap.size+1) (g:=wx.heap.size) (g':=wx.heap.size) (Zc hf' VN (QH _)) (QH _) (.inr (QH _)) (.inr (QH _)) VN.size);replace HST:=QY HST VN;clear hf hf' hps QD hm VN JX;go_wp2_with fail;refine c₁ (Zn HST.out.ps Ht.out) fun wt hb=>?_;replace HST:=QY HST hb;replace ZX:=QA (Qm ZX.out hb QO);replace QM:=JB QM hb;clear hb;go_wp2;clear XW;generalize wx.heap.size=gx at *;refine Qz [Cd.is (π (some ⟨P,0,none⟩)),Cd.is (π (some ⟨P,0,none⟩)),Cd.is (π (some ⟨P,0,none⟩)),Cd.is (ξ #[ι κ nk,σ nx,σ ny,ς An mn Cn]),Cd.is (τ true),Cd.any] ?steps ?behind
   case steps =>
    intro xv W hW;refine⟨?s0,?s1,?s2,?s3,?s4,?s5,trivial⟩;all_goals intro hd K hK
    all_goals(try simp only[Act.put,VG,VF,VE]at hK)
    case s0=>clear hd;go_simp;exact hK.out _ _ (QF _ _) rfl
    case s1=>have hx0:xv 0=π (some ⟨P,0,none⟩):=hd 0;clear hd;rw[hx0]at hK⊢;go_simp;exact hK.out _ _ (QF _ _) rfl
    case s2=>have hx1:xv 1=π (some ⟨P,0,none⟩):=hd 1;clear hd;rw[hx1]at hK⊢;go_simp;exact hK.out _ _ (QF _ _) rfl
    case s3=>clear hd;obtain⟨q0,q1,q2,q3⟩:=(QM.out.later hW).cells;go_simp;exact hK.out _ _ (QF _ _) rfl
    case s4=>have hx3:xv 3=ξ #[ι κ nk,σ nx,σ ny,ς An mn Cn]:=hd 3;clear hd;rw[hx3]at hK⊢;go_simp;refine c₁ (AO nk nx ny nc An mn Cn W) fun W' hb=>?_;exact hK.out _ _ hb (by rw[Pp.out];rfl)
    case s5=>have hx2:xv 2=π (some ⟨P,0,none⟩):=hd 2;have ZP:xv 4=τ true:=hd 4;clear hd;rw[hx2]at hK⊢;rw[ZP]at hK⊢;go_simp;refine(Z3 P W).mono ?_;rintro e W' ⟨rfl,rfl⟩;exact hK.out _ _ (QF _ _) trivial
   case behind =>
    intro xv W hW hx;replace QM:=JB QM hW;replace ZX:=QA (Qm ZX.out hW QO);replace HST:=QY HST hW;clear hx hW;go_wp2_with fail;refine(Q5 P z _ _ d _ HST.out.ps).mono ?_;rintro e wd ⟨v,rfl,rfl,hps,QD⟩;replace HST:=hRe HST QD hps;replace ZX:=QA (Vr ZX.out QD QO);replace QM:=JY QM QD QT;clear hps QD;unfold VK;obtain⟨a0,a1,a2,a3⟩:=QM.out.cells;have Tx:=QM.out.lt;obtain⟨A9,C9,UM,GD⟩:=qi wd (w.heap.size+1) gx gx P HST.out.size (by omega) (by omega) QO nk nx ny nc _ ZX.out;simp only[Qo,one,F.len,JN,Value.slice.injEq,true_and]at UM;obtain⟨rfl,rfl⟩:=UM;try simp only[Z2]at GD
    have ZL:=QA GD;clear GD;have hb:=(QF (wd).heap.size (wd)).alloc (QH _) (θ #[ι κ nk,σ nx,σ ny,ς An mn Cn] 24);replace HST:=QY HST hb;clear hb;go_wp2_with fail;refine c₁ (Qu 22 tx _ _ _ _) fun w2 hb=>?_;replace HST:=QY HST hb;replace ZL:=QA (Qm ZL.out hb QO);clear hb;obtain⟨⟨r0,r1,r2,r3,y0,y1,y2,y3⟩,g0,g1,g2,g3⟩:=HST.out.VD;try unfold e0
    go_wp2;have hfin:=HST.out.ret (B0:=w.heap.size+1) QL.out rfl (K9 ZL.out) (fun _ _ _ _=>V4 (K9 ZL.out) (.inl (JW _)) _ _ _ _);refine bodyPost_ret (results_cell_row rfl _ _ w.heap.size 24 _ (0,0) _ rfl hfin.1 underlying24 rfl Q8) rfl ?_;exact U9 hfin.2 (Nat.le_succ _)
theorem Qpq(P z:Nat)(l:List Tk)(d:Nat)(w:World)(h:PS w P z l d)(hd:d≤300)(nk:Int)(nx ny:ByteArray)(nc:F)(l1:List Tk)(hx:XH z d l=.ok ⟨nk,nx,ny,nc⟩ l1)(tk:Int)(tx:ByteArray)(tp:Nat)(tf:Bool)(ht:QB.hd z l1=⟨tk,tx,tp,tf⟩)(hb0:(tx.toList==[58,61])=false)(hb:¬Xg ⟨tk,tx,tp,tf⟩=true)(hi:¬Yf ⟨tk,tx,tp,tf⟩=true) :
  Calls prog 118 #[π (some ⟨P,0,none⟩)] w (Qn NV w P z d (Zl z d l)):=by
 have hlt:=h.lt;have HST:=QA (XJ.start h);have hsp:Zl z d l=Zl z d l:=rfl;conv at hsp=>rhs;unfold Zl
 have QO:P<w.heap.size+1:=by omega
 have YJ:w.heap.size≠P:=by omega
 have HX:Hid (∀W l',PS W P z l' d→Calls prog 71 #[π (some ⟨P,0,none⟩)] W (Qn NV W P z d (XH z d l'))):=fun W l' hW=>NP P z (l'.length+1) W d l' (JW _) hd hW
 clear h;have ht0:=ht;rw[hx,Rd.bind_ok,ht]at hsp;have XW:=RH tk tx tp tf;have JX:=QA hx;have Ht:=QA ht;clear hx ht;rw[if_neg (V3 hb0),if_neg hb,if_neg hi]at hsp;obtain⟨b1,b2,b3,b4,b5,b6⟩:=lS hb;obtain⟨b7,b8⟩:=Q1t hi;clear hb hi;obtain⟨kb,hkb⟩:=Mem.ZB ((nk==30));rw[hkb]at hsp;have Pp:=QA hkb;clear hkb;have ZV:=QA hsp;have Na:=QA ht0;clear hsp ht0;go_enter func118,ntmps118;go_wp2_with fail;refine(Qf (HX.out _ _ HST.out.ps) JX.out).mono ?_;rintro e wx ⟨v,rfl,⟨An,Cn,rfl,hf⟩,hps,QD⟩;have hf':=Q7 (B0':=w.heap.size+1) hf HST.out.size (QH _);replace HST:=hRe HST QD hps;simp only at hf'⊢;generalize hm:nc.len=mn at hf'⊢;have Ri:=QA hm;have VN:=(QF wx.heap.size wx).alloc (QH _) (θ #[ι κ nk,σ nx,σ ny,ς An mn Cn] 24);have QM:=QA (Qv wx 24 (ι κ nk) (σ nx) (σ ny) (ς An mn Cn));have QT:wx.heap.size≠P:=by have:=HST.out.size;omega
 have DR:=HST.out.size;have ZX:=QA (Xv (B0:=w.heap.size+1) (g:=wx.heap.size) (g':=wx.heap.size) (Zc hf' VN (QH _)) (QH _) (.inr (QH _)) (.inr (QH _)) VN.size);replace HST:=QY HST VN;clear hf hf' hps QD hm VN JX;go_wp2_with fail;cases kb with
 |false =>
  have hsp:=ZV.out;have ht0:=Na.out;rw[Gz rfl,Rd.QG,ht0]at hsp;have QL:=QA hsp;clear hsp;clear ht0;refine c₁ (Zn HST.out.ps Ht.out) fun wt hb=>?_;replace HST:=QY HST hb;replace ZX:=QA (Qm ZX.out hb QO);replace QM:=JB QM hb;clear hb;go_wp2;clear XW;generalize wx.heap.size=gx at *;refine Qz [Cd.is (π (some ⟨P,0,none⟩)),Cd.is (π (some ⟨P,0,none⟩)),Cd.is (π (some ⟨P,0,none⟩)),Cd.is (π (some ⟨gx,0,none⟩)),Cd.is (ι κ nk),Cd.is (τ false),⟨fun _ _=>False,fun _ _ _ _ h=>h⟩] ?steps ?behind
  case steps =>
   intro xv W hW;refine⟨?s0,?s1,?s2,?s3,?s4,?s5,?s6,trivial⟩;all_goals intro hd K hK
   all_goals(try simp only[Act.put,VG,VF,VE]at hK)
   case s0|s3=>clear hd;go_simp;exact hK.out _ _ (QF _ _) rfl
   case s1=>have hx0:xv 0=π (some ⟨P,0,none⟩):=hd 0;clear hd;rw[hx0]at hK⊢;go_simp;exact hK.out _ _ (QF _ _) rfl
   case s2=>have hx1:xv 1=π (some ⟨P,0,none⟩):=hd 1;clear hd;rw[hx1]at hK⊢;go_simp;exact hK.out _ _ (QF _ _) rfl
   case s4=>have hx3:xv 3=π (some ⟨gx,0,none⟩):=hd 3;clear hd;rw[hx3]at hK⊢;obtain⟨q0,q1,q2,q3⟩:=(QM.out.later hW).cells;go_simp;exact hK.out _ _ (QF _ _) rfl
   case s5=>have ZP:xv 4=ι κ nk:=hd 4;clear hd;rw[ZP]at hK⊢;have hkk:(nk==30)=false:=Pp.out;go_simp;exact hK.out _ _ (QF _ _) rfl
   case s6=>have hx2:xv 2=π (some ⟨P,0,none⟩):=hd 2;have ZY:xv 5=τ false:=hd 5;clear hd;rw[hx2]at hK⊢;rw[ZY]at hK⊢;go_simp;refine c₁ (K2 P z _ d W (HST.out.ps.later hW)) fun W' hb=>?_;have XZ:=QA (HST.out.QS.ZN (hW.trans (hb.mono hW.size)));rw[Ht.out];exact⟨rfl,Qc QL.out XZ.out⟩
  case behind=>intro xv W hW hx;exact(hx 6:False).elim
 |true =>
  have hsp:=ZV.out;have ht0:=Na.out;rw[Ux rfl,Rd.bind_ok]at hsp;have QL:=QA hsp;clear hsp ht0;refine c₁ (Zn HST.out.ps Ht.out) fun wt hb=>?_;replace HST:=QY HST hb;replace ZX:=QA (Qm ZX.out hb QO);replace QM:=JB QM hb;clear hb;go_wp2;clear XW;generalize wx.heap.size=gx at *;refine Qz [Cd.is (π (some ⟨P,0,none⟩)),Cd.is (π (some ⟨P,0,none⟩)),Cd.is (π (some ⟨P,0,none⟩)),Cd.is (π (some ⟨gx,0,none⟩)),Cd.is (ι κ nk),Cd.is (τ true),Cd.any] ?steps ?behind
  case steps =>
   intro xv W hW;refine⟨?s0,?s1,?s2,?s3,?s4,?s5,?s6,trivial⟩;all_goals intro hd K hK
   all_goals(try simp only[Act.put,VG,VF,VE]at hK)
   case s0|s3=>clear hd;go_simp;exact hK.out _ _ (QF _ _) rfl
   case s1=>have hx0:xv 0=π (some ⟨P,0,none⟩):=hd 0;clear hd;rw[hx0]at hK⊢;go_simp;exact hK.out _ _ (QF _ _) rfl
   case s2=>have hx1:xv 1=π (some ⟨P,0,none⟩):=hd 1;clear hd;rw[hx1]at hK⊢;go_simp;exact hK.out _ _ (QF _ _) rfl
   case s4=>have hx3:xv 3=π (some ⟨gx,0,none⟩):=hd 3;clear hd;rw[hx3]at hK⊢;obtain⟨q0,q1,q2,q3⟩:=(QM.out.later hW).cells;go_simp;exact hK.out _ _ (QF _ _) rfl
   case s5=>have ZP:xv 4=ι κ nk:=hd 4;clear hd;rw[ZP]at hK⊢;have hkk:(nk==30)=true:=Pp.out;go_simp;exact hK.out _ _ (QF _ _) rfl
   case s6=>have hx2:xv 2=π (some ⟨P,0,none⟩):=hd 2;have ZY:xv 5=τ true:=hd 5;clear hd;rw[hx2]at hK⊢;rw[ZY]at hK⊢;go_simp;refine(Z3 P W).mono ?_;rintro e W' ⟨rfl,rfl⟩;exact hK.out _ _ (QF _ _) trivial
  case behind =>
   intro xv W hW hx;replace QM:=JB QM hW;replace ZX:=QA (Qm ZX.out hW QO);replace HST:=QY HST hW;clear hx hW;obtain⟨a0,a1,a2,a3⟩:=QM.out.cells;have Tx:=QM.out.lt;obtain⟨A9,C9,UM,GD⟩:=qi W (w.heap.size+1) gx gx P HST.out.size (by omega) (by omega) QO nk nx ny nc _ ZX.out;simp only[Qo,one,F.len,JN,Value.slice.injEq,true_and]at UM;obtain⟨rfl,rfl⟩:=UM;try simp only[Z2]at GD
   have ZL:=QA GD;clear GD;have hb:=(QF (W).heap.size (W)).alloc (QH _) (θ #[ι κ nk,σ nx,σ ny,ς An mn Cn] 24);replace HST:=QY HST hb;clear hb;go_wp2_with fail;refine c₁ (Qu 23 ⟨#[]⟩ _ _ _ _) fun w1 hb=>?_;replace HST:=QY HST hb;replace ZL:=QA (Qm ZL.out hb QO);clear hb;obtain⟨⟨r0,r1,r2,r3,y0,y1,y2,y3⟩,g0,g1,g2,g3⟩:=HST.out.VD;try unfold e0
   go_wp2;have hfin:=HST.out.ret (B0:=w.heap.size+1) QL.out rfl (K9 ZL.out) (fun _ _ _ _=>V4 (K9 ZL.out) (.inl (JW _)) _ _ _ _);refine bodyPost_ret (results_cell_row rfl _ _ w.heap.size 24 _ (0,0) _ rfl hfin.1 underlying24 rfl Q8) rfl ?_;exact U9 hfin.2 (Nat.le_succ _)
theorem Qmq(P z:Nat)(l:List Tk)(d:Nat)(w:World)(h:PS w P z l d)(hd:d≤300) :
  Calls prog 118 #[π (some ⟨P,0,none⟩)] w (Qn NV w P z d (Zl z d l)):=by
 cases hx:XH z d l with
 |bad p er=>exact Qmo P z l d w h hd p er hx
 |ok n l1 =>
  obtain⟨nk,nx,ny,nc⟩:=n;obtain⟨t,ht⟩:=Mem.ZB (QB.hd z l1);obtain⟨tk,tx,tp,tf⟩:=t;cases hb0:(tx.toList==[58,61])with
  |true=>exact Qmn P z l d w h hd nk nx ny nc l1 hx tk tx tp tf ht hb0
  |false =>
   by_cases hb:Xg ⟨tk,tx,tp,tf⟩=true
   ·exact Qmp P z l d w h hd nk nx ny nc l1 hx tk tx tp tf ht hb0 hb
   ·by_cases hi:Yf ⟨tk,tx,tp,tf⟩=true
    ·exact Qmm P z l d w h hd nk nx ny nc l1 hx tk tx tp tf ht hb0 hb hi
    ·exact Qpq P z l d w h hd nk nx ny nc l1 hx tk tx tp tf ht hb0 hb hi
