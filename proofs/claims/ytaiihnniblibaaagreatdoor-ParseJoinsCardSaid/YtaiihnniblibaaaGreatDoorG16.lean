import Derived.Test.YtaiihnniblibaaaGreatDoorG15
set_option maxHeartbeats 16000000
set_option maxRecDepth 100000
set_option linter.unusedVariables false
open Go.Proofs.Tryz Go.ChangeShapes Go.WideShapes Go.ChangeAt Go.RowKit
open Go.Lib renaming hid→QA
open Go.RowKit.Below renaming refl→QF
open _root_.Nat renaming le_refl→QH,zero_add→JN,le_trans→VJ,lt_succ_self→JW
open Go.ByteArray renaming toList_eq→GF
open Go.Value renaming string→σ,int→ι,slice→ς,pointer→π,bool→τ
open Go.IntKind renaming i64→κ
open Go.Obj renaming cells→θ
open Go.Ending renaming returned→ρ
namespace Go.Proofs.YtaiihnniblibaaaGreatDoor
namespace QB
open Tree ZR Mem
def DZ(z:Nat)(st br:Nat→List Tk→Rd Nd)(d:Nat)(l:List Tk):Rd Nd:=if QQ (QB.hd z l) [105,102]=true then br (d+1) l else Zu z st d l
def WW(z:Nat)(st br:Nat→List Tk→Rd Nd)(d:Nat)(l:List Tk):Rd Nd :=
 (J' z (QQ (QB.hd z l) [105,102]) d l).bind fun _ l=>(XH z d l).bind fun c l=>(Zu z st d l).bind fun b l =>
  (if QQ (QB.hd z l) [101,108,115,101]=true then DZ z st br d l.tail else .ok Jg l).bind fun o l =>
  .ok (node 18 e0 (Qo c (Qo b (one o)))) l
theorem aV(P z N:Nat)(st:Nat→List Tk→Rd Nd)(hst:Xj 104 P z N st)(hdec:JE st)(br:Nat→List Tk→Rd Nd)(l:List Tk)(M:Nat)(hbr:Xj 114 P z M br)(d:Nat)(w:World)(h:PS w P z l d)(hl:l.length≤N)(fX:l.length<M)(hd:d+1≤300) :
  Calls prog 126 #[π (some ⟨P,0,none⟩)] w (Qn NV w P z d (DZ z st br d l)):=by
 have HST:=QA (XI.start h);have HU:Hid ((⟨#[105,102]⟩:ByteArray).toList=[105,102]):=by show _=_;rw[GF]
 have hsp:DZ z st br d l=DZ z st br d l:=rfl;conv at hsp=>rhs;unfold DZ
 have YY:Hid (∀W,PS W P z l d→Calls prog 95 #[π (some ⟨P,0,none⟩)] W (Qn NV W P z d (Zu z st d l))):=fun W hW=>Xf P z N st hst hdec l d W hW hl (by omega)
 have XS:Hid (∀W,PS W P z l d→Calls prog 89 #[π (some ⟨P,0,none⟩),ι κ ((1:Nat):Int),.func (.func 114) #[π (some ⟨P,0,none⟩)] #[]] W (Qn NV W P z d (br (d+1) l))) :=
   fun W hW=>Kn P z M _ br 1 l d W hW (J0 W Qnn hbr) fX hd
 clear h hst hdec hbr;cases he:QQ (QB.hd z l) [105,102]with
 |true =>
  rw[he,if_pos rfl]at hsp;have QL:=QA hsp;have HE:=QA he;clear hsp he;generalize jk:br (d+1) l=Rq at *;clear jk;go_enter func126,ntmps126;go_wp2_with fail;refine c₁ (Zq HST.out.ps HU.out HE.out) fun w1 hb=>?_;replace HST:=tQu HST hb;clear hb;go_wp2_with fail;refine(XS.out _ HST.out.ps).mono ?_;intro e W hp;rcases Ji HST.out hp with⟨p,er,hR,rfl,QD⟩|⟨k,x,y,c,l2,A,C,hR,rfl,hf,hst⟩
  ·have XZ:=QA QD;have HR:=QA hR;clear hp QD hR HST;go_wp2;exact⟨rfl,Qc (QL.out.trans HR.out) XZ.out⟩
  ·have HS:=QA hst;have HF:=QA hf;have HR:=QA hR;obtain⟨⟨r0,r1,r2,r3,y0,y1,y2,y3⟩,g0,g1,g2,g3⟩:=hst.VD;generalize hm:c.len=m at *;have Hm:=QA hm;clear hp hf hst hR HST hm;go_wp2;have hfin:=HS.out.ret (QL.out.trans HR.out) Hm.out.symm HF.out;refine bodyPost_ret (results_cell_row rfl _ _ w.heap.size 24 _ (0,0) _ rfl hfin.1 underlying24 rfl Q8) rfl ?_;exact hfin.2
 |false =>
  rw[he,if_neg (by decide)]at hsp;have QL:=QA hsp;have HE:=QA he;clear hsp he;generalize jk:Zu z st d l=Rq at *;clear jk;go_enter func126,ntmps126;go_wp2_with fail;refine c₁ (Zq HST.out.ps HU.out HE.out) fun w1 hb=>?_;replace HST:=tQu HST hb;clear hb;go_wp2_with fail;refine(YY.out _ HST.out.ps).mono ?_;intro e W hp;rcases Ji HST.out hp with⟨p,er,hR,rfl,QD⟩|⟨k,x,y,c,l2,A,C,hR,rfl,hf,hst⟩
  ·have XZ:=QA QD;have HR:=QA hR;clear hp QD hR HST;go_wp2;exact⟨rfl,Qc (QL.out.trans HR.out) XZ.out⟩
  ·have HS:=QA hst;have HF:=QA hf;have HR:=QA hR;obtain⟨⟨r0,r1,r2,r3,y0,y1,y2,y3⟩,g0,g1,g2,g3⟩:=hst.VD;generalize hm:c.len=m at *;have Hm:=QA hm;clear hp hf hst hR HST hm;go_wp2;have hfin:=HS.out.ret (QL.out.trans HR.out) Hm.out.symm HF.out;refine bodyPost_ret (results_cell_row rfl _ _ w.heap.size 24 _ (0,0) _ rfl hfin.1 underlying24 rfl Q8) rfl ?_;exact hfin.2
theorem Qlz(P z N:Nat)(st:Nat→List Tk→Rd Nd)(hst:Xj 104 P z N st)(hdec:JE st)(M:Nat)(hM:M≤N)(br:Nat→List Tk→Rd Nd)(hbr:Xj 114 P z M br)(l:List Tk)(d:Nat)(w:World)(h:PS w P z l d)(hl:l.length≤M)(hd:d≤300) :
  Calls prog 114 #[π (some ⟨P,0,none⟩)] w (Qn NV w P z d (WW z st br d l)):=by
 have hlt:=h.lt;have HST:=QA (XJ.start h);have HU:Hid ((⟨#[105,102]⟩:ByteArray).toList=[105,102]):=by show _=_;rw[GF]
 have XY:Hid ((⟨#[101,108,115,101]⟩:ByteArray).toList=[101,108,115,101]):=by show _=_;rw[GF]
 have hsp:WW z st br d l=WW z st br d l:=rfl;conv at hsp=>rhs;unfold WW
 have QO:P<w.heap.size+1:=by omega
 obtain⟨bb,hbb⟩:=Mem.ZB (QQ (QB.hd z l) [105,102]);rw[hbb]at hsp;have GU:=QA hbb;have JR:Hid (∀W,PS W P z l d→Calls prog 66 #[π (some ⟨P,0,none⟩),τ bb] W (Qn TV W P z d (J' z bb d l))) :=
  fun W hW=>Zr _ P z l d (fun e=>Zh (by decide) (hbb.trans e)) (by omega) W hW
 have KF:bb=true→l≠[]:=fun e=>Zh (by decide) (hbb.trans e)
 have HX:Hid (∀W l',PS W P z l' d→Calls prog 71 #[π (some ⟨P,0,none⟩)] W (Qn NV W P z d (XH z d l'))):=fun W l' hW=>NP P z (l'.length+1) W d l' (JW _) hd hW
 have YY:Hid (∀W l',PS W P z l' d→l'.length≤N→Calls prog 95 #[π (some ⟨P,0,none⟩)] W (Qn NV W P z d (Zu z st d l'))):=fun W l' hW hl'=>Xf P z N st hst hdec l' d W hW hl' hd
 have zK:Hid (∀W l',PS W P z l' d→l'.length<M→d+1≤300→Calls prog 126 #[π (some ⟨P,0,none⟩)] W (Qn NV W P z d (DZ z st br d l'))):=fun W l' hW hl' hd'=>aV P z N st hst hdec br l' M hbr d W hW (by omega) hl' hd'
 have HDB:=QA (fun l' n r (e:Zu z st d l'=.ok n r)=>(tZ (z:=z) hdec) d l' n r e);clear h hbb hst hdec hbr;have EC:=QA KF;have JJ:=QA hsp;clear KF hsp;go_enter func114,ntmps114;go_wp2_with fail;refine c₁ (Zq HST.out.ps HU.out GU.out) fun w1 hb=>?_;replace HST:=QY HST hb;clear hb;go_wp2_with fail;cases hr:J' z bb d l with
 |bad p er=>have KF:=EC.out;have hsp:=JJ.out;rw[hr,Rd.QG]at hsp;rw[hr]at JR;have QL:=QA hsp;clear hsp hr KF;refine c₁ (Qh (JR.out _ HST.out.ps) rfl) fun w2 QD=>?_;have HE:=QA (HST.out.QS.trans QD);clear QD;go_wp2;exact⟨rfl,Qc QL.out HE.out⟩
 |ok t l1 =>
  have KF:=EC.out;have hsp:=JJ.out;have ES:l1.length<l.length:=X6 KF _ _ hr;have Hp:=(E4 KF hr).2.1;rw[hr,Rd.bind_ok]at hsp;rw[hr]at JR;clear hr KF;have KP:Hid (∀W,PS W P z l d→Calls prog 66 #[π (some ⟨P,0,none⟩),τ bb] W fun e w'=>∃v,e=ρ v∧TV W w' v t∧PS w' P z l1 d∧ZM P W w'):=fun W hW=>Qf (JR.out W hW) rfl
  clear JR;have VW:=QA hsp;clear hsp;refine(KP.out _ HST.out.ps).mono ?_;rintro e w2 ⟨v,rfl,rfl,hps,QD⟩;replace HST:=hRe HST QD hps;clear hps QD;unfold VK;go_wp2_with fail;cases hx:XH z d l1 with
  |bad p er=>have hsp:=VW.out;rw[hx,Rd.QG]at hsp;have QL:=QA hsp;have JX:=QA hx;clear hsp hx;refine c₁ (Qh (HX.out _ _ HST.out.ps) JX.out) fun w3 QD=>?_;have HE:=QA (HST.out.QS.trans QD);clear QD;go_wp2;exact⟨rfl,Qc QL.out HE.out⟩
  |ok n l2 =>
   have hsp:=VW.out;obtain⟨ck,cx,cy,cc⟩:=n;have hl2:l2.length<l1.length:=Kb z _ _ _ _ hx;rw[hx,Rd.bind_ok]at hsp;have JX:=QA hx;clear hx;have ZV:=QA hsp;clear hsp;refine(Qf (HX.out _ _ HST.out.ps) JX.out).mono ?_;rintro e wx ⟨v,rfl,⟨Ac,Cc,rfl,hf⟩,hps,QD⟩;have hf':=Q7 (B0':=w.heap.size+1) hf HST.out.size (QH _);replace HST:=hRe HST QD hps;simp only at hf'⊢;generalize hm:cc.len=mc at hf'⊢;have zG:=QA hm;have G':=QA hf';clear hps QD hf hf' hm;have QM:=QA (Qv wx 24 (ι κ ck) (σ cx) (σ cy) (ς Ac mc Cc));have QT:wx.heap.size≠P:=by have:=HST.out.size;omega
   have DR:=HST.out.size;have hb:=(QF (wx).heap.size (wx)).alloc (QH _) (θ #[ι κ ck,σ cx,σ cy,ς Ac mc Cc] 24);replace HST:=QY HST hb;replace G':=QA (SU G'.out hb);clear hb;go_wp2_with fail;cases hb:Zu z st d l2 with
   |bad p er=>have hsp:=ZV.out;rw[hb,Rd.QG]at hsp;have QL:=QA hsp;have HB:=QA hb;clear hsp hb;refine c₁ (Qh (YY.out _ _ HST.out.ps (by omega)) HB.out) fun w3 QD=>?_;have HE:=QA (HST.out.QS.trans QD);clear QD;go_wp2;exact⟨rfl,Qc QL.out HE.out⟩
   |ok b l3 =>
    have hsp:=ZV.out;obtain⟨bk,bx,VU,bc⟩:=b;have SR:l3.length<l2.length:=HDB.out _ _ _ hb;rw[hb,Rd.bind_ok]at hsp;have HB:=QA hb;clear hb;have Nb:=QA SR;have VH:=QA hsp;clear SR hsp;refine(Qf (YY.out _ _ HST.out.ps (by omega)) HB.out).mono ?_;rintro e wb ⟨v,rfl,⟨Ab,Cb,rfl,hf⟩,hps,QD⟩;have hf':=Q7 (B0':=w.heap.size+1) hf HST.out.size (QH _);replace HST:=hRe HST QD hps;replace G':=QA (WV G'.out QD QO);replace QM:=JY QM QD QT;simp only at hf'⊢;generalize hm:bc.len=mb at hf'⊢;have Hmb:=QA hm;have Lu:=QA hf';clear hps QD hf hf' hm;go_wp2_with fail;refine c₁ (Xu _) fun wq hb=>?_;replace HST:=QY HST hb;replace G':=QA (SU G'.out hb);replace Lu:=QA (SU Lu.out hb);replace QM:=JB QM hb;clear hb;unfold e0;have XA:=QM.out.lt;have Nw:=HST.out.size;have hsa:(wq.alloc (θ #[ι κ bk,σ bx,σ VU,ς Ab mb Cb] 24)).heap.size=wq.heap.size+1:=by simp
    have VN:=(QF wq.heap.size wq).alloc (QH _) (θ #[ι κ bk,σ bx,σ VU,ς Ab mb Cb] 24);have PZ:=(QF (wq.alloc (θ #[ι κ bk,σ bx,σ VU,ς Ab mb Cb] 24)).heap.size (wq.alloc (θ #[ι κ bk,σ bx,σ VU,ς Ab mb Cb] 24))).alloc (QH _) (θ #[ι κ 33,σ ⟨#[]⟩,σ ⟨#[]⟩,ς none 0 0] 24);have QW:Hid (Z1 ((wq.alloc (θ #[ι κ bk,σ bx,σ VU,ς Ab mb Cb] 24)).alloc (θ #[ι κ 33,σ ⟨#[]⟩,σ ⟨#[]⟩,ς none 0 0] 24)) wq.heap.size 24 (ι κ bk) (σ bx) (σ VU) (ς Ab mb Cb)):=(Qv wq _ _ _ _ _).later PZ;have JD:Hid (Z1 ((wq.alloc (θ #[ι κ bk,σ bx,σ VU,ς Ab mb Cb] 24)).alloc (θ #[ι κ 33,σ ⟨#[]⟩,σ ⟨#[]⟩,ς none 0 0] 24)) (wq.heap.size+1) 24 (ι κ 33) (σ ⟨#[]⟩) (σ ⟨#[]⟩) (ς none 0 0)):=by have:=Qv (wq.alloc (θ #[ι κ bk,σ bx,σ VU,ς Ab mb Cb] 24)) 24 (ι κ 33) (σ ⟨#[]⟩) (σ ⟨#[]⟩) (ς none 0 0);rwa[hsa]at this
    replace QM:=QA ((QM.out.later VN).later PZ);replace HST:=QA ((HST.out.quiet VN).quiet PZ);have hgb:=PZ.size;have WM:=VN.size;replace G':=QA (Xv (B0:=w.heap.size+1) (g:=wq.heap.size+1) (g':=wq.heap.size+1) (Zc (Zc G'.out VN (QH _)) PZ WM) (QH _) (.inr (Nat.le_succ _)) (.inr (Nat.le_succ _)) (VJ WM hgb));replace Lu:=QA (Xv (B0:=w.heap.size+1) (g:=wq.heap.size+1) (g':=wq.heap.size+1) (Zc (Zc Lu.out VN (QH _)) PZ WM) (QH _) (.inr (Nat.le_succ _)) (.inr (Nat.le_succ _)) (VJ WM hgb));have ZI:wq.heap.size≠P:=by omega
    have KT:wq.heap.size+1≠P:=by omega
    have iq:=JD.out.lt;clear VN PZ hsa;go_wp2_with fail;cases he:QQ (QB.hd z l3) [101,108,115,101]with
    |false =>
     have SR:=Nb.out;have hsp:=VH.out;rw[he,if_neg (by decide),Rd.bind_ok]at hsp;have QL:=QA hsp;have HE:=QA he;clear hsp he;refine c₁ (Zq HST.out.ps XY.out HE.out) fun we hb=>?_;replace HST:=QY HST hb;replace G':=QA (Qm G'.out hb QO);replace Lu:=QA (Qm Lu.out hb QO);replace QM:=JB QM hb;replace QW:=JB QW hb;replace JD:=JB JD hb;clear hb;obtain⟨a0,a1,a2,a3⟩:=QM.out.cells;obtain⟨b0,b1,b2,b3⟩:=QW.out.cells;obtain⟨c0,c1,c2,c3⟩:=JD.out.cells;have PQ:=JD.out.lt;obtain⟨A9,C9,UM,GD⟩:=di we (w.heap.size+1) (wq.heap.size+1) (wq.heap.size+1) P HST.out.size (by omega) (by omega) QO ck cx cy cc _ G'.out bk bx VU bc _ Lu.out 33 ⟨#[]⟩ ⟨#[]⟩ .nil _ Es;simp only[Qo,one,F.len,JN,Nat.reduceAdd,Value.slice.injEq,true_and]at UM;obtain⟨rfl,rfl⟩:=UM;try simp only[Z2]at GD
     have ZL:=QA GD;clear GD;have hb:=(QF (we).heap.size (we)).alloc (QH _) (θ #[ι κ ck,σ cx,σ cy,ς Ac mc Cc,ι κ bk,σ bx,σ VU,ς Ab mb Cb,ι κ 33,σ ⟨#[]⟩,σ ⟨#[]⟩,ς none 0 0] 24);replace HST:=QY HST hb;clear hb;go_wp2_with fail;refine c₁ (Qu 18 ⟨#[]⟩ _ _ _ _) fun w5 hb=>?_;replace HST:=QY HST hb;replace ZL:=QA (Qm ZL.out hb QO);clear hb;obtain⟨⟨r0,r1,r2,r3,y0,y1,y2,y3⟩,g0,g1,g2,g3⟩:=HST.out.VD;try unfold e0
     go_wp2;have hfin:=HST.out.ret (B0:=w.heap.size+1) QL.out rfl (K9 ZL.out) (fun _ _ _ _=>V4 (K9 ZL.out) (.inl (JW _)) _ _ _ _);refine bodyPost_ret (results_cell_row rfl _ _ w.heap.size 24 _ (0,0) _ rfl hfin.1 underlying24 rfl Q8) rfl ?_;exact U9 hfin.2 (Nat.le_succ _)
    |true =>
     have SR:=Nb.out;have hsp:=VH.out;rw[he,if_pos rfl]at hsp;have HE:=QA he;obtain⟨t',r,rfl⟩:=Vx he (by decide);rw[List.tail_cons]at hsp;simp only[List.length_cons]at SR;clear he;have ZO:=QA hsp;clear hsp;refine c₁ (Zq HST.out.ps XY.out HE.out) fun w4 hb=>?_;replace HST:=QY HST hb;replace G':=QA (Qm G'.out hb QO);replace Lu:=QA (Qm Lu.out hb QO);replace QM:=JB QM hb;replace QW:=JB QW hb;replace JD:=JB JD hb;clear hb;go_wp2_with fail;cases ho:DZ z st br d r with
     |bad p er=>have hsp:=ZO.out;rw[ho,Rd.QG]at hsp;have QL:=QA hsp;have HO:=QA ho;clear hsp ho;refine(Q5 P z _ _ d _ HST.out.ps).mono ?_;rintro e w5 ⟨v,rfl,rfl,hps,QD⟩;replace HST:=hRe HST QD hps;replace G':=QA (Vr G'.out QD QO);replace Lu:=QA (Vr Lu.out QD QO);replace QM:=JY QM QD QT;replace QW:=JY QW QD ZI;replace JD:=JY JD QD KT;clear hps QD;unfold VK;go_wp2_with fail;refine c₁ (Qh (zK.out _ _ HST.out.ps (by omega) (by omega)) HO.out) fun w6 QD=>?_;have HE:=QA (HST.out.QS.trans QD);clear QD;go_wp2;exact⟨rfl,Qc QL.out HE.out⟩
     |ok n l4 =>
      have hsp:=ZO.out;obtain⟨ok',ox,oy,oc⟩:=n;rw[ho,Rd.bind_ok]at hsp;have QL:=QA hsp;have HO:=QA ho;clear hsp ho;refine(Q5 P z _ _ d _ HST.out.ps).mono ?_;rintro e w5 ⟨v,rfl,rfl,hps,QD⟩;replace HST:=hRe HST QD hps;replace G':=QA (Vr G'.out QD QO);replace Lu:=QA (Vr Lu.out QD QO);replace QM:=JY QM QD QT;replace QW:=JY QW QD ZI;replace JD:=JY JD QD KT;clear hps QD;unfold VK;have LX:=HST.out.size
      skip
      go_wp2_with fail;refine(Qf (zK.out _ _ HST.out.ps (by omega) (by omega)) HO.out).mono ?_;rintro e wo ⟨v,rfl,hv,hps,QD⟩;obtain⟨Ao,Co,rfl,hf⟩:=Jv (B0:=w.heap.size+1) (g:=(wq.heap.size+1)) (g':=(wq.heap.size+1)) hv HST.out.size (by have Dz:=JD.out.lt;omega) (by have Dz:=JD.out.lt;omega);replace HST:=hRe HST QD hps;replace G':=QA (Vr G'.out QD QO);replace Lu:=QA (Vr Lu.out QD QO);replace QM:=JY QM QD QT;replace QW:=JY QW QD ZI;replace JD:=JY JD QD KT;simp only at hf⊢;generalize hm:oc.len=mo at hf⊢;have Hmo:=QA hm;have yF:=QA hf;clear hv hps QD hf hm LX;obtain⟨p0,p1,p2,p3⟩:=JD.out.VD;obtain⟨c0,c1,c2,c3⟩:=JD.out.cells;obtain⟨a0,a1,a2,a3⟩:=QM.out.cells;obtain⟨b0,b1,b2,b3⟩:=QW.out.cells;have PR:=QM.out.lt;have II:=QW.out.lt;have PQ:=JD.out.lt;replace HST:=QA (HST.out.KB (y:=(wq.heap.size+1)) (by omega) (ι κ ok') (σ ox) (σ oy) (ς Ao mo Co));replace G':=QA (Vo G'.out (x:=(wq.heap.size+1)) (by omega) (ι κ ok') (σ ox) (σ oy) (ς Ao mo Co));replace Lu:=QA (Vo Lu.out (x:=(wq.heap.size+1)) (by omega) (ι κ ok') (σ ox) (σ oy) (ς Ao mo Co));replace yF:=QA (Vo yF.out (x:=(wq.heap.size+1)) (by omega) (ι κ ok') (σ ox) (σ oy) (ς Ao mo Co));replace QM:=QA (QM.out.KB (y:=(wq.heap.size+1)) (by omega) (ι κ ok') (σ ox) (σ oy) (ς Ao mo Co));replace QW:=QA (QW.out.KB (y:=(wq.heap.size+1)) (by omega) (ι κ ok') (σ ox) (σ oy) (ς Ao mo Co));replace JD:=QA (JD.out.ZT (ι κ ok') (σ ox) (σ oy) (ς Ao mo Co));have Dp:=JD.out.lt;obtain⟨A9,C9,UM,GD⟩:=di ((((wo.setCell ⟨wq.heap.size+1,0,none⟩ (ι κ ok')).setCell ⟨wq.heap.size+1,1,none⟩ (σ ox)).setCell ⟨wq.heap.size+1,2,none⟩ (σ oy)).setCell ⟨wq.heap.size+1,3,none⟩ (ς Ao mo Co)) (w.heap.size+1) (wq.heap.size+1) (wq.heap.size+1) P HST.out.size (by omega) (by omega) QO ck cx cy cc _ G'.out bk bx VU bc _ Lu.out ok' ox oy oc _ yF.out;simp only[Qo,one,F.len,JN,Nat.reduceAdd,Value.slice.injEq,true_and]at UM;obtain⟨rfl,rfl⟩:=UM;try simp only[Z2]at GD
      have ZL:=QA GD;clear GD;have hb:=(QF (((((wo.setCell ⟨wq.heap.size+1,0,none⟩ (ι κ ok')).setCell ⟨wq.heap.size+1,1,none⟩ (σ ox)).setCell ⟨wq.heap.size+1,2,none⟩ (σ oy)).setCell ⟨wq.heap.size+1,3,none⟩ (ς Ao mo Co))).heap.size (((((wo.setCell ⟨wq.heap.size+1,0,none⟩ (ι κ ok')).setCell ⟨wq.heap.size+1,1,none⟩ (σ ox)).setCell ⟨wq.heap.size+1,2,none⟩ (σ oy)).setCell ⟨wq.heap.size+1,3,none⟩ (ς Ao mo Co)))).alloc (QH _) (θ #[ι κ ck,σ cx,σ cy,ς Ac mc Cc,ι κ bk,σ bx,σ VU,ς Ab mb Cb,ι κ ok',σ ox,σ oy,ς Ao mo Co] 24);replace HST:=QY HST hb;clear hb;go_wp2_with fail;refine c₁ (Qu 18 ⟨#[]⟩ _ _ _ _) fun w7 hb=>?_;replace HST:=QY HST hb;replace ZL:=QA (Qm ZL.out hb QO);clear hb;obtain⟨⟨r0,r1,r2,r3,y0,y1,y2,y3⟩,g0,g1,g2,g3⟩:=HST.out.VD;try unfold e0
      go_wp2;have hfin:=HST.out.ret (B0:=w.heap.size+1) QL.out rfl (K9 ZL.out) (fun _ _ _ _=>V4 (K9 ZL.out) (.inl (JW _)) _ _ _ _);refine bodyPost_ret (results_cell_row rfl _ _ w.heap.size 24 _ (0,0) _ rfl hfin.1 underlying24 rfl Q8) rfl ?_;exact U9 hfin.2 (Nat.le_succ _)
theorem nQ(P z N:Nat)(st:Nat→List Tk→Rd Nd)(hst:Xj 104 P z N st)(hdec:JE st):∀M F,M≤N+1→M≤F→Xj 114 P z M (Ki z st F)
 |0,F,_,_=>fun W d l hl=>absurd hl (Nat.not_lt_zero _)
 |M+1,0,_,h=>absurd h (by omega)
 |M+1,F+1,h1,h2=>fun W d l hl hd hps=>Qlz P z N st hst hdec M (by omega) (Ki z st F) (nQ P z N st hst hdec M F (by omega) (by omega)) l d W hps (by omega) hd
theorem XI.KN{w W W':World}{P z d B0:Nat}{l:List Tk}(h:XI w W P z d l)(hb:Below B0 W W')(hB:w.heap.size+1≤B0):XI w W' P z d l:=by
 obtain⟨a,b,c,d',hx⟩:=h.bx;have h1:=h.hlt;exact⟨h.QS.KN (hb.mono (by omega)),h.ps.below hb (by omega),⟨a,b,c,d',(hb.block _ (by omega)).trans hx⟩,h.hlt⟩
theorem wF(P z:Nat)(l:List Tk)(d:Nat)(w:World)(h:PS w P z l d)(hd:d≤300) :
  Calls prog 116 #[π (some ⟨P,0,none⟩)] w (Qn NV w P z d (RL z d l)):=by
 have hlt:=h.lt;have hlen:=h.len;have HST:=QA (XI.start h);have HU:Hid ((⟨#[114,101,116,117,114,110]⟩:ByteArray).toList=[114,101,116,117,114,110]):=by show _=_;rw[GF]
 have XY:Hid ((⟨#[125]⟩:ByteArray).toList=[125]):=by show _=_;rw[GF]
 have Nc:Hid ((⟨#[44]⟩:ByteArray).toList=[44]):=by show _=_;rw[GF]
 have hsp:RL z d l=RL z d l:=rfl;conv at hsp=>rhs;unfold RL
 have Sw:P<w.heap.size+1:=by omega
 obtain⟨bb,hbb⟩:=Mem.ZB (QQ (QB.hd z l) [114,101,116,117,114,110]);rw[hbb]at hsp;have GU:=QA hbb;have JR:Hid (∀W,PS W P z l d→Calls prog 66 #[π (some ⟨P,0,none⟩),τ bb] W (Qn TV W P z d (J' z bb d l))) :=
  fun W hW=>Zr _ P z l d (fun e=>Zh (by decide) (hbb.trans e)) (by omega) W hW
 have KF:bb=true→l≠[]:=fun e=>Zh (by decide) (hbb.trans e)
 have HX:Hid (∀W l',PS W P z l' d→Calls prog 71 #[π (some ⟨P,0,none⟩)] W (Qn NV W P z d (XH z d l'))):=fun W l' hW=>NP P z (l'.length+1) W d l' (JW _) hd hW
 clear h hbb;have TZ:=QA KF;have VW:=QA hsp;clear KF hsp;go_enter func116,ntmps116;go_wp2_with fail;refine c₁ (Zq HST.out.ps HU.out GU.out) fun w1 hb=>?_;replace HST:=tQu HST hb;clear hb;go_wp2_with fail;cases hr:J' z bb d l with
 |bad p er=>have KF:=TZ.out;have hsp:=VW.out;rw[hr,Rd.QG]at hsp;rw[hr]at JR;have QL:=QA hsp;clear hsp hr KF;refine c₁ (Qh (JR.out _ HST.out.ps) rfl) fun w2 QD=>?_;have HE:=QA (HST.out.QS.trans QD);clear QD;go_wp2;exact⟨rfl,Qc QL.out HE.out⟩
 |ok t l1 =>
  have KF:=TZ.out;have hsp:=VW.out;have ES:l1.length<l.length:=X6 KF _ _ hr;rw[hr,Rd.bind_ok]at hsp;rw[hr]at JR;clear hr KF;have KP:Hid (∀W,PS W P z l d→Calls prog 66 #[π (some ⟨P,0,none⟩),τ bb] W fun e w'=>∃v,e=ρ v∧TV W w' v t∧PS w' P z l1 d∧ZM P W w'):=fun W hW=>Qf (JR.out W hW) rfl
  clear JR;obtain⟨u,hu⟩:=Mem.ZB (QB.hd z l1);obtain⟨uk,ux,up,uf⟩:=u;have DB:=Ct uk ux up uf;have Hu:=QA hu;have ZV:=QA hsp;have CC:=QA hu;clear hsp hu;by_cases h6:uk=6
  ·have hsp:=ZV.out;have hu:=CC.out;subst h6;rw[hu,if_pos (.inl rfl)]at hsp;have QL:=QA hsp;clear hsp hu;refine(KP.out _ HST.out.ps).mono ?_;rintro e wb ⟨v,rfl,rfl,hps,QD⟩;replace HST:=tRe HST QD hps;clear hps QD;unfold VK;go_wp2_with fail;refine c₁ (Zn HST.out.ps Hu.out) fun w3 hb=>?_;replace HST:=tQu HST hb;clear hb;go_wp2
   go_loopg [3] 1 (fun p s3 wr=>0<p∧s3=ς none 0 0∧Hid (XI w wr P z d l1))
   case atStart=>exact⟨Nat.one_pos,rfl,HST⟩
   case round =>
    clear HST;obtain⟨hp,rfl,HST⟩:=hrel;have fR:¬(0:Int)<((0:Nat):Int):=by omega
    go_wp2_with fail;refine c₁ (Qu 20 ⟨#[]⟩ none 0 0 _) fun w4 hb=>?_;replace HST:=tQu HST hb;clear hb;obtain⟨⟨r0,r1,r2,r3,y0,y1,y2,y3⟩,g0,g1,g2,g3⟩:=HST.out.VD;try unfold e0
    go_wp2;have hfin:=HST.out.ret QL.out rfl Ju;refine bodyPost_ret (results_cell_row rfl _ _ w.heap.size 24 _ (0,0) _ rfl hfin.1 underlying24 rfl Q8) rfl ?_;exact hfin.2
  ·have hsp:=ZV.out;have hu:=CC.out;have b6:(uk==6)=false:=beq_eq_false_iff_ne.2 h6;have jD:(uk != 6)=true:=by simp[bne,b6]
   have CF:=QA h6;have VH:=QA hsp;have CE:=QA hu;clear h6 hsp hu;cases he:QQ (QB.hd z l1) [125]with
   |true =>
    have h6:=CF.out;have hsp:=VH.out;have hu:=CE.out;rw[if_pos (.inr he)]at hsp;have QL:=QA hsp;have HE:=QA he;clear hsp hu he h6;refine(KP.out _ HST.out.ps).mono ?_;rintro e wb ⟨v,rfl,rfl,hps,QD⟩;replace HST:=tRe HST QD hps;clear hps QD;unfold VK;go_wp2_with fail;refine c₁ (Zn HST.out.ps Hu.out) fun w3 hb=>?_;replace HST:=tQu HST hb;clear hb;go_wp2_with fail;refine c₁ (Zq HST.out.ps XY.out HE.out) fun w4 hb=>?_;replace HST:=tQu HST hb;clear hb;go_wp2
    go_loopg [3] 1 (fun p s3 wr=>0<p∧s3=ς none 0 0∧Hid (XI w wr P z d l1))
    case atStart=>exact⟨Nat.one_pos,rfl,HST⟩
    case round =>
     clear HST;obtain⟨hp,rfl,HST⟩:=hrel;have fR:¬(0:Int)<((0:Nat):Int):=by omega
     go_wp2_with fail;refine c₁ (Qu 20 ⟨#[]⟩ none 0 0 _) fun w5 hb=>?_;replace HST:=tQu HST hb;clear hb;obtain⟨⟨r0,r1,r2,r3,y0,y1,y2,y3⟩,g0,g1,g2,g3⟩:=HST.out.VD;try unfold e0
     go_wp2;have hfin:=HST.out.ret QL.out rfl Ju;refine bodyPost_ret (results_cell_row rfl _ _ w.heap.size 24 _ (0,0) _ rfl hfin.1 underlying24 rfl Q8) rfl ?_;exact hfin.2
   |false =>
    have h6:=CF.out;have hsp:=VH.out;have hu:=CE.out;rw[hu,if_neg (by rintro(h|h);exact h6 h;rw[←hu,he]at h;cases h)]at hsp;have HE:=QA he;clear hu he h6;have ZO:=QA hsp;clear hsp;cases hx:XH z d l1 with
    |bad p er =>
     have hsp:=ZO.out;rw[hx,Rd.QG]at hsp;have QL:=QA hsp;have JX:=QA hx;clear hsp hx;refine(KP.out _ HST.out.ps).mono ?_;rintro e wb ⟨v,rfl,rfl,hps,QD⟩;replace HST:=tRe HST QD hps;clear hps QD;unfold VK;have hbR:=HST.out.size;have HON:Hid (Kp wb wb.heap.size (ς none 0 0) []):=Kp.nil _ _;have XX:P<wb.heap.size:=by omega
     go_wp2_with fail;refine c₁ (Zn HST.out.ps Hu.out) fun wc hb=>?_;replace HST:=tQu HST hb;clear hb;replace HON:=QA (Kp.nil wc wb.heap.size)
     skip
     go_wp2_with fail;refine c₁ (Zq HST.out.ps XY.out HE.out) fun wd hb=>?_;replace HST:=tQu HST hb;clear hb;go_wp2_with fail;refine c₁ (Qh (HX.out _ _ HST.out.ps) JX.out) fun w5 QD=>?_;have HE:=QA (HST.out.QS.trans QD);clear QD;go_wp2;exact⟨rfl,Qc QL.out HE.out⟩
    |ok n l2 =>
     have hsp:=ZO.out;obtain⟨nk,nx,ny,nc⟩:=n;have hl2:l2.length<l1.length:=Kb z _ _ _ _ hx;rw[hx,Rd.bind_ok]at hsp;have Ng:=QA hsp;have JX:=QA hx;clear hsp hx;refine(KP.out _ HST.out.ps).mono ?_;rintro e wb ⟨v,rfl,rfl,hps,QD⟩;replace HST:=tRe HST QD hps;clear hps QD;unfold VK;have jt:=HST.out.size;obtain⟨B0,JY⟩:=Mem.ZB (wb.heap.size);have Rz:w.heap.size+1≤B0:=by omega
     have XX:P<B0:=by omega
     have dF:Hid (B0≤wb.heap.size):=Nat.le_of_eq JY.symm;clear JY jt;go_wp2_with fail;refine c₁ (Zn HST.out.ps Hu.out) fun wc hb=>?_;replace HST:=tQu HST hb;have dE:=QA (VJ dF.out hb.size);clear hb;go_wp2_with fail;refine c₁ (Zq HST.out.ps XY.out HE.out) fun wd hb=>?_;replace HST:=tQu HST hb;have Pn:=QA (VJ dE.out hb.size);clear hb;go_wp2_with fail;refine(Qf (HX.out _ _ HST.out.ps) JX.out).mono ?_;rintro e wx ⟨v,rfl,⟨An,Cn,rfl,hf⟩,hps,QD⟩;replace HST:=tRe HST QD hps;have Tz:B0≤wx.heap.size:=VJ Pn.out QD.size;have RY:Hid (Kp wx B0 (ς none 0 0) []):=Kp.nil _ _;have EW:=QA (Fh (w':=wx) (Kp.nil wd B0) hf Pn.out);clear hps QD hf;simp only at EW⊢;generalize hm:nc.len=mn at *;clear hm;go_wp2_with (at_builtin;refine Fg _ rfl _ _ rfl P B0 XX (ς none 0 0) [] rfl RY.out nk nx ny nc An mn Cn EW.out wx.heap.size rfl rfl (by decide) Tz ?_);intro v' w3 Li hb3;have Rn:=QA Li;replace HST:=QA (HST.out.KN hb3 Rz);have PR:B0≤w3.heap.size:=VJ Tz hb3.size;clear Li hb3 RY EW dF dE Pn;go_wp2
     go_loopg [3] (l2.length+1) (fun p s3 wr=>∃(L:List Nd)(l':List Tk),l'.length<p∧0<L.length∧L.length+l'.length≤l1.length∧Hid (Kp wr B0 s3 L)∧Hid (XI w wr P z d l')∧Hid (B0≤wr.heap.size)∧Hid (∃f,l'.length<f∧RL z d l=(X8 z d f l').bind fun c l=>.ok (QB.node 20 e0 (Vi (Vg L) c)) l))
     case atStart=>exact⟨[⟨nk,nx,ny,nc⟩],l2,by omega,by simp,by simp;omega,Rn,HST,PR,_,JW _,Ng.out⟩
     case round =>
      clear HST Rn Ng;obtain⟨L,l',hp,iI,hl',HO,HST,Te,XE⟩:=hrel;obtain⟨f,hf,VA⟩:=XE.out;obtain⟨f,rfl⟩:∃f',f=f'+1:=⟨f-1,by omega⟩;have hit:X8 z d (f+1) l'=X8 z d (f+1) l':=rfl;conv at hit=>rhs;unfold X8
      obtain⟨a,c,rfl,hlc,hcm⟩:=HO.out.slice;unfold maxLen at hcm;have jr:(0:Int)<(L.length:Int):=by omega
      clear XE JX HE;cases hc:QQ (QB.hd z l') [44]with
      |false =>
       rw[hc,if_neg (by decide)]at hit;rw[hit,Rd.bind_ok,X2]at VA;have QL:=QA VA;have HC:=QA hc;clear hit VA hc hf;go_wp2_with fail;refine c₁ (Zq HST.out.ps Nc.out HC.out) fun w4 hb=>?_;replace HST:=tQu HST hb;have SH:=QA (HO.out.later hb XX);clear hb;obtain⟨A9,C9,UM,GD⟩:=SH.out.row;rw[Gx]at UM GD;simp only[Value.slice.injEq,true_and]at UM;obtain⟨rfl,rfl⟩:=UM;have ZL:=QA (Q7 GD (B0':=w.heap.size+1) Rz (Nat.le_refl _));have EF:Hid (L.length=(Vg L).len):=(Gx L).symm;clear GD HO SH iI jr hl';generalize L.length=ln at *;go_wp2_with fail;refine c₁ (Qu 20 ⟨#[]⟩ _ _ _ _) fun w1 hb=>?_;replace HST:=tQu HST hb;replace ZL:=QA (SU ZL.out hb);clear hb;obtain⟨⟨r0,r1,r2,r3,y0,y1,y2,y3⟩,g0,g1,g2,g3⟩:=HST.out.VD;try unfold e0
       go_wp2;have hfin:=HST.out.ret QL.out EF.out ZL.out;refine bodyPost_ret (results_cell_row rfl _ _ w.heap.size 24 _ (0,0) _ rfl hfin.1 underlying24 rfl Q8) rfl ?_;exact hfin.2
      |true =>
       rw[hc,if_pos rfl]at hit;have HC:=QA hc;obtain⟨t',r,rfl⟩:=Vx hc (by decide);rw[List.tail_cons]at hit;simp only[List.length_cons]at hp hl' hf;clear hc;cases hx:XH z d r with
       |bad p2 er=>rw[hx,Rd.QG]at hit;rw[hit,Rd.QG]at VA;have QL:=QA VA;have JX:=QA hx;clear hit VA hx hf;go_wp2_with fail;refine c₁ (Zq HST.out.ps Nc.out HC.out) fun w4 hb=>?_;replace HST:=tQu HST hb;have SH:=QA (HO.out.later hb XX);have yn:=QA (VJ Te.out hb.size);clear hb;go_wp2_with fail;refine(Q5 P z _ _ d _ HST.out.ps).mono ?_;rintro e w5 ⟨v,rfl,rfl,hps,QD⟩;replace HST:=tRe HST QD hps;have Wl:=QA (SH.out.QS QD XX);have ym:=QA (VJ yn.out QD.size);clear hps QD;unfold VK;go_wp2_with fail;refine c₁ (Qh (HX.out _ _ HST.out.ps) JX.out) fun w1 QD=>?_;have HE:=QA (HST.out.QS.trans QD);clear QD;go_wp2;exact⟨rfl,Qc QL.out HE.out⟩
       |ok n2 l3 =>
        obtain⟨mk,mx,my,mc⟩:=n2;have SR:l3.length<r.length:=Kb z _ _ _ _ hx;rw[hx,Rd.bind_ok]at hit;rw[hit,Rd.KS]at VA
        have ED:Hid (∃f,l3.length<f∧RL z d l=(X8 z d f l3).bind fun c l => .ok (QB.node 20 e0 (Vi (Vg (L++[⟨mk,mx,my,mc⟩])) c)) l):=⟨f,by omega,by
         rw[VA]
         congr 1
         funext c l
         rw[Rd.bind_ok,Xh]⟩
        have JX:=QA hx;clear hit VA hx hf;go_wp2_with fail;refine c₁ (Zq HST.out.ps Nc.out HC.out) fun w4 hb=>?_;replace HST:=tQu HST hb;have SH:=QA (HO.out.later hb XX);have yn:=QA (VJ Te.out hb.size);clear hb;go_wp2_with fail;refine(Q5 P z _ _ d _ HST.out.ps).mono ?_;rintro e w5 ⟨v,rfl,rfl,hps,QD⟩;replace HST:=tRe HST QD hps;have Wl:=QA (SH.out.QS QD XX);have ym:=QA (VJ yn.out QD.size);clear hps QD;unfold VK;go_wp2_with fail;refine(Qf (HX.out _ _ HST.out.ps) JX.out).mono ?_;rintro e wx ⟨v,rfl,⟨Am,Cm,rfl,hf⟩,hps,QD⟩;replace HST:=tRe HST QD hps;have Tz:B0≤wx.heap.size:=VJ ym.out QD.size;have zL:=QA (Wl.out.QS QD XX);have EW:=QA (Fh (w':=wx) Wl.out hf ym.out);clear hps QD hf;simp only at EW⊢;generalize hm:mc.len=mm at *;clear hm;go_wp2_with (at_builtin;refine Fg _ rfl _ _ rfl P B0 XX (ς a L.length c) L rfl zL.out mk mx my mc Am mm Cm EW.out wx.heap.size rfl rfl (by omega) Tz ?_);intro v' w3 Li hb3;have Rn:=QA Li;replace HST:=QA (HST.out.KN hb3 Rz);have HS6:Hid (B0≤w3.heap.size):=VJ Tz hb3.size;clear Li hb3;go_wp2
        go_roundg (l3.length+1)
        case rel=>exact⟨L++[⟨mk,mx,my,mc⟩],l3,by omega,by simp,by simp;omega,Rn,HST,HS6,ED⟩
        case measure=>omega
