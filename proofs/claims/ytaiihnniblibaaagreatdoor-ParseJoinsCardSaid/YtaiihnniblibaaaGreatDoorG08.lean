import Derived.Test.YtaiihnniblibaaaGreatDoorG07
set_option maxHeartbeats 4000000
set_option maxRecDepth 100000
set_option linter.unusedVariables false
open Go.Proofs.Tryz Go.ChangeShapes Go.WideShapes Go.ChangeAt Go.RowKit
open Go.Lib renaming hid→QA
open Go.RowKit.Below renaming refl→QF
open _root_.Nat renaming le_refl→QH
open Go.Value renaming string→σ,int→ι,slice→ς,pointer→π,bool→τ
open Go.IntKind renaming i64→κ
open Go.Obj renaming cells→θ
open Go.Ending renaming returned→ρ
namespace Go.Proofs.YtaiihnniblibaaaGreatDoor
namespace QB
open Tree ZR Mem
theorem Qq2(P z N:Nat)(rd:Nat→List Tk→Rd Nd)(hty:Xj 72 P z N rd)(l:List Tk)(d:Nat)(w:World)(h:PS w P z l d)(hl:l.length≤N)(hd:d≤300) :
  Calls prog 91 #[π (some ⟨P,0,none⟩)] w (Qn NV w P z d (Vq z 14 rd d l)):=by
 have HST:=QA (XI.start h);have HC:=QA (nY P z N rd hty 14 l d _ (h.alloc XO) hl hd);clear h;generalize Vq z 14 rd d l=R at *;go_enter func91,ntmps91;go_wp2_with fail;refine HC.out.mono ?_;intro e W hp;rcases Ji HST.out hp with⟨p,er,hR,rfl,QD⟩|⟨k,x,y,c,l2,A,C,hR,rfl,hf,hst⟩
 ·have HE:=QA QD;have HR:=QA hR;clear hp QD hR HST HC;go_wp2;exact⟨rfl,Qc HR.out HE.out⟩
 ·have HS:=QA hst;have HF:=QA hf;have HR:=QA hR;obtain⟨⟨r0,r1,r2,r3,y0,y1,y2,y3⟩,g0,g1,g2,g3⟩:=hst.VD;generalize hm:c.len=m at *;have Hm:=QA hm;clear hp hf hst hR HST HC hm;go_wp2;have hfin:=HS.out.ret HR.out Hm.out.symm HF.out;refine bodyPost_ret (results_cell_row rfl _ _ w.heap.size 24 _ (0,0) _ rfl hfin.1 underlying24 rfl Q8) rfl ?_;exact hfin.2
theorem Qp7(P z N:Nat)(rd:Nat→List Tk→Rd Nd)(hty:Xj 72 P z N rd)(l:List Tk)(d:Nat)(w:World)(h:PS w P z l d)(hl:l.length≤N)(hd:d≤300) :
  Calls prog 93 #[π (some ⟨P,0,none⟩)] w (Qn NV w P z d (Vq z 16 rd d l)):=by
 have HST:=QA (XI.start h);have HC:=QA (nY P z N rd hty 16 l d _ (h.alloc XO) hl hd);clear h;generalize Vq z 16 rd d l=R at *;go_enter func93,ntmps93;go_wp2_with fail;refine HC.out.mono ?_;intro e W hp;rcases Ji HST.out hp with⟨p,er,hR,rfl,QD⟩|⟨k,x,y,c,l2,A,C,hR,rfl,hf,hst⟩
 ·have HE:=QA QD;have HR:=QA hR;clear hp QD hR HST HC;go_wp2;exact⟨rfl,Qc HR.out HE.out⟩
 ·have HS:=QA hst;have HF:=QA hf;have HR:=QA hR;obtain⟨⟨r0,r1,r2,r3,y0,y1,y2,y3⟩,g0,g1,g2,g3⟩:=hst.VD;generalize hm:c.len=m at *;have Hm:=QA hm;clear hp hf hst hR HST HC hm;go_wp2;have hfin:=HS.out.ret HR.out Hm.out.symm HF.out;refine bodyPost_ret (results_cell_row rfl _ _ w.heap.size 24 _ (0,0) _ rfl hfin.1 underlying24 rfl Q8) rfl ?_;exact hfin.2
theorem Qur(P z:Nat)(l:List Tk)(d:Nat)(w:World)(h:PS w P z l d) :
  Calls prog 67 #[π (some ⟨P,0,none⟩)] w (Qn SV w P z d (over z l)):=by
 have HI:=QA (kf ⟨#[125]⟩ P z l d w h);have H:=QA h;have hlt:=h.lt;have hsp:over z l=over z l:=rfl;conv at hsp=>rhs;unfold over
 rw[show(⟨#[125]⟩:ByteArray).toList=[125]from by rw[ByteArray.toList_eq]]at HI;cases h1:QQ (QB.hd z l) [125]with
 |true=>rw[h1,if_pos rfl]at hsp;rw[h1]at HI;have QL:=QA hsp;clear h hsp h1;go_enter func67,ntmps67;go_wp2_with fail;refine c₁ HI.out fun w1 hb=>?_;have HB:=QA hb;clear hb;go_wp2;go_ret;exact Xs QL.out rfl (H.out.later HB.out) (ZM.of HB.out P)
 |false =>
  rw[h1,if_neg (by decide)]at hsp;rw[h1]at HI;clear h1;by_cases h6:(QB.hd z l).kind=6
  ·rw[if_pos h6]at hsp;obtain⟨t,r,rfl⟩:∃t r,l=t::r:=by
    cases l with
    |nil=>simp[QB.hd]at h6
    |cons t r=>exact⟨t,r,rfl⟩
   obtain⟨tk,tx,tp,tf⟩:=t;obtain rfl:tk=6:=h6;rw[List.tail_cons]at hsp;have AX:=QA hsp;clear h hsp;go_enter func67,ntmps67;go_wp2_with fail;refine c₁ HI.out fun w1 hb=>?_;have HB:=QA hb;have YX:=QA (H.out.later hb);clear hb;go_wp2;refine Qz [Cd.is (π (some ⟨P,0,none⟩)),Cd.is (π (some ⟨P,0,none⟩)),Cd.is (π (some ⟨P,0,none⟩)),Cd.is (π (some ⟨P,0,none⟩)),Cd.is (π (some ⟨P,0,none⟩)),Cd.is (π (some ⟨P,0,none⟩)),Cd.is (VK ⟨6,tx,tp,tf⟩),Cd.is (ι κ 6),Cd.is (τ true),Cd.any] ?steps ?behind
   case steps =>
    intro xv W hW;refine⟨?s0,?s1,?s2,?s3,?s4,?s5,?s6,?s7,?s8,?s9,trivial⟩;all_goals intro hd K hK
    all_goals(try simp only[Act.put,List.setIfInBounds_toArray,List.set_cons_succ,List.set_cons_zero]at hK)
    case s0|s3=>clear hd;go_simp;exact hK.out _ _ (QF _ _) rfl
    case s1=>have hx0:xv 0=π (some ⟨P,0,none⟩):=hd 0;clear hd;rw[hx0]at hK⊢;go_simp;exact hK.out _ _ (QF _ _) rfl
    case s2=>have hx1:xv 1=π (some ⟨P,0,none⟩):=hd 1;clear hd;rw[hx1]at hK⊢;go_simp;exact hK.out _ _ (QF _ _) rfl
    case s4=>have hx3:xv 3=π (some ⟨P,0,none⟩):=hd 3;clear hd;rw[hx3]at hK⊢;go_simp;exact hK.out _ _ (QF _ _) rfl
    case s5=>have ZP:xv 4=π (some ⟨P,0,none⟩):=hd 4;clear hd;rw[ZP]at hK⊢;go_simp;exact hK.out _ _ (QF _ _) rfl
    case s6=>have ZY:xv 5=π (some ⟨P,0,none⟩):=hd 5;clear hd;rw[ZY]at hK⊢;go_simp;refine c₁ (Vk P z _ d W (YX.out.later hW)) fun W' hb=>?_;exact hK.out _ _ hb rfl
    case s7=>have JK:xv 6=VK ⟨6,tx,tp,tf⟩:=hd 6;clear hd;rw[JK]at hK⊢;have hf:=Ct 6 tx tp tf;unfold VK;go_simp;exact hK.out _ _ (QF _ _) rfl
    case s8=>have VM:xv 7=ι κ 6:=hd 7;clear hd;rw[VM]at hK⊢;go_simp;exact hK.out _ _ (QF _ _) rfl
    case s9=>have hx2:xv 2=π (some ⟨P,0,none⟩):=hd 2;have UI:xv 8=τ true:=hd 8;clear hd;rw[hx2]at hK⊢;rw[UI]at hK⊢;go_simp;refine(Z3 P W).mono ?_;rintro e W' ⟨rfl,rfl⟩;exact hK.out _ _ (QF _ _) trivial
   case behind =>
    intro xv W hW hx;have QR:=QN HB hW;have HT:=QA (Q5 P z _ r d W (H.out.later QR.out));clear hW hx;go_wp2_with fail;refine HT.out.mono ?_;rintro e w3 ⟨v,rfl,rfl,hps,QD⟩;have EU:=QA hps;have XG:=QA ((ZM.of QR.out P).trans QD);have HN:=QA (Vk P z r d w3 hps);clear hps QD;go_wp2_with fail;refine c₁ HN.out fun w4 hb4=>?_;have LV:=QA (EU.out.later hb4);have GC:=QA (XG.out.ZN hb4);clear hb4;obtain⟨u,hu⟩:=Mem.ZB (QB.hd z r);have Hu:=QA hu;rw[hu];clear hu;obtain⟨uk,ux,up,uf⟩:=u;unfold VK;by_cases h5:uk=5
    ·subst h5;cases uf with
     |false =>
      obtain⟨r',rfl⟩:∃r',r=⟨5,ux,up,false⟩::r':=by
       have:=Hu.out;cases r with
       |nil=>simp[QB.hd]at this
       |cons u r'=>exact⟨r',by rw[←this];rfl⟩
      have QL:Hid (over z _=_):=AX.out;have VN:=(QF w4.heap.size w4).alloc (QH _) (θ #[ι κ 5,σ ux,ι κ (up:Int),τ false] 75);have LS:=QA (Q5 P z _ r' d _ (LV.out.later VN));have Hc:=QA (GC.out.ZN VN);have hf:=RH 5 ux up false;clear VN;go_wp2_with fail;refine LS.out.mono ?_;rintro e w5 ⟨v,rfl,rfl,hps,QD⟩;have Rk:=QA hps;have Sd:=QA (Hc.out.trans QD);clear hps QD;unfold VK;go_wp2;go_ret;exact Xs (by rw[QL.out];simp[QB.hd]) rfl Rk.out Sd.out
     |true=>have VN:=(QF w4.heap.size w4).alloc (QH _) (θ #[ι κ 5,σ ux,ι κ (up:Int),τ true] 75);have Rk:=QA (LV.out.later VN);have Hc:=QA (GC.out.ZN VN);clear VN;go_wp2;go_ret;exact Xs (by rw[AX.out,Hu.out];simp;rfl) rfl Rk.out Hc.out
    ·have b5:(uk==5)=false:=beq_eq_false_iff_ne.2 h5;have VN:=(QF w4.heap.size w4).alloc (QH _) (θ #[ι κ uk,σ ux,ι κ (up:Int),τ uf] 75);have Rk:=QA (LV.out.later VN);have Hc:=QA (GC.out.ZN VN);have H5:=QA h5;clear VN h5;go_wp2;go_ret;exact Xs (by rw[AX.out,Hu.out];simp[H5.out];rfl) rfl Rk.out Hc.out
  ·rw[if_neg h6]at hsp;have AX:=QA hsp;have b6:((QB.hd z l).kind==6)=false:=beq_eq_false_iff_ne.2 h6;clear h hsp h6;generalize uH:QB.hd z l=t at *;have dC:=QA uH;clear uH;obtain⟨tk,tx,tp,tf⟩:=t;simp only at b6;go_enter func67,ntmps67;go_wp2_with fail;refine c₁ HI.out fun w1 hb=>?_;have HB:=QA hb;have YX:=QA (H.out.later hb);clear hb;go_wp2;refine Qz [Cd.is (π (some ⟨P,0,none⟩)),Cd.is (π (some ⟨P,0,none⟩)),Cd.is (π (some ⟨P,0,none⟩)),Cd.is (π (some ⟨P,0,none⟩)),Cd.is (π (some ⟨P,0,none⟩)),Cd.is (π (some ⟨P,0,none⟩)),Cd.is (VK ⟨tk,tx,tp,tf⟩),Cd.is (ι κ tk),Cd.is (τ false),⟨fun _ _=>False,fun _ _ _ _ h=>h⟩] ?steps ?behind
   case steps =>
    intro xv W hW;refine⟨?s0,?s1,?s2,?s3,?s4,?s5,?s6,?s7,?s8,?s9,trivial⟩;all_goals intro hd K hK
    all_goals(try simp only[Act.put,List.setIfInBounds_toArray,List.set_cons_succ,List.set_cons_zero]at hK)
    case s0|s3=>clear hd;go_simp;exact hK.out _ _ (QF _ _) rfl
    case s1=>have hx0:xv 0=π (some ⟨P,0,none⟩):=hd 0;clear hd;rw[hx0]at hK⊢;go_simp;exact hK.out _ _ (QF _ _) rfl
    case s2=>have hx1:xv 1=π (some ⟨P,0,none⟩):=hd 1;clear hd;rw[hx1]at hK⊢;go_simp;exact hK.out _ _ (QF _ _) rfl
    case s4=>have hx3:xv 3=π (some ⟨P,0,none⟩):=hd 3;clear hd;rw[hx3]at hK⊢;go_simp;exact hK.out _ _ (QF _ _) rfl
    case s5=>have ZP:xv 4=π (some ⟨P,0,none⟩):=hd 4;clear hd;rw[ZP]at hK⊢;go_simp;exact hK.out _ _ (QF _ _) rfl
    case s6=>have ZY:xv 5=π (some ⟨P,0,none⟩):=hd 5;clear hd;rw[ZY]at hK⊢;go_simp;refine(Vk P z _ d W (YX.out.later hW)).mono ?_;rw[dC.out];rintro e W' ⟨rfl,hb⟩;exact hK.out _ _ hb rfl
    case s7=>have JK:xv 6=VK ⟨tk,tx,tp,tf⟩:=hd 6;clear hd;rw[JK]at hK⊢;have hf:=Ct tk tx tp tf;unfold VK;go_simp;exact hK.out _ _ (QF _ _) rfl
    case s8=>have VM:xv 7=ι κ tk:=hd 7;clear hd;rw[VM]at hK⊢;have jD:=b6;go_simp;exact hK.out _ _ (QF _ _) rfl
    case s9=>have hx2:xv 2=π (some ⟨P,0,none⟩):=hd 2;have UI:xv 8=τ false:=hd 8;clear hd;rw[hx2]at hK⊢;rw[UI]at hK⊢;go_simp;refine c₁ (K2 P z _ d W (YX.out.later hW)) fun W' hb=>?_;have HE:=QA (HB.out.trans ((hW.trans (hb.mono hW.size)).mono HB.out.size));have HP:Hid (QB.hd z l=_):=dC.out;rw[HP.out];exact⟨rfl,Qc (by rw[AX.out]) (ZM.of HE.out P)⟩
   case behind=>intro xv W hW hx;exact(hx 9:False).elim
theorem Y9(P z N:Nat)(v:Value)(rd:Nat→List Tk→Rd Nd)(l:List Tk)(d:Nat)(w:World)(h:PS w P z l d)(hv:Reads P z w N v rd)(hl:l.length<N)(hd:d≤300) :
  Calls prog 47 #[π (some ⟨P,0,none⟩),v] w (Qn NV w P z d (item z rd d l)):=by
 obtain⟨gf,fs,GJ,rfl,eg,hc⟩:=hv;have hlt:=h.lt;have HST:=QA (XI.start h);have HC:=QA hc;have hsp:item z rd d l=item z rd d l:=rfl;conv at hsp=>rhs;unfold item
 unfold Jd at eg;by_cases h5:(QB.hd z l).kind=5
 ·obtain⟨t,r,rfl⟩:∃t r,l=t::r:=by
   cases l with
   |nil=>simp[QB.hd]at h5
   |cons t r=>exact⟨t,r,rfl⟩
  rw[if_pos h5]at hsp;obtain⟨tk,tx,tp,tf⟩:=t;obtain rfl:tk=5:=h5;have HB:Hid (∀W,PS W P z (⟨5,tx,tp,tf⟩::r) d→Calls prog 66 #[π (some ⟨P,0,none⟩),τ true] W (Qn TV W P z d (J' z true d (⟨5,tx,tp,tf⟩::r)))):=fun W hW=>Zr true P z _ d (fun _ e=>by cases e) (by omega) W hW
  have DB:=Ct 5 tx tp tf;have XW:=RH 5 tx tp tf;have HN:=QA (Zn (h.alloc XO) (z:=z) (l:=⟨5,tx,tp,tf⟩::r) rfl);have CI:=QA eg;have CH:=QA hc;have ZO:=QA hsp;clear eg hc hsp;go_enter func47,ntmps47;go_wp2_with fail;refine c₁ (HN.out) fun w1 hb=>?_;replace HST:=tQu HST hb;clear hb;go_wp2_with fail;cases hb:J' z true d (⟨5,tx,tp,tf⟩::r)with
  |bad p er=>have eg:=CI.out;have hc:=CH.out;have hsp:=ZO.out;rw[hb,Rd.QG]at hsp;rw[hb]at HB;have QL:=QA hsp;clear h hc hsp hb HC eg;refine c₁ (Qh (HB.out _ HST.out.ps) rfl) fun w2 QD=>?_;have HE:=QA (HST.out.QS.trans QD);clear QD;go_wp2;exact⟨rfl,Qc QL.out HE.out⟩
  |ok t' r'=>have eg:=CI.out;have hc:=CH.out;have hsp:=ZO.out;obtain⟨-,Hp,e⟩:=E4 (fun _ e=>by cases e) hb;simp only[List.cons.injEq]at e;obtain⟨rfl,rfl⟩:=e;rw[hb,Rd.bind_ok]at hsp;rw[hb]at HB;have QL:=QA hsp;clear h hc hsp hb HC eg;refine(Qf (HB.out _ HST.out.ps) rfl).mono ?_;rintro e w2 ⟨v,rfl,rfl,hps,QD⟩;replace HST:=tRe HST QD hps;clear hps QD;unfold VK;go_wp2_with fail;refine c₁ (Qu 8 tx none 0 0 _) fun w3 hb=>?_;replace HST:=tQu HST hb;clear hb;obtain⟨⟨r0,r1,r2,r3,y0,y1,y2,y3⟩,g0,g1,g2,g3⟩:=HST.out.VD;go_wp2;have hfin:=HST.out.ret QL.out rfl Ju;refine bodyPost_ret (results_cell_row rfl _ _ w.heap.size 24 _ (0,0) _ rfl hfin.1 underlying24 rfl Q8) rfl ?_;exact hfin.2
 ·rw[if_neg h5]at hsp;have b5:((QB.hd z l).kind==5)=false:=beq_eq_false_iff_ne.2 h5;clear h5;generalize ht:QB.hd z l=t at *;obtain⟨tk,tx,tp,tf⟩:=t;have DB:=Ct tk tx tp tf;have HN:=QA (Zn (h.alloc XO) ht);simp only at b5;clear ht;have CD:=QA hc;have ZV:=QA hsp;clear hc hsp;go_enter func47,ntmps47;go_wp2_with fail;refine c₁ (HN.out) fun w1 hb=>?_;replace HST:=tQu HST hb;clear hb;go_wp2_with fail;cases hr:rd d l with
  |bad p er =>
   have hc:=CD.out;have hsp:=ZV.out;rw[hr,Rd.QG]at hsp;have QL:=QA hsp;have Lx:Hid (∀W,XI w W P z d l→Calls prog gf (fs++GJ) W fun e w'=>e=.panicked (Si p er)∧ZM P W w'):=fun W hW=>Qh (HC.out W hW.QS d l hl hd hW.ps) hr
   clear h hc hsp hr HC;refine c₁ (Lx.out _ HST.out) fun w2 QD=>?_;have HE:=QA (HST.out.QS.trans QD);clear QD;go_wp2;exact⟨rfl,Qc QL.out HE.out⟩
  |ok n l1 =>
   have hc:=CD.out;have hsp:=ZV.out;obtain⟨nk,nx,ny,nc⟩:=n;rw[hr,Rd.bind_ok]at hsp;have Lx:Hid (∀W,XI w W P z d l→Calls prog gf (fs++GJ) W fun e w'=>∃v,e=ρ v∧NV W w' v ⟨nk,nx,ny,nc⟩∧PS w' P z l1 d∧ZM P W w'):=fun W hW=>Qf (HC.out W hW.QS d l hl hd hW.ps) hr
   have FQ:Hid (∀W,PS W P z l1 d→Calls prog 67 #[π (some ⟨P,0,none⟩)] W (Qn SV W P z d (over z l1))):=fun W hW=>Qur P z l1 d W hW
   clear h hc hr HC;have VH:=QA hsp;clear hsp;cases ho:over z l1 with
   |bad p er =>
    have hsp:=VH.out;rw[ho,Rd.QG]at hsp;rw[ho]at FQ;have QL:=QA hsp;clear hsp ho;refine(Lx.out _ HST.out).mono ?_;rintro e W ⟨v,rfl,⟨A,C,rfl,hf⟩,hps,QD⟩;have hf':=Q7 hf HST.out.size (QH _);replace HST:=tRe HST QD hps;generalize hm:nc.len=m at *;have Hm:=QA hm;have HF:=QA hf';clear hf hf' hps QD hm;have WR:W.heap.size≠P:=by have:=HST.out.hlt;have:=HST.out.size;omega
    have uV:W.heap.size≠w.heap.size:=by have:=HST.out.size;omega
    have HX:=QA (Qv W 24 (ι κ nk) (σ nx) (σ ny) (ς A m C));have yG:=QA (Zc HF.out ((QF W.heap.size W).alloc (QH _) (θ #[ι κ nk,σ nx,σ ny,ς A m C] 24)) (QH _));have Wo:=QA HST.out.size;have Lp:=QA ((QF W.heap.size W).alloc (QH _) (θ #[ι κ nk,σ nx,σ ny,ς A m C] 24)).size;have hb:=(QF (W).heap.size (W)).alloc (QH _) (θ #[ι κ nk,σ nx,σ ny,ς A m C] 24);replace HST:=tQu HST hb;clear hb;go_wp2_with fail;refine c₁ (Qh (FQ.out _ HST.out.ps) rfl) fun w2 QD=>?_;have HE:=QA (HST.out.QS.trans QD);clear QD;go_wp2;exact⟨rfl,Qc QL.out HE.out⟩
   |ok y l2 =>
    have hsp:=VH.out;rw[ho,Rd.bind_ok]at hsp;rw[ho]at FQ;have QL:=QA hsp;clear hsp ho;refine(Lx.out _ HST.out).mono ?_;rintro e W ⟨v,rfl,⟨A,C,rfl,hf⟩,hps,QD⟩;have hf':=Q7 hf HST.out.size (QH _);replace HST:=tRe HST QD hps;generalize hm:nc.len=m at *;have Hm:=QA hm;have HF:=QA hf';clear hf hf' hps QD hm;have WR:W.heap.size≠P:=by have:=HST.out.hlt;have:=HST.out.size;omega
    have uV:W.heap.size≠w.heap.size:=by have:=HST.out.size;omega
    have HX:=QA (Qv W 24 (ι κ nk) (σ nx) (σ ny) (ς A m C));have yG:=QA (Zc HF.out ((QF W.heap.size W).alloc (QH _) (θ #[ι κ nk,σ nx,σ ny,ς A m C] 24)) (QH _));have Wo:=QA HST.out.size;have Lp:=QA ((QF W.heap.size W).alloc (QH _) (θ #[ι κ nk,σ nx,σ ny,ς A m C] 24)).size;have hb:=(QF (W).heap.size (W)).alloc (QH _) (θ #[ι κ nk,σ nx,σ ny,ς A m C] 24);replace HST:=tQu HST hb;clear hb;have Sw:P<w.heap.size+1:=by omega
    have TP:=WR;go_wp2_with fail;refine(Qf (FQ.out _ HST.out.ps) rfl).mono ?_;rintro e W2 ⟨v,rfl,rfl,hps,QD⟩;have Lu:=QA (ki yG.out QD Sw Lp.out);have CL:=QA (Nat.le_trans Lp.out QD.size);replace HST:=tRe HST QD hps;replace HX:=QA (HX.out.QS QD TP);clear hps QD;clear yG Lp HF;obtain⟨q0,q1,q2,q3⟩:=HX.out.cells;obtain⟨e0,e1,e2,e3⟩:=HX.out.VD;have hWn:=HX.out.lt;obtain⟨⟨r0,r1,r2,r3,y0,y1,y2,y3⟩,g0,g1,g2,g3⟩:=HST.out.VD;generalize W.heap.size=g at *;go_wp2;have YV:XI w (W2.setCell ⟨g,2,none⟩ (σ y)) P z d l2:=⟨HST.out.QS.set (.inr (by show w.heap.size≤g;have hq:=Wo.out;omega)) _,HST.out.ps.set (by show P<g;have hq:=Wo.out;omega) _,by obtain⟨a,b,c,d,hx⟩:=HST.out.bx;exact⟨a,b,c,d,hx.other (by show g≠w.heap.size;exact uV) _⟩,HST.out.hlt⟩;have hf2:Fs (W2.setCell ⟨g,2,none⟩ (σ y)) (Mi (w.heap.size+1) W2.heap.size) (ς A m C) nc:=Q7 (Et Lu.out (.inr (QH _)) _) (QH _) CL.out;have hfin:=YV.ret QL.out Hm.out.symm (by rw[show(W2.setCell ⟨g,2,none⟩ (σ y)).heap.size=W2.heap.size from by simp[World.setCell]];exact hf2);refine bodyPost_ret (results_cell_row rfl _ _ w.heap.size 24 _ (0,0) _ rfl hfin.1 underlying24 rfl Q8) rfl ?_;exact hfin.2
