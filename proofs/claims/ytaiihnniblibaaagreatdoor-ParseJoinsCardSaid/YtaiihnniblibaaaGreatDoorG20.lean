import Derived.Test.YtaiihnniblibaaaGreatDoorG19
set_option maxHeartbeats 16000000
set_option maxRecDepth 100000
set_option linter.unusedVariables false
open Go.Proofs.Tryz Go.ChangeShapes Go.WideShapes Go.ChangeAt Go.RowKit
open Go.Lib renaming hid→QA
open Go.RowKit.Below renaming refl→QF
open Go.Value renaming string→σ,int→ι,slice→ς,pointer→π,bool→τ
open Go.IntKind renaming i64→κ
open Go.Obj renaming cells→θ
namespace Go.Proofs.YtaiihnniblibaaaGreatDoor
namespace QB
open Tree ZR Mem
theorem Qvw(P z:Nat)(l:List Tk)(d:Nat)(w:World)(h:PS w P z l d)(hd:d≤300) :
  Calls prog 48 #[π (some ⟨P,0,none⟩)] w (Qn NV w P z d (Jn z d l)):=by
 have hlt:=h.lt;have HST:=QA (XI.start h);have Sw:P<w.heap.size+1:=by omega
 have HU:Hid ((⟨#[61]⟩:ByteArray).toList=[61]):=by show _=_;rw[ByteArray.toList_eq]
 have HX:Hid (∀W l',PS W P z l' d→Calls prog 71 #[π (some ⟨P,0,none⟩)] W (Qn NV W P z d (XH z d l'))):=fun W l' hW=>NP P z (l'.length+1) W d l' (Nat.lt_succ_self _) (by omega) hW
 have HT:Hid (∀W l',PS W P z l' d→Calls prog 72 #[π (some ⟨P,0,none⟩)] W (Qn NV W P z d (GG z d l'))):=fun W l' hW=>Ff P z (l'.length+1) W d l' (Nat.lt_succ_self _) (by omega) hW
 have HV:Hid (∀W,PS W P z l d→Calls prog 73 #[π (some ⟨P,0,none⟩)] W (Qn NV W P z d (Rf z d l))):=fun W hW=>rG P z l d W hW (by omega)
 have HF:Hid (∀W,PS W P z l d→Calls prog 74 #[π (some ⟨P,0,none⟩)] W (Qn NV W P z d (Ke z d l))):=fun W hW=>Qvm P z l d W hW hd
 obtain⟨t,ht⟩:=Mem.ZB (QB.hd z l);obtain⟨tk,tx,tp,tf⟩:=t;have XW:=RH tk tx tp tf;have Ht:=QA ht;have hsp:Jn z d l=Jn z d l:=rfl;conv at hsp=>rhs;unfold Jn
 rw[ht]at hsp;clear h ht;cases b0:(tx.toList==[112,97,99,107,97,103,101])with
 |true =>
  rw[if_pos (Vp b0)]at hsp;obtain⟨t',r,rfl⟩:=Vx (z:=z) (l:=l) (u:=[112,97,99,107,97,103,101]) (by rw[Ht.out];exact b0) (by decide);obtain rfl:t'=⟨tk,tx,tp,tf⟩:=Ht.out;rw[List.tail_cons]at hsp;clear HV HF;have ZO:=QA hsp;clear hsp;go_enter func48,ntmps48;go_wp2_with fail;refine c₁ (Zn HST.out.ps Ht.out) fun w1 hb=>?_;replace HST:=tQu HST hb;clear hb;go_wp2_with fail;refine(Q5 P z _ _ d _ HST.out.ps).mono ?_;rintro e w2 ⟨v,rfl,rfl,hps,QD⟩;replace HST:=tRe HST QD hps;clear hps QD;unfold VK;go_wp2_with fail;cases hn:name z r with
  |bad p er=>have hsp:=ZO.out;rw[hn,Rd.QG]at hsp;have QL:=QA hsp;have HN:=QA hn;clear hsp hn;refine c₁ (Qh (Jb P z r d _ HST.out.ps) HN.out) fun w3 QD=>?_;have HE:=QA (HST.out.QS.trans QD);clear QD;go_wp2;exact⟨rfl,Qc QL.out HE.out⟩
  |ok s l2 =>
   have hsp:=ZO.out;rw[hn,Rd.bind_ok]at hsp;have HN:=QA hn;clear hn;have QL:=QA hsp;clear hsp;refine(Qf (Jb P z r d _ HST.out.ps) HN.out).mono ?_;rintro e w3 ⟨v,rfl,rfl,hps,QD⟩;replace HST:=tRe HST QD hps;clear hps QD;go_wp2_with fail;refine c₁ (Qu 2 s none 0 0 _) fun w4 hb=>?_;replace HST:=tQu HST hb;clear hb;obtain⟨⟨r0,r1,r2,r3,y0,y1,y2,y3⟩,g0,g1,g2,g3⟩:=HST.out.VD;try unfold e0
   go_wp2;have hfin:=HST.out.ret QL.out rfl Ju;refine bodyPost_ret (results_cell_row rfl _ _ w.heap.size 24 _ (0,0) _ rfl hfin.1 underlying24 rfl Q8) rfl ?_;exact hfin.2
 |false =>
 rw[if_neg (V3 b0)]at hsp;cases b1:(tx.toList==[105,109,112,111,114,116])with
 |true =>
  rw[if_pos (Vp b1)]at hsp;obtain⟨t',r,rfl⟩:=Vx (z:=z) (l:=l) (u:=[105,109,112,111,114,116]) (by rw[Ht.out];exact b1) (by decide);obtain rfl:t'=⟨tk,tx,tp,tf⟩:=Ht.out;rw[List.tail_cons]at hsp;clear HV HF;obtain⟨u,hu⟩:=Mem.ZB (QB.hd z r);obtain⟨uk,ux,up,uf⟩:=u;rw[hu]at hsp;have Hu:=QA hu;clear hu;obtain⟨kb,hkb⟩:=Mem.ZB ((uk==3));have ER:Jn z d (⟨tk,tx,tp,tf⟩::r)=(X5 z kb r).bind fun _ l=>.ok (node 3 (QB.hd z l).x .nil) l.tail:=by rw[←hkb];exact hsp
  clear hsp;have Pp:=QA hkb;clear hkb;have RP:=QA ER;clear ER;go_enter func48,ntmps48;go_wp2_with fail;refine c₁ (Zn HST.out.ps Ht.out) fun w1 hb=>?_;replace HST:=tQu HST hb;clear hb;go_wp2_with fail;cases kb with
  |false =>
   have ER:=RP.out;rw[Gz rfl,Rd.QG,Hu.out]at ER;have QL:=QA ER;clear ER;refine(Q5 P z _ _ d _ HST.out.ps).mono ?_;rintro e w2 ⟨v,rfl,rfl,hps,QD⟩;replace HST:=tRe HST QD hps;clear hps QD;unfold VK;go_wp2;have YX:=QA HST.out.ps;refine Qz [Cd.is (π (some ⟨P,0,none⟩)),Cd.is (π (some ⟨P,0,none⟩)),Cd.is (π (some ⟨P,0,none⟩)),Cd.is (π (some ⟨P,0,none⟩)),Cd.is (π (some ⟨P,0,none⟩)),Cd.is (π (some ⟨P,0,none⟩)),Cd.is (VK ⟨uk,ux,up,uf⟩),Cd.is (ι κ uk),Cd.is (τ false),⟨fun _ _=>False,fun _ _ _ _ h=>h⟩] ?steps ?behind
   case steps =>
    intro xv W hW;refine⟨?s0,?s1,?s2,?s3,?s4,?s5,?s6,?s7,?s8,?s9,trivial⟩;all_goals intro hd K hK
    all_goals(try simp only[Act.put,List.setIfInBounds_toArray,List.set_cons_succ,List.set_cons_zero]at hK)
    case s0|s3=>clear hd;go_simp;exact hK.out _ _ (QF _ _) rfl
    case s1=>have hx0:xv 0=π (some ⟨P,0,none⟩):=hd 0;clear hd;rw[hx0]at hK⊢;go_simp;exact hK.out _ _ (QF _ _) rfl
    case s2=>have hx1:xv 1=π (some ⟨P,0,none⟩):=hd 1;clear hd;rw[hx1]at hK⊢;go_simp;exact hK.out _ _ (QF _ _) rfl
    case s4=>have hx3:xv 3=π (some ⟨P,0,none⟩):=hd 3;clear hd;rw[hx3]at hK⊢;go_simp;exact hK.out _ _ (QF _ _) rfl
    case s5=>have ZP:xv 4=π (some ⟨P,0,none⟩):=hd 4;clear hd;rw[ZP]at hK⊢;go_simp;exact hK.out _ _ (QF _ _) rfl
    case s6=>have ZY:xv 5=π (some ⟨P,0,none⟩):=hd 5;clear hd;rw[ZY]at hK⊢;go_simp;refine(Vk P z _ d W (YX.out.later hW)).mono ?_;rw[Hu.out];rintro e W' ⟨rfl,hb⟩;exact hK.out _ _ hb rfl
    case s7=>have JK:xv 6=VK ⟨uk,ux,up,uf⟩:=hd 6;clear hd;rw[JK]at hK⊢;have hf:=Ct uk ux up uf;unfold VK;go_simp;exact hK.out _ _ (QF _ _) rfl
    case s8=>have VM:xv 7=ι κ uk:=hd 7;clear hd;rw[VM]at hK⊢;have jD:(uk==3)=false:=Pp.out;go_simp;exact hK.out _ _ (QF _ _) rfl
    case s9=>have hx2:xv 2=π (some ⟨P,0,none⟩):=hd 2;have UI:xv 8=τ false:=hd 8;clear hd;rw[hx2]at hK⊢;rw[UI]at hK⊢;go_simp;refine c₁ (K2 P z _ d W (YX.out.later hW)) fun W' hb=>?_;have HE:=QA (HST.out.QS.ZN (hW.trans (hb.mono hW.size)));rw[Hu.out];exact⟨rfl,Qc QL.out HE.out⟩
   case behind=>intro xv W hW hx;exact(hx 9:False).elim
  |true =>
   have ER:=RP.out;obtain⟨r2,rfl⟩:∃r2,r=⟨uk,ux,up,uf⟩::r2:=by
    have:=Hu.out;cases r with
    |nil=>exfalso;simp only[QB.hd,Tk.mk.injEq]at this;have hk:=Pp.out;rw[←this.1]at hk;cases hk
    |cons u r2=>exact⟨r2,by rw[←this];rfl⟩
   rw[Ux rfl,Rd.bind_ok,List.tail_cons]at ER;have QL:=QA ER;clear ER;refine(Q5 P z _ _ d _ HST.out.ps).mono ?_;rintro e w2 ⟨v,rfl,rfl,hps,QD⟩;replace HST:=tRe HST QD hps;clear hps QD;unfold VK;go_wp2;have YX:=QA HST.out.ps;refine Qz [Cd.is (π (some ⟨P,0,none⟩)),Cd.is (π (some ⟨P,0,none⟩)),Cd.is (π (some ⟨P,0,none⟩)),Cd.is (π (some ⟨P,0,none⟩)),Cd.is (π (some ⟨P,0,none⟩)),Cd.is (π (some ⟨P,0,none⟩)),Cd.is (VK ⟨uk,ux,up,uf⟩),Cd.is (ι κ uk),Cd.is (τ true),Cd.any] ?steps ?behind
   case steps =>
    intro xv W hW;refine⟨?s0,?s1,?s2,?s3,?s4,?s5,?s6,?s7,?s8,?s9,trivial⟩;all_goals intro hd K hK
    all_goals(try simp only[Act.put,List.setIfInBounds_toArray,List.set_cons_succ,List.set_cons_zero]at hK)
    case s0|s3=>clear hd;go_simp;exact hK.out _ _ (QF _ _) rfl
    case s1=>have hx0:xv 0=π (some ⟨P,0,none⟩):=hd 0;clear hd;rw[hx0]at hK⊢;go_simp;exact hK.out _ _ (QF _ _) rfl
    case s2=>have hx1:xv 1=π (some ⟨P,0,none⟩):=hd 1;clear hd;rw[hx1]at hK⊢;go_simp;exact hK.out _ _ (QF _ _) rfl
    case s4=>have hx3:xv 3=π (some ⟨P,0,none⟩):=hd 3;clear hd;rw[hx3]at hK⊢;go_simp;exact hK.out _ _ (QF _ _) rfl
    case s5=>have ZP:xv 4=π (some ⟨P,0,none⟩):=hd 4;clear hd;rw[ZP]at hK⊢;go_simp;exact hK.out _ _ (QF _ _) rfl
    case s6=>have ZY:xv 5=π (some ⟨P,0,none⟩):=hd 5;clear hd;rw[ZY]at hK⊢;go_simp;refine(Vk P z _ d W (YX.out.later hW)).mono ?_;rw[Hu.out];rintro e W' ⟨rfl,hb⟩;exact hK.out _ _ hb rfl
    case s7=>have JK:xv 6=VK ⟨uk,ux,up,uf⟩:=hd 6;clear hd;rw[JK]at hK⊢;have hf:=Ct uk ux up uf;unfold VK;go_simp;exact hK.out _ _ (QF _ _) rfl
    case s8=>have VM:xv 7=ι κ uk:=hd 7;clear hd;rw[VM]at hK⊢;have jD:(uk==3)=true:=Pp.out;go_simp;exact hK.out _ _ (QF _ _) rfl
    case s9=>have hx2:xv 2=π (some ⟨P,0,none⟩):=hd 2;have UI:xv 8=τ true:=hd 8;clear hd;rw[hx2]at hK⊢;rw[UI]at hK⊢;go_simp;refine(Z3 P W).mono ?_;rintro e W' ⟨rfl,rfl⟩;exact hK.out _ _ (QF _ _) trivial
   case behind =>
    intro xv W hW hx;replace HST:=tQu HST hW;clear hx hW YX;go_wp2_with fail;refine(Q5 P z _ _ d _ HST.out.ps).mono ?_;rintro e w1 ⟨v,rfl,rfl,hps,QD⟩;replace HST:=tRe HST QD hps;clear hps QD;unfold VK;have UC:=RH uk ux up uf;go_wp2_with fail;refine c₁ (Qu 3 ux none 0 0 _) fun w2 hb=>?_;replace HST:=tQu HST hb;clear hb;obtain⟨⟨r0,r1,r2,r3,y0,y1,y2,y3⟩,g0,g1,g2,g3⟩:=HST.out.VD;try unfold e0
    go_wp2;have hfin:=HST.out.ret QL.out rfl Ju;refine bodyPost_ret (results_cell_row rfl _ _ w.heap.size 24 _ (0,0) _ rfl hfin.1 underlying24 rfl Q8) rfl ?_;exact hfin.2
 |false =>
 rw[if_neg (V3 b1)]at hsp;cases b2:(tx.toList==[99,111,110,115,116])with
 |true =>
  rw[if_pos (Vp b2)]at hsp;obtain⟨t',r,rfl⟩:=Vx (z:=z) (l:=l) (u:=[99,111,110,115,116]) (by rw[Ht.out];exact b2) (by decide);obtain rfl:t'=⟨tk,tx,tp,tf⟩:=Ht.out;rw[List.tail_cons]at hsp;clear HV HF;have JJ:=QA hsp;clear hsp;go_enter func48,ntmps48;go_wp2_with fail;refine c₁ (Zn HST.out.ps Ht.out) fun w1 hb=>?_;replace HST:=tQu HST hb;clear hb;go_wp2_with fail;refine(Q5 P z _ _ d _ HST.out.ps).mono ?_;rintro e w2 ⟨v,rfl,rfl,hps,QD⟩;replace HST:=tRe HST QD hps;clear hps QD;unfold VK;go_wp2_with fail;cases hn:name z r with
  |bad p er=>have hsp:=JJ.out;rw[hn,Rd.QG]at hsp;have QL:=QA hsp;have HN:=QA hn;clear hsp hn;refine c₁ (Qh (Jb P z r d _ HST.out.ps) HN.out) fun w3 QD=>?_;have HE:=QA (HST.out.QS.trans QD);clear QD;go_wp2;exact⟨rfl,Qc QL.out HE.out⟩
  |ok s l2 =>
   have hsp:=JJ.out;rw[hn,Rd.bind_ok]at hsp;have HN:=QA hn;clear hn;have VW:=QA hsp;clear hsp;refine(Qf (Jb P z r d _ HST.out.ps) HN.out).mono ?_;rintro e w3 ⟨v,rfl,rfl,hps,QD⟩;replace HST:=tRe HST QD hps;clear hps QD;go_wp2_with fail;cases hw:QB.want z [61] l2 with
   |bad p er=>have hsp:=VW.out;rw[hw,Rd.QG]at hsp;have QL:=QA hsp;have HW:=QA hw;clear hsp hw;refine c₁ (Qh (Vt HST.out.ps HU.out (by decide)) HW.out) fun w4 QD=>?_;have HE:=QA (HST.out.QS.trans QD);clear QD;go_wp2;exact⟨rfl,Qc QL.out HE.out⟩
   |ok u l3 =>
    have hsp:=VW.out;rw[hw,Rd.bind_ok]at hsp;have HW:=QA hw;clear hw;have ZV:=QA hsp;clear hsp;refine(Qf (Vt HST.out.ps HU.out (by decide)) HW.out).mono ?_;rintro e w4 ⟨v,rfl,rfl,hps,QD⟩;replace HST:=tRe HST QD hps;clear hps QD;go_wp2_with fail;cases hx:XH z d l3 with
    |bad p er=>have hsp:=ZV.out;rw[hx,Rd.QG]at hsp;have QL:=QA hsp;have JX:=QA hx;clear hsp hx;refine c₁ (Qh (HX.out _ _ HST.out.ps) JX.out) fun w5 QD=>?_;have HE:=QA (HST.out.QS.trans QD);clear QD;go_wp2;exact⟨rfl,Qc QL.out HE.out⟩
    |ok n l4 =>
     have hsp:=ZV.out;obtain⟨nk,nx,ny,nc⟩:=n;rw[hx,Rd.bind_ok]at hsp;have JX:=QA hx;clear hx;have QL:=QA hsp;clear hsp;refine(Qf (HX.out _ _ HST.out.ps) JX.out).mono ?_;rintro e wn ⟨v,rfl,hv,hps,QD⟩;obtain⟨An,Cn,rfl,hf,hst⟩:=BZ HST.out hv hps QD;replace HST:=QA hst;simp only at hf⊢;generalize hm:nc.len=mn at hf⊢;have Ri:=QA hm;have ZX:=QA hf;clear hv hps QD hst hf hm;have ZL:=QA (qh wn (w.heap.size+1) HST.out.size nk nx ny nc _ ZX.out);have hb:=(QF (wn).heap.size (wn)).alloc (Nat.le_refl _) (θ #[ι κ nk,σ nx,σ ny,ς An mn Cn] 24);replace HST:=tQu HST hb;clear hb;go_wp2_with fail;refine c₁ (Qu 4 s _ _ _ _) fun w6 hb=>?_;replace HST:=tQu HST hb;replace ZL:=QA (SU ZL.out hb);clear hb;obtain⟨⟨r0,r1,r2,r3,y0,y1,y2,y3⟩,g0,g1,g2,g3⟩:=HST.out.VD;try unfold e0
     go_wp2;have hfin:=HST.out.ret QL.out rfl ZL.out;refine bodyPost_ret (results_cell_row rfl _ _ w.heap.size 24 _ (0,0) _ rfl hfin.1 underlying24 rfl Q8) rfl ?_;exact hfin.2
 |false =>
 rw[if_neg (V3 b2)]at hsp;cases b3:(tx.toList==[116,121,112,101])with
 |true =>
  rw[if_pos (Vp b3)]at hsp;obtain⟨t',r,rfl⟩:=Vx (z:=z) (l:=l) (u:=[116,121,112,101]) (by rw[Ht.out];exact b3) (by decide);obtain rfl:t'=⟨tk,tx,tp,tf⟩:=Ht.out;rw[List.tail_cons]at hsp;clear HV HF;have GK:=QA hsp;clear hsp;go_enter func48,ntmps48;go_wp2_with fail;refine c₁ (Zn HST.out.ps Ht.out) fun w1 hb=>?_;replace HST:=tQu HST hb;clear hb;go_wp2_with fail;refine(Q5 P z _ _ d _ HST.out.ps).mono ?_;rintro e w2 ⟨v,rfl,rfl,hps,QD⟩;replace HST:=tRe HST QD hps;clear hps QD;unfold VK;go_wp2_with fail;cases hn:name z r with
  |bad p er=>have hsp:=GK.out;rw[hn,Rd.QG]at hsp;have QL:=QA hsp;have HN:=QA hn;clear hsp hn;refine c₁ (Qh (Jb P z r d _ HST.out.ps) HN.out) fun w3 QD=>?_;have HE:=QA (HST.out.QS.trans QD);clear QD;go_wp2;exact⟨rfl,Qc QL.out HE.out⟩
  |ok s l2 =>
   have hsp:=GK.out;rw[hn,Rd.bind_ok]at hsp;have HN:=QA hn;clear hn;have KV:=QA hsp;clear hsp;refine(Qf (Jb P z r d _ HST.out.ps) HN.out).mono ?_;rintro e w3 ⟨v,rfl,rfl,hps,QD⟩;replace HST:=tRe HST QD hps;clear hps QD;go_wp2_with fail;cases hx:GG z d l2 with
   |bad p er=>have hsp:=KV.out;rw[hx,Rd.QG]at hsp;have QL:=QA hsp;have JX:=QA hx;clear hsp hx;refine c₁ (Qh (HT.out _ _ HST.out.ps) JX.out) fun w4 QD=>?_;have HE:=QA (HST.out.QS.trans QD);clear QD;go_wp2;exact⟨rfl,Qc QL.out HE.out⟩
   |ok n l4 =>
    have hsp:=KV.out;obtain⟨nk,nx,ny,nc⟩:=n;rw[hx,Rd.bind_ok]at hsp;have JX:=QA hx;clear hx;have QL:=QA hsp;clear hsp;refine(Qf (HT.out _ _ HST.out.ps) JX.out).mono ?_;rintro e wn ⟨v,rfl,hv,hps,QD⟩;obtain⟨An,Cn,rfl,hf,hst⟩:=BZ HST.out hv hps QD;replace HST:=QA hst;simp only at hf⊢;generalize hm:nc.len=mn at hf⊢;have Ri:=QA hm;have ZX:=QA hf;clear hv hps QD hst hf hm;have ZL:=QA (qh wn (w.heap.size+1) HST.out.size nk nx ny nc _ ZX.out);have hb:=(QF (wn).heap.size (wn)).alloc (Nat.le_refl _) (θ #[ι κ nk,σ nx,σ ny,ς An mn Cn] 24);replace HST:=tQu HST hb;clear hb;go_wp2_with fail;refine c₁ (Qu 6 s _ _ _ _) fun w5 hb=>?_;replace HST:=tQu HST hb;replace ZL:=QA (SU ZL.out hb);clear hb;obtain⟨⟨r0,r1,r2,r3,y0,y1,y2,y3⟩,g0,g1,g2,g3⟩:=HST.out.VD;try unfold e0
    go_wp2;have hfin:=HST.out.ret QL.out rfl ZL.out;refine bodyPost_ret (results_cell_row rfl _ _ w.heap.size 24 _ (0,0) _ rfl hfin.1 underlying24 rfl Q8) rfl ?_;exact hfin.2
 |false =>
 rw[if_neg (V3 b3)]at hsp;cases b4:(tx.toList==[118,97,114])with
 |true =>
  rw[if_pos (Vp b4)]at hsp;have QL:=QA hsp;clear hsp;generalize hq:Rf z d l=Rq at HV QL;clear hq;go_enter func48,ntmps48;go_wp2_with fail;refine c₁ (Zn HST.out.ps Ht.out) fun w1 hb=>?_;replace HST:=tQu HST hb;clear hb;go_wp2_with fail;refine(HV.out _ HST.out.ps).mono ?_;intro e W hp;rcases Ji HST.out hp with⟨p,er,hR,rfl,QD⟩|⟨k,x,y,c,l2,A,C,hR,rfl,hf,hst⟩
  ·have XZ:=QA QD;have HR:=QA hR;clear hp QD hR HST;go_wp2;exact⟨rfl,Qc (QL.out.trans HR.out) XZ.out⟩
  ·have HS:=QA hst;have KO:=QA hf;have HR:=QA hR;obtain⟨⟨r0,r1,r2,r3,y0,y1,y2,y3⟩,g0,g1,g2,g3⟩:=hst.VD;generalize hm:c.len=m at *;have Hm:=QA hm;clear hp hf hst hR HST hm;go_wp2;have hfin:=HS.out.ret (QL.out.trans HR.out) Hm.out.symm KO.out;refine bodyPost_ret (results_cell_row rfl _ _ w.heap.size 24 _ (0,0) _ rfl hfin.1 underlying24 rfl Q8) rfl ?_;exact hfin.2
 |false =>
 rw[if_neg (V3 b4)]at hsp;have QL:=QA hsp;clear hsp;generalize hq:Ke z d l=Rq at HF QL;clear hq;go_enter func48,ntmps48;go_wp2_with fail;refine c₁ (Zn HST.out.ps Ht.out) fun w1 hb=>?_;replace HST:=tQu HST hb;clear hb;go_wp2_with fail;refine(HF.out _ HST.out.ps).mono ?_;intro e W hp;rcases Ji HST.out hp with⟨p,er,hR,rfl,QD⟩|⟨k,x,y,c,l2,A,C,hR,rfl,hf,hst⟩
 ·have XZ:=QA QD;have HR:=QA hR;clear hp QD hR HST;go_wp2;exact⟨rfl,Qc (QL.out.trans HR.out) XZ.out⟩
 ·have HS:=QA hst;have KO:=QA hf;have HR:=QA hR;obtain⟨⟨r0,r1,r2,r3,y0,y1,y2,y3⟩,g0,g1,g2,g3⟩:=hst.VD;generalize hm:c.len=m at *;have Hm:=QA hm;clear hp hf hst hR HST hm;go_wp2;have hfin:=HS.out.ret (QL.out.trans HR.out) Hm.out.symm KO.out;refine bodyPost_ret (results_cell_row rfl _ _ w.heap.size 24 _ (0,0) _ rfl hfin.1 underlying24 rfl Q8) rfl ?_;exact hfin.2
theorem rM:Jd 48:=by intro args w;simp[go_sem]
theorem rq(P z N:Nat):Xj 48 P z N (Jn z):=fun W d l _ hd hps=>Qvw P z l d W hps hd
