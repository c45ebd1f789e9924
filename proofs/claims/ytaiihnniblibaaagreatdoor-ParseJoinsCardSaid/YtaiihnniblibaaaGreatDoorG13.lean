import Derived.Test.YtaiihnniblibaaaGreatDoorG12
set_option maxHeartbeats 16000000
set_option maxRecDepth 100000
set_option linter.unusedVariables false
open Go.Proofs.Tryz Go.ChangeShapes Go.WideShapes Go.ChangeAt Go.RowKit
open Go.Lib renaming hid→QA
open Go.RowKit.Below renaming refl→QF
open _root_.Nat renaming le_refl→QH,le_trans→VJ,lt_succ_self→JW
open _root_.List renaming setIfInBounds_toArray→VG,set_cons_succ→VF,set_cons_zero→VE
open Go.Value renaming string→σ,int→ι,slice→ς,pointer→π,bool→τ,agg→ξ
open Go.IntKind renaming i64→κ
open Go.Obj renaming cells→θ
open Go.Ending renaming returned→ρ
namespace Go.Proofs.YtaiihnniblibaaaGreatDoor
namespace QB
open Tree ZR Mem
def WC(z:Nat)(ex:Nat→Nat→List Tk→Rd Nd)(un:Nat→List Tk→Rd Nd)(d:Nat)(l:List Tk):Rd Nd :=
 (J' z (JM (QB.hd z l)) d l).bind fun t l =>
  if Q9 t=true then(un (d+if Q9 (QB.hd z l)=true then 2 else 1) l).bind fun n l=>.ok (node 28 t.x (one n)) l
  else(first z ex d t l).bind fun n l=>behind z ex d (l.length+1) n l
theorem Qwr(P z N:Nat)(ex:Nat→Nat→List Tk→Rd Nd)(hex:Xj 71 P z N (ex 1))(hdec:∀k,JE (ex k))(M:Nat)(hM:M≤N)(un:Nat→List Tk→Rd Nd)(hun:Xj 100 P z M un)(l:List Tk)(d:Nat)(w:World)(h:PS w P z l d)(hl:l.length≤M)(hd:d≤300) :
  Calls prog 100 #[π (some ⟨P,0,none⟩)] w (Qn NV w P z d (WC z ex un d l)):=by
 have hlt:=h.lt;have HST:=QA (XI.start h);have HN:=QA (Vk P z l d _ (h.alloc XO));have HI:=QA (fun W=>Qv3 (QB.hd z l) W);have JR:Hid (∀W,PS W P z l d→Calls prog 66 #[π (some ⟨P,0,none⟩),τ (JM (QB.hd z l))] W (Qn TV W P z d (J' z (JM (QB.hd z l)) d l))) :=
  fun W hW=>Zr _ P z l d qF (by omega) W hW
 have hsp:WC z ex un d l=WC z ex un d l:=rfl;conv at hsp=>rhs;unfold WC
 have Sw:P<w.heap.size+1:=by omega
 cases hr:J' z (JM (QB.hd z l)) d l with
 |bad p er=>rw[hr,Rd.QG]at hsp;rw[hr]at JR;have QL:=QA hsp;clear h hsp hr hex hun;generalize QB.hd z l=t at *;generalize JM t=bb at *;go_enter func100,ntmps100;go_wp2_with fail;refine c₁ (HN.out) fun w1 hb=>?_;replace HST:=tQu HST hb;clear hb;go_wp2_with fail;refine c₁ (HI.out _) fun w2 hb=>?_;replace HST:=tQu HST hb;clear hb;go_wp2_with fail;refine c₁ (Qh (JR.out _ HST.out.ps) rfl) fun w3 QD=>?_;have HE:=QA (HST.out.QS.trans QD);clear QD;go_wp2;exact⟨rfl,Qc QL.out HE.out⟩
 |ok t r =>
  obtain⟨-,Hp,rfl⟩:=E4 qF hr;rw[hr,Rd.bind_ok]at hsp;rw[hr]at JR;have hrl:r.length<M:=by simp only[List.length_cons]at hl;omega
  have BO:r.length<N:=by omega
  have XS:Hid (∀W (by_:Nat),by_≤2→PS W P z r d→Calls prog 89 #[π (some ⟨P,0,none⟩),ι κ (by_:Int),.func (.func 100) #[π (some ⟨P,0,none⟩)] #[]] W (Qn NV W P z d (un (d+by_) r))) :=
   fun W by_ hby hW=>Kn P z M _ un by_ r d W hW (J0 W Qq4 hun) hrl (by omega)
  simp only[QB.hd]at HN HI JR;have HIS:=QA (fun W=>gy t W);have Wq:Hid (∀W,PS W P z r d→∀tk tx tp tf,t=⟨tk,tx,tp,tf⟩→Calls prog 113 #[π (some ⟨P,0,none⟩),ξ #[ι κ tk,σ tx,ι κ (tp:Int),τ tf]] W (Qn NV W P z d (first z ex d t r))) :=
   fun W hW tk tx tp tf ht=>by subst ht;exact Qq1 P z N ex hex tk tx tp tf r d W hW BO (by omega)
  have GA:Hid (∀W B0 nk nx ny nc A C l',PS W P z l' d→Fs W (Mi B0 W.heap.size) (ς A nc.len C) nc→P<B0→B0≤W.heap.size→l'.length≤N→Calls prog 112 #[π (some ⟨P,0,none⟩),ξ #[ι κ nk,σ nx,σ ny,ς A nc.len C]] W (Qn (NB B0) W P z d (behind z ex d (l'.length+1) ⟨nk,nx,ny,nc⟩ l'))) :=
   fun W B0 nk nx ny nc A C l' hW hf hP hB hl'=>Qnv P z N ex hex (hdec 1) _ nk nx ny nc A C l' d B0 W hW hf hP hB hl' (JW _) (by omega)
  have hr1:∀n l1,first z ex d t r=.ok n l1→l1.length<r.length+1:=fun n l1 e=>se hdec (JW _) n l1 e
  have dM:=QA hr1;clear h hr hex hun hl hr1 hdec;generalize JM t=bb at *;obtain⟨bs,hbs⟩:=Mem.ZB (Q9 t);rw[hbs]at hsp HIS;have Ic:=QA hbs;clear hbs;have KP:Hid (∀W,PS W P z (t::r) d→Calls prog 66 #[π (some ⟨P,0,none⟩),τ bb] W fun e w'=>∃v,e=ρ v∧TV W w' v t∧PS w' P z r d∧ZM P W w'):=fun W hW=>Qf (JR.out W hW) rfl
  clear JR;have KV:=QA hsp;clear hsp;go_enter func100,ntmps100;go_wp2_with fail;refine c₁ (HN.out) fun w1 hb=>?_;replace HST:=tQu HST hb;clear hb;go_wp2_with fail;refine c₁ (HI.out _) fun w2 hb=>?_;replace HST:=tQu HST hb;clear hb;go_wp2_with fail;cases bs with
  |false =>
   have hsp:=KV.out;rw[if_neg (by decide)]at hsp;have VH:=QA hsp;clear hsp;cases hf:first z ex d t r with
   |bad p er =>
    have hsp:=VH.out;rw[hf,Rd.QG]at hsp;rw[hf]at Wq;have QL:=QA hsp;clear hsp hf;refine(KP.out _ HST.out.ps).mono ?_;rintro e wt ⟨v,rfl,rfl,hps,QD⟩;replace HST:=tRe HST QD hps;clear hps QD;obtain⟨tk,tx,tp,tf⟩:=t;have XN:=QA (Qv wt 75 (ι κ tk) (σ tx) (ι κ (tp:Int)) (τ tf));have YC:wt.heap.size≠P:=by have:=HST.out.size;omega
    have hgR:wt.heap.size≠w.heap.size:=by have:=HST.out.size;omega
    have TQ:=YC;have hb:=(QF (wt).heap.size (wt)).alloc (QH _) (θ #[ι κ tk,σ tx,ι κ (tp:Int),τ tf] 75);replace HST:=tQu HST hb;clear hb;unfold VK at HIS;unfold VK;obtain⟨t0,t1,t2,t3⟩:=XN.out.cells;go_wp2_with fail;refine c₁ (HIS.out _) fun w4 hb=>?_;replace HST:=tQu HST hb;replace XN:=QA (XN.out.later hb);clear hb;obtain⟨t0,t1,t2,t3⟩:=XN.out.cells;go_wp2_with fail;refine c₁ (Qh (Wq.out _ HST.out.ps tk tx tp tf rfl) rfl) fun w5 QD=>?_;have HE:=QA (HST.out.QS.trans QD);clear QD;go_wp2;exact⟨rfl,Qc QL.out HE.out⟩
   |ok n l1 =>
    have hsp:=VH.out;obtain⟨nk,nx,ny,nc⟩:=n;rw[hf,Rd.bind_ok]at hsp;have ES:l1.length≤N:=by have:=dM.out _ _ hf;omega
    rw[hf]at Wq;have CG:=QA hf;have ZO:=QA hsp;clear hf hsp;refine(KP.out _ HST.out.ps).mono ?_;rintro e wt ⟨v,rfl,rfl,hps,QD⟩;replace HST:=tRe HST QD hps;clear hps QD;obtain⟨tk,tx,tp,tf⟩:=t;have XN:=QA (Qv wt 75 (ι κ tk) (σ tx) (ι κ (tp:Int)) (τ tf));have YC:wt.heap.size≠P:=by have:=HST.out.size;omega
    have hgR:wt.heap.size≠w.heap.size:=by have:=HST.out.size;omega
    have TQ:=YC;have hb:=(QF (wt).heap.size (wt)).alloc (QH _) (θ #[ι κ tk,σ tx,ι κ (tp:Int),τ tf] 75);replace HST:=tQu HST hb;clear hb;unfold VK at HIS;unfold VK;obtain⟨t0,t1,t2,t3⟩:=XN.out.cells;go_wp2_with fail;refine c₁ (HIS.out _) fun w4 hb=>?_;replace HST:=tQu HST hb;replace XN:=QA (XN.out.later hb);clear hb;obtain⟨t0,t1,t2,t3⟩:=XN.out.cells;go_wp2_with fail;refine(Qf (Wq.out _ HST.out.ps tk tx tp tf rfl) rfl).mono ?_;rintro e wf ⟨v,rfl,hv,hps,QD⟩;obtain⟨A,C,rfl,hf,hst⟩:=BZ HST.out hv hps QD;replace HST:=QA hst;simp only at hf⊢;have HF:=QA hf;clear hv hps QD hst hf t0 t1 t2 t3 XN;go_wp2_with fail;cases hb:behind z ex d (l1.length+1) ⟨nk,nx,ny,nc⟩ l1 with
    |bad p er=>have hf:=CG.out;have hsp:=ZO.out;have QL:Hid (_=_):=hsp.trans hb;have HB:=QA hb;clear hsp hf hb;refine c₁ (Qh (GA.out _ _ nk nx ny nc A C l1 HST.out.ps HF.out Sw HST.out.size ES) HB.out) fun w5 QD=>?_;have HE:=QA (HST.out.QS.trans QD);clear QD;go_wp2;exact⟨rfl,Qc QL.out HE.out⟩
    |ok n2 l2 =>
     have hf:=CG.out;have hsp:=ZO.out;obtain⟨YH,YG,YF,YB⟩:=n2;have QL:Hid (_=_):=hsp.trans hb;have HB:=QA hb;clear hsp hf hb;refine(Qf (GA.out _ _ nk nx ny nc A C l1 HST.out.ps HF.out Sw HST.out.size ES) HB.out).mono ?_;rintro e w9 ⟨v,rfl,⟨A2,C2,rfl,hf2⟩,hps,QD⟩;replace HST:=tRe HST QD hps;simp only at hf2⊢;generalize hm2:YB.len=m2 at hf2⊢;have Hm2:=QA hm2;have EW:=QA hf2;clear hps QD hf2 hm2;obtain⟨⟨r0,r1,r2,r3,y0,y1,y2,y3⟩,g0,g1,g2,g3⟩:=HST.out.VD;try unfold e0
     go_wp2;have hfin:=HST.out.ret QL.out Hm2.out.symm EW.out;refine bodyPost_ret (results_cell_row rfl _ _ w.heap.size 24 _ (0,0) _ rfl hfin.1 underlying24 rfl Q8) rfl ?_;exact hfin.2
  |true =>
   have hsp:=KV.out;rw[if_pos rfl]at hsp;obtain⟨b2,hb2⟩:=Mem.ZB (Q9 (QB.hd z r));rw[hb2]at hsp;obtain⟨u,hu⟩:=Mem.ZB (QB.hd z r);rw[hu]at hb2;have QR:=QA hb2;have Hu:=QA hu;clear hb2 hu Wq GA dM;have JJ:=QA hsp;clear hsp;refine(KP.out _ HST.out.ps).mono ?_;rintro e wt ⟨v,rfl,rfl,hps,QD⟩;replace HST:=tRe HST QD hps;clear hps QD;obtain⟨tk,tx,tp,tf⟩:=t;have XN:=QA (Qv wt 75 (ι κ tk) (σ tx) (ι κ (tp:Int)) (τ tf));have YC:wt.heap.size≠P:=by have:=HST.out.size;omega
   have hgR:wt.heap.size≠w.heap.size:=by have:=HST.out.size;omega
   have TQ:=YC;have hb:=(QF (wt).heap.size (wt)).alloc (QH _) (θ #[ι κ tk,σ tx,ι κ (tp:Int),τ tf] 75);replace HST:=tQu HST hb;clear hb;unfold VK at HIS;unfold VK;obtain⟨t0,t1,t2,t3⟩:=XN.out.cells;go_wp2_with fail;refine c₁ (HIS.out _) fun w4 hb=>?_;replace HST:=tQu HST hb;replace XN:=QA (XN.out.later hb);clear hb;go_wp2_with fail;refine c₁ (Vk P z r d _ HST.out.ps) fun w5 hb=>?_;replace HST:=tQu HST hb;replace XN:=QA (XN.out.later hb);clear hb;rw[Hu.out];have Ni:=QA (fun W=>gy u W);rw[QR.out]at Ni;go_wp2_with fail;cases b2 with
   |false =>
    have hsp:=JJ.out;rw[if_neg (by decide)]at hsp;have ZV:=QA hsp;clear hsp;cases hr:un (d+1) r with
    |bad p er =>
     have hsp:=ZV.out;rw[hr,Rd.QG]at hsp;have QL:=QA hsp;have Hr:=QA hr;clear hsp hr;refine c₁ (Ni.out _) fun w6 hb=>?_;replace HST:=tQu HST hb;replace XN:=QA (XN.out.later hb);clear hb;have YJ:w.heap.size≠P:=by omega
     clear t0 t1 t2 t3;go_wp2;generalize wt.heap.size=gt at *;have QO:P<(w.heap.size+1):=(by omega);have UE:w.heap.size<(w.heap.size+1):=(by omega);refine Q3 [6,9] (GN 6 9 P z d r r (Ge (w.heap.size+1) w.heap.size Jg) (JZ w.heap.size)) P (w.heap.size) [Cd.is (π (some ⟨gt,1,none⟩)),Cd.is (σ tx),Cd.is (π (some ⟨P,0,none⟩)),Cd.is (ι κ 1),Cd.is (π (some ⟨P,0,none⟩)),Cd.is (.func (.func 100) #[π (some ⟨P,0,none⟩)] #[]),JV,JV,JV,JV] (GN.keep Ge.later JZ.later) ?start ?steps ?behind
     case start=>intro x;exact⟨fun h=>(by cases h),fun _=>HST.out.bx,fun h=>(by cases h),fun _=>HST.out.ps.drewN 1⟩
     case steps =>
      intro xv W hW;refine⟨?s0,?s1,?s2,?s3,?s4,?s5,?s6,?s7,?s8,?s9,trivial⟩;all_goals intro dn hdi QE hcl QC hg K hK
      all_goals(try simp only[Act.put,VG,VF,VE]at hK)
      case s0|s2|s3|s4=>clear QC QE;go_simp;exact hK.out _ _ (QF _ _) rfl
      case s1=>have hx0:xv 0=π (some ⟨gt,1,none⟩):=QC 0 (QE 0);clear QC QE;rw[hx0]at hK⊢;obtain⟨q0,q1,q2,q3⟩:=(XN.out.VV hW YC hgR).cells;go_simp;exact hK.out _ _ (QF _ _) rfl
      case s5=>have ZP:xv 4=π (some ⟨P,0,none⟩):=QC 4 (QE 4);clear QC QE;rw[ZP]at hK⊢;go_simp;exact hK.out _ _ (QF _ _) rfl
      case s6=>have hx2:xv 2=π (some ⟨P,0,none⟩):=QC 2 (QE 2);have hx3:xv 3=ι κ 1:=QC 3 (QE 3);have ZY:xv 5=.func (.func 100) #[π (some ⟨P,0,none⟩)] #[]:=QC 5 (QE 5);clear QC QE;rw[hx2]at hK⊢;rw[hx3]at hK⊢;rw[ZY]at hK⊢;go_simp;refine c₁ (Qh (XS.out W 1 (by decide) (hg.2.2.2 hdi)) Hr.out) fun W' QD=>?_;exact⟨rfl,Qc QL.out (QP.back HST.out.QS (hW.trans (QP.QS QD)) (QH _))⟩
      case s7=>have hno:False:=QC 6 (QE 6);exact hno.elim
      case s8=>have hx1:xv 1=σ tx:=QC 1 (QE 1);have hno:False:=QC 7 (QE 7);exact hno.elim
      case s9=>have hno:False:=QC 8 (QE 8);exact hno.elim
     case behind=>intro dn xv W hW hall hx hg;exact(hx 6:False).elim
    |ok n l2 =>
     have hsp:=ZV.out;obtain⟨nk,nx,ny,nc⟩:=n;rw[hr,Rd.bind_ok]at hsp;have QL:=QA hsp;have Hr:=QA hr;clear hsp hr;refine c₁ (Ni.out _) fun w6 hb=>?_;replace HST:=tQu HST hb;replace XN:=QA (XN.out.later hb);clear hb;have YJ:w.heap.size≠P:=by omega
     clear t0 t1 t2 t3;go_wp2;generalize wt.heap.size=gt at *;have QO:P<(w.heap.size+1):=(by omega);have UE:w.heap.size<(w.heap.size+1):=(by omega);refine Q3 [6,9] (GN 6 9 P z d r l2 (Ge (w.heap.size+1) w.heap.size (QB.node 28 tx (one ⟨nk,nx,ny,nc⟩))) (JZ w.heap.size)) P (w.heap.size) [Cd.is (π (some ⟨gt,1,none⟩)),Cd.is (σ tx),Cd.is (π (some ⟨P,0,none⟩)),Cd.is (ι κ 1),Cd.is (π (some ⟨P,0,none⟩)),Cd.is (.func (.func 100) #[π (some ⟨P,0,none⟩)] #[]),Ch (w.heap.size+1) QO UE ⟨nk,nx,ny,nc⟩,qa (w.heap.size+1) QO UE (one ⟨nk,nx,ny,nc⟩),Ch (w.heap.size+1) QO UE (QB.node 28 tx (one ⟨nk,nx,ny,nc⟩)),Cd.any] (GN.keep Ge.later JZ.later) ?start ?steps ?behind
     case start=>intro x;exact⟨fun h=>(by cases h),fun _=>HST.out.bx,fun h=>(by cases h),fun _=>HST.out.ps.drewN 1⟩
     case steps =>
      intro xv W hW;refine⟨?s0,?s1,?s2,?s3,?s4,?s5,?s6,?s7,?s8,?s9,trivial⟩;all_goals intro dn hdi QE hcl QC hg K hK
      all_goals(try simp only[Act.put,VG,VF,VE]at hK)
      case s0|s2|s3|s4=>clear QC QE;go_simp;exact hK.out _ _ (QF _ _) rfl
      case s1=>have hx0:xv 0=π (some ⟨gt,1,none⟩):=QC 0 (QE 0);clear QC QE;rw[hx0]at hK⊢;obtain⟨q0,q1,q2,q3⟩:=(XN.out.VV hW YC hgR).cells;go_simp;exact hK.out _ _ (QF _ _) rfl
      case s5=>have ZP:xv 4=π (some ⟨P,0,none⟩):=QC 4 (QE 4);clear QC QE;rw[ZP]at hK⊢;go_simp;exact hK.out _ _ (QF _ _) rfl
      case s6=>have hx2:xv 2=π (some ⟨P,0,none⟩):=QC 2 (QE 2);have hx3:xv 3=ι κ 1:=QC 3 (QE 3);have ZY:xv 5=.func (.func 100) #[π (some ⟨P,0,none⟩)] #[]:=QC 5 (QE 5);clear QC QE;rw[hx2]at hK⊢;rw[hx3]at hK⊢;rw[ZY]at hK⊢;go_simp;refine(Qf (XS.out W 1 (by decide) (hg.2.2.2 hdi)) Hr.out).mono ?_;rintro e W' ⟨v,rfl,⟨A,C,rfl,hf⟩,hps,QD⟩;have Mq:(w.heap.size+1)≤W.heap.size:=VJ HST.out.size hW.size;exact hK.out _ _ ⟨QP.QS QD,GN.call (by decide) hg (Q4 hcl hdi (by kernel_rfl)) (fun h=>h.QS QD YJ) hps⟩ ⟨A,C,rfl,Q7 hf Mq (QH _)⟩
      case s7=>obtain⟨A6,C6,JK,GI⟩:SZ (w.heap.size+1) ⟨nk,nx,ny,nc⟩ (xv 6) W:=QC 6 (QE 6);clear QC QE;rw[JK]at hK⊢;go_simp;exact hK.out _ _ ((QF _ _).alloc (QH _) _) (Zi W _ (VJ HST.out.size hW.size) nk nx ny nc _ GI)
      case s8=>have hx1:xv 1=σ tx:=QC 1 (QE 1);obtain⟨A7,C7,VM,Lg⟩:Uk (w.heap.size+1) (one ⟨nk,nx,ny,nc⟩) (xv 7) W:=QC 7 (QE 7);clear QC QE;rw[hx1]at hK⊢;rw[VM]at hK⊢;go_simp;refine c₁ (Qu _ _ _ _ _ W) fun W' hb=>?_;exact hK.out _ _ hb ⟨A7,C7,rfl,Q7 (Zc Lg hb (QH _)) (QH _) hb.size⟩
      case s9=>obtain⟨A8,C8,UI,MS⟩:SZ (w.heap.size+1) (QB.node 28 tx (one ⟨nk,nx,ny,nc⟩)) (xv 8) W:=QC 8 (QE 8);rw[UI]at hK⊢;have hds:dn 6=true:=QE 6;have QZ:=hg.2.1 hdi;obtain⟨b0,b1,b2,b3,VO⟩:=id QZ;obtain⟨g0,g1,g2,g3⟩:=VO.VD;obtain⟨y0,y1,y2,y3⟩:=VO.cells;simp only[QB.node]at MS hK⊢;go_simp;exact hK.out undef _ ⟨QP.ZT _ _ _ _ _,GN.store (by decide) (hds) (qW QZ rfl MS UE) (Va (hg.2.2.1 hds) (by omega) _ _ _ _)⟩ trivial
     case behind=>intro dn xv W hW hall hx hg;have hF:=hg.1 (hall 9);have hps:=hg.2.2.1 (hall 6);have ZW:=QP.back HST.out.QS hW (QH _);obtain⟨A,C,QZ,hpost⟩:=qA (w:=w) QL.out hF (by omega) hps ZW;have EE:=QA hpost;have JO:=QA QZ;clear hx hF hps ZW hpost hg hall hW QZ;go_wp2;refine bodyPost_ret (results_cell_row rfl _ _ w.heap.size 24 _ (0,0) _ rfl JO.out underlying24 rfl Q8) rfl ?_;exact EE.out
   |true =>
    have hsp:=JJ.out;rw[if_pos rfl]at hsp;have VW:=QA hsp;clear hsp;cases hr:un (d+2) r with
    |bad p er =>
     have hsp:=VW.out;rw[hr,Rd.QG]at hsp;have QL:=QA hsp;have Hr:=QA hr;clear hsp hr;refine c₁ (Ni.out _) fun w6 hb=>?_;replace HST:=tQu HST hb;replace XN:=QA (XN.out.later hb);clear hb;have YJ:w.heap.size≠P:=by omega
     clear t0 t1 t2 t3;go_wp2;generalize wt.heap.size=gt at *;have QO:P<(w.heap.size+1):=(by omega);have UE:w.heap.size<(w.heap.size+1):=(by omega);refine Q3 [6,9] (GN 6 9 P z d r r (Ge (w.heap.size+1) w.heap.size Jg) (JZ w.heap.size)) P (w.heap.size) [Cd.is (π (some ⟨gt,1,none⟩)),Cd.is (σ tx),Cd.is (π (some ⟨P,0,none⟩)),Cd.is (ι κ 2),Cd.is (π (some ⟨P,0,none⟩)),Cd.is (.func (.func 100) #[π (some ⟨P,0,none⟩)] #[]),JV,JV,JV,JV] (GN.keep Ge.later JZ.later) ?start ?steps ?behind
     case start=>intro x;exact⟨fun h=>(by cases h),fun _=>HST.out.bx,fun h=>(by cases h),fun _=>HST.out.ps.drewN 1⟩
     case steps =>
      intro xv W hW;refine⟨?s0,?s1,?s2,?s3,?s4,?s5,?s6,?s7,?s8,?s9,trivial⟩;all_goals intro dn hdi QE hcl QC hg K hK
      all_goals(try simp only[Act.put,VG,VF,VE]at hK)
      case s0|s2|s3|s4=>clear QC QE;go_simp;exact hK.out _ _ (QF _ _) rfl
      case s1=>have hx0:xv 0=π (some ⟨gt,1,none⟩):=QC 0 (QE 0);clear QC QE;rw[hx0]at hK⊢;obtain⟨q0,q1,q2,q3⟩:=(XN.out.VV hW YC hgR).cells;go_simp;exact hK.out _ _ (QF _ _) rfl
      case s5=>have ZP:xv 4=π (some ⟨P,0,none⟩):=QC 4 (QE 4);clear QC QE;rw[ZP]at hK⊢;go_simp;exact hK.out _ _ (QF _ _) rfl
      case s6=>have hx2:xv 2=π (some ⟨P,0,none⟩):=QC 2 (QE 2);have hx3:xv 3=ι κ 2:=QC 3 (QE 3);have ZY:xv 5=.func (.func 100) #[π (some ⟨P,0,none⟩)] #[]:=QC 5 (QE 5);clear QC QE;rw[hx2]at hK⊢;rw[hx3]at hK⊢;rw[ZY]at hK⊢;go_simp;refine c₁ (Qh (XS.out W 2 (by decide) (hg.2.2.2 hdi)) Hr.out) fun W' QD=>?_;exact⟨rfl,Qc QL.out (QP.back HST.out.QS (hW.trans (QP.QS QD)) (QH _))⟩
      case s7=>have hno:False:=QC 6 (QE 6);exact hno.elim
      case s8=>have hx1:xv 1=σ tx:=QC 1 (QE 1);have hno:False:=QC 7 (QE 7);exact hno.elim
      case s9=>have hno:False:=QC 8 (QE 8);exact hno.elim
     case behind=>intro dn xv W hW hall hx hg;exact(hx 6:False).elim
    |ok n l2 =>
     have hsp:=VW.out;obtain⟨nk,nx,ny,nc⟩:=n;rw[hr,Rd.bind_ok]at hsp;have QL:=QA hsp;have Hr:=QA hr;clear hsp hr;refine c₁ (Ni.out _) fun w6 hb=>?_;replace HST:=tQu HST hb;replace XN:=QA (XN.out.later hb);clear hb;have YJ:w.heap.size≠P:=by omega
     clear t0 t1 t2 t3;go_wp2;generalize wt.heap.size=gt at *;have QO:P<(w.heap.size+1):=(by omega);have UE:w.heap.size<(w.heap.size+1):=(by omega);refine Q3 [6,9] (GN 6 9 P z d r l2 (Ge (w.heap.size+1) w.heap.size (QB.node 28 tx (one ⟨nk,nx,ny,nc⟩))) (JZ w.heap.size)) P (w.heap.size) [Cd.is (π (some ⟨gt,1,none⟩)),Cd.is (σ tx),Cd.is (π (some ⟨P,0,none⟩)),Cd.is (ι κ 2),Cd.is (π (some ⟨P,0,none⟩)),Cd.is (.func (.func 100) #[π (some ⟨P,0,none⟩)] #[]),Ch (w.heap.size+1) QO UE ⟨nk,nx,ny,nc⟩,qa (w.heap.size+1) QO UE (one ⟨nk,nx,ny,nc⟩),Ch (w.heap.size+1) QO UE (QB.node 28 tx (one ⟨nk,nx,ny,nc⟩)),Cd.any] (GN.keep Ge.later JZ.later) ?start ?steps ?behind
     case start=>intro x;exact⟨fun h=>(by cases h),fun _=>HST.out.bx,fun h=>(by cases h),fun _=>HST.out.ps.drewN 1⟩
     case steps =>
      intro xv W hW;refine⟨?s0,?s1,?s2,?s3,?s4,?s5,?s6,?s7,?s8,?s9,trivial⟩;all_goals intro dn hdi QE hcl QC hg K hK
      all_goals(try simp only[Act.put,VG,VF,VE]at hK)
      case s0|s2|s3|s4=>clear QC QE;go_simp;exact hK.out _ _ (QF _ _) rfl
      case s1=>have hx0:xv 0=π (some ⟨gt,1,none⟩):=QC 0 (QE 0);clear QC QE;rw[hx0]at hK⊢;obtain⟨q0,q1,q2,q3⟩:=(XN.out.VV hW YC hgR).cells;go_simp;exact hK.out _ _ (QF _ _) rfl
      case s5=>have ZP:xv 4=π (some ⟨P,0,none⟩):=QC 4 (QE 4);clear QC QE;rw[ZP]at hK⊢;go_simp;exact hK.out _ _ (QF _ _) rfl
      case s6=>have hx2:xv 2=π (some ⟨P,0,none⟩):=QC 2 (QE 2);have hx3:xv 3=ι κ 2:=QC 3 (QE 3);have ZY:xv 5=.func (.func 100) #[π (some ⟨P,0,none⟩)] #[]:=QC 5 (QE 5);clear QC QE;rw[hx2]at hK⊢;rw[hx3]at hK⊢;rw[ZY]at hK⊢;go_simp;refine(Qf (XS.out W 2 (by decide) (hg.2.2.2 hdi)) Hr.out).mono ?_;rintro e W' ⟨v,rfl,⟨A,C,rfl,hf⟩,hps,QD⟩;have Mq:(w.heap.size+1)≤W.heap.size:=VJ HST.out.size hW.size;exact hK.out _ _ ⟨QP.QS QD,GN.call (by decide) hg (Q4 hcl hdi (by kernel_rfl)) (fun h=>h.QS QD YJ) hps⟩ ⟨A,C,rfl,Q7 hf Mq (QH _)⟩
      case s7=>obtain⟨A6,C6,JK,GI⟩:SZ (w.heap.size+1) ⟨nk,nx,ny,nc⟩ (xv 6) W:=QC 6 (QE 6);clear QC QE;rw[JK]at hK⊢;go_simp;exact hK.out _ _ ((QF _ _).alloc (QH _) _) (Zi W _ (VJ HST.out.size hW.size) nk nx ny nc _ GI)
      case s8=>have hx1:xv 1=σ tx:=QC 1 (QE 1);obtain⟨A7,C7,VM,Lg⟩:Uk (w.heap.size+1) (one ⟨nk,nx,ny,nc⟩) (xv 7) W:=QC 7 (QE 7);clear QC QE;rw[hx1]at hK⊢;rw[VM]at hK⊢;go_simp;refine c₁ (Qu _ _ _ _ _ W) fun W' hb=>?_;exact hK.out _ _ hb ⟨A7,C7,rfl,Q7 (Zc Lg hb (QH _)) (QH _) hb.size⟩
      case s9=>obtain⟨A8,C8,UI,MS⟩:SZ (w.heap.size+1) (QB.node 28 tx (one ⟨nk,nx,ny,nc⟩)) (xv 8) W:=QC 8 (QE 8);rw[UI]at hK⊢;have hds:dn 6=true:=QE 6;have QZ:=hg.2.1 hdi;obtain⟨b0,b1,b2,b3,VO⟩:=id QZ;obtain⟨g0,g1,g2,g3⟩:=VO.VD;obtain⟨y0,y1,y2,y3⟩:=VO.cells;simp only[QB.node]at MS hK⊢;go_simp;exact hK.out undef _ ⟨QP.ZT _ _ _ _ _,GN.store (by decide) (hds) (qW QZ rfl MS UE) (Va (hg.2.2.1 hds) (by omega) _ _ _ _)⟩ trivial
     case behind=>intro dn xv W hW hall hx hg;have hF:=hg.1 (hall 9);have hps:=hg.2.2.1 (hall 6);have ZW:=QP.back HST.out.QS hW (QH _);obtain⟨A,C,QZ,hpost⟩:=qA (w:=w) QL.out hF (by omega) hps ZW;have EE:=QA hpost;have JO:=QA QZ;clear hx hF hps ZW hpost hg hall hW QZ;go_wp2;refine bodyPost_ret (results_cell_row rfl _ _ w.heap.size 24 _ (0,0) _ rfl JO.out underlying24 rfl Q8) rfl ?_;exact EE.out
