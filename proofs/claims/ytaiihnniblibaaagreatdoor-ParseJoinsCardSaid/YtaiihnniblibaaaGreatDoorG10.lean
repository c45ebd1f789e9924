import Derived.Test.YtaiihnniblibaaaGreatDoorG09
set_option maxHeartbeats 8000000
set_option maxRecDepth 100000
set_option linter.unusedVariables false
open Go.Proofs.Tryz Go.ChangeShapes Go.WideShapes Go.ChangeAt Go.RowKit
open Go.Lib renaming hid→QA
open Go.RowKit.Below renaming refl→QF
open _root_.Nat renaming le_refl→QH,le_trans→VJ
open Go.Value renaming string→σ,int→ι,slice→ς,pointer→π,bool→τ,agg→ξ
open Go.IntKind renaming i64→κ
open Go.Obj renaming cells→θ
open Go.Ending renaming returned→ρ
namespace Go.Proofs.YtaiihnniblibaaaGreatDoor
namespace QB
open Tree ZR Mem
theorem oL:Jd 72:=by intro args w;simp[go_sem]
theorem Qq5:Jd 91:=by intro args w;simp[go_sem]
theorem nT:Jd 93:=by intro args w;simp[go_sem]
theorem rh{z d:Nat}{f:Bool}{l r:List Tk}{t:Tk}(hf:f=true→l≠[])(h:J' z f d l=.ok t r):r.length<l.length:=by
 obtain⟨_,_,rfl⟩:=E4 hf h;simp
theorem qE{z:Nat}{l:List Tk}(h:V' (QB.hd z l)=true):l≠[]:=fun e=>by
 subst e;simp[V',QB.hd,QQ,Je,e0]at h
theorem jO{z:Nat}{l:List Tk}(h:Je (QB.hd z l)=true):l≠[]:=fun e=>by
 subst e;simp[QB.hd,Je]at h
theorem Xb{z:Nat}{k:Int}{ty:Nat→List Tk→Rd Nd}(h:JE ty):JE (Vq z k ty):=by
 intro d l n r hr;unfold Vq at hr;cases h1:J' z (Je (QB.hd z l)) d l with
 |bad p e=>rw[h1]at hr;cases hr
 |ok t l1 =>
  rw[h1,Rd.bind_ok]at hr;have a:=rh jO h1;cases h2:ty d l1 with
  |bad p e=>rw[h2]at hr;cases hr
  |ok m l2=>rw[h2,Rd.bind_ok]at hr;have b:=h d l1 m l2 h2;simp only[Rd.ok.injEq]at hr;rw[←hr.2];omega
def BV(z:Nat)(ty:Nat→List Tk→Rd Nd)(d:Nat)(l:List Tk):Rd Nd:=(J' z (V' (QB.hd z l)) d l).bind fun t l=>Kf z ty d t l
theorem Qse(P z N:Nat)(ty:Nat→List Tk→Rd Nd)(hty:Xj 72 P z N ty)(hdec:JE ty)(l:List Tk)(d:Nat)(w:World)(h:PS w P z l d)(hl:l.length≤N)(hd:d≤300) :
  Calls prog 72 #[π (some ⟨P,0,none⟩)] w (Qn NV w P z d (BV z ty d l)):=by
 have hlt:=h.lt;have HST:=QA (XI.start h);have HN:=QA (Vk P z l d _ (h.alloc XO));have HI:=QA (fun W=>Qv4 (QB.hd z l) W);have JR:Hid (∀W,PS W P z l d→Calls prog 66 #[π (some ⟨P,0,none⟩),τ (V' (QB.hd z l))] W (Qn TV W P z d (J' z (V' (QB.hd z l)) d l))) :=
  fun W hW=>Zr _ P z l d qE (by omega) W hW
 have hsp:BV z ty d l=BV z ty d l:=rfl;conv at hsp=>rhs;unfold BV
 have Sw:P<w.heap.size+1:=by omega
 cases hr:J' z (V' (QB.hd z l)) d l with
 |bad p er=>rw[hr,Rd.QG]at hsp;rw[hr]at JR;have QL:=QA hsp;clear h hsp hr hty hdec;generalize QB.hd z l=t at *;generalize V' t=bb at *;go_enter func72,ntmps72;go_wp2_with fail;refine c₁ (HN.out) fun w1 hb=>?_;replace HST:=tQu HST hb;clear hb;go_wp2_with fail;refine c₁ (HI.out _) fun w2 hb=>?_;replace HST:=tQu HST hb;clear hb;go_wp2_with fail;refine c₁ (Qh (JR.out _ HST.out.ps) rfl) fun w3 QD=>?_;have HE:=QA (HST.out.QS.trans QD);clear QD;go_wp2;exact⟨rfl,Qc QL.out HE.out⟩
 |ok t r =>
  obtain⟨-,Hp,rfl⟩:=E4 qE hr;rw[hr,Rd.bind_ok]at hsp;rw[hr]at JR;have hrl:r.length<N:=by simp only[List.length_cons]at hl;omega
  have XS:Hid (∀W l',PS W P z l' d→l'.length<N→Calls prog 89 #[π (some ⟨P,0,none⟩),ι κ ((1:Nat):Int),.func (.func 72) #[π (some ⟨P,0,none⟩)] #[]] W (Qn NV W P z d (ty (d+1) l'))) :=
   fun W l' hW hl'=>Kn P z N _ ty 1 l' d W hW (J0 W oL hty) hl' (by omega)
  have Tg:Hid (∀W,PS W P z r d→Calls prog 90 #[π (some ⟨P,0,none⟩),.func (.func 91) #[π (some ⟨P,0,none⟩)] #[]] W (Qn FV W P z d (Jy z (Vq z 14 ty) d r))) :=
   fun W hW=>U4 P z N _ (Vq z 14 ty) (Xb hdec) r d W hW (J0 W Qq5 (fun W' d' l' hl' hd' hps=>Qq2 P z N ty hty l' d' W' hps (by omega) hd')) (by omega) hd
  have HDT:=QA hdec;clear h hr hty hl hdec;simp only[QB.hd]at HN HI JR;generalize V' t=bb at *;obtain⟨tk,tx,tp,tf⟩:=t;have KP:Hid (∀W,PS W P z (⟨tk,tx,tp,tf⟩::r) d→Calls prog 66 #[π (some ⟨P,0,none⟩),τ bb] W fun e w'=>∃v,e=ρ v∧TV W w' v ⟨tk,tx,tp,tf⟩∧PS w' P z r d∧ZM P W w'):=fun W hW=>Qf (JR.out W hW) rfl
  clear JR;have uX:(⟨#[93]⟩:ByteArray).toList=[93]:=by rw[ByteArray.toList_eq]
  have uW:(⟨#[91]⟩:ByteArray).toList=[91]:=by rw[ByteArray.toList_eq]
  have Nf:=QA uX;have XY:=QA uW;clear uX uW;have hrest:BV z ty d (⟨tk,tx,tp,tf⟩::r)=Kf z ty d ⟨tk,tx,tp,tf⟩ r:=hsp;clear hsp;unfold Kf at hrest;cases b0:(tx.toList==[42])with
  |true =>
   rw[if_pos (Vp b0)]at hrest;have Pm:=QA hrest;clear hrest;go_enter func72,ntmps72;go_wp2_with fail;refine c₁ (HN.out) fun w1 hb=>?_;replace HST:=tQu HST hb;clear hb;go_wp2_with fail;refine c₁ (HI.out _) fun w2 hb=>?_;replace HST:=tQu HST hb;clear hb;go_wp2_with fail;refine(KP.out _ HST.out.ps).mono ?_;rintro e wt ⟨v,rfl,rfl,hps,QD⟩;replace HST:=tRe HST QD hps;clear hps QD;have XN:=QA (Qv wt 75 (ι κ tk) (σ tx) (ι κ (tp:Int)) (τ tf));have YC:wt.heap.size≠P:=by have:=HST.out.size;omega
   have hb:=(QF (wt).heap.size (wt)).alloc (QH _) (θ #[ι κ tk,σ tx,ι κ (tp:Int),τ tf] 75);replace HST:=tQu HST hb;clear hb;unfold VK;go_wp2_with fail;cases hr2:ty (d+1) r with
   |bad p er=>have hrest:=Pm.out;rw[hr2,Rd.QG]at hrest;have QL:=QA hrest;have LU:=QA hr2;clear hrest hr2;refine c₁ (Qh (XS.out _ _ HST.out.ps hrl) LU.out) fun w4 QD=>?_;have HE:=QA (HST.out.QS.trans QD);clear QD;go_wp2;exact⟨rfl,Qc QL.out HE.out⟩
   |ok n l2=>have hrest:=Pm.out;obtain⟨nk,nx,ny,nc⟩:=n;rw[hr2,Rd.bind_ok]at hrest;have QL:=QA hrest;have LU:=QA hr2;clear hrest hr2;refine(Qf (XS.out _ _ HST.out.ps hrl) LU.out).mono ?_;rintro e wn ⟨v,rfl,hv,hps,QD⟩;obtain⟨An,Cn,rfl,hf,hst⟩:=BZ HST.out hv hps QD;replace HST:=QA hst;simp only at hf⊢;generalize hm:nc.len=mn at hf⊢;have Ri:=QA hm;have ZX:=QA hf;clear hv hps QD hst hf hm;have ZL:=QA (qh wn (w.heap.size+1) HST.out.size nk nx ny nc _ ZX.out);have hb:=(QF (wn).heap.size (wn)).alloc (QH _) (θ #[ι κ nk,σ nx,σ ny,ς An mn Cn] 24);replace HST:=tQu HST hb;clear hb;go_wp2_with fail;refine c₁ (Qu 10 ⟨#[]⟩ _ _ _ _) fun w5 hb=>?_;replace HST:=tQu HST hb;replace ZL:=QA (SU ZL.out hb);clear hb;obtain⟨⟨r0,r1,r2,r3,y0,y1,y2,y3⟩,g0,g1,g2,g3⟩:=HST.out.VD;unfold e0;go_wp2;have hfin:=HST.out.ret QL.out rfl ZL.out;refine bodyPost_ret (results_cell_row rfl _ _ w.heap.size 24 _ (0,0) _ rfl hfin.1 underlying24 rfl Q8) rfl ?_;exact hfin.2
  |false =>
  rw[if_neg (V3 b0)]at hrest;cases b1:(tx.toList==[91])with
  |true =>
   rw[if_pos (Vp b1)]at hrest;have Pj:=QA hrest;clear hrest;go_enter func72,ntmps72;go_wp2_with fail;refine c₁ (HN.out) fun w1 hb=>?_;replace HST:=tQu HST hb;clear hb;go_wp2_with fail;refine c₁ (HI.out _) fun w2 hb=>?_;replace HST:=tQu HST hb;clear hb;go_wp2_with fail;refine(KP.out _ HST.out.ps).mono ?_;rintro e wt ⟨v,rfl,rfl,hps,QD⟩;replace HST:=tRe HST QD hps;clear hps QD;have XN:=QA (Qv wt 75 (ι κ tk) (σ tx) (ι κ (tp:Int)) (τ tf));have YC:wt.heap.size≠P:=by have:=HST.out.size;omega
   have hb:=(QF (wt).heap.size (wt)).alloc (QH _) (θ #[ι κ tk,σ tx,ι κ (tp:Int),τ tf] 75);replace HST:=tQu HST hb;clear hb;unfold VK;go_wp2_with fail;cases hw:QB.want z [93] r with
   |bad p er=>have hrest:=Pj.out;rw[hw,Rd.QG]at hrest;have QL:=QA hrest;have HW:=QA hw;clear hrest hw;refine c₁ (Qh (Vt HST.out.ps Nf.out (by decide)) HW.out) fun w4 QD=>?_;have HE:=QA (HST.out.QS.trans QD);clear QD;go_wp2;exact⟨rfl,Qc QL.out HE.out⟩
   |ok x r2 =>
    have hrest:=Pj.out;rw[hw,Rd.bind_ok]at hrest;have TA:r2.length<N:=by rw[Xk hw,List.length_tail];omega
    have HW:=QA hw;clear hw;have Pk:=QA hrest;clear hrest;refine(Qf (Vt HST.out.ps Nf.out (by decide)) HW.out).mono ?_;rintro e w4 ⟨v,rfl,rfl,hps,QD⟩;replace HST:=tRe HST QD hps;clear hps QD;go_wp2_with fail;cases hr2:ty (d+1) r2 with
    |bad p er=>have hrest:=Pk.out;rw[hr2,Rd.QG]at hrest;have QL:=QA hrest;have LU:=QA hr2;clear hrest hr2;refine c₁ (Qh (XS.out _ _ HST.out.ps TA) LU.out) fun w5 QD=>?_;have HE:=QA (HST.out.QS.trans QD);clear QD;go_wp2;exact⟨rfl,Qc QL.out HE.out⟩
    |ok n l2=>have hrest:=Pk.out;obtain⟨nk,nx,ny,nc⟩:=n;rw[hr2,Rd.bind_ok]at hrest;have QL:=QA hrest;have LU:=QA hr2;clear hrest hr2;refine(Qf (XS.out _ _ HST.out.ps TA) LU.out).mono ?_;rintro e wn ⟨v,rfl,hv,hps,QD⟩;obtain⟨An,Cn,rfl,hf,hst⟩:=BZ HST.out hv hps QD;replace HST:=QA hst;simp only at hf⊢;generalize hm:nc.len=mn at hf⊢;have Ri:=QA hm;have ZX:=QA hf;clear hv hps QD hst hf hm;have ZL:=QA (qh wn (w.heap.size+1) HST.out.size nk nx ny nc _ ZX.out);have hb:=(QF (wn).heap.size (wn)).alloc (QH _) (θ #[ι κ nk,σ nx,σ ny,ς An mn Cn] 24);replace HST:=tQu HST hb;clear hb;go_wp2_with fail;refine c₁ (Qu 11 ⟨#[]⟩ _ _ _ _) fun w6 hb=>?_;replace HST:=tQu HST hb;replace ZL:=QA (SU ZL.out hb);clear hb;obtain⟨⟨r0,r1,r2,r3,y0,y1,y2,y3⟩,g0,g1,g2,g3⟩:=HST.out.VD;unfold e0;go_wp2;have hfin:=HST.out.ret QL.out rfl ZL.out;refine bodyPost_ret (results_cell_row rfl _ _ w.heap.size 24 _ (0,0) _ rfl hfin.1 underlying24 rfl Q8) rfl ?_;exact hfin.2
  |false =>
  rw[if_neg (V3 b1)]at hrest;cases b2:(tx.toList==[109,97,112])with
  |true =>
   rw[if_pos (Vp b2)]at hrest;have Pd:=QA hrest;clear hrest;go_enter func72,ntmps72;go_wp2_with fail;refine c₁ (HN.out) fun w1 hb=>?_;replace HST:=tQu HST hb;clear hb;go_wp2_with fail;refine c₁ (HI.out _) fun w2 hb=>?_;replace HST:=tQu HST hb;clear hb;go_wp2_with fail;refine(KP.out _ HST.out.ps).mono ?_;rintro e wt ⟨v,rfl,rfl,hps,QD⟩;replace HST:=tRe HST QD hps;clear hps QD;have XN:=QA (Qv wt 75 (ι κ tk) (σ tx) (ι κ (tp:Int)) (τ tf));have YC:wt.heap.size≠P:=by have:=HST.out.size;omega
   have hb:=(QF (wt).heap.size (wt)).alloc (QH _) (θ #[ι κ tk,σ tx,ι κ (tp:Int),τ tf] 75);replace HST:=tQu HST hb;clear hb;unfold VK;go_wp2_with fail;cases hw:QB.want z [91] r with
   |bad p er=>have hrest:=Pd.out;rw[hw,Rd.QG]at hrest;have QL:=QA hrest;have HW:=QA hw;clear hrest hw;refine c₁ (Qh (Vt HST.out.ps XY.out (by decide)) HW.out) fun w4 QD=>?_;have HE:=QA (HST.out.QS.trans QD);clear QD;go_wp2;exact⟨rfl,Qc QL.out HE.out⟩
   |ok x r2 =>
    have hrest:=Pd.out;rw[hw,Rd.bind_ok]at hrest;have TA:r2.length<N:=by rw[Xk hw,List.length_tail];omega
    have HW:=QA hw;clear hw;have Pe:=QA hrest;clear hrest;refine(Qf (Vt HST.out.ps XY.out (by decide)) HW.out).mono ?_;rintro e w4 ⟨v,rfl,rfl,hps,QD⟩;replace HST:=tRe HST QD hps;clear hps QD;go_wp2_with fail;cases hr2:ty (d+1) r2 with
    |bad p er=>have hrest:=Pe.out;rw[hr2,Rd.QG]at hrest;have QL:=QA hrest;have LU:=QA hr2;clear hrest hr2;refine c₁ (Qh (XS.out _ _ HST.out.ps TA) LU.out) fun w5 QD=>?_;have HE:=QA (HST.out.QS.trans QD);clear QD;go_wp2;exact⟨rfl,Qc QL.out HE.out⟩
    |ok n r3 =>
     have hrest:=Pe.out;obtain⟨kk,kx,ky,kc⟩:=n;rw[hr2,Rd.bind_ok]at hrest;have fH:r3.length<N:=by have:=HDT.out (d+1) r2 _ r3 hr2;omega
     have LU:=QA hr2;clear hr2;have Pf:=QA hrest;clear hrest;refine(Qf (XS.out _ _ HST.out.ps TA) LU.out).mono ?_;rintro e wk ⟨v,rfl,hv,hps,QD⟩;obtain⟨Ak,Ck,rfl,hf,hst⟩:=BZ HST.out hv hps QD;replace HST:=QA hst;simp only at hf⊢;generalize hm:kc.len=mk at hf⊢;have GS:=QA hm;have Bw:=QA hf;clear hv hps QD hst hf hm;have FZ:=QA (Qv wk 24 (ι κ kk) (σ kx) (σ ky) (ς Ak mk Ck));have vW:wk.heap.size≠P:=by have:=HST.out.size;omega
     have uD:wk.heap.size≠w.heap.size:=by have:=HST.out.size;omega
     have TR:=vW;have hb:=(QF (wk).heap.size (wk)).alloc (QH _) (θ #[ι κ kk,σ kx,σ ky,ς Ak mk Ck] 24);replace HST:=tQu HST hb;replace Bw:=QA (SU Bw.out hb);clear hb;go_wp2_with fail;cases hw3:QB.want z [93] r3 with
     |bad p er=>have hrest:=Pf.out;rw[hw3,Rd.QG]at hrest;have QL:=QA hrest;have ME:=QA hw3;clear hrest hw3;refine c₁ (Qh (Vt HST.out.ps Nf.out (by decide)) ME.out) fun w6 QD=>?_;have HE:=QA (HST.out.QS.trans QD);clear QD;go_wp2;exact⟨rfl,Qc QL.out HE.out⟩
     |ok x3 r4 =>
      have hrest:=Pf.out;rw[hw3,Rd.bind_ok]at hrest;have IK:r4.length<N:=by rw[Xk hw3,List.length_tail];omega
      have ME:=QA hw3;clear hw3;have Pg:=QA hrest;clear hrest;cases hr4:ty (d+1) r4 with
      |bad p er =>
       have hrest:=Pg.out;rw[hr4,Rd.QG]at hrest;have QL:=QA hrest;have yt:=QA hr4;clear hrest hr4;refine(Qf (Vt HST.out.ps Nf.out (by decide)) ME.out).mono ?_;rintro e wd ⟨v,rfl,rfl,hps,QD⟩;replace HST:=tRe HST QD hps;replace Bw:=QA (WV Bw.out QD Sw);replace FZ:=QA (FZ.out.QS QD TR);clear hps QD;have YJ:w.heap.size≠P:=by omega
       go_wp2;generalize wk.heap.size=gk at *;have QO:P<(w.heap.size+1):=(by omega);have UE:w.heap.size<(w.heap.size+1):=(by omega);refine Q3 [4,7] (GN 4 7 P z d r4 r4 (Ge (w.heap.size+1) w.heap.size Jg) (JZ w.heap.size)) P (w.heap.size) [Cd.is (ξ #[ι κ kk,σ kx,σ ky,ς Ak mk Ck]),Cd.is (π (some ⟨P,0,none⟩)),Cd.is (π (some ⟨P,0,none⟩)),Cd.is (.func (.func 72) #[π (some ⟨P,0,none⟩)] #[]),JV,JV,JV,JV] (GN.keep Ge.later JZ.later) ?start ?steps ?behind
       case start=>intro x;exact⟨fun h=>(by cases h),fun _=>HST.out.bx,fun h=>(by cases h),fun _=>HST.out.ps.drewN 1⟩
       case steps =>
        intro xv W hW;refine⟨?s0,?s1,?s2,?s3,?s4,?s5,?s6,?s7,trivial⟩;all_goals intro dn hdi QE hcl QC hg K hK
        all_goals(try simp only[Act.put,List.setIfInBounds_toArray,List.set_cons_succ,List.set_cons_zero]at hK)
        case s0=>clear QC QE;obtain⟨q0,q1,q2,q3⟩:=(FZ.out.VV hW vW uD).cells;go_simp;exact hK.out _ _ (QF _ _) rfl
        case s1|s2=>clear QC QE;go_simp;exact hK.out _ _ (QF _ _) rfl
        case s3=>have hx2:xv 2=π (some ⟨P,0,none⟩):=QC 2 (QE 2);clear QC QE;rw[hx2]at hK⊢;go_simp;exact hK.out _ _ (QF _ _) rfl
        case s4=>have hx1:xv 1=π (some ⟨P,0,none⟩):=QC 1 (QE 1);have hx3:xv 3=.func (.func 72) #[π (some ⟨P,0,none⟩)] #[]:=QC 3 (QE 3);clear QC QE;rw[hx1]at hK⊢;rw[hx3]at hK⊢;go_simp;refine c₁ (Qh (XS.out W _ (hg.2.2.2 hdi) IK) yt.out) fun W' QD=>?_;exact⟨rfl,Qc QL.out (QP.back HST.out.QS (hW.trans (QP.QS QD)) (QH _))⟩
        case s5=>have hx0:xv 0=ξ #[ι κ kk,σ kx,σ ky,ς Ak mk Ck]:=QC 0 (QE 0);have hno:False:=QC 4 (QE 4);exact hno.elim
        case s6=>have hno:False:=QC 5 (QE 5);exact hno.elim
        case s7=>have hno:False:=QC 6 (QE 6);exact hno.elim
       case behind=>intro dn xv W hW hall hx hg;exact(hx 4:False).elim
      |ok n l2 =>
       have hrest:=Pg.out;obtain⟨nk,nx,ny,nc⟩:=n;rw[hr4,Rd.bind_ok]at hrest;have QL:=QA hrest;have yt:=QA hr4;clear hrest hr4;refine(Qf (Vt HST.out.ps Nf.out (by decide)) ME.out).mono ?_;rintro e wd ⟨v,rfl,rfl,hps,QD⟩;replace HST:=tRe HST QD hps;replace Bw:=QA (WV Bw.out QD Sw);replace FZ:=QA (FZ.out.QS QD TR);clear hps QD;have YJ:w.heap.size≠P:=by omega
       go_wp2;generalize wk.heap.size=gk at *;have QO:P<(w.heap.size+1):=(by omega);have UE:w.heap.size<(w.heap.size+1):=(by omega);refine Q3 [4,7] (GN 4 7 P z d r4 l2 (Ge (w.heap.size+1) w.heap.size (QB.node 12 e0 (Qo ⟨kk,kx,ky,kc⟩ (one ⟨nk,nx,ny,nc⟩)))) (JZ w.heap.size)) P (w.heap.size) [Cd.is (ξ #[ι κ kk,σ kx,σ ky,ς Ak mk Ck]),Cd.is (π (some ⟨P,0,none⟩)),Cd.is (π (some ⟨P,0,none⟩)),Cd.is (.func (.func 72) #[π (some ⟨P,0,none⟩)] #[]),Ch (w.heap.size+1) QO UE ⟨nk,nx,ny,nc⟩,qa (w.heap.size+1) QO UE (Qo ⟨kk,kx,ky,kc⟩ (one ⟨nk,nx,ny,nc⟩)),Ch (w.heap.size+1) QO UE (QB.node 12 e0 (Qo ⟨kk,kx,ky,kc⟩ (one ⟨nk,nx,ny,nc⟩))),Cd.any] (GN.keep Ge.later JZ.later) ?start ?steps ?behind
       case start=>intro x;exact⟨fun h=>(by cases h),fun _=>HST.out.bx,fun h=>(by cases h),fun _=>HST.out.ps.drewN 1⟩
       case steps =>
        intro xv W hW;refine⟨?s0,?s1,?s2,?s3,?s4,?s5,?s6,?s7,trivial⟩;all_goals intro dn hdi QE hcl QC hg K hK
        all_goals(try simp only[Act.put,List.setIfInBounds_toArray,List.set_cons_succ,List.set_cons_zero]at hK)
        case s0=>clear QC QE;obtain⟨q0,q1,q2,q3⟩:=(FZ.out.VV hW vW uD).cells;go_simp;exact hK.out _ _ (QF _ _) rfl
        case s1|s2=>clear QC QE;go_simp;exact hK.out _ _ (QF _ _) rfl
        case s3=>have hx2:xv 2=π (some ⟨P,0,none⟩):=QC 2 (QE 2);clear QC QE;rw[hx2]at hK⊢;go_simp;exact hK.out _ _ (QF _ _) rfl
        case s4=>have hx1:xv 1=π (some ⟨P,0,none⟩):=QC 1 (QE 1);have hx3:xv 3=.func (.func 72) #[π (some ⟨P,0,none⟩)] #[]:=QC 3 (QE 3);clear QC QE;rw[hx1]at hK⊢;rw[hx3]at hK⊢;go_simp;refine(Qf (XS.out W _ (hg.2.2.2 hdi) IK) yt.out).mono ?_;rintro e W' ⟨v,rfl,⟨A,C,rfl,hf⟩,hps,QD⟩;have Mq:(w.heap.size+1)≤W.heap.size:=VJ HST.out.size hW.size;exact hK.out _ _ ⟨QP.QS QD,GN.call (by decide) hg (Q4 hcl hdi (by kernel_rfl)) (fun h=>h.QS QD YJ) hps⟩ ⟨A,C,rfl,Q7 hf Mq (QH _)⟩
        case s5=>have hx0:xv 0=ξ #[ι κ kk,σ kx,σ ky,ς Ak mk Ck]:=QC 0 (QE 0);obtain⟨A4,C4,ZP,LY⟩:SZ (w.heap.size+1) ⟨nk,nx,ny,nc⟩ (xv 4) W:=QC 4 (QE 4);clear QC QE;rw[hx0]at hK⊢;rw[ZP]at hK⊢;go_simp;exact hK.out _ _ ((QF _ _).alloc (QH _) _) (Q23 W _ (VJ HST.out.size hW.size) kk kx ky kc _ (xj Bw.out hW QO UE) nk nx ny nc _ LY)
        case s6=>obtain⟨A5,C5,ZY,UC⟩:Uk (w.heap.size+1) (Qo ⟨kk,kx,ky,kc⟩ (one ⟨nk,nx,ny,nc⟩)) (xv 5) W:=QC 5 (QE 5);clear QC QE;rw[ZY]at hK⊢;go_simp;refine c₁ (Qu _ _ _ _ _ W) fun W' hb=>?_;exact hK.out _ _ hb ⟨A5,C5,rfl,Q7 (Zc UC hb (QH _)) (QH _) hb.size⟩
        case s7=>obtain⟨A6,C6,JK,GI⟩:SZ (w.heap.size+1) (QB.node 12 e0 (Qo ⟨kk,kx,ky,kc⟩ (one ⟨nk,nx,ny,nc⟩))) (xv 6) W:=QC 6 (QE 6);rw[JK]at hK⊢;have hds:dn 4=true:=QE 4;have QZ:=hg.2.1 hdi;obtain⟨b0,b1,b2,b3,VO⟩:=id QZ;obtain⟨g0,g1,g2,g3⟩:=VO.VD;obtain⟨y0,y1,y2,y3⟩:=VO.cells;simp only[QB.node]at GI hK⊢;go_simp;exact hK.out undef _ ⟨QP.ZT _ _ _ _ _,GN.store (by decide) (hds) (qW QZ rfl GI UE) (Va (hg.2.2.1 hds) (by omega) _ _ _ _)⟩ trivial
       case behind=>intro dn xv W hW hall hx hg;have hF:=hg.1 (hall 7);have hps:=hg.2.2.1 (hall 4);have ZW:=QP.back HST.out.QS hW (QH _);obtain⟨A,C,QZ,hpost⟩:=qA (w:=w) QL.out hF (by omega) hps ZW;have EE:=QA hpost;have JO:=QA QZ;clear hx hF hps ZW hpost hg hall hW QZ;go_wp2;refine bodyPost_ret (results_cell_row rfl _ _ w.heap.size 24 _ (0,0) _ rfl JO.out underlying24 rfl Q8) rfl ?_;exact EE.out
  |false =>
  rw[if_neg (V3 b2)]at hrest;have HJ:=QA hrest;clear hrest;go_enter func72,ntmps72;go_wp2_with fail;refine c₁ (HN.out) fun w1 hb=>?_;replace HST:=tQu HST hb;clear hb;go_wp2_with fail;refine c₁ (HI.out _) fun w2 hb=>?_;replace HST:=tQu HST hb;clear hb;go_wp2_with fail;cases b3:(tx.toList==[115,116,114,117,99,116])with
  |true =>
   have hrest:=HJ.out;rw[if_pos (Vp b3)]at hrest;have Pb:=QA hrest;clear hrest;refine(KP.out _ HST.out.ps).mono ?_;rintro e wt ⟨v,rfl,rfl,hps,QD⟩;replace HST:=tRe HST QD hps;clear hps QD;have XN:=QA (Qv wt 75 (ι κ tk) (σ tx) (ι κ (tp:Int)) (τ tf));have YC:wt.heap.size≠P:=by have:=HST.out.size;omega
   have hb:=(QF (wt).heap.size (wt)).alloc (QH _) (θ #[ι κ tk,σ tx,ι κ (tp:Int),τ tf] 75);replace HST:=tQu HST hb;clear hb;unfold VK;go_wp2_with fail;cases hr2:Jy z (Vq z 14 ty) d r with
   |bad p er=>have hrest:=Pb.out;rw[hr2,Rd.QG]at hrest;have QL:=QA hrest;have LU:=QA hr2;clear hrest hr2;refine c₁ (Qh (Tg.out _ HST.out.ps) LU.out) fun w4 QD=>?_;have HE:=QA (HST.out.QS.trans QD);clear QD;go_wp2;exact⟨rfl,Qc QL.out HE.out⟩
   |ok c l2=>have hrest:=Pb.out;rw[hr2,Rd.bind_ok]at hrest;have QL:=QA hrest;have LU:=QA hr2;clear hrest hr2;refine(Qf (Tg.out _ HST.out.ps) LU.out).mono ?_;rintro e wn ⟨v,rfl,hv,hps,QD⟩;obtain⟨Ac,Cc,rfl,hf,hst⟩:=cZ HST.out hv hps QD;replace HST:=QA hst;generalize hm:F.len c=mc at hf⊢;have zG:=QA hm;have G':=QA hf;clear hv hps QD hst hf hm;go_wp2_with fail;refine c₁ (Qu 13 ⟨#[]⟩ _ _ _ _) fun w5 hb=>?_;replace HST:=tQu HST hb;replace G':=QA (SU G'.out hb);clear hb;obtain⟨⟨r0,r1,r2,r3,y0,y1,y2,y3⟩,g0,g1,g2,g3⟩:=HST.out.VD;unfold e0;go_wp2;have hfin:=HST.out.ret QL.out zG.out.symm G'.out;refine bodyPost_ret (results_cell_row rfl _ _ w.heap.size 24 _ (0,0) _ rfl hfin.1 underlying24 rfl Q8) rfl ?_;exact hfin.2
  |false =>
   have hrest:=HJ.out;rw[if_neg (V3 b3)]at hrest;have QL:=QA hrest;clear hrest;refine(KP.out _ HST.out.ps).mono ?_;rintro e wt ⟨v,rfl,rfl,hps,QD⟩;replace HST:=tRe HST QD hps;clear hps QD;have XN:=QA (Qv wt 75 (ι κ tk) (σ tx) (ι κ (tp:Int)) (τ tf));have YC:wt.heap.size≠P:=by have:=HST.out.size;omega
   have hb:=(QF (wt).heap.size (wt)).alloc (QH _) (θ #[ι κ tk,σ tx,ι κ (tp:Int),τ tf] 75);replace HST:=tQu HST hb;clear hb;unfold VK;obtain⟨t0,t1,t2,t3⟩:=XN.out.cells;go_wp2_with fail;refine c₁ (Qu 9 tx none 0 0 _) fun w4 hb=>?_;replace HST:=tQu HST hb;clear hb;obtain⟨⟨r0,r1,r2,r3,y0,y1,y2,y3⟩,g0,g1,g2,g3⟩:=HST.out.VD;unfold e0;go_wp2;have hfin:=HST.out.ret QL.out rfl Ju;refine bodyPost_ret (results_cell_row rfl _ _ w.heap.size 24 _ (0,0) _ rfl hfin.1 underlying24 rfl Q8) rfl ?_;exact hfin.2
