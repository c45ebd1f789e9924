import Derived.Test.YtaiihnniblibaaaGreatDoorG13
import Derived.IntWalk
set_option maxHeartbeats 16000000
set_option maxRecDepth 100000
set_option linter.unusedVariables false
open Go.Proofs.Tryz Go.ChangeShapes Go.WideShapes Go.ChangeAt Go.RowKit
open Go.Lib renaming hid→QA
open Go.RowKit.Below renaming refl→QF
open _root_.Nat renaming le_refl→QH,lt_succ_self→JW,zero_add→JN
open Go.Value renaming string→σ,int→ι,slice→ς,pointer→π,bool→τ,agg→ξ
open Go.IntKind renaming i64→κ
open Go.Obj renaming cells→θ
open Go.Ending renaming returned→ρ
namespace Go.Proofs.YtaiihnniblibaaaGreatDoor
namespace QB
open Tree ZR Mem
def OZ(P z N:Nat)(ex:Nat→Nat→List Tk→Rd Nd):Prop:=∀W (least d:Nat) l,l.length<N→d≤300→1≤least∧least≤100→PS W P z l d→Calls prog 87 #[π (some ⟨P,0,none⟩),ι κ (least:Int)] W (Qn NV W P z d (ex least d l))
def OU(z:Nat)(ex:Nat→Nat→List Tk→Rd Nd)(un:Nat→List Tk→Rd Nd)(least d:Nat)(l:List Tk):Rd Nd:=(un d l).bind fun n l=>Xw z ex least d (l.length+1) n l
theorem oH(P z N:Nat)(ex:Nat→Nat→List Tk→Rd Nd)(hex:OZ P z N ex)(hdec:∀k,JE (ex k))(un:Nat→List Tk→Rd Nd)(uM:JE un)(least:Nat)(l:List Tk)(d:Nat)(w:World)(h:PS w P z l d)(hl:l.length≤N)(hd:d≤300)(hle:1≤least∧least≤100)
  (hun:∀W,PS W P z l d→Calls prog 100 #[π (some ⟨P,0,none⟩)] W (Qn NV W P z d (un d l))) :
  Calls prog 87 #[π (some ⟨P,0,none⟩),ι κ (least:Int)] w (Qn NV w P z d (OU z ex un least d l)):=by
 have hlt:=h.lt;have HST:Hid (XJ w w.heap.size (w.alloc XO) P z d l):=⟨ZM.of (J8 w) P,h.alloc _,⟨_,_,_,_,Xm w⟩,QH _,hlt⟩;have We:=QA hun;have hsp:OU z ex un least d l=OU z ex un least d l:=rfl;conv at hsp=>rhs;unfold OU
 have QO:P<w.heap.size+1:=by omega
 clear h hun;cases hr:un d l with
 |bad p er=>rw[hr,Rd.QG]at hsp;rw[hr]at We;have QL:=QA hsp;clear hsp hr hex;go_enter func87,ntmps87;go_wp2_with fail;refine c₁ (Qh (We.out _ HST.out.ps) rfl) fun w1 QD=>?_;have HE:=QA (HST.out.QS.trans QD);clear QD;go_wp2;exact⟨rfl,Qc QL.out HE.out⟩
 |ok n l1 =>
  obtain⟨nk,nx,ny,nc⟩:=n;have ES:l1.length<l.length:=uM _ _ _ _ hr;rw[hr,Rd.bind_ok]at hsp;rw[hr]at We;have Ng:=QA hsp;have BB:=QA hex;have EX:=QA hdec;clear hsp hr hex hdec uM;go_enter func87,ntmps87;go_wp2_with fail;refine(Qf (We.out _ HST.out.ps) rfl).mono ?_;rintro e W ⟨v,rfl,⟨A,C,rfl,hf⟩,hps,QD⟩;have hf':=Q7 (B0':=w.heap.size+1) hf HST.out.size (QH _);replace HST:=hRe HST QD hps;simp only at hf'⊢;have VN:=(QF W.heap.size W).alloc (QH _) (θ #[ι κ nk,σ nx,σ ny,ς A nc.len C] 24);have Mq:=HST.out.size;obtain⟨gb,hgb⟩:=Mem.ZB (W.heap.size);have Wp:Hid (K5 (w.heap.size+1) gb gb ⟨nk,nx,ny,nc⟩ (W.alloc (θ #[ι κ nk,σ nx,σ ny,ς A nc.len C] 24))):=by subst hgb;exact⟨A,C,Qv W _ _ _ _ _,Xv (Zc hf' VN (QH _)) (QH _) (.inr (QH _)) (.inr (QH _)) VN.size⟩
  replace HST:=QY HST VN;clear hf hf' hps QD VN We;generalize hm0:nc.len=m0 at *;clear hm0;go_wp2;have YC:gb≠P:=by omega
  have uI:w.heap.size<gb:=by omega
  clear hgb Mq;generalize(W.alloc (θ #[ι κ nk,σ nx,σ ny,ς A m0 C] 24))=W1 at *
  go_loopg [9] (l1.length+1) (fun p s9 wr=>∃(kk:Int)(kx ky:ByteArray)(kc:F)(l':List Tk),l'.length<p∧l'.length≤l1.length∧Hid (XJ w w.heap.size wr P z d l')∧Hid (K5 (w.heap.size+1) gb gb ⟨kk,kx,ky,kc⟩ wr)∧Hid (∃f',l'.length<f'∧OU z ex un least d l=Xw z ex least d f' ⟨kk,kx,ky,kc⟩ l'))
  case atStart=>exact⟨nk,nx,ny,nc,l1,by omega,QH _,HST,Wp,_,JW _,Ng.out⟩
  case round =>
   clear HST Wp Ng;obtain⟨kk,kx,ky,kc,l',hp,hl',HST,KZ,XE⟩:=hrel;obtain⟨f',hf',VA⟩:=XE.out;obtain⟨f',rfl⟩:∃f2,f'=f2+1:=⟨f'-1,by omega⟩;have hit:Xw z ex least d (f'+1) ⟨kk,kx,ky,kc⟩ l'=Xw z ex least d (f'+1) ⟨kk,kx,ky,kc⟩ l':=rfl;conv at hit=>rhs;unfold Xw
   rw[hit]at VA;obtain⟨t,ht⟩:=Mem.ZB (QB.hd z l');rw[ht]at VA;obtain⟨tk,tx,tp,tf⟩:=t;simp only at VA;have XW:=RH tk tx tp tf;have HN:=QA (Zn HST.out.ps ht);have Ht:=QA ht;have Wn:=QA (fun W=>Qqp tx W);have fP:=rZ tx;clear hit ht XE;by_cases hc:least≤Ql tx
   ·rw[if_pos hc]at VA;obtain⟨t',r,rfl⟩:∃t' r,l'=t'::r:=by
     cases l' with
     |nil =>
      have:=Ht.out;simp only[QB.hd,Tk.mk.injEq]at this;exfalso;have hz:Ql tx=0:=by rw[←this.2.1];decide +kernel
      omega
     |cons t' r=>exact⟨t',r,rfl⟩
    obtain rfl:t'=⟨tk,tx,tp,tf⟩:=Ht.out;rw[List.tail_cons]at VA;simp only[List.length_cons]at hp hl' hf';have hc':(least:Int)≤((Ql tx:Nat):Int):=by omega
    have BO:r.length<N:=by omega
    cases hr:ex (Ql tx+1) d r with
    |bad p er =>
     rw[hr,Rd.QG]at VA;have Hr:=QA hr;have QL:=QA VA;clear hr VA;go_wp2_with fail;refine c₁ HN.out fun w1 hb=>?_;replace HST:=QY HST hb;replace KZ:=QA (KZ.out.later QO _ _ hb);clear hb HN;go_wp2_with fail;refine(Wn.out w1).mono ?_;rintro e _ ⟨rfl,rfl⟩;obtain⟨Ak,Ck,QZ,GV⟩:=KZ.out;have KD:Hid (XU (w.heap.size+1) gb gb ⟨kk,kx,ky,kc⟩ Ak Ck _):=⟨QZ,GV⟩;obtain⟨mk,hmk⟩:=Mem.ZB (kc.len);have GS:=QA hmk;clear QZ GV hmk KZ;have ML:=QA KD.out.1.lt;go_wp2_with fail;refine(Q5 P z _ _ d _ HST.out.ps).mono ?_;rintro e w2 ⟨v,rfl,rfl,hps,QD⟩;replace HST:=hRe HST QD hps;replace KD:=QA (KD.out.QS QD YC QO);replace ML:=QA KD.out.1.lt;clear hps QD Ht;unfold VK;have yg:Hid (IntKind.i64.wrap ((Ql tx:Int)+1)=(Ql tx:Int)+1):=IntWalk.i64_in _ (by omega);go_wp2;clear XW hc hc';refine Q3 [6,9] (GN 6 9 P z d r r (K5 (w.heap.size+1) gb gb Jg) (XU (w.heap.size+1) gb gb ⟨kk,kx,ky,kc⟩ Ak Ck)) P (gb) [Cd.is (σ tx),Cd.is (ξ #[ι κ kk,σ kx,σ ky,ς Ak mk Ck]),Cd.is (π (some ⟨P,0,none⟩)),Cd.is (σ tx),Cd.is (ι κ ((Ql tx:Nat):Int)),Cd.is (ι κ ((Ql tx:Int)+1)),JV,JV,JV,JV] (GN.keep (K5.later QO) (XU.later QO)) ?start ?steps ?behind
     case start=>intro x;exact⟨fun h=>(by cases h),fun _=>KD.out.drew,fun h=>(by cases h),fun _=>HST.out.ps.drewN 1⟩
     case steps =>
      intro xv W hW;refine⟨?s0,?s1,?s2,?s3,?s4,?s5,?s6,?s7,?s8,?s9,trivial⟩;all_goals intro dn hdi QE hcl QC hg K hK
      all_goals(try simp only[Act.put,List.setIfInBounds_toArray,List.set_cons_succ,List.set_cons_zero]at hK)
      case s0|s2|s3=>clear QC QE;go_simp;exact hK.out _ _ (QF _ _) rfl
      case s1=>clear QC QE;obtain⟨q0,q1,q2,q3⟩:=(hg.2.1 (Q4 hcl hdi (by kernel_rfl))).1.cells;simp only[GS.out]at q3;go_simp;exact hK.out _ _ (QF _ _) rfl
      case s4=>have hx3:xv 3=σ tx:=QC 3 (QE 3);clear QC QE;rw[hx3]at hK⊢;go_simp;refine(Wn.out W).mono ?_;rintro e W' ⟨rfl,rfl⟩;exact hK.out _ _ (QF _ _) rfl
      case s5=>have ZP:xv 4=ι κ ((Ql tx:Nat):Int):=QC 4 (QE 4);clear QC QE;rw[ZP]at hK⊢;have hwr:=yg.out;go_simp;exact hK.out _ _ (QF _ _) rfl
      case s6=>have hx2:xv 2=π (some ⟨P,0,none⟩):=QC 2 (QE 2);have ZY:xv 5=ι κ ((Ql tx:Int)+1):=QC 5 (QE 5);clear QC QE;rw[hx2]at hK⊢;rw[ZY]at hK⊢;go_simp;refine c₁ (Qh (BB.out W (Ql tx+1) d r BO hd (by omega) (hg.2.2.2 hdi)) Hr.out) fun W' QD=>?_;exact⟨rfl,Qc QL.out (QP.back HST.out.QS (hW.trans (QP.QS QD)) (Nat.le_of_lt uI))⟩
      case s7=>have hx1:xv 1=ξ #[ι κ kk,σ kx,σ ky,ς Ak mk Ck]:=QC 1 (QE 1);have hno:False:=QC 6 (QE 6);exact hno.elim
      case s8=>have hno:False:=QC 7 (QE 7);exact hno.elim
      case s9=>have hno:False:=QC 8 (QE 8);exact hno.elim
     case behind=>intro dn xv W hW hall hx hg;exact(hx 6:False).elim
    |ok n2 l2 =>
     obtain⟨YH,YG,YF,YB⟩:=n2;have hl2:l2.length<r.length:=EX.out _ _ _ _ _ hr;rw[hr,Rd.bind_ok]at VA;have Hr:=QA hr;have XE:=QA VA;clear hr VA;go_wp2_with fail;refine c₁ HN.out fun w1 hb=>?_;replace HST:=QY HST hb;replace KZ:=QA (KZ.out.later QO _ _ hb);clear hb HN;go_wp2_with fail;refine(Wn.out w1).mono ?_;rintro e _ ⟨rfl,rfl⟩;obtain⟨Ak,Ck,QZ,GV⟩:=KZ.out;have KD:Hid (XU (w.heap.size+1) gb gb ⟨kk,kx,ky,kc⟩ Ak Ck _):=⟨QZ,GV⟩;obtain⟨mk,hmk⟩:=Mem.ZB (kc.len);have GS:=QA hmk;clear QZ GV hmk KZ;have ML:=QA KD.out.1.lt;go_wp2_with fail;refine(Q5 P z _ _ d _ HST.out.ps).mono ?_;rintro e w2 ⟨v,rfl,rfl,hps,QD⟩;replace HST:=hRe HST QD hps;replace KD:=QA (KD.out.QS QD YC QO);replace ML:=QA KD.out.1.lt;clear hps QD Ht;unfold VK;have yg:Hid (IntKind.i64.wrap ((Ql tx:Int)+1)=(Ql tx:Int)+1):=IntWalk.i64_in _ (by omega);go_wp2;clear XW hc hc';refine Q3 [6,9] (GN 6 9 P z d r l2 (K5 (w.heap.size+1) gb gb (QB.node 29 tx (Qo ⟨kk,kx,ky,kc⟩ (one ⟨YH,YG,YF,YB⟩)))) (XU (w.heap.size+1) gb gb ⟨kk,kx,ky,kc⟩ Ak Ck)) P (gb) [Cd.is (σ tx),Cd.is (ξ #[ι κ kk,σ kx,σ ky,ς Ak mk Ck]),Cd.is (π (some ⟨P,0,none⟩)),Cd.is (σ tx),Cd.is (ι κ ((Ql tx:Nat):Int)),Cd.is (ι κ ((Ql tx:Int)+1)),Cr (w.heap.size+1) gb QO ⟨YH,YG,YF,YB⟩,Ba (w.heap.size+1) gb QO (Qo ⟨kk,kx,ky,kc⟩ (one ⟨YH,YG,YF,YB⟩)),Cr (w.heap.size+1) gb QO (QB.node 29 tx (Qo ⟨kk,kx,ky,kc⟩ (one ⟨YH,YG,YF,YB⟩))),Cd.any] (GN.keep (K5.later QO) (XU.later QO)) ?start ?steps ?behind
     case start=>intro x;exact⟨fun h=>(by cases h),fun _=>KD.out.drew,fun h=>(by cases h),fun _=>HST.out.ps.drewN 1⟩
     case steps =>
      intro xv W hW;refine⟨?s0,?s1,?s2,?s3,?s4,?s5,?s6,?s7,?s8,?s9,trivial⟩;all_goals intro dn hdi QE hcl QC hg K hK
      all_goals(try simp only[Act.put,List.setIfInBounds_toArray,List.set_cons_succ,List.set_cons_zero]at hK)
      case s0|s2|s3=>clear QC QE;go_simp;exact hK.out _ _ (QF _ _) rfl
      case s1=>clear QC QE;obtain⟨q0,q1,q2,q3⟩:=(hg.2.1 (Q4 hcl hdi (by kernel_rfl))).1.cells;simp only[GS.out]at q3;go_simp;exact hK.out _ _ (QF _ _) rfl
      case s4=>have hx3:xv 3=σ tx:=QC 3 (QE 3);clear QC QE;rw[hx3]at hK⊢;go_simp;refine(Wn.out W).mono ?_;rintro e W' ⟨rfl,rfl⟩;exact hK.out _ _ (QF _ _) rfl
      case s5=>have ZP:xv 4=ι κ ((Ql tx:Nat):Int):=QC 4 (QE 4);clear QC QE;rw[ZP]at hK⊢;have hwr:=yg.out;go_simp;exact hK.out _ _ (QF _ _) rfl
      case s6=>have hx2:xv 2=π (some ⟨P,0,none⟩):=QC 2 (QE 2);have ZY:xv 5=ι κ ((Ql tx:Int)+1):=QC 5 (QE 5);clear QC QE;rw[hx2]at hK⊢;rw[ZY]at hK⊢;go_simp;refine(Qf (BB.out W (Ql tx+1) d r BO hd (by omega) (hg.2.2.2 hdi)) Hr.out).mono ?_;rintro e W' ⟨v,rfl,⟨A,C,rfl,hf⟩,hps,QD⟩;exact hK.out _ _ ⟨QP.QS QD,GN.call (by decide) hg (Q4 hcl hdi (by kernel_rfl)) (fun h=>h.QS QD YC QO) hps⟩ ⟨A,C,rfl,Xv hf (by have:=HST.out.size;have:=hW.size;have:=ML.out;omega) (.inl (by have:=HST.out.size;have:=hW.size;have:=ML.out;omega)) (.inl (by have:=HST.out.size;have:=hW.size;have:=ML.out;omega)) (QH _)⟩
      case s7=>have hx1:xv 1=ξ #[ι κ kk,σ kx,σ ky,ς Ak mk Ck]:=QC 1 (QE 1);obtain⟨A6,C6,JK,GI⟩:UF (w.heap.size+1) gb gb ⟨YH,YG,YF,YB⟩ (xv 6) W:=QC 6 (QE 6);clear QC QE;rw[JK]at hK⊢;rw[hx1]at hK⊢;go_simp;exact hK.out _ _ ((QF _ _).alloc (QH _) _) (NS W (w.heap.size+1) _ _ P (by have:=HST.out.size;have:=hW.size;have:=ML.out;omega) (by have:=HST.out.size;have:=hW.size;have:=ML.out;omega) (by have:=HST.out.size;have:=hW.size;have:=ML.out;omega) QO kk kx ky kc _ (by have hq:=K1 KD.out.2 hW QO;simp only[GS.out]at hq;exact hq) YH YG YF YB _ GI)
      case s8=>have hx0:xv 0=σ tx:=QC 0 (QE 0);obtain⟨A7,C7,VM,Lg⟩:Yg (w.heap.size+1) gb gb (Qo ⟨kk,kx,ky,kc⟩ (one ⟨YH,YG,YF,YB⟩)) (xv 7) W:=QC 7 (QE 7);clear QC QE;rw[VM]at hK⊢;rw[hx0]at hK⊢;go_simp;refine c₁ (Qu _ _ _ _ _ W) fun W' hb=>?_;exact hK.out _ _ hb ⟨A7,C7,rfl,Qm Lg hb QO⟩
      case s9=>obtain⟨A8,C8,UI,MS⟩:UF (w.heap.size+1) gb gb (QB.node 29 tx (Qo ⟨kk,kx,ky,kc⟩ (one ⟨YH,YG,YF,YB⟩))) (xv 8) W:=QC 8 (QE 8);rw[UI]at hK⊢;have hds:dn 6=true:=QE 6;have QZ:=(hg.2.1 hdi).1;obtain⟨g0,g1,g2,g3⟩:=QZ.VD;obtain⟨y0,y1,y2,y3⟩:=QZ.cells;simp only[QB.node]at MS hK⊢;go_simp;exact hK.out undef _ ⟨QP.ZT _ _ _ _ _,GN.store (by decide) (hds) (E0 QZ rfl MS) (Va (hg.2.2.1 hds) (by omega) _ _ _ _)⟩ trivial
     case behind =>
      intro dn xv W hW hall hx hg;have hF:=hg.1 (hall 9);have hps:=hg.2.2.1 (hall 6);have YV:=QA (HST.out.region hW (Nat.le_of_lt uI) (by omega) hps);have CQ:=QA hF;clear hx hF hps hg hall hW KD;go_wp2
      go_roundg (l2.length+1)
      case rel=>exact⟨29,tx,e0,Qo ⟨kk,kx,ky,kc⟩ (one ⟨YH,YG,YF,YB⟩),l2,by omega,by omega,YV,CQ,f',by omega,XE.out⟩
      case measure=>omega
   ·rw[if_neg hc]at VA;have QL:=QA VA;have hc':¬(least:Int)≤((Ql tx:Nat):Int):=by omega
    clear VA hc;go_wp2_with fail;refine c₁ HN.out fun w1 hb=>?_;replace HST:=QY HST hb;replace KZ:=QA (KZ.out.later QO _ _ hb);clear hb HN;go_wp2_with fail;refine(Wn.out w1).mono ?_;rintro e _ ⟨rfl,rfl⟩;obtain⟨Ak,Ck,QZ,GV⟩:=KZ.out;have KD:Hid (XU (w.heap.size+1) gb gb ⟨kk,kx,ky,kc⟩ Ak Ck _):=⟨QZ,GV⟩;obtain⟨mk,hmk⟩:=Mem.ZB (kc.len);have GS:=QA hmk;clear QZ GV hmk KZ;obtain⟨q0,q1,q2,q3⟩:=KD.out.1.cells;simp only[GS.out]at q3;have Bz:Hid (Fs _ _ _ _):=KD.out.2;rw[GS.out]at Bz;have hne:w.heap.size≠gb:=by omega
    have Mh:gb≠w.heap.size:=by omega
    clear KD Ht BB EX;obtain⟨⟨r0,r1,r2,r3,y0,y1,y2,y3⟩,g0,g1,g2,g3⟩:=HST.out.VD;go_wp2;have hfin:=HST.out.ret (B0:=w.heap.size+1) QL.out GS.out.symm (K9 Bz.out) (fun _ _ _ _=>V4 (K9 Bz.out) (.inl (JW _)) _ _ _ _);refine bodyPost_ret (results_cell_row rfl _ _ w.heap.size 24 _ (0,0) _ rfl hfin.1 underlying24 rfl Q8) rfl ?_;exact U9 hfin.2 (Nat.le_succ _)
theorem rN(P z N:Nat)(ex:Nat→Nat→List Tk→Rd Nd)(hex:OZ P z N ex)(l:List Tk)(d:Nat)(w:World)(h:PS w P z l d)(hl:l.length<N)(hd:d≤300) :
  Calls prog 71 #[π (some ⟨P,0,none⟩)] w (Qn NV w P z d (ex 1 d l)):=by
 have HST:=QA (XI.start h);have HC:=QA (hex _ 1 d l hl hd (by omega) (h.alloc XO));clear h;generalize ex 1 d l=R at *;go_enter func71,ntmps71;go_wp2_with fail;refine HC.out.mono ?_;intro e W hp;rcases Ji HST.out hp with⟨p,er,hR,rfl,QD⟩|⟨k,x,y,c,l2,A,C,hR,rfl,hf,hst⟩
 ·have HE:=QA QD;have HR:=QA hR;clear hp QD hR HST HC;go_wp2;exact⟨rfl,Qc HR.out HE.out⟩
 ·have HS:=QA hst;have HF:=QA hf;have HR:=QA hR;obtain⟨⟨r0,r1,r2,r3,y0,y1,y2,y3⟩,g0,g1,g2,g3⟩:=hst.VD;generalize hm:c.len=m at *;have Hm:=QA hm;clear hp hf hst hR HST HC hm;go_wp2;have hfin:=HS.out.ret HR.out Hm.out.symm HF.out;refine bodyPost_ret (results_cell_row rfl _ _ w.heap.size 24 _ (0,0) _ rfl hfin.1 underlying24 rfl Q8) rfl ?_;exact hfin.2
theorem oM{P z N:Nat}{ex:Nat→Nat→List Tk→Rd Nd}(hex:OZ P z N ex):Xj 71 P z N (ex 1):=fun W d l hl hd hps=>rN P z N ex hex l d W hps hl hd
theorem lf(P z N:Nat)(ex:Nat→Nat→List Tk→Rd Nd)(hex:OZ P z N ex)(hdec:∀k,JE (ex k)):∀M G,M≤N+1→M≤G→Xj 100 P z M (Ru z ex G)
 |0,G,_,_=>fun W d l hl=>absurd hl (Nat.not_lt_zero _)
 |M+1,0,_,h=>absurd h (by omega)
 |M+1,G+1,h1,h2=>fun W d l hl hd hps=>Qwr P z N ex (oM hex) hdec M (by omega) (Ru z ex G) (lf P z N ex hex hdec M G (by omega) (by omega)) l d W hps (by omega) hd
theorem jN(P z:Nat):∀N F,N≤F→OZ P z N (J6 z F)
 |0,F,_=>fun W least d l hl=>absurd hl (Nat.not_lt_zero _)
 |N+1,0,h=>absurd h (by omega)
 |N+1,F+1,h=>fun W least d l hl hd hle hps =>
  oH P z N (J6 z F) (jN P z N F (by omega)) (Gk z F) (Ru z (J6 z F) (l.length+1)) (kS (Gk z F) _) least l d W hps (by omega) hd hle
   fun W' hW'=>lf P z N (J6 z F) (jN P z N F (by omega)) (Gk z F) (l.length+1) (l.length+1) (by omega) (QH _) W' d l (JW _) hd hW'
theorem NP(P z N:Nat):Xj 71 P z N (XH z):=fun W d l _ hd hps=>rN P z (l.length+1) (J6 z (l.length+1)) (jN P z _ _ (QH _)) l d W hps (JW _) hd
theorem pA(P z:Nat):∀N F,N≤F→Xj 72 P z N (NK z F)
 |0,F,_=>fun W d l hl=>absurd hl (Nat.not_lt_zero _)
 |N+1,0,h=>absurd h (by omega)
 |N+1,F+1,h=>fun W d l hl hd hps=>Qse P z N (NK z F) (pA P z N F (by omega)) (zm z F) l d W hps (by omega) hd
theorem Ff(P z N:Nat):Xj 72 P z N (GG z):=fun W d l _ hd hps=>pA P z (l.length+1) (l.length+1) (QH _) W d l (JW _) hd hps
section
variable {P B0 g g':Nat}{w w' W W':World}{v:Value}{f:F}
theorem Jv{n:Nd}(h:NV W W' v n)(hB:B0≤W.heap.size)(hg:g<W.heap.size)(hg':g'<W.heap.size):∃A C,v=ξ #[ι κ n.k,σ n.x,σ n.y,ς A n.c.len C]∧Fs W' (Mx B0 g g' W'.heap.size) (ς A n.c.len C) n.c:=by
 obtain⟨A,C,e,hf⟩:=h;exact⟨A,C,e,Xv hf hB (.inl hg) (.inl hg') (Nat.le_refl _)⟩
theorem Es{S:Nat→Prop}:Fs w S (ς none 0 0) .nil:=⟨none,0,rfl,by omega⟩
theorem Vo(h:Fs w (Mx B0 g g' w.heap.size) v f){x:Nat}(hx:x=g∨x=g'∨x<B0)(v0 v1 v2 v3:Value):Fs ((((w.setCell ⟨x,0,none⟩ v0).setCell ⟨x,1,none⟩ v1).setCell ⟨x,2,none⟩ v2).setCell ⟨x,3,none⟩ v3) (Mx B0 g g' ((((w.setCell ⟨x,0,none⟩ v0).setCell ⟨x,1,none⟩ v1).setCell ⟨x,2,none⟩ v2).setCell ⟨x,3,none⟩ v3).heap.size) v f:=by
 rw[Z2];exact h.keep fun b hb=>(QP.ZT (P:=x) w v0 v1 v2 v3).block b hb.2.1 (by have:=hb.1;have:=hb.2.2;omega) (by have:=hb.1;have:=hb.2.2;omega)
theorem Z1.KB{x:Nat}{T:TypeId}{a b c d:Value}(h:Z1 w x T a b c d){y:Nat}(hy:y≠x)(v0 v1 v2 v3:Value):Z1 ((((w.setCell ⟨y,0,none⟩ v0).setCell ⟨y,1,none⟩ v1).setCell ⟨y,2,none⟩ v2).setCell ⟨y,3,none⟩ v3) x T a b c d :=
 (((h.other (p:=⟨y,0,none⟩) hy _).other (p:=⟨y,1,none⟩) hy _).other (p:=⟨y,2,none⟩) hy _).other (p:=⟨y,3,none⟩) hy _
theorem XJ.KB{R z d:Nat}{l:List Tk}(h:XJ w R W P z d l){y:Nat}(hy:R<y)(v0 v1 v2 v3:Value):XJ w R ((((W.setCell ⟨y,0,none⟩ v0).setCell ⟨y,1,none⟩ v1).setCell ⟨y,2,none⟩ v2).setCell ⟨y,3,none⟩ v3) P z d l:=by
 obtain⟨a,b,c,d',hx⟩:=h.bx;have h1:=h.hR;have h2:=h.hlt;exact⟨Uh h.QS (by omega) _ _ _ _,Va h.ps (by omega) _ _ _ _,⟨a,b,c,d',hx.KB (by omega) _ _ _ _⟩,h.hR,h.hlt⟩
theorem XJ.start{z d:Nat}{l:List Tk}(h:PS w P z l d):XJ w w.heap.size (w.alloc XO) P z d l:=⟨ZM.of (J8 w) P,h.alloc _,⟨_,_,_,_,Xm w⟩,Nat.le_refl _,h.lt⟩
end
theorem di(w:World)(B0 g g' P:Nat)(hB:B0≤w.heap.size)(hg:g<w.heap.size)(hg':g'<w.heap.size)(hP:P<B0)(k:Int)(x y:ByteArray)(c:F)(s:Value)(hf:Fs w (Mx B0 g g' w.heap.size) s c)(k2:Int)(x2 y2:ByteArray)(c2:F)(s2:Value)(hf2:Fs w (Mx B0 g g' w.heap.size) s2 c2)(k3:Int)(x3 y3:ByteArray)(c3:F)(s3:Value)(hf3:Fs w (Mx B0 g g' w.heap.size) s3 c3) :
  Yg B0 g g' (Qo ⟨k,x,y,c⟩ (Qo ⟨k2,x2,y2,c2⟩ (one ⟨k3,x3,y3,c3⟩))) (ς (some ⟨w.heap.size,0,none⟩) 3 3) (w.alloc (θ #[ι κ k,σ x,σ y,s,ι κ k2,σ x2,σ y2,s2,ι κ k3,σ x3,σ y3,s3] 24)) :=
 ⟨some ⟨w.heap.size,0,none⟩,3,rfl,Af w B0 g g' [(⟨k,x,y,c⟩,s),(⟨k2,x2,y2,c2⟩,s2),(⟨k3,x3,y3,c3⟩,s3)] _ (by rfl) 3 rfl (by omega) hB hg hg' P hP (fun p hp=>by
  simp only[List.mem_cons,List.not_mem_nil,or_false]at hp;rcases hp with rfl|rfl|rfl <;> assumption)⟩
theorem qj(w:World)(B0 g g' P:Nat)(hB:B0≤w.heap.size)(hg:g<w.heap.size)(hg':g'<w.heap.size)(hP:P<B0)(k:Int)(x y:ByteArray)(c:F)(s:Value)(hf:Fs w (Mx B0 g g' w.heap.size) s c)(k2:Int)(x2 y2:ByteArray)(c2:F)(s2:Value)(hf2:Fs w (Mx B0 g g' w.heap.size) s2 c2)(k3:Int)(x3 y3:ByteArray)(c3:F)(s3:Value)(hf3:Fs w (Mx B0 g g' w.heap.size) s3 c3)(k4:Int)(x4 y4:ByteArray)(c4:F)(s4:Value)(LY:Fs w (Mx B0 g g' w.heap.size) s4 c4) :
  Yg B0 g g' (Qo ⟨k,x,y,c⟩ (Qo ⟨k2,x2,y2,c2⟩ (Qo ⟨k3,x3,y3,c3⟩ (one ⟨k4,x4,y4,c4⟩)))) (ς (some ⟨w.heap.size,0,none⟩) 4 4) (w.alloc (θ #[ι κ k,σ x,σ y,s,ι κ k2,σ x2,σ y2,s2,ι κ k3,σ x3,σ y3,s3,ι κ k4,σ x4,σ y4,s4] 24)) :=
 ⟨some ⟨w.heap.size,0,none⟩,4,rfl,Af w B0 g g' [(⟨k,x,y,c⟩,s),(⟨k2,x2,y2,c2⟩,s2),(⟨k3,x3,y3,c3⟩,s3),(⟨k4,x4,y4,c4⟩,s4)] _ (by rfl) 4 rfl (by omega) hB hg hg' P hP (fun p hp=>by
  simp only[List.mem_cons,List.not_mem_nil,or_false]at hp;rcases hp with rfl|rfl|rfl|rfl <;> assumption)⟩
theorem rG(P z:Nat)(l:List Tk)(d:Nat)(w:World)(h:PS w P z l d)(hd:d≤300) :
  Calls prog 73 #[π (some ⟨P,0,none⟩)] w (Qn NV w P z d (Rf z d l)):=by
 have hlt:=h.lt;have HST:=QA (XJ.start h);have HU:Hid ((⟨#[118,97,114]⟩:ByteArray).toList=[118,97,114]):=by show _=_;rw[ByteArray.toList_eq]
 have XY:Hid ((⟨#[61]⟩:ByteArray).toList=[61]):=by show _=_;rw[ByteArray.toList_eq]
 have hsp:Rf z d l=Rf z d l:=rfl;conv at hsp=>rhs;unfold Rf
 have QO:P<w.heap.size+1:=by omega
 obtain⟨bb,hbb⟩:=Mem.ZB (QQ (QB.hd z l) [118,97,114]);rw[hbb]at hsp;have GU:=QA hbb;have JR:Hid (∀W,PS W P z l d→Calls prog 66 #[π (some ⟨P,0,none⟩),τ bb] W (Qn TV W P z d (J' z bb d l))) :=
  fun W hW=>Zr _ P z l d (fun e=>Zh (by decide) (hbb.trans e)) (by omega) W hW
 have KF:bb=true→l≠[]:=fun e=>Zh (by decide) (hbb.trans e)
 have HX:Hid (∀W l',PS W P z l' d→Calls prog 71 #[π (some ⟨P,0,none⟩)] W (Qn NV W P z d (XH z d l'))):=fun W l' hW=>NP P z (l'.length+1) W d l' (JW _) hd hW
 have HT:Hid (∀W l',PS W P z l' d→Calls prog 72 #[π (some ⟨P,0,none⟩)] W (Qn NV W P z d (GG z d l'))):=fun W l' hW=>Ff P z (l'.length+1) W d l' (JW _) hd hW
 clear h hbb;have TY:=QA KF;have GK:=QA hsp;clear KF hsp;go_enter func73,ntmps73;go_wp2_with fail;refine c₁ (Zq HST.out.ps HU.out GU.out) fun w1 hb=>?_;replace HST:=QY HST hb;clear hb;go_wp2_with fail;cases hr:J' z bb d l with
 |bad p er=>have KF:=TY.out;have hsp:=GK.out;rw[hr,Rd.QG]at hsp;rw[hr]at JR;have QL:=QA hsp;clear hsp hr KF;refine c₁ (Qh (JR.out _ HST.out.ps) rfl) fun w2 QD=>?_;have HE:=QA (HST.out.QS.trans QD);clear QD;go_wp2;exact⟨rfl,Qc QL.out HE.out⟩
 |ok t l1 =>
  have KF:=TY.out;have hsp:=GK.out;rw[hr,Rd.bind_ok]at hsp;rw[hr]at JR;clear hr KF;have KP:Hid (∀W,PS W P z l d→Calls prog 66 #[π (some ⟨P,0,none⟩),τ bb] W fun e w'=>∃v,e=ρ v∧TV W w' v t∧PS w' P z l1 d∧ZM P W w'):=fun W hW=>Qf (JR.out W hW) rfl
  clear JR;have KV:=QA hsp;clear hsp;refine(KP.out _ HST.out.ps).mono ?_;rintro e w2 ⟨v,rfl,rfl,hps,QD⟩;replace HST:=hRe HST QD hps;clear hps QD;unfold VK;go_wp2_with fail;cases hn:name z l1 with
  |bad p er=>have hsp:=KV.out;rw[hn,Rd.QG]at hsp;have QL:=QA hsp;have HN:=QA hn;clear hsp hn;refine c₁ (Qh (Jb P z l1 d _ HST.out.ps) HN.out) fun w3 QD=>?_;have HE:=QA (HST.out.QS.trans QD);clear QD;go_wp2;exact⟨rfl,Qc QL.out HE.out⟩
  |ok s l2 =>
   have hsp:=KV.out;rw[hn,Rd.bind_ok]at hsp;have HN:=QA hn;clear hn;have JJ:=QA hsp;clear hsp;refine(Qf (Jb P z l1 d _ HST.out.ps) HN.out).mono ?_;rintro e wn ⟨v,rfl,rfl,hps,QD⟩;replace HST:=hRe HST QD hps;clear hps QD;go_wp2_with fail;refine c₁ (Xu _) fun wo hb=>?_;replace HST:=QY HST hb;clear hb;go_wp2_with fail;refine c₁ (Xu _) fun wp hb=>?_;replace HST:=QY HST hb;clear hb;unfold e0;have Ds:=HST.out.size;have VN:=(QF wp.heap.size wp).alloc (QH _) (θ #[ι κ 33,σ ⟨#[]⟩,σ ⟨#[]⟩,ς none 0 0] 24);have hsa:(wp.alloc (θ #[ι κ 33,σ ⟨#[]⟩,σ ⟨#[]⟩,ς none 0 0] 24)).heap.size=wp.heap.size+1:=by simp
   have QW:Hid (Z1 ((wp.alloc (θ #[ι κ 33,σ ⟨#[]⟩,σ ⟨#[]⟩,ς none 0 0] 24)).alloc (θ #[ι κ 33,σ ⟨#[]⟩,σ ⟨#[]⟩,ς none 0 0] 24)) wp.heap.size 24 (ι κ 33) (σ ⟨#[]⟩) (σ ⟨#[]⟩) (ς none 0 0)):=(Qv wp _ _ _ _ _).later ((QF _ _).alloc (QH _) _);have JD:Hid (Z1 ((wp.alloc (θ #[ι κ 33,σ ⟨#[]⟩,σ ⟨#[]⟩,ς none 0 0] 24)).alloc (θ #[ι κ 33,σ ⟨#[]⟩,σ ⟨#[]⟩,ς none 0 0] 24)) (wp.heap.size+1) 24 (ι κ 33) (σ ⟨#[]⟩) (σ ⟨#[]⟩) (ς none 0 0)):=by have:=Qv (wp.alloc (θ #[ι κ 33,σ ⟨#[]⟩,σ ⟨#[]⟩,ς none 0 0] 24)) 24 (ι κ 33) (σ ⟨#[]⟩) (σ ⟨#[]⟩) (ς none 0 0);rwa[hsa]at this
   replace HST:=QA ((HST.out.quiet VN).quiet ((QF _ _).alloc (QH _) (θ #[ι κ 33,σ ⟨#[]⟩,σ ⟨#[]⟩,ς none 0 0] 24)));have hg4:wp.heap.size<((wp.alloc (θ #[ι κ 33,σ ⟨#[]⟩,σ ⟨#[]⟩,ς none 0 0] 24)).alloc (θ #[ι κ 33,σ ⟨#[]⟩,σ ⟨#[]⟩,ς none 0 0] 24)).heap.size:=QW.out.lt;have iq:wp.heap.size+1<((wp.alloc (θ #[ι κ 33,σ ⟨#[]⟩,σ ⟨#[]⟩,ς none 0 0] 24)).alloc (θ #[ι κ 33,σ ⟨#[]⟩,σ ⟨#[]⟩,ς none 0 0] 24)).heap.size:=JD.out.lt;have ZI:wp.heap.size≠P:=by omega
   have KT:wp.heap.size+1≠P:=by omega
   clear VN hsa;go_wp2_with fail;cases he:QQ (QB.hd z l2) [61]with
   |true =>
    have hsp:=JJ.out;rw[he,if_pos rfl,Rd.bind_ok,he,if_pos rfl]at hsp;have Wv:=QA he;obtain⟨t',r,rfl⟩:=Vx he (by decide);rw[List.tail_cons]at hsp;clear he;have ZO:=QA hsp;clear hsp;refine c₁ (Zq HST.out.ps XY.out Wv.out) fun w6 hb=>?_;replace HST:=QY HST hb;replace QW:=JB QW hb;replace JD:=JB JD hb;clear hb;go_wp2_with fail;refine c₁ (Zq HST.out.ps XY.out Wv.out) fun w7 hb=>?_;replace HST:=QY HST hb;replace QW:=JB QW hb;replace JD:=JB JD hb;clear hb;go_wp2_with fail;cases hx:XH z d r with
    |bad p er=>have hsp:=ZO.out;rw[hx,Rd.QG]at hsp;have QL:=QA hsp;have JX:=QA hx;clear hsp hx;refine(Q5 P z _ _ d _ HST.out.ps).mono ?_;rintro e w8 ⟨v,rfl,rfl,hps,QD⟩;replace HST:=hRe HST QD hps;replace QW:=JY QW QD ZI;replace JD:=JY JD QD KT;clear hps QD;unfold VK;go_wp2_with fail;refine c₁ (Qh (HX.out _ _ HST.out.ps) JX.out) fun w9 QD=>?_;have HE:=QA (HST.out.QS.trans QD);clear QD;go_wp2;exact⟨rfl,Qc QL.out HE.out⟩
    |ok n l3 =>
     have hsp:=ZO.out;obtain⟨nk,nx,ny,nc⟩:=n;rw[hx,Rd.bind_ok]at hsp;have QL:=QA hsp;have JX:=QA hx;clear hsp hx;refine(Q5 P z _ _ d _ HST.out.ps).mono ?_;rintro e w8 ⟨v,rfl,rfl,hps,QD⟩;replace HST:=hRe HST QD hps;replace QW:=JY QW QD ZI;replace JD:=JY JD QD KT;clear hps QD;unfold VK;have LX:=HST.out.size
     skip
     go_wp2_with fail;refine(Qf (HX.out _ _ HST.out.ps) JX.out).mono ?_;rintro e wx ⟨v,rfl,hv,hps,QD⟩;obtain⟨An,Cn,rfl,hf⟩:=Jv (B0:=w.heap.size+1) (g:=wp.heap.size) (g':=(wp.heap.size+1)) hv HST.out.size (by have LK:=QW.out.lt;have Dz:=JD.out.lt;omega) (by have LK:=QW.out.lt;have Dz:=JD.out.lt;omega);replace HST:=hRe HST QD hps;replace QW:=JY QW QD ZI;replace JD:=JY JD QD KT;simp only at hf⊢;generalize hm:nc.len=mn at hf⊢;have Ri:=QA hm;have ZX:=QA hf;clear hv hps QD hf hm LX;obtain⟨p0,p1,p2,p3⟩:=JD.out.VD;obtain⟨c0,c1,c2,c3⟩:=JD.out.cells;obtain⟨a0,a1,a2,a3⟩:=QW.out.cells;replace HST:=QA (HST.out.KB (y:=(wp.heap.size+1)) (by omega) (ι κ nk) (σ nx) (σ ny) (ς An mn Cn));replace ZX:=QA (Vo ZX.out (x:=(wp.heap.size+1)) (by omega) (ι κ nk) (σ nx) (σ ny) (ς An mn Cn));replace QW:=QA (QW.out.KB (y:=(wp.heap.size+1)) (by omega) (ι κ nk) (σ nx) (σ ny) (ς An mn Cn));replace JD:=QA (JD.out.ZT (ι κ nk) (σ nx) (σ ny) (ς An mn Cn));have II:=QW.out.lt;have PQ:=JD.out.lt;have hgx:wp.heap.size+1<wx.heap.size:=by rw[Z2]at PQ;exact PQ
     obtain⟨A9,C9,UM,GD⟩:=NS ((((wx.setCell ⟨(wp.heap.size+1),0,none⟩ (ι κ nk)).setCell ⟨(wp.heap.size+1),1,none⟩ (σ nx)).setCell ⟨(wp.heap.size+1),2,none⟩ (σ ny)).setCell ⟨(wp.heap.size+1),3,none⟩ (ς An mn Cn)) (w.heap.size+1) wp.heap.size (wp.heap.size+1) P HST.out.size (by omega) (by omega) QO 33 ⟨#[]⟩ ⟨#[]⟩ .nil _ Es nk nx ny nc _ ZX.out;simp only[Qo,one,F.len,JN,Nat.reduceAdd,Value.slice.injEq,true_and]at UM;obtain⟨rfl,rfl⟩:=UM;try simp only[Z2]at GD
     have ZL:=QA GD;clear GD;have hb:=(QF (((((wx.setCell ⟨(wp.heap.size+1),0,none⟩ (ι κ nk)).setCell ⟨(wp.heap.size+1),1,none⟩ (σ nx)).setCell ⟨(wp.heap.size+1),2,none⟩ (σ ny)).setCell ⟨(wp.heap.size+1),3,none⟩ (ς An mn Cn))).heap.size (((((wx.setCell ⟨(wp.heap.size+1),0,none⟩ (ι κ nk)).setCell ⟨(wp.heap.size+1),1,none⟩ (σ nx)).setCell ⟨(wp.heap.size+1),2,none⟩ (σ ny)).setCell ⟨(wp.heap.size+1),3,none⟩ (ς An mn Cn)))).alloc (QH _) (θ #[ι κ 33,σ ⟨#[]⟩,σ ⟨#[]⟩,ς none 0 0,ι κ nk,σ nx,σ ny,ς An mn Cn] 24);replace HST:=QY HST hb;clear hb;go_wp2_with fail;refine c₁ (Qu 5 s _ _ _ _) fun yR hb=>?_;replace HST:=QY HST hb;replace ZL:=QA (Qm ZL.out hb QO);clear hb;obtain⟨⟨r0,r1,r2,r3,y0,y1,y2,y3⟩,g0,g1,g2,g3⟩:=HST.out.VD;try unfold e0
     go_wp2;have hfin:=HST.out.ret (B0:=w.heap.size+1) QL.out rfl (K9 ZL.out) (fun _ _ _ _=>V4 (K9 ZL.out) (.inl (JW _)) _ _ _ _);refine bodyPost_ret (results_cell_row rfl _ _ w.heap.size 24 _ (0,0) _ rfl hfin.1 underlying24 rfl Q8) rfl ?_;exact U9 hfin.2 (Nat.le_succ _)
   |false =>
    have hsp:=JJ.out;rw[he,if_neg (by decide)]at hsp;have Wv:=QA he;clear he;have VW:=QA hsp;clear hsp;cases ht:GG z d l2 with
    |bad p er=>have hsp:=VW.out;rw[ht,Rd.QG]at hsp;have QL:=QA hsp;have LS:=QA ht;clear hsp ht;refine c₁ (Zq HST.out.ps XY.out Wv.out) fun w6 hb=>?_;replace HST:=QY HST hb;replace QW:=JB QW hb;replace JD:=JB JD hb;clear hb;go_wp2_with fail;refine c₁ (Qh (HT.out _ _ HST.out.ps) LS.out) fun w7 QD=>?_;have HE:=QA (HST.out.QS.trans QD);clear QD;go_wp2;exact⟨rfl,Qc QL.out HE.out⟩
    |ok n l3 =>
     have hsp:=VW.out;obtain⟨mk,mx,my,mc⟩:=n;rw[ht,Rd.bind_ok]at hsp;have LS:=QA ht;clear ht;have ZV:=QA hsp;clear hsp;refine c₁ (Zq HST.out.ps XY.out Wv.out) fun w6 hb=>?_;replace HST:=QY HST hb;replace QW:=JB QW hb;replace JD:=JB JD hb;clear hb;have LX:=HST.out.size
     skip
     go_wp2_with fail;refine(Qf (HT.out _ _ HST.out.ps) LS.out).mono ?_;rintro e wt ⟨v,rfl,hv,hps,QD⟩;obtain⟨Am,Cm,rfl,hf⟩:=Jv (B0:=w.heap.size+1) (g:=wp.heap.size) (g':=(wp.heap.size+1)) hv HST.out.size (by have LK:=QW.out.lt;have Dz:=JD.out.lt;omega) (by have LK:=QW.out.lt;have Dz:=JD.out.lt;omega);replace HST:=hRe HST QD hps;replace QW:=JY QW QD ZI;replace JD:=JY JD QD KT;simp only at hf⊢;generalize hm:mc.len=mm at hf⊢;have zF:=QA hm;have GZ:=QA hf;clear hv hps QD hf hm LX;obtain⟨p0,p1,p2,p3⟩:=QW.out.VD;obtain⟨c0,c1,c2,c3⟩:=QW.out.cells;obtain⟨b0,b1,b2,b3⟩:=JD.out.cells;replace HST:=QA (HST.out.KB (y:=wp.heap.size) (by omega) (ι κ mk) (σ mx) (σ my) (ς Am mm Cm));replace GZ:=QA (Vo GZ.out (x:=wp.heap.size) (by omega) (ι κ mk) (σ mx) (σ my) (ς Am mm Cm));replace QW:=QA (QW.out.ZT (ι κ mk) (σ mx) (σ my) (ς Am mm Cm));replace JD:=QA (JD.out.KB (y:=wp.heap.size) (by omega) (ι κ mk) (σ mx) (σ my) (ς Am mm Cm));have II:=QW.out.lt;have PQ:=JD.out.lt;have hgx:wp.heap.size+1<wt.heap.size:=by rw[Z2]at PQ;exact PQ
     have ik:wp.heap.size<wt.heap.size:=by omega
     go_wp2_with fail;cases DC:QQ (QB.hd z l3) [61]with
     |true =>
      have hsp:=ZV.out;rw[DC,if_pos rfl]at hsp;have yJ:=QA DC;obtain⟨t',r,rfl⟩:=Vx DC (by decide);rw[List.tail_cons]at hsp;clear DC;have VH:=QA hsp;clear hsp;refine c₁ (Zq HST.out.ps XY.out yJ.out) fun w8 hb=>?_;replace HST:=QY HST hb;replace GZ:=QA (Qm GZ.out hb QO);replace QW:=JB QW hb;replace JD:=JB JD hb;clear hb;go_wp2_with fail;cases hx:XH z d r with
      |bad p er=>have hsp:=VH.out;rw[hx,Rd.QG]at hsp;have QL:=QA hsp;have JX:=QA hx;clear hsp hx;refine(Q5 P z _ _ d _ HST.out.ps).mono ?_;rintro e w9 ⟨v,rfl,rfl,hps,QD⟩;replace HST:=hRe HST QD hps;replace GZ:=QA (Vr GZ.out QD QO);replace QW:=JY QW QD ZI;replace JD:=JY JD QD KT;clear hps QD;unfold VK;clear p0 p1 p2 p3 c0 c1 c2 c3 b0 b1 b2 b3;go_wp2_with fail;refine c₁ (Qh (HX.out _ _ HST.out.ps) JX.out) fun yR QD=>?_;have HE:=QA (HST.out.QS.trans QD);clear QD;go_wp2;exact⟨rfl,Qc QL.out HE.out⟩
      |ok n l4 =>
       have hsp:=VH.out;obtain⟨nk,nx,ny,nc⟩:=n;rw[hx,Rd.bind_ok]at hsp;have QL:=QA hsp;have JX:=QA hx;clear hsp hx;refine(Q5 P z _ _ d _ HST.out.ps).mono ?_;rintro e w9 ⟨v,rfl,rfl,hps,QD⟩;replace HST:=hRe HST QD hps;replace GZ:=QA (Vr GZ.out QD QO);replace QW:=JY QW QD ZI;replace JD:=JY JD QD KT;clear hps QD;unfold VK;clear p0 p1 p2 p3 c0 c1 c2 c3 b0 b1 b2 b3;have LX:=HST.out.size
       skip
       go_wp2_with fail;refine(Qf (HX.out _ _ HST.out.ps) JX.out).mono ?_;rintro e wx ⟨v,rfl,hv,hps,QD⟩;obtain⟨An,Cn,rfl,hf⟩:=Jv (B0:=w.heap.size+1) (g:=wp.heap.size) (g':=(wp.heap.size+1)) hv HST.out.size (by have LK:=QW.out.lt;have Dz:=JD.out.lt;omega) (by have LK:=QW.out.lt;have Dz:=JD.out.lt;omega);replace HST:=hRe HST QD hps;replace GZ:=QA (Vr GZ.out QD QO);replace QW:=JY QW QD ZI;replace JD:=JY JD QD KT;simp only at hf⊢;generalize hm:nc.len=mn at hf⊢;have Ri:=QA hm;have ZX:=QA hf;clear hv hps QD hf hm LX;obtain⟨p0,p1,p2,p3⟩:=JD.out.VD;obtain⟨c0,c1,c2,c3⟩:=JD.out.cells;obtain⟨a0,a1,a2,a3⟩:=QW.out.cells;replace HST:=QA (HST.out.KB (y:=(wp.heap.size+1)) (by omega) (ι κ nk) (σ nx) (σ ny) (ς An mn Cn));replace GZ:=QA (Vo GZ.out (x:=(wp.heap.size+1)) (by omega) (ι κ nk) (σ nx) (σ ny) (ς An mn Cn));replace ZX:=QA (Vo ZX.out (x:=(wp.heap.size+1)) (by omega) (ι κ nk) (σ nx) (σ ny) (ς An mn Cn));replace QW:=QA (QW.out.KB (y:=(wp.heap.size+1)) (by omega) (ι κ nk) (σ nx) (σ ny) (ς An mn Cn));replace JD:=QA (JD.out.ZT (ι κ nk) (σ nx) (σ ny) (ς An mn Cn));have Dp:=JD.out.lt;have ij:wp.heap.size+1<wx.heap.size:=by rw[Z2]at Dp;exact Dp
       obtain⟨A9,C9,UM,GD⟩:=NS ((((wx.setCell ⟨(wp.heap.size+1),0,none⟩ (ι κ nk)).setCell ⟨(wp.heap.size+1),1,none⟩ (σ nx)).setCell ⟨(wp.heap.size+1),2,none⟩ (σ ny)).setCell ⟨(wp.heap.size+1),3,none⟩ (ς An mn Cn)) (w.heap.size+1) wp.heap.size (wp.heap.size+1) P HST.out.size (by omega) (by omega) QO mk mx my mc _ GZ.out nk nx ny nc _ ZX.out;simp only[Qo,one,F.len,JN,Nat.reduceAdd,Value.slice.injEq,true_and]at UM;obtain⟨rfl,rfl⟩:=UM;try simp only[Z2]at GD
       have ZL:=QA GD;clear GD;have hb:=(QF (((((wx.setCell ⟨(wp.heap.size+1),0,none⟩ (ι κ nk)).setCell ⟨(wp.heap.size+1),1,none⟩ (σ nx)).setCell ⟨(wp.heap.size+1),2,none⟩ (σ ny)).setCell ⟨(wp.heap.size+1),3,none⟩ (ς An mn Cn))).heap.size (((((wx.setCell ⟨(wp.heap.size+1),0,none⟩ (ι κ nk)).setCell ⟨(wp.heap.size+1),1,none⟩ (σ nx)).setCell ⟨(wp.heap.size+1),2,none⟩ (σ ny)).setCell ⟨(wp.heap.size+1),3,none⟩ (ς An mn Cn)))).alloc (QH _) (θ #[ι κ mk,σ mx,σ my,ς Am mm Cm,ι κ nk,σ nx,σ ny,ς An mn Cn] 24);replace HST:=QY HST hb;clear hb;go_wp2_with fail;refine c₁ (Qu 5 s _ _ _ _) fun w11 hb=>?_;replace HST:=QY HST hb;replace ZL:=QA (Qm ZL.out hb QO);clear hb;obtain⟨⟨r0,r1,r2,r3,y0,y1,y2,y3⟩,g0,g1,g2,g3⟩:=HST.out.VD;try unfold e0
       go_wp2;have hfin:=HST.out.ret (B0:=w.heap.size+1) QL.out rfl (K9 ZL.out) (fun _ _ _ _=>V4 (K9 ZL.out) (.inl (JW _)) _ _ _ _);refine bodyPost_ret (results_cell_row rfl _ _ w.heap.size 24 _ (0,0) _ rfl hfin.1 underlying24 rfl Q8) rfl ?_;exact U9 hfin.2 (Nat.le_succ _)
     |false =>
      have hsp:=ZV.out;rw[DC,if_neg (by decide),Rd.bind_ok]at hsp;have QL:=QA hsp;have yJ:=QA DC;clear hsp DC;refine c₁ (Zq HST.out.ps XY.out yJ.out) fun wi hb=>?_;replace HST:=QY HST hb;replace GZ:=QA (Qm GZ.out hb QO);replace QW:=JB QW hb;replace JD:=JB JD hb;clear hb;obtain⟨a0,a1,a2,a3⟩:=QW.out.cells;obtain⟨bb0,bb1,bb2,bb3⟩:=JD.out.cells;have fE:=JD.out.lt;have fD:=QW.out.lt;obtain⟨A9,C9,UM,GD⟩:=NS wi (w.heap.size+1) wp.heap.size (wp.heap.size+1) P HST.out.size (by omega) (by omega) QO mk mx my mc _ GZ.out 33 ⟨#[]⟩ ⟨#[]⟩ .nil _ Es;simp only[Qo,one,F.len,JN,Nat.reduceAdd,Value.slice.injEq,true_and]at UM;obtain⟨rfl,rfl⟩:=UM;try simp only[Z2]at GD
      have ZL:=QA GD;clear GD;have hb:=(QF (wi).heap.size (wi)).alloc (QH _) (θ #[ι κ mk,σ mx,σ my,ς Am mm Cm,ι κ 33,σ ⟨#[]⟩,σ ⟨#[]⟩,ς none 0 0] 24);replace HST:=QY HST hb;clear hb;go_wp2_with fail;refine c₁ (Qu 5 s _ _ _ _) fun w9 hb=>?_;replace HST:=QY HST hb;replace ZL:=QA (Qm ZL.out hb QO);clear hb;obtain⟨⟨r0,r1,r2,r3,y0,y1,y2,y3⟩,g0,g1,g2,g3⟩:=HST.out.VD;try unfold e0
      go_wp2;have hfin:=HST.out.ret (B0:=w.heap.size+1) QL.out rfl (K9 ZL.out) (fun _ _ _ _=>V4 (K9 ZL.out) (.inl (JW _)) _ _ _ _);refine bodyPost_ret (results_cell_row rfl _ _ w.heap.size 24 _ (0,0) _ rfl hfin.1 underlying24 rfl Q8) rfl ?_;exact U9 hfin.2 (Nat.le_succ _)
