import Derived.Test.YtaiihnniblibaaaGreatDoorG17
set_option maxHeartbeats 16000000
set_option maxRecDepth 100000
set_option linter.unusedVariables false
open Go.Proofs.Tryz Go.ChangeShapes Go.WideShapes Go.ChangeAt Go.RowKit
open Go.Lib renaming hid→QA
open Go.Value renaming int→ι,pointer→π
open Go.IntKind renaming i64→κ
namespace Go.Proofs.YtaiihnniblibaaaGreatDoor
namespace QB
open Tree ZR Mem
theorem Qpo(P z N:Nat)(st:Nat→List Tk→Rd Nd)(hst:Xj 104 P z N st)(hdec:JE st)(l:List Tk)(d:Nat)(w:World)(h:PS w P z l d)(hl:l.length≤N)(hd:d≤300) :
  Calls prog 104 #[π (some ⟨P,0,none⟩)] w (Qn NV w P z d (J3 z st d l)):=by
 have hlt:=h.lt;have HST:=QA (XI.start h);obtain⟨t,ht⟩:=Mem.ZB (QB.hd z l);obtain⟨tk,tx,tp,tf⟩:=t;have XW:=RH tk tx tp tf;have HN:=QA (Zn (h.alloc XO) ht);have hsp:J3 z st d l=J3 z st d l:=rfl;conv at hsp=>rhs;unfold J3
 rw[ht]at hsp;cases b0:(tx.toList==[118,97,114])with
 |true =>
  rw[if_pos (Vp b0)]at hsp;have HC:Hid (∀W,PS W P z l d→Calls prog 73 #[π (some ⟨P,0,none⟩)] W (Qn NV W P z d (Rf z d l))):=fun W hW=>rG P z l d W hW hd
  have QL:=QA hsp;clear hsp ht h hst hdec;generalize hq:Rf z d l=Rq at HC QL;clear hq;go_enter func104,ntmps104;go_wp2_with fail;refine c₁ (HN.out) fun w1 hb=>?_;replace HST:=tQu HST hb;clear hb;go_wp2_with fail;refine(HC.out _ HST.out.ps).mono ?_;intro e W hp;rcases Ji HST.out hp with⟨p,er,hR,rfl,QD⟩|⟨k,x,y,c,l2,A,C,hR,rfl,hf,hst⟩
  ·have XZ:=QA QD;have HR:=QA hR;clear hp QD hR HST;go_wp2;exact⟨rfl,Qc (QL.out.trans HR.out) XZ.out⟩
  ·have HS:=QA hst;have HF:=QA hf;have HR:=QA hR;obtain⟨⟨r0,r1,r2,r3,y0,y1,y2,y3⟩,g0,g1,g2,g3⟩:=hst.VD;generalize hm:c.len=m at *;have Hm:=QA hm;clear hp hf hst hR HST hm;go_wp2;have hfin:=HS.out.ret (QL.out.trans HR.out) Hm.out.symm HF.out;refine bodyPost_ret (results_cell_row rfl _ _ w.heap.size 24 _ (0,0) _ rfl hfin.1 underlying24 rfl Q8) rfl ?_;exact hfin.2
 |false =>
 rw[if_neg (V3 b0)]at hsp;cases b1:(tx.toList==[123])with
 |true =>
  rw[if_pos (Vp b1)]at hsp;have HC:Hid (∀W,PS W P z l d→Calls prog 95 #[π (some ⟨P,0,none⟩)] W (Qn NV W P z d (Zu z st d l))):=fun W hW=>Xf P z N st hst hdec l d W hW hl hd
  have QL:=QA hsp;clear hsp ht h hst hdec;generalize hq:Zu z st d l=Rq at HC QL;clear hq;go_enter func104,ntmps104;go_wp2_with fail;refine c₁ (HN.out) fun w1 hb=>?_;replace HST:=tQu HST hb;clear hb;go_wp2_with fail;refine(HC.out _ HST.out.ps).mono ?_;intro e W hp;rcases Ji HST.out hp with⟨p,er,hR,rfl,QD⟩|⟨k,x,y,c,l2,A,C,hR,rfl,hf,hst⟩
  ·have XZ:=QA QD;have HR:=QA hR;clear hp QD hR HST;go_wp2;exact⟨rfl,Qc (QL.out.trans HR.out) XZ.out⟩
  ·have HS:=QA hst;have HF:=QA hf;have HR:=QA hR;obtain⟨⟨r0,r1,r2,r3,y0,y1,y2,y3⟩,g0,g1,g2,g3⟩:=hst.VD;generalize hm:c.len=m at *;have Hm:=QA hm;clear hp hf hst hR HST hm;go_wp2;have hfin:=HS.out.ret (QL.out.trans HR.out) Hm.out.symm HF.out;refine bodyPost_ret (results_cell_row rfl _ _ w.heap.size 24 _ (0,0) _ rfl hfin.1 underlying24 rfl Q8) rfl ?_;exact hfin.2
 |false =>
 rw[if_neg (V3 b1)]at hsp;cases b2:(tx.toList==[105,102])with
 |true =>
  rw[if_pos (Vp b2)]at hsp;have HC:Hid (∀W,PS W P z l d→Calls prog 114 #[π (some ⟨P,0,none⟩)] W (Qn NV W P z d (Ki z st (l.length+1) d l))):=fun W hW=>nQ P z N st hst hdec (l.length+1) (l.length+1) (by omega) (Nat.le_refl _) W d l (Nat.lt_succ_self _) hd hW
  have QL:=QA hsp;clear hsp ht h hst hdec;generalize hq:Ki z st (l.length+1) d l=Rq at HC QL;clear hq;go_enter func104,ntmps104;go_wp2_with fail;refine c₁ (HN.out) fun w1 hb=>?_;replace HST:=tQu HST hb;clear hb;go_wp2_with fail;refine(HC.out _ HST.out.ps).mono ?_;intro e W hp;rcases Ji HST.out hp with⟨p,er,hR,rfl,QD⟩|⟨k,x,y,c,l2,A,C,hR,rfl,hf,hst⟩
  ·have XZ:=QA QD;have HR:=QA hR;clear hp QD hR HST;go_wp2;exact⟨rfl,Qc (QL.out.trans HR.out) XZ.out⟩
  ·have HS:=QA hst;have HF:=QA hf;have HR:=QA hR;obtain⟨⟨r0,r1,r2,r3,y0,y1,y2,y3⟩,g0,g1,g2,g3⟩:=hst.VD;generalize hm:c.len=m at *;have Hm:=QA hm;clear hp hf hst hR HST hm;go_wp2;have hfin:=HS.out.ret (QL.out.trans HR.out) Hm.out.symm HF.out;refine bodyPost_ret (results_cell_row rfl _ _ w.heap.size 24 _ (0,0) _ rfl hfin.1 underlying24 rfl Q8) rfl ?_;exact hfin.2
 |false =>
 rw[if_neg (V3 b2)]at hsp;cases b3:(tx.toList==[102,111,114])with
 |true =>
  rw[if_pos (Vp b3)]at hsp;have HC:Hid (∀W,PS W P z l d→Calls prog 115 #[π (some ⟨P,0,none⟩)] W (Qn NV W P z d (Tb z st d l))):=fun W hW=>Qu6 P z N st hst hdec l d W hW hl hd
  have QL:=QA hsp;clear hsp ht h hst hdec;generalize hq:Tb z st d l=Rq at HC QL;clear hq;go_enter func104,ntmps104;go_wp2_with fail;refine c₁ (HN.out) fun w1 hb=>?_;replace HST:=tQu HST hb;clear hb;go_wp2_with fail;refine(HC.out _ HST.out.ps).mono ?_;intro e W hp;rcases Ji HST.out hp with⟨p,er,hR,rfl,QD⟩|⟨k,x,y,c,l2,A,C,hR,rfl,hf,hst⟩
  ·have XZ:=QA QD;have HR:=QA hR;clear hp QD hR HST;go_wp2;exact⟨rfl,Qc (QL.out.trans HR.out) XZ.out⟩
  ·have HS:=QA hst;have HF:=QA hf;have HR:=QA hR;obtain⟨⟨r0,r1,r2,r3,y0,y1,y2,y3⟩,g0,g1,g2,g3⟩:=hst.VD;generalize hm:c.len=m at *;have Hm:=QA hm;clear hp hf hst hR HST hm;go_wp2;have hfin:=HS.out.ret (QL.out.trans HR.out) Hm.out.symm HF.out;refine bodyPost_ret (results_cell_row rfl _ _ w.heap.size 24 _ (0,0) _ rfl hfin.1 underlying24 rfl Q8) rfl ?_;exact hfin.2
 |false =>
 rw[if_neg (V3 b3)]at hsp;cases b4:(tx.toList==[114,101,116,117,114,110])with
 |true =>
  rw[if_pos (Vp b4)]at hsp;have HC:Hid (∀W,PS W P z l d→Calls prog 116 #[π (some ⟨P,0,none⟩)] W (Qn NV W P z d (RL z d l))):=fun W hW=>wF P z l d W hW hd
  have QL:=QA hsp;clear hsp ht h hst hdec;generalize hq:RL z d l=Rq at HC QL;clear hq;go_enter func104,ntmps104;go_wp2_with fail;refine c₁ (HN.out) fun w1 hb=>?_;replace HST:=tQu HST hb;clear hb;go_wp2_with fail;refine(HC.out _ HST.out.ps).mono ?_;intro e W hp;rcases Ji HST.out hp with⟨p,er,hR,rfl,QD⟩|⟨k,x,y,c,l2,A,C,hR,rfl,hf,hst⟩
  ·have XZ:=QA QD;have HR:=QA hR;clear hp QD hR HST;go_wp2;exact⟨rfl,Qc (QL.out.trans HR.out) XZ.out⟩
  ·have HS:=QA hst;have HF:=QA hf;have HR:=QA hR;obtain⟨⟨r0,r1,r2,r3,y0,y1,y2,y3⟩,g0,g1,g2,g3⟩:=hst.VD;generalize hm:c.len=m at *;have Hm:=QA hm;clear hp hf hst hR HST hm;go_wp2;have hfin:=HS.out.ret (QL.out.trans HR.out) Hm.out.symm HF.out;refine bodyPost_ret (results_cell_row rfl _ _ w.heap.size 24 _ (0,0) _ rfl hfin.1 underlying24 rfl Q8) rfl ?_;exact hfin.2
 |false =>
 rw[if_neg (V3 b4)]at hsp;cases b5:(tx.toList==[98,114,101,97,107])with
 |true =>
  rw[if_pos (Vp b5)]at hsp;have HC:Hid (∀W,PS W P z l d→Calls prog 117 #[π (some ⟨P,0,none⟩),ι κ 24] W (Qn NV W P z d (G2 z 24 d l))):=fun W hW=>rY P z 24 l (Zh (u:=[98,114,101,97,107]) (by decide) (by rw[ht];exact b5)) d W hW hd
  have QL:=QA hsp;clear hsp ht h hst hdec;generalize hq:G2 z 24 d l=Rq at HC QL;clear hq;go_enter func104,ntmps104;go_wp2_with fail;refine c₁ (HN.out) fun w1 hb=>?_;replace HST:=tQu HST hb;clear hb;go_wp2_with fail;refine(HC.out _ HST.out.ps).mono ?_;intro e W hp;rcases Ji HST.out hp with⟨p,er,hR,rfl,QD⟩|⟨k,x,y,c,l2,A,C,hR,rfl,hf,hst⟩
  ·have XZ:=QA QD;have HR:=QA hR;clear hp QD hR HST;go_wp2;exact⟨rfl,Qc (QL.out.trans HR.out) XZ.out⟩
  ·have HS:=QA hst;have HF:=QA hf;have HR:=QA hR;obtain⟨⟨r0,r1,r2,r3,y0,y1,y2,y3⟩,g0,g1,g2,g3⟩:=hst.VD;generalize hm:c.len=m at *;have Hm:=QA hm;clear hp hf hst hR HST hm;go_wp2;have hfin:=HS.out.ret (QL.out.trans HR.out) Hm.out.symm HF.out;refine bodyPost_ret (results_cell_row rfl _ _ w.heap.size 24 _ (0,0) _ rfl hfin.1 underlying24 rfl Q8) rfl ?_;exact hfin.2
 |false =>
 rw[if_neg (V3 b5)]at hsp;cases b6:(tx.toList==[99,111,110,116,105,110,117,101])with
 |true =>
  rw[if_pos (Vp b6)]at hsp;have HC:Hid (∀W,PS W P z l d→Calls prog 117 #[π (some ⟨P,0,none⟩),ι κ 25] W (Qn NV W P z d (G2 z 25 d l))):=fun W hW=>rY P z 25 l (Zh (u:=[99,111,110,116,105,110,117,101]) (by decide) (by rw[ht];exact b6)) d W hW hd
  have QL:=QA hsp;clear hsp ht h hst hdec;generalize hq:G2 z 25 d l=Rq at HC QL;clear hq;go_enter func104,ntmps104;go_wp2_with fail;refine c₁ (HN.out) fun w1 hb=>?_;replace HST:=tQu HST hb;clear hb;go_wp2_with fail;refine(HC.out _ HST.out.ps).mono ?_;intro e W hp;rcases Ji HST.out hp with⟨p,er,hR,rfl,QD⟩|⟨k,x,y,c,l2,A,C,hR,rfl,hf,hst⟩
  ·have XZ:=QA QD;have HR:=QA hR;clear hp QD hR HST;go_wp2;exact⟨rfl,Qc (QL.out.trans HR.out) XZ.out⟩
  ·have HS:=QA hst;have HF:=QA hf;have HR:=QA hR;obtain⟨⟨r0,r1,r2,r3,y0,y1,y2,y3⟩,g0,g1,g2,g3⟩:=hst.VD;generalize hm:c.len=m at *;have Hm:=QA hm;clear hp hf hst hR HST hm;go_wp2;have hfin:=HS.out.ret (QL.out.trans HR.out) Hm.out.symm HF.out;refine bodyPost_ret (results_cell_row rfl _ _ w.heap.size 24 _ (0,0) _ rfl hfin.1 underlying24 rfl Q8) rfl ?_;exact hfin.2
 |false =>
 rw[if_neg (V3 b6)]at hsp;have HC:Hid (∀W,PS W P z l d→Calls prog 118 #[π (some ⟨P,0,none⟩)] W (Qn NV W P z d (Zl z d l))):=fun W hW=>Qmq P z l d W hW hd
 have QL:=QA hsp;clear hsp ht h hst hdec;generalize hq:Zl z d l=Rq at HC QL;clear hq;go_enter func104,ntmps104;go_wp2_with fail;refine c₁ (HN.out) fun w1 hb=>?_;replace HST:=tQu HST hb;clear hb;go_wp2_with fail;refine(HC.out _ HST.out.ps).mono ?_;intro e W hp;rcases Ji HST.out hp with⟨p,er,hR,rfl,QD⟩|⟨k,x,y,c,l2,A,C,hR,rfl,hf,hst⟩
 ·have XZ:=QA QD;have HR:=QA hR;clear hp QD hR HST;go_wp2;exact⟨rfl,Qc (QL.out.trans HR.out) XZ.out⟩
 ·have HS:=QA hst;have HF:=QA hf;have HR:=QA hR;obtain⟨⟨r0,r1,r2,r3,y0,y1,y2,y3⟩,g0,g1,g2,g3⟩:=hst.VD;generalize hm:c.len=m at *;have Hm:=QA hm;clear hp hf hst hR HST hm;go_wp2;have hfin:=HS.out.ret (QL.out.trans HR.out) Hm.out.symm HF.out;refine bodyPost_ret (results_cell_row rfl _ _ w.heap.size 24 _ (0,0) _ rfl hfin.1 underlying24 rfl Q8) rfl ?_;exact hfin.2
theorem pZ(P z:Nat):∀N F,N≤F→Xj 104 P z N (SL z F)
 |0,F,_=>fun W d l hl=>absurd hl (Nat.not_lt_zero _)
 |N+1,0,h=>absurd h (by omega)
 |N+1,F+1,h=>fun W d l hl hd hps=>Qpo P z N (SL z F) (pZ P z N F (by omega)) (qR z F) l d W hps (by omega) hd
theorem kq(P z N:Nat):Xj 104 P z N (Ek z):=fun W d l _ hd hps=>pZ P z (l.length+1) (l.length+1) (Nat.le_refl _) W d l (Nat.lt_succ_self _) hd hps
