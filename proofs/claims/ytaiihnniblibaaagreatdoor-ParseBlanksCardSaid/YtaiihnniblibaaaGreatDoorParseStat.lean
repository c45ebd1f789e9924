/-
 Layer 6 (parse): statements.
-/
import Derived.Test.YtaiihnniblibaaaGreatDoorParseSimple
namespace Go.Proofs.YtaiihnniblibaaaGreatDoor.Parse
open Go.ChangeShapes Go.WideShapes Go.ChangeAt Go.RowKit Tree MemT Mem
set_option linter.unusedVariables false

set_option maxHeartbeats 16000000 in
set_option maxRecDepth 100000 in
theorem stat_step (P z N : Nat) (st : Nat → List Tk → Rd Nd) (hst : RdOk 104 P z N st) (hdec : Dec st) (l : List Tk) (d : Nat) (w : World) (h : PS w P z l d) (hl : l.length ≤ N) (hd : d ≤ 300) :
  Calls Tryz.prog 104 #[.pointer (some ⟨P, 0, none⟩)] w (RPost NV w P z d (stRest z st d l)) := by
 have hlt := h.lt
 have HST := Lib.hid (Stt.start h)
 obtain ⟨t, ht⟩ : ∃ t, Parse.hd z l = t := ⟨_, rfl⟩
 obtain ⟨tk, tx, tp, tf⟩ := t
 have hf1 := fld1 tk tx tp tf
 have HN := Lib.hid (next_is (h.alloc ndZ) ht)
 have hsp : stRest z st d l = stRest z st d l := rfl
 conv at hsp => rhs; unfold stRest
 rw [ht] at hsp
 cases b0 : (tx.toList == [118, 97, 114]) with
 | true =>
  rw [if_pos (isT_yes b0)] at hsp
  have HC : Hid (∀ W, PS W P z l d → Calls Tryz.prog 73 #[.pointer (some ⟨P, 0, none⟩)] W (RPost NV W P z d (varR z d l))) := fun W hW => var_any P z l d W hW hd
  have HSP := Lib.hid hsp
  clear hsp ht h hst hdec
  generalize hq : varR z d l = Rq at HC HSP
  clear hq
  go_enter Tryz.func104, Tryz.ntmps104
  go_wp2_with fail
  refine (HN.out).mono ?_
  rintro e w1 ⟨rfl, hb⟩
  replace HST := Lib.hid (HST.out.quiet hb)
  clear hb
  go_wp2_with fail
  refine (HC.out _ HST.out.ps).mono ?_
  intro e W hp
  rcases pass_ok HST.out hp with ⟨p, er, hR, rfl, hbe⟩ | ⟨k, x, y, c, l2, A, C, hR, rfl, hf, hst⟩
  ·have HE9 := Lib.hid hbe
   have HR := Lib.hid hR
   clear hp hbe hR HST
   go_wp2
   exact ⟨rfl, rpost_bad (HSP.out.trans HR.out) HE9.out⟩
  ·have HS := Lib.hid hst
   have HF := Lib.hid hf
   have HR := Lib.hid hR
   obtain ⟨⟨r0, r1, r2, r3, y0, y1, y2, y3⟩, g0, g1, g2, g3⟩ := hst.frz
   generalize hm : c.len = m at *
   have Hm := Lib.hid hm
   clear hp hf hst hR HST hm
   go_wp2
   have hfin := HS.out.ret (HSP.out.trans HR.out) Hm.out.symm HF.out
   refine bodyPost_ret (results_cell_row rfl _ _ w.heap.size 24 _ (0, 0) _ rfl hfin.1 Tryz.underlying24 rfl hi_nd) rfl ?_
   exact hfin.2
 | false =>
 rw [if_neg (isT_no b0)] at hsp
 cases b1 : (tx.toList == [123]) with
 | true =>
  rw [if_pos (isT_yes b1)] at hsp
  have HC : Hid (∀ W, PS W P z l d → Calls Tryz.prog 95 #[.pointer (some ⟨P, 0, none⟩)] W (RPost NV W P z d (blockR z st d l))) := fun W hW => block_any P z N st hst hdec l d W hW hl hd
  have HSP := Lib.hid hsp
  clear hsp ht h hst hdec
  generalize hq : blockR z st d l = Rq at HC HSP
  clear hq
  go_enter Tryz.func104, Tryz.ntmps104
  go_wp2_with fail
  refine (HN.out).mono ?_
  rintro e w1 ⟨rfl, hb⟩
  replace HST := Lib.hid (HST.out.quiet hb)
  clear hb
  go_wp2_with fail
  refine (HC.out _ HST.out.ps).mono ?_
  intro e W hp
  rcases pass_ok HST.out hp with ⟨p, er, hR, rfl, hbe⟩ | ⟨k, x, y, c, l2, A, C, hR, rfl, hf, hst⟩
  ·have HE9 := Lib.hid hbe
   have HR := Lib.hid hR
   clear hp hbe hR HST
   go_wp2
   exact ⟨rfl, rpost_bad (HSP.out.trans HR.out) HE9.out⟩
  ·have HS := Lib.hid hst
   have HF := Lib.hid hf
   have HR := Lib.hid hR
   obtain ⟨⟨r0, r1, r2, r3, y0, y1, y2, y3⟩, g0, g1, g2, g3⟩ := hst.frz
   generalize hm : c.len = m at *
   have Hm := Lib.hid hm
   clear hp hf hst hR HST hm
   go_wp2
   have hfin := HS.out.ret (HSP.out.trans HR.out) Hm.out.symm HF.out
   refine bodyPost_ret (results_cell_row rfl _ _ w.heap.size 24 _ (0, 0) _ rfl hfin.1 Tryz.underlying24 rfl hi_nd) rfl ?_
   exact hfin.2
 | false =>
 rw [if_neg (isT_no b1)] at hsp
 cases b2 : (tx.toList == [105, 102]) with
 | true =>
  rw [if_pos (isT_yes b2)] at hsp
  have HC : Hid (∀ W, PS W P z l d → Calls Tryz.prog 114 #[.pointer (some ⟨P, 0, none⟩)] W (RPost NV W P z d (branchR z st (l.length + 1) d l))) := fun W hW => branch_rd P z N st hst hdec (l.length + 1) (l.length + 1) (by omega) (Nat.le_refl _) W d l (Nat.lt_succ_self _) hd hW
  have HSP := Lib.hid hsp
  clear hsp ht h hst hdec
  generalize hq : branchR z st (l.length + 1) d l = Rq at HC HSP
  clear hq
  go_enter Tryz.func104, Tryz.ntmps104
  go_wp2_with fail
  refine (HN.out).mono ?_
  rintro e w1 ⟨rfl, hb⟩
  replace HST := Lib.hid (HST.out.quiet hb)
  clear hb
  go_wp2_with fail
  refine (HC.out _ HST.out.ps).mono ?_
  intro e W hp
  rcases pass_ok HST.out hp with ⟨p, er, hR, rfl, hbe⟩ | ⟨k, x, y, c, l2, A, C, hR, rfl, hf, hst⟩
  ·have HE9 := Lib.hid hbe
   have HR := Lib.hid hR
   clear hp hbe hR HST
   go_wp2
   exact ⟨rfl, rpost_bad (HSP.out.trans HR.out) HE9.out⟩
  ·have HS := Lib.hid hst
   have HF := Lib.hid hf
   have HR := Lib.hid hR
   obtain ⟨⟨r0, r1, r2, r3, y0, y1, y2, y3⟩, g0, g1, g2, g3⟩ := hst.frz
   generalize hm : c.len = m at *
   have Hm := Lib.hid hm
   clear hp hf hst hR HST hm
   go_wp2
   have hfin := HS.out.ret (HSP.out.trans HR.out) Hm.out.symm HF.out
   refine bodyPost_ret (results_cell_row rfl _ _ w.heap.size 24 _ (0, 0) _ rfl hfin.1 Tryz.underlying24 rfl hi_nd) rfl ?_
   exact hfin.2
 | false =>
 rw [if_neg (isT_no b2)] at hsp
 cases b3 : (tx.toList == [102, 111, 114]) with
 | true =>
  rw [if_pos (isT_yes b3)] at hsp
  have HC : Hid (∀ W, PS W P z l d → Calls Tryz.prog 115 #[.pointer (some ⟨P, 0, none⟩)] W (RPost NV W P z d (forR z st d l))) := fun W hW => loop_any P z N st hst hdec l d W hW hl hd
  have HSP := Lib.hid hsp
  clear hsp ht h hst hdec
  generalize hq : forR z st d l = Rq at HC HSP
  clear hq
  go_enter Tryz.func104, Tryz.ntmps104
  go_wp2_with fail
  refine (HN.out).mono ?_
  rintro e w1 ⟨rfl, hb⟩
  replace HST := Lib.hid (HST.out.quiet hb)
  clear hb
  go_wp2_with fail
  refine (HC.out _ HST.out.ps).mono ?_
  intro e W hp
  rcases pass_ok HST.out hp with ⟨p, er, hR, rfl, hbe⟩ | ⟨k, x, y, c, l2, A, C, hR, rfl, hf, hst⟩
  ·have HE9 := Lib.hid hbe
   have HR := Lib.hid hR
   clear hp hbe hR HST
   go_wp2
   exact ⟨rfl, rpost_bad (HSP.out.trans HR.out) HE9.out⟩
  ·have HS := Lib.hid hst
   have HF := Lib.hid hf
   have HR := Lib.hid hR
   obtain ⟨⟨r0, r1, r2, r3, y0, y1, y2, y3⟩, g0, g1, g2, g3⟩ := hst.frz
   generalize hm : c.len = m at *
   have Hm := Lib.hid hm
   clear hp hf hst hR HST hm
   go_wp2
   have hfin := HS.out.ret (HSP.out.trans HR.out) Hm.out.symm HF.out
   refine bodyPost_ret (results_cell_row rfl _ _ w.heap.size 24 _ (0, 0) _ rfl hfin.1 Tryz.underlying24 rfl hi_nd) rfl ?_
   exact hfin.2
 | false =>
 rw [if_neg (isT_no b3)] at hsp
 cases b4 : (tx.toList == [114, 101, 116, 117, 114, 110]) with
 | true =>
  rw [if_pos (isT_yes b4)] at hsp
  have HC : Hid (∀ W, PS W P z l d → Calls Tryz.prog 116 #[.pointer (some ⟨P, 0, none⟩)] W (RPost NV W P z d (retR z d l))) := fun W hW => ret_any P z l d W hW hd
  have HSP := Lib.hid hsp
  clear hsp ht h hst hdec
  generalize hq : retR z d l = Rq at HC HSP
  clear hq
  go_enter Tryz.func104, Tryz.ntmps104
  go_wp2_with fail
  refine (HN.out).mono ?_
  rintro e w1 ⟨rfl, hb⟩
  replace HST := Lib.hid (HST.out.quiet hb)
  clear hb
  go_wp2_with fail
  refine (HC.out _ HST.out.ps).mono ?_
  intro e W hp
  rcases pass_ok HST.out hp with ⟨p, er, hR, rfl, hbe⟩ | ⟨k, x, y, c, l2, A, C, hR, rfl, hf, hst⟩
  ·have HE9 := Lib.hid hbe
   have HR := Lib.hid hR
   clear hp hbe hR HST
   go_wp2
   exact ⟨rfl, rpost_bad (HSP.out.trans HR.out) HE9.out⟩
  ·have HS := Lib.hid hst
   have HF := Lib.hid hf
   have HR := Lib.hid hR
   obtain ⟨⟨r0, r1, r2, r3, y0, y1, y2, y3⟩, g0, g1, g2, g3⟩ := hst.frz
   generalize hm : c.len = m at *
   have Hm := Lib.hid hm
   clear hp hf hst hR HST hm
   go_wp2
   have hfin := HS.out.ret (HSP.out.trans HR.out) Hm.out.symm HF.out
   refine bodyPost_ret (results_cell_row rfl _ _ w.heap.size 24 _ (0, 0) _ rfl hfin.1 Tryz.underlying24 rfl hi_nd) rfl ?_
   exact hfin.2
 | false =>
 rw [if_neg (isT_no b4)] at hsp
 cases b5 : (tx.toList == [98, 114, 101, 97, 107]) with
 | true =>
  rw [if_pos (isT_yes b5)] at hsp
  have HC : Hid (∀ W, PS W P z l d → Calls Tryz.prog 117 #[.pointer (some ⟨P, 0, none⟩), .int .i64 24] W (RPost NV W P z d (jumpR z 24 d l))) := fun W hW => jump_any P z 24 l (isT_ne (u := [98,114,101,97,107]) (by decide) (by rw [ht]; exact b5)) d W hW hd
  have HSP := Lib.hid hsp
  clear hsp ht h hst hdec
  generalize hq : jumpR z 24 d l = Rq at HC HSP
  clear hq
  go_enter Tryz.func104, Tryz.ntmps104
  go_wp2_with fail
  refine (HN.out).mono ?_
  rintro e w1 ⟨rfl, hb⟩
  replace HST := Lib.hid (HST.out.quiet hb)
  clear hb
  go_wp2_with fail
  refine (HC.out _ HST.out.ps).mono ?_
  intro e W hp
  rcases pass_ok HST.out hp with ⟨p, er, hR, rfl, hbe⟩ | ⟨k, x, y, c, l2, A, C, hR, rfl, hf, hst⟩
  ·have HE9 := Lib.hid hbe
   have HR := Lib.hid hR
   clear hp hbe hR HST
   go_wp2
   exact ⟨rfl, rpost_bad (HSP.out.trans HR.out) HE9.out⟩
  ·have HS := Lib.hid hst
   have HF := Lib.hid hf
   have HR := Lib.hid hR
   obtain ⟨⟨r0, r1, r2, r3, y0, y1, y2, y3⟩, g0, g1, g2, g3⟩ := hst.frz
   generalize hm : c.len = m at *
   have Hm := Lib.hid hm
   clear hp hf hst hR HST hm
   go_wp2
   have hfin := HS.out.ret (HSP.out.trans HR.out) Hm.out.symm HF.out
   refine bodyPost_ret (results_cell_row rfl _ _ w.heap.size 24 _ (0, 0) _ rfl hfin.1 Tryz.underlying24 rfl hi_nd) rfl ?_
   exact hfin.2
 | false =>
 rw [if_neg (isT_no b5)] at hsp
 cases b6 : (tx.toList == [99, 111, 110, 116, 105, 110, 117, 101]) with
 | true =>
  rw [if_pos (isT_yes b6)] at hsp
  have HC : Hid (∀ W, PS W P z l d → Calls Tryz.prog 117 #[.pointer (some ⟨P, 0, none⟩), .int .i64 25] W (RPost NV W P z d (jumpR z 25 d l))) := fun W hW => jump_any P z 25 l (isT_ne (u := [99,111,110,116,105,110,117,101]) (by decide) (by rw [ht]; exact b6)) d W hW hd
  have HSP := Lib.hid hsp
  clear hsp ht h hst hdec
  generalize hq : jumpR z 25 d l = Rq at HC HSP
  clear hq
  go_enter Tryz.func104, Tryz.ntmps104
  go_wp2_with fail
  refine (HN.out).mono ?_
  rintro e w1 ⟨rfl, hb⟩
  replace HST := Lib.hid (HST.out.quiet hb)
  clear hb
  go_wp2_with fail
  refine (HC.out _ HST.out.ps).mono ?_
  intro e W hp
  rcases pass_ok HST.out hp with ⟨p, er, hR, rfl, hbe⟩ | ⟨k, x, y, c, l2, A, C, hR, rfl, hf, hst⟩
  ·have HE9 := Lib.hid hbe
   have HR := Lib.hid hR
   clear hp hbe hR HST
   go_wp2
   exact ⟨rfl, rpost_bad (HSP.out.trans HR.out) HE9.out⟩
  ·have HS := Lib.hid hst
   have HF := Lib.hid hf
   have HR := Lib.hid hR
   obtain ⟨⟨r0, r1, r2, r3, y0, y1, y2, y3⟩, g0, g1, g2, g3⟩ := hst.frz
   generalize hm : c.len = m at *
   have Hm := Lib.hid hm
   clear hp hf hst hR HST hm
   go_wp2
   have hfin := HS.out.ret (HSP.out.trans HR.out) Hm.out.symm HF.out
   refine bodyPost_ret (results_cell_row rfl _ _ w.heap.size 24 _ (0, 0) _ rfl hfin.1 Tryz.underlying24 rfl hi_nd) rfl ?_
   exact hfin.2
 | false =>
 rw [if_neg (isT_no b6)] at hsp
 have HC : Hid (∀ W, PS W P z l d → Calls Tryz.prog 118 #[.pointer (some ⟨P, 0, none⟩)] W (RPost NV W P z d (simpleR z d l))) := fun W hW => simple_any P z l d W hW hd
 have HSP := Lib.hid hsp
 clear hsp ht h hst hdec
 generalize hq : simpleR z d l = Rq at HC HSP
 clear hq
 go_enter Tryz.func104, Tryz.ntmps104
 go_wp2_with fail
 refine (HN.out).mono ?_
 rintro e w1 ⟨rfl, hb⟩
 replace HST := Lib.hid (HST.out.quiet hb)
 clear hb
 go_wp2_with fail
 refine (HC.out _ HST.out.ps).mono ?_
 intro e W hp
 rcases pass_ok HST.out hp with ⟨p, er, hR, rfl, hbe⟩ | ⟨k, x, y, c, l2, A, C, hR, rfl, hf, hst⟩
 ·have HE9 := Lib.hid hbe
  have HR := Lib.hid hR
  clear hp hbe hR HST
  go_wp2
  exact ⟨rfl, rpost_bad (HSP.out.trans HR.out) HE9.out⟩
 ·have HS := Lib.hid hst
  have HF := Lib.hid hf
  have HR := Lib.hid hR
  obtain ⟨⟨r0, r1, r2, r3, y0, y1, y2, y3⟩, g0, g1, g2, g3⟩ := hst.frz
  generalize hm : c.len = m at *
  have Hm := Lib.hid hm
  clear hp hf hst hR HST hm
  go_wp2
  have hfin := HS.out.ret (HSP.out.trans HR.out) Hm.out.symm HF.out
  refine bodyPost_ret (results_cell_row rfl _ _ w.heap.size 24 _ (0, 0) _ rfl hfin.1 Tryz.underlying24 rfl hi_nd) rfl ?_
  exact hfin.2

theorem stat_rd (P z : Nat) : ∀ N F, N ≤ F → RdOk 104 P z N (stR z F)
 | 0, F, _ => fun W d l hl => absurd hl (Nat.not_lt_zero _)
 | N + 1, 0, h => absurd h (by omega)
 | N + 1, F + 1, h => fun W d l hl hd hps => stat_step P z N (stR z F) (stat_rd P z N F (by omega)) (stR_dec z F) l d W hps (by omega) hd
/-- Statements, of any row. -/
theorem stm_rd (P z N : Nat) : RdOk 104 P z N (stmR z) := fun W d l _ hd hps => stat_rd P z (l.length + 1) (l.length + 1) (Nat.le_refl _) W d l (Nat.lt_succ_self _) hd hps
end Go.Proofs.YtaiihnniblibaaaGreatDoor.Parse
