/-
 Layer 6 (parse): field, parameter; over; item; braces; list.
-/
import Derived.Test.YtaiihnniblibaaaGreatDoorJpE
namespace Go.Proofs.YtaiihnniblibaaaGreatDoor.Parse
open Go.ChangeShapes Go.WideShapes Go.ChangeAt Go.RowKit Tree MemT Mem
set_option linter.unusedVariables false

set_option maxHeartbeats 4000000 in
set_option maxRecDepth 100000 in
theorem field_any (P z N : Nat) (rd : Nat → List Tk → Rd Nd) (hty : RdOk 72 P z N rd) (l : List Tk) (d : Nat) (w : World) (h : PS w P z l d) (hl : l.length ≤ N) (hd : d ≤ 300) :
  Calls Tryz.prog 91 #[.pointer (some ⟨P, 0, none⟩)] w (RPost NV w P z d (typed z 14 rd d l)) := by
 have HST := Lib.hid (Stt.start h)
 have HC := Lib.hid (typed_any P z N rd hty 14 l d _ (h.alloc ndZ) hl hd)
 clear h
 generalize typed z 14 rd d l = R at *
 go_enter Tryz.func91, Tryz.ntmps91
 go_wp2_with fail
 refine HC.out.mono ?_
 intro e W hp
 rcases pass_ok HST.out hp with ⟨p, er, hR, rfl, hbe⟩ | ⟨k, x, y, c, l2, A, C, hR, rfl, hf, hst⟩
 ·have HE := Lib.hid hbe
  have HR := Lib.hid hR
  clear hp hbe hR HST HC
  go_wp2
  exact ⟨rfl, rpost_bad HR.out HE.out⟩
 ·have HS := Lib.hid hst
  have HF := Lib.hid hf
  have HR := Lib.hid hR
  obtain ⟨⟨r0, r1, r2, r3, y0, y1, y2, y3⟩, g0, g1, g2, g3⟩ := hst.frz
  generalize hm : c.len = m at *
  have Hm := Lib.hid hm
  clear hp hf hst hR HST HC hm
  go_wp2
  have hfin := HS.out.ret HR.out Hm.out.symm HF.out
  refine bodyPost_ret (results_cell_row rfl _ _ w.heap.size 24 _ (0, 0) _ rfl hfin.1 Tryz.underlying24 rfl hi_nd) rfl ?_
  exact hfin.2

set_option maxHeartbeats 4000000 in
set_option maxRecDepth 100000 in
theorem param_any (P z N : Nat) (rd : Nat → List Tk → Rd Nd) (hty : RdOk 72 P z N rd) (l : List Tk) (d : Nat) (w : World) (h : PS w P z l d) (hl : l.length ≤ N) (hd : d ≤ 300) :
  Calls Tryz.prog 93 #[.pointer (some ⟨P, 0, none⟩)] w (RPost NV w P z d (typed z 16 rd d l)) := by
 have HST := Lib.hid (Stt.start h)
 have HC := Lib.hid (typed_any P z N rd hty 16 l d _ (h.alloc ndZ) hl hd)
 clear h
 generalize typed z 16 rd d l = R at *
 go_enter Tryz.func93, Tryz.ntmps93
 go_wp2_with fail
 refine HC.out.mono ?_
 intro e W hp
 rcases pass_ok HST.out hp with ⟨p, er, hR, rfl, hbe⟩ | ⟨k, x, y, c, l2, A, C, hR, rfl, hf, hst⟩
 ·have HE := Lib.hid hbe
  have HR := Lib.hid hR
  clear hp hbe hR HST HC
  go_wp2
  exact ⟨rfl, rpost_bad HR.out HE.out⟩
 ·have HS := Lib.hid hst
  have HF := Lib.hid hf
  have HR := Lib.hid hR
  obtain ⟨⟨r0, r1, r2, r3, y0, y1, y2, y3⟩, g0, g1, g2, g3⟩ := hst.frz
  generalize hm : c.len = m at *
  have Hm := Lib.hid hm
  clear hp hf hst hR HST HC hm
  go_wp2
  have hfin := HS.out.ret HR.out Hm.out.symm HF.out
  refine bodyPost_ret (results_cell_row rfl _ _ w.heap.size 24 _ (0, 0) _ rfl hfin.1 Tryz.underlying24 rfl hi_nd) rfl ?_
  exact hfin.2

set_option maxHeartbeats 4000000 in
set_option maxRecDepth 100000 in
theorem over_any (P z : Nat) (l : List Tk) (d : Nat) (w : World) (h : PS w P z l d) :
  Calls Tryz.prog 67 #[.pointer (some ⟨P, 0, none⟩)] w (RPost SV w P z d (over z l)) := by
 have HI := Lib.hid (is_any ⟨#[125]⟩ P z l d w h)
 have H := Lib.hid h
 have hlt := h.lt
 have hsp : over z l = over z l := rfl
 conv at hsp => rhs; unfold over
 rw [show (⟨#[125]⟩ : ByteArray).toList = [125] from by rw [ByteArray.toList_eq]] at HI
 cases h1 : isT (Parse.hd z l) [125] with
 | true =>
  rw [h1, if_pos rfl] at hsp
  rw [h1] at HI
  have HSP := Lib.hid hsp
  clear h hsp h1
  go_enter Tryz.func67, Tryz.ntmps67
  go_wp2_with fail
  refine HI.out.mono ?_
  rintro e w1 ⟨rfl, hb⟩
  have HB := Lib.hid hb
  clear hb
  go_wp2
  go_ret
  exact rpost_ok HSP.out rfl (H.out.later HB.out) (Bes.of HB.out P)
 | false =>
  rw [h1, if_neg (by decide)] at hsp
  rw [h1] at HI
  clear h1
  by_cases h6 : (Parse.hd z l).kind = 6
  ·rw [if_pos h6] at hsp
   obtain ⟨t, r, rfl⟩ : ∃ t r, l = t :: r := by
    cases l with
    | nil => simp [Parse.hd] at h6
    | cons t r => exact ⟨t, r, rfl⟩
   obtain ⟨tk, tx, tp, tf⟩ := t
   obtain rfl : tk = 6 := h6
   rw [List.tail_cons] at hsp
   have Hsp := Lib.hid hsp
   clear h hsp
   go_enter Tryz.func67, Tryz.ntmps67
   go_wp2_with fail
   refine HI.out.mono ?_
   rintro e w1 ⟨rfl, hb⟩
   have HB := Lib.hid hb
   have HPS := Lib.hid (H.out.later hb)
   clear hb
   go_wp2
   refine region_rel (fun W W' => Below W.heap.size W W') [Cd.is (.pointer (some ⟨P, 0, none⟩)), Cd.is (.pointer (some ⟨P, 0, none⟩)), Cd.is (.pointer (some ⟨P, 0, none⟩)), Cd.is (.pointer (some ⟨P, 0, none⟩)), Cd.is (.pointer (some ⟨P, 0, none⟩)), Cd.is (.pointer (some ⟨P, 0, none⟩)), Cd.is (tkV ⟨6, tx, tp, tf⟩), Cd.is (.int .i64 6), Cd.is (.bool true), Cd.any] (by kernel_rfl) (by decide) (by kernel_rfl) (Below.refl _ _) (fun _ _ _ h k => h.trans (k.mono h.size)) ?steps ?behind
   case steps =>
    intro xv W hW a ha
    replace hW := undrew hW
    simp only [fillA] at ha
    simp only [List.setIfInBounds_toArray, List.set_cons_succ, List.set_cons_zero, Nat.zero_add, Nat.reduceAdd] at ha
    subst ha
    refine ⟨?s0, ?s1, ?s2, ?s3, ?s4, ?s5, ?s6, ?s7, ?s8, ?s9, trivial⟩
    all_goals intro hd K hK
    all_goals (try simp only [Act.put, List.setIfInBounds_toArray, List.set_cons_succ, List.set_cons_zero] at hK)
    case s0 =>
     clear hd
     refine (if_pos (by rfl)).mpr ?_
     go_simp
     exact hK.out _ _ (Below.refl _ _) rfl
    case s1 =>
     have hx0 : xv 0 = .pointer (some ⟨P, 0, none⟩) := hd 0 (by kernel_rfl)
     clear hd
     rw [hx0] at hK ⊢
     refine (if_pos (by rfl)).mpr ?_
     go_simp
     exact hK.out _ _ (Below.refl _ _) rfl
    case s2 =>
     have hx1 : xv 1 = .pointer (some ⟨P, 0, none⟩) := hd 1 (by kernel_rfl)
     clear hd
     rw [hx1] at hK ⊢
     refine (if_pos (by rfl)).mpr ?_
     go_simp
     exact hK.out _ _ (Below.refl _ _) rfl
    case s3 =>
     clear hd
     refine (if_pos (by rfl)).mpr ?_
     go_simp
     exact hK.out _ _ (Below.refl _ _) rfl
    case s4 =>
     have hx3 : xv 3 = .pointer (some ⟨P, 0, none⟩) := hd 3 (by kernel_rfl)
     clear hd
     rw [hx3] at hK ⊢
     refine (if_pos (by rfl)).mpr ?_
     go_simp
     exact hK.out _ _ (Below.refl _ _) rfl
    case s5 =>
     have hx4 : xv 4 = .pointer (some ⟨P, 0, none⟩) := hd 4 (by kernel_rfl)
     clear hd
     rw [hx4] at hK ⊢
     refine (if_pos (by rfl)).mpr ?_
     go_simp
     exact hK.out _ _ (Below.refl _ _) rfl
    case s6 =>
     have hx5 : xv 5 = .pointer (some ⟨P, 0, none⟩) := hd 5 (by kernel_rfl)
     clear hd
     rw [hx5] at hK ⊢
     refine (if_pos (by rfl)).mpr ?_
     go_simp
     refine (next_any P z _ d W (HPS.out.later hW)).mono ?_
     rintro e W' ⟨rfl, hb⟩
     exact hK.out _ _ hb rfl
    case s7 =>
     have hx6 : xv 6 = tkV ⟨6, tx, tp, tf⟩ := hd 6 (by kernel_rfl)
     clear hd
     rw [hx6] at hK ⊢
     refine (if_pos (by rfl)).mpr ?_
     have hf := fld0 6 tx tp tf
     unfold tkV
     go_simp
     exact hK.out _ _ (Below.refl _ _) rfl
    case s8 =>
     have hx7 : xv 7 = .int .i64 6 := hd 7 (by kernel_rfl)
     clear hd
     rw [hx7] at hK ⊢
     refine (if_pos (by rfl)).mpr ?_
     go_simp
     exact hK.out _ _ (Below.refl _ _) rfl
    case s9 =>
     have hx2 : xv 2 = .pointer (some ⟨P, 0, none⟩) := hd 2 (by kernel_rfl)
     have hx8 : xv 8 = .bool true := hd 8 (by kernel_rfl)
     clear hd
     rw [hx2] at hK ⊢
     rw [hx8] at hK ⊢
     refine (if_pos (by rfl)).mpr ?_
     go_simp
     refine (must_yes P W).mono ?_
     rintro e W' ⟨rfl, rfl⟩
     exact hK.out _ _ (Below.refl _ _) trivial
   case behind =>
    intro xv W hW hx a ha
    replace hW := undrew hW
    simp only [fillA] at ha
    simp only [List.setIfInBounds_toArray, List.set_cons_succ, List.set_cons_zero, Nat.zero_add, Nat.reduceAdd] at ha
    subst ha
    have HB2 := Lib.hid (HB.out.trans (hW.mono HB.out.size))
    have HT := Lib.hid (take_any P z _ r d W (H.out.later HB2.out))
    clear hW hx
    go_wp2_with fail
    refine HT.out.mono ?_
    rintro e w3 ⟨v, rfl, rfl, hps, hbe⟩
    have HPS3 := Lib.hid hps
    have HB3 := Lib.hid ((Bes.of HB2.out P).trans hbe)
    have HN := Lib.hid (next_any P z r d w3 hps)
    clear hps hbe
    go_wp2_with fail
    refine HN.out.mono ?_
    rintro e w4 ⟨rfl, hb4⟩
    have HPS4 := Lib.hid (HPS3.out.later hb4)
    have HB4 := Lib.hid (HB3.out.then_ hb4)
    clear hb4
    obtain ⟨u, hu⟩ : ∃ u, Parse.hd z r = u := ⟨_, rfl⟩
    have Hu := Lib.hid hu
    rw [hu]
    clear hu
    obtain ⟨uk, ux, up, uf⟩ := u
    unfold tkV
    by_cases h5 : uk = 5
    ·subst h5
     cases uf with
     | false =>
      obtain ⟨r', rfl⟩ : ∃ r', r = ⟨5, ux, up, false⟩ :: r' := by
       have := Hu.out
       cases r with
       | nil => simp [Parse.hd] at this
       | cons u r' => exact ⟨r', by rw [← this]; rfl⟩
      have HSP : Hid (over z _ = _) := Hsp.out
      have hba := (Below.refl w4.heap.size w4).alloc (Nat.le_refl _) (.cells #[.int .i64 5, .string ux, .int .i64 (up : Int), .bool false] 75)
      have HT2 := Lib.hid (take_any P z _ r' d _ (HPS4.out.later hba))
      have HB5 := Lib.hid (HB4.out.then_ hba)
      have hf := fld1 5 ux up false
      clear hba
      go_wp2_with fail
      refine HT2.out.mono ?_
      rintro e w5 ⟨v, rfl, rfl, hps, hbe⟩
      have HPS5 := Lib.hid hps
      have HB6 := Lib.hid (HB5.out.trans hbe)
      clear hps hbe
      unfold tkV
      go_wp2
      go_ret
      exact rpost_ok (by rw [HSP.out]; simp [Parse.hd]) rfl HPS5.out HB6.out
     | true =>
      have hba := (Below.refl w4.heap.size w4).alloc (Nat.le_refl _) (.cells #[.int .i64 5, .string ux, .int .i64 (up : Int), .bool true] 75)
      have HPS5 := Lib.hid (HPS4.out.later hba)
      have HB5 := Lib.hid (HB4.out.then_ hba)
      clear hba
      go_wp2
      go_ret
      exact rpost_ok (by rw [Hsp.out, Hu.out]; simp; rfl) rfl HPS5.out HB5.out
    ·have b5 : (uk == 5) = false := beq_eq_false_iff_ne.2 h5
     have hba := (Below.refl w4.heap.size w4).alloc (Nat.le_refl _) (.cells #[.int .i64 uk, .string ux, .int .i64 (up : Int), .bool uf] 75)
     have HPS5 := Lib.hid (HPS4.out.later hba)
     have HB5 := Lib.hid (HB4.out.then_ hba)
     have H5 := Lib.hid h5
     clear hba h5
     go_wp2
     go_ret
     exact rpost_ok (by rw [Hsp.out, Hu.out]; simp [H5.out]; rfl) rfl HPS5.out HB5.out
  ·rw [if_neg h6] at hsp
   have Hsp := Lib.hid hsp
   have b6 : ((Parse.hd z l).kind == 6) = false := beq_eq_false_iff_ne.2 h6
   clear h hsp h6
   generalize hht : Parse.hd z l = t at *
   have Hht := Lib.hid hht
   clear hht
   obtain ⟨tk, tx, tp, tf⟩ := t
   simp only at b6
   go_enter Tryz.func67, Tryz.ntmps67
   go_wp2_with fail
   refine HI.out.mono ?_
   rintro e w1 ⟨rfl, hb⟩
   have HB := Lib.hid hb
   have HPS := Lib.hid (H.out.later hb)
   clear hb
   go_wp2
   refine region_rel (fun W W' => Below W.heap.size W W') [Cd.is (.pointer (some ⟨P, 0, none⟩)), Cd.is (.pointer (some ⟨P, 0, none⟩)), Cd.is (.pointer (some ⟨P, 0, none⟩)), Cd.is (.pointer (some ⟨P, 0, none⟩)), Cd.is (.pointer (some ⟨P, 0, none⟩)), Cd.is (.pointer (some ⟨P, 0, none⟩)), Cd.is (tkV ⟨tk, tx, tp, tf⟩), Cd.is (.int .i64 tk), Cd.is (.bool false), ⟨fun _ _ => False, fun _ _ _ _ h => h⟩] (by kernel_rfl) (by decide) (by kernel_rfl) (Below.refl _ _) (fun _ _ _ h k => h.trans (k.mono h.size)) ?steps ?behind
   case steps =>
    intro xv W hW a ha
    replace hW := undrew hW
    simp only [fillA] at ha
    simp only [List.setIfInBounds_toArray, List.set_cons_succ, List.set_cons_zero, Nat.zero_add, Nat.reduceAdd] at ha
    subst ha
    refine ⟨?s0, ?s1, ?s2, ?s3, ?s4, ?s5, ?s6, ?s7, ?s8, ?s9, trivial⟩
    all_goals intro hd K hK
    all_goals (try simp only [Act.put, List.setIfInBounds_toArray, List.set_cons_succ, List.set_cons_zero] at hK)
    case s0 =>
     clear hd
     refine (if_pos (by rfl)).mpr ?_
     go_simp
     exact hK.out _ _ (Below.refl _ _) rfl
    case s1 =>
     have hx0 : xv 0 = .pointer (some ⟨P, 0, none⟩) := hd 0 (by kernel_rfl)
     clear hd
     rw [hx0] at hK ⊢
     refine (if_pos (by rfl)).mpr ?_
     go_simp
     exact hK.out _ _ (Below.refl _ _) rfl
    case s2 =>
     have hx1 : xv 1 = .pointer (some ⟨P, 0, none⟩) := hd 1 (by kernel_rfl)
     clear hd
     rw [hx1] at hK ⊢
     refine (if_pos (by rfl)).mpr ?_
     go_simp
     exact hK.out _ _ (Below.refl _ _) rfl
    case s3 =>
     clear hd
     refine (if_pos (by rfl)).mpr ?_
     go_simp
     exact hK.out _ _ (Below.refl _ _) rfl
    case s4 =>
     have hx3 : xv 3 = .pointer (some ⟨P, 0, none⟩) := hd 3 (by kernel_rfl)
     clear hd
     rw [hx3] at hK ⊢
     refine (if_pos (by rfl)).mpr ?_
     go_simp
     exact hK.out _ _ (Below.refl _ _) rfl
    case s5 =>
     have hx4 : xv 4 = .pointer (some ⟨P, 0, none⟩) := hd 4 (by kernel_rfl)
     clear hd
     rw [hx4] at hK ⊢
     refine (if_pos (by rfl)).mpr ?_
     go_simp
     exact hK.out _ _ (Below.refl _ _) rfl
    case s6 =>
     have hx5 : xv 5 = .pointer (some ⟨P, 0, none⟩) := hd 5 (by kernel_rfl)
     clear hd
     rw [hx5] at hK ⊢
     refine (if_pos (by rfl)).mpr ?_
     go_simp
     refine (next_any P z _ d W (HPS.out.later hW)).mono ?_
     rw [Hht.out]
     rintro e W' ⟨rfl, hb⟩
     exact hK.out _ _ hb rfl
    case s7 =>
     have hx6 : xv 6 = tkV ⟨tk, tx, tp, tf⟩ := hd 6 (by kernel_rfl)
     clear hd
     rw [hx6] at hK ⊢
     refine (if_pos (by rfl)).mpr ?_
     have hf := fld0 tk tx tp tf
     unfold tkV
     go_simp
     exact hK.out _ _ (Below.refl _ _) rfl
    case s8 =>
     have hx7 : xv 7 = .int .i64 tk := hd 7 (by kernel_rfl)
     clear hd
     rw [hx7] at hK ⊢
     refine (if_pos (by rfl)).mpr ?_
     have b6' := b6
     go_simp
     exact hK.out _ _ (Below.refl _ _) rfl
    case s9 =>
     have hx2 : xv 2 = .pointer (some ⟨P, 0, none⟩) := hd 2 (by kernel_rfl)
     have hx8 : xv 8 = .bool false := hd 8 (by kernel_rfl)
     clear hd
     rw [hx2] at hK ⊢
     rw [hx8] at hK ⊢
     refine (if_pos (by rfl)).mpr ?_
     go_simp
     refine (must_no P z _ d W (HPS.out.later hW)).mono ?_
     rintro e W' ⟨rfl, hb⟩
     have HE := Lib.hid (HB.out.trans ((hW.trans (hb.mono hW.size)).mono HB.out.size))
     have HP : Hid (Parse.hd z l = _) := Hht.out
     rw [HP.out]
     exact ⟨rfl, rpost_bad (by rw [Hsp.out]) (Bes.of HE.out P)⟩
   case behind =>
    intro xv W hW hx a ha
    replace hW := undrew hW
    simp only [fillA] at ha
    simp only [List.setIfInBounds_toArray, List.set_cons_succ, List.set_cons_zero, Nat.zero_add, Nat.reduceAdd] at ha
    subst ha
    exact (hx 9 (by decide) : False).elim

set_option maxHeartbeats 4000000 in
set_option maxRecDepth 100000 in
theorem item_any (P z N : Nat) (v : Value) (rd : Nat → List Tk → Rd Nd) (l : List Tk) (d : Nat) (w : World) (h : PS w P z l d) (hv : Reads P z w N v rd) (hl : l.length < N) (hd : d ≤ 300) :
  Calls Tryz.prog 47 #[.pointer (some ⟨P, 0, none⟩), v] w (RPost NV w P z d (item z rd d l)) := by
 obtain ⟨gf, fs, caps, rfl, eg, hc⟩ := hv
 have hlt := h.lt
 have HST := Lib.hid (Stt.start h)
 have HC := Lib.hid hc
 have hsp : item z rd d l = item z rd d l := rfl
 conv at hsp => rhs; unfold item
 unfold EnteredP at eg
 by_cases h5 : (Parse.hd z l).kind = 5
 ·obtain ⟨t, r, rfl⟩ : ∃ t r, l = t :: r := by
   cases l with
   | nil => simp [Parse.hd] at h5
   | cons t r => exact ⟨t, r, rfl⟩
  rw [if_pos h5] at hsp
  obtain ⟨tk, tx, tp, tf⟩ := t
  obtain rfl : tk = 5 := h5
  have HB : Hid (∀ W, PS W P z (⟨5, tx, tp, tf⟩ :: r) d → Calls Tryz.prog 66 #[.pointer (some ⟨P, 0, none⟩), .bool true] W (RPost TV W P z d (beg z true d (⟨5, tx, tp, tf⟩ :: r)))) := fun W hW => begin_any true P z _ d (fun _ e => by cases e) (by omega) W hW
  have hf0 := fld0 5 tx tp tf
  have hf1 := fld1 5 tx tp tf
  have HN := Lib.hid (next_is (h.alloc ndZ) (z := z) (l := ⟨5, tx, tp, tf⟩ :: r) rfl)
  cases hb : beg z true d (⟨5, tx, tp, tf⟩ :: r) with
  | bad p er =>
   rw [hb, Rd.bind_bad] at hsp
   rw [hb] at HB
   have HSP := Lib.hid hsp
   clear h hc hsp hb HC eg
   go_enter Tryz.func47, Tryz.ntmps47
   go_wp2_with fail
   refine (HN.out).mono ?_
   rintro e w1 ⟨rfl, hb⟩
   replace HST := Lib.hid (HST.out.quiet hb)
   clear hb
   go_wp2_with fail
   refine (calls_bad (HB.out _ HST.out.ps) rfl).mono ?_
   rintro e w2 ⟨rfl, hbe⟩
   have HE := Lib.hid (HST.out.bes.trans hbe)
   clear hbe
   go_wp2
   exact ⟨rfl, rpost_bad HSP.out HE.out⟩
  | ok t' r' =>
   obtain ⟨-, hd256, e⟩ := beg_ok (fun _ e => by cases e) hb
   simp only [List.cons.injEq] at e
   obtain ⟨rfl, rfl⟩ := e
   rw [hb, Rd.bind_ok] at hsp
   rw [hb] at HB
   have HSP := Lib.hid hsp
   clear h hc hsp hb HC eg
   go_enter Tryz.func47, Tryz.ntmps47
   go_wp2_with fail
   refine (HN.out).mono ?_
   rintro e w1 ⟨rfl, hb⟩
   replace HST := Lib.hid (HST.out.quiet hb)
   clear hb
   go_wp2_with fail
   refine (calls_ok (HB.out _ HST.out.ps) rfl).mono ?_
   rintro e w2 ⟨v, rfl, rfl, hps, hbe⟩
   replace HST := Lib.hid (HST.out.read hbe hps)
   clear hps hbe
   unfold tkV
   go_wp2_with fail
   refine (node_any 8 tx none 0 0 _).mono ?_
   rintro e w3 ⟨rfl, hb⟩
   replace HST := Lib.hid (HST.out.quiet hb)
   clear hb
   obtain ⟨⟨r0, r1, r2, r3, y0, y1, y2, y3⟩, g0, g1, g2, g3⟩ := HST.out.frz
   go_wp2
   have hfin := HST.out.ret HSP.out rfl nil_fs
   refine bodyPost_ret (results_cell_row rfl _ _ w.heap.size 24 _ (0, 0) _ rfl hfin.1 Tryz.underlying24 rfl hi_nd) rfl ?_
   exact hfin.2
 ·rw [if_neg h5] at hsp
  have b5 : ((Parse.hd z l).kind == 5) = false := beq_eq_false_iff_ne.2 h5
  clear h5
  generalize ht : Parse.hd z l = t at *
  obtain ⟨tk, tx, tp, tf⟩ := t
  have hf0 := fld0 tk tx tp tf
  have HN := Lib.hid (next_is (h.alloc ndZ) ht)
  simp only at b5
  clear ht
  cases hr : rd d l with
  | bad p er =>
   rw [hr, Rd.bind_bad] at hsp
   have HSP := Lib.hid hsp
   have HC2 : Hid (∀ W, Stt w W P z d l → Calls Tryz.prog gf (fs ++ caps) W fun e w' => e = .panicked (pan p er) ∧ Bes P W w') := fun W hW => calls_bad (HC.out W hW.bes d l hl hd hW.ps) hr
   clear h hc hsp hr HC
   go_enter Tryz.func47, Tryz.ntmps47
   go_wp2_with fail
   refine (HN.out).mono ?_
   rintro e w1 ⟨rfl, hb⟩
   replace HST := Lib.hid (HST.out.quiet hb)
   clear hb
   go_wp2_with fail
   refine (HC2.out _ HST.out).mono ?_
   rintro e w2 ⟨rfl, hbe⟩
   have HE := Lib.hid (HST.out.bes.trans hbe)
   clear hbe
   go_wp2
   exact ⟨rfl, rpost_bad HSP.out HE.out⟩
  | ok n l1 =>
   obtain ⟨nk, nx, ny, nc⟩ := n
   rw [hr, Rd.bind_ok] at hsp
   have HC2 : Hid (∀ W, Stt w W P z d l → Calls Tryz.prog gf (fs ++ caps) W fun e w' => ∃ v, e = .returned v ∧ NV W w' v ⟨nk, nx, ny, nc⟩ ∧ PS w' P z l1 d ∧ Bes P W w') := fun W hW => calls_ok (HC.out W hW.bes d l hl hd hW.ps) hr
   have HOV : Hid (∀ W, PS W P z l1 d → Calls Tryz.prog 67 #[.pointer (some ⟨P, 0, none⟩)] W (RPost SV W P z d (over z l1))) := fun W hW => over_any P z l1 d W hW
   clear h hc hr HC
   cases ho : over z l1 with
   | bad p er =>
    rw [ho, Rd.bind_bad] at hsp
    rw [ho] at HOV
    have HSP := Lib.hid hsp
    clear hsp ho
    go_enter Tryz.func47, Tryz.ntmps47
    go_wp2_with fail
    refine (HN.out).mono ?_
    rintro e w1 ⟨rfl, hb⟩
    replace HST := Lib.hid (HST.out.quiet hb)
    clear hb

    go_wp2_with fail
    refine (HC2.out _ HST.out).mono ?_
    rintro e W ⟨v, rfl, ⟨A, C, rfl, hf⟩, hps, hbe⟩
    have hf' := mi_more hf HST.out.size (Nat.le_refl _)
    replace HST := Lib.hid (HST.out.read hbe hps)
    generalize hm : nc.len = m at *
    have Hm := Lib.hid hm
    have HF := Lib.hid hf'
    clear hf hf' hps hbe hm
    have hWP : W.heap.size ≠ P := by have := HST.out.hlt; have := HST.out.size; omega
    have hWR : W.heap.size ≠ w.heap.size := by have := HST.out.size; omega
    have HX := Lib.hid (box4_new W 24 (.int .i64 nk) (.string nx) (.string ny) (.slice A m C))
    have HFa := Lib.hid (mi_later HF.out ((Below.refl W.heap.size W).alloc (Nat.le_refl _) (.cells #[.int .i64 nk, .string nx, .string ny, .slice A m C] 24)) (Nat.le_refl _))
    have HGR := Lib.hid HST.out.size
    have HW1 := Lib.hid ((Below.refl W.heap.size W).alloc (Nat.le_refl _) (.cells #[.int .i64 nk, .string nx, .string ny, .slice A m C] 24)).size
    have hb := (Below.refl (W).heap.size (W)).alloc (Nat.le_refl _) (.cells #[.int .i64 nk, .string nx, .string ny, .slice A m C] 24)
    replace HST := Lib.hid (HST.out.quiet hb)
    clear hb
    go_wp2_with fail
    refine (calls_bad (HOV.out _ HST.out.ps) rfl).mono ?_
    rintro e w2 ⟨rfl, hbe⟩
    have HE := Lib.hid (HST.out.bes.trans hbe)
    clear hbe
    go_wp2
    exact ⟨rfl, rpost_bad HSP.out HE.out⟩
   | ok y l2 =>
    rw [ho, Rd.bind_ok] at hsp
    rw [ho] at HOV
    have HSP := Lib.hid hsp
    clear hsp ho
    go_enter Tryz.func47, Tryz.ntmps47
    go_wp2_with fail
    refine (HN.out).mono ?_
    rintro e w1 ⟨rfl, hb⟩
    replace HST := Lib.hid (HST.out.quiet hb)
    clear hb

    go_wp2_with fail
    refine (HC2.out _ HST.out).mono ?_
    rintro e W ⟨v, rfl, ⟨A, C, rfl, hf⟩, hps, hbe⟩
    have hf' := mi_more hf HST.out.size (Nat.le_refl _)
    replace HST := Lib.hid (HST.out.read hbe hps)
    generalize hm : nc.len = m at *
    have Hm := Lib.hid hm
    have HF := Lib.hid hf'
    clear hf hf' hps hbe hm
    have hWP : W.heap.size ≠ P := by have := HST.out.hlt; have := HST.out.size; omega
    have hWR : W.heap.size ≠ w.heap.size := by have := HST.out.size; omega
    have HX := Lib.hid (box4_new W 24 (.int .i64 nk) (.string nx) (.string ny) (.slice A m C))
    have HFa := Lib.hid (mi_later HF.out ((Below.refl W.heap.size W).alloc (Nat.le_refl _) (.cells #[.int .i64 nk, .string nx, .string ny, .slice A m C] 24)) (Nat.le_refl _))
    have HGR := Lib.hid HST.out.size
    have HW1 := Lib.hid ((Below.refl W.heap.size W).alloc (Nat.le_refl _) (.cells #[.int .i64 nk, .string nx, .string ny, .slice A m C] 24)).size
    have hb := (Below.refl (W).heap.size (W)).alloc (Nat.le_refl _) (.cells #[.int .i64 nk, .string nx, .string ny, .slice A m C] 24)
    replace HST := Lib.hid (HST.out.quiet hb)
    clear hb
    have hPB : P < w.heap.size + 1 := by omega
    have hNPHX := hWP
    go_wp2_with fail
    refine (calls_ok (HOV.out _ HST.out.ps) rfl).mono ?_
    rintro e W2 ⟨v, rfl, rfl, hps, hbe⟩
    have HFb := Lib.hid (mi_bes HFa.out hbe hPB HW1.out)
    have HW2 := Lib.hid (Nat.le_trans HW1.out hbe.size)
    replace HST := Lib.hid (HST.out.read hbe hps)
    replace HX := Lib.hid (HX.out.bes hbe hNPHX)
    clear hps hbe
    clear HFa HW1 HF
    obtain ⟨q0, q1, q2, q3⟩ := HX.out.cells
    obtain ⟨e0, e1, e2, e3⟩ := HX.out.frz
    have hWn := HX.out.lt
    obtain ⟨⟨r0, r1, r2, r3, y0, y1, y2, y3⟩, g0, g1, g2, g3⟩ := HST.out.frz
    generalize W.heap.size = g at *
    go_wp2
    have HST2 : Stt w (W2.setCell ⟨g, 2, none⟩ (.string y)) P z d l2 := ⟨HST.out.bes.set (.inr (by show w.heap.size ≤ g; have hq := HGR.out; omega)) _, HST.out.ps.set (by show P < g; have hq := HGR.out; omega) _, by obtain ⟨a, b, c, d, hx⟩ := HST.out.bx; exact ⟨a, b, c, d, hx.other (by show g ≠ w.heap.size; exact hWR) _⟩, HST.out.hlt⟩
    have hf2 : Fs (W2.setCell ⟨g, 2, none⟩ (.string y)) (Mi (w.heap.size + 1) W2.heap.size) (.slice A m C) nc := mi_more (mi_set HFb.out (.inr (Nat.le_refl _)) _) (Nat.le_refl _) HW2.out
    have hfin := HST2.ret HSP.out Hm.out.symm (by rw [show (W2.setCell ⟨g, 2, none⟩ (.string y)).heap.size = W2.heap.size from by simp [World.setCell]]; exact hf2)
    refine bodyPost_ret (results_cell_row rfl _ _ w.heap.size 24 _ (0, 0) _ rfl hfin.1 Tryz.underlying24 rfl hi_nd) rfl ?_
    exact hfin.2
end Go.Proofs.YtaiihnniblibaaaGreatDoor.Parse
