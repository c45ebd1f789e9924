/-
  Layer 1 (utf): the law on a text's beginnings: the walk.
-/
import Derived.Test.YtojggmncafjflaaUtfTake
import Derived.Test.YtojggmncafjflaaUtfMore
namespace Go.Proofs.Ytojggmncafjflaa.Utf
open Go.ChangeShapes Go.WideShapes Go.ChangeAt Go.RowKit
set_option linter.unusedVariables false

theorem idx_of (a : Int) (nb : Nat) (h : nb ≤ 800) : ∃ k : Nat, wrap64 ((IntKind.u64.wrap a).tmod ((nb : Int) + 1)) = k ∧ k ≤ nb := by
  have h0 : 0 ≤ IntKind.u64.wrap a := by
    simp only [IntKind.wrap_u64]; omega
  have h1 := Int.emod_nonneg (IntKind.u64.wrap a) (b := (nb : Int) + 1) (by omega)
  have h2 := Int.emod_lt_of_pos (IntKind.u64.wrap a) (b := (nb : Int) + 1) (by omega)
  rw [Int.tmod_eq_emod_of_nonneg h0]
  generalize IntKind.u64.wrap a % ((nb : Int) + 1) = r at *
  refine ⟨r.toNat, ?_, by omega⟩
  unfold wrap64; omega

set_option maxHeartbeats 4000000 in
set_option maxRecDepth 100000 in
theorem utfCuts_s (A : Option Addr) (n cap : Nat) (xs : List Int) (at_ : Int) (w : World) (h : RI w w.heap.size A xs) (hi : IntsIn xs) (hn : xs.length = n) (hcap : n ≤ cap) (hcap' : cap ≤ maxLen) (hl : n ≤ 200) :
    Calls Try.prog 9 #[.slice A n cap, .int .i64 at_] w fun e w' => e = .returned (.bool true) ∧ Below w.heap.size w w' := by
  have T1 := Lib.hid (texts_any A n cap xs w _ h hi hn (Nat.le_refl _) (by omega) hcap')
  have HN := Lib.hid hn
  clear h hi hn
  unfold maxLen at hcap'
  go_enter Try.func9, Try.ntmps9
  go_wp2_with fail
  refine T1.out.mono ?_
  rintro e w1 ⟨hb1, vb, vs, rfl, hbo⟩
  obtain ⟨a1, c1, rfl, hc1, hc1x⟩ := own_slice hbo.1
  obtain ⟨a2, c2, rfl, hc2, hc2x⟩ := own_slice hbo.2
  have hks := sel_sgs (xs.take 5000)
  have hkl := sel_len (xs.take 5000)
  rw [List.length_take, HN.out] at hkl
  have hnb := encs_len (sel (xs.take 5000))
  have hr1 := Lib.hid (own_rb hbo.1 (encs_byt _))
  have hr2 := Lib.hid (own_ri hbo.2)
  generalize sel (xs.take 5000) = ks at *
  have hends := Lib.hid (fun k hk => ends_iff hks (k := k) hk)
  have hbad := Lib.hid (text_encs hks).2
  have Hks := Lib.hid hks
  obtain ⟨nb, hnbe⟩ : ∃ nb, (encs ks).length = nb := ⟨_, rfl⟩
  rw [hnbe] at hnb hc1 hbo hends hbad ⊢
  have Hnb := Lib.hid hnbe
  clear hnbe hbo hks T1
  have hnb2 : (nb : Int) ≤ 800 := by omega
  have hkl2 : ks.length ≤ 9223372036854775807 := by omega
  have hm1 := Lib.hid hc1x
  unfold maxLen at hc1x hc2x
  go_wp2_with fail
  obtain ⟨k, hk, hkn⟩ : ∃ k : Nat, wrap64 ((IntKind.u64.wrap at_).tmod ((nb : Int) + 1)) = k ∧ k ≤ nb := idx_of at_ nb (by omega)
  rw [hk]
  have hkb : Hid (endsB ks k 0 = ((k : Int) == 0)) := by
    show decide (k = 0) = _
    by_cases e : k = 0
    · subst e; rfl
    · rw [beq_eq_false_iff_ne.2 (by omega)]; simp [e]
  clear hk
  go_loopw [8, 9, 10, 11, 12] (fun sm en i _ _ wr => ∃ j : Nat, j ≤ ks.length ∧ i = .int .i64 j ∧ sm = .int .i64 ((encs (ks.take j)).length : Nat) ∧ en = .bool (endsB ks k j) ∧ Below w1.heap.size w1 wr) (fun _ _ i _ _ _ => ks.length - (intOf i).toNat)
  case atStart => exact ⟨0, Nat.zero_le _, rfl, rfl, by rw [hkb.out], Below.refl _ _⟩
  case round =>
    obtain ⟨j, hj, rfl, rfl, rfl, hbel⟩ := hrel
    by_cases hlt : j < ks.length
    · obtain ⟨b, off, rfl, hbB, hc⟩ := (hr2.out.below hbel (Nat.le_refl _)).at_ (i := j) hlt
      have hz : lenI (ks.getD j 0) ≠ 0 := Hks.out _ (by simp [List.getD, hlt])
      have htk : ks.take (j + 1) = ks.take j ++ [ks.getD j 0] := by
        rw [List.take_succ_eq_append_getElem hlt]; simp [List.getD, hlt]
      have hln : (encs (ks.take (j + 1))).length = (encs (ks.take j)).length + lenI (ks.getD j 0) := by
        rw [htk, encs_snoc, List.length_append, enc_length]
      have hen : endsB ks k (j + 1) = (endsB ks k j || decide ((encs (ks.take (j + 1))).length = k)) := rfl
      have hle1 : (encs (ks.take j)).length ≤ nb := by
        have := congrArg List.length (encs_take ks j)
        rw [List.length_append, Hnb.out] at this; omega
      have hle4 := lenI_le (ks.getD j 0)
      generalize ks.getD j 0 = z at *
      have hy := Lib.hid (bytes_yes z wr hz)
      rw [hln] at hen
      generalize (encs (ks.take j)).length = sm at *
      generalize lenI z = L at *
      have Hln := Lib.hid hln; have Hen := Lib.hid hen
      clear hln hen htk hz
      have hbel2 : Below w1.heap.size w1 (wr.alloc (.cells (encV z) 5)) := hbel.alloc hbel.size _
      have hlt' : (j : Int) < (ks.length : Int) := by omega
      generalize endsB ks k j = eb at *
      have hLm : L ≤ 9223372036854775807 := by omega
      by_cases hq : sm + L = k
      · have hq' : ((sm : Int) + (L : Int) == (k : Int)) = true := by rw [beq_iff_eq]; omega
        have Hen2 : Hid (endsB ks k (j + 1) = true) := by rw [Hen.out]; simp [hq]; exact trivial
        clear hq
        cases eb
        all_goals
          go_wp2_with (go_at_call 13; refine hy.out.mono ?_; rintro e w' ⟨rfl, rfl⟩)
          go_roundw
          case rel => exact ⟨j + 1, by omega, by go_num, by rw [Hln.out]; go_num, by rw [Hen2.out], hbel2⟩
          case measure => simp [intOf]; omega
      · have hq' : ((sm : Int) + (L : Int) == (k : Int)) = false := by rw [beq_eq_false_iff_ne]; omega
        have Hen2 : Hid (endsB ks k (j + 1) = eb) := by rw [Hen.out]; simp [hq]; exact trivial
        clear hq
        cases eb
        all_goals
          go_wp2_with (go_at_call 13; refine hy.out.mono ?_; rintro e w' ⟨rfl, rfl⟩)
          go_roundw
          case rel => exact ⟨j + 1, by omega, by go_num, by rw [Hln.out]; go_num, by rw [Hen2.out], hbel2⟩
          case measure => simp [intOf]; omega
    · obtain rfl : j = ks.length := by omega
      have hge : ¬ ((ks.length : Int) < (ks.length : Int)) := by omega
      have het := hends.out k hkn
      generalize endsB ks k ks.length = t at *
      have HET := Lib.hid het
      clear het hlt
      go_wp2_with fail
      refine (known_any wr).mono ?_
      rintro e w3 ⟨rfl, hb3⟩
      have hbel3 := hbel.trans (hb3.mono hbel.size)
      have hr3 := hr1.out.below hbel3 (Nat.le_refl _)
      have T4 := Lib.hid (text_any a1 k c1 ((encs ks).take k) w3 _ (hr3.take k) (by rw [List.length_take, Hnb.out]; omega) (by omega) hm1.out t HET.out)
      have B4 := Lib.hid (bad_any a1 nb c1 (encs ks) w3 _ hr3 Hnb.out hc1 hm1.out)
      rw [hbad.out] at B4
      have HB := Lib.hid (hb1.trans (hbel3.mono hb1.size))
      clear hbel3 hr3 hb3 hbel hb1
      have hkc : (k : Int) ≤ (c1 : Int) := by omega
      cases t
      all_goals
        go_wp2_with fail
        refine T4.out.mono ?_
        rintro e w4 ⟨rfl, rfl⟩
        go_wp2_with fail
        refine B4.out.mono ?_
        rintro e w4 ⟨rfl, rfl⟩
        go_wp2_with fail
        go_ret
        exact ⟨rfl, HB.out⟩

set_option maxHeartbeats 4000000 in
set_option maxRecDepth 100000 in
theorem utfCuts_l (A : Option Addr) (n cap : Nat) (xs : List Int) (at_ : Int) (w : World) (h : RI w w.heap.size A xs) (hi : IntsIn xs) (hn : xs.length = 200) (hcap : n ≤ cap) (hcap' : cap ≤ maxLen) (hl : 200 < n) :
    Calls Try.prog 9 #[.slice A n cap, .int .i64 at_] w fun e w' => e = .returned (.bool true) ∧ Below w.heap.size w w' := by
  have T1 := Lib.hid (texts_any A 200 cap xs w _ h hi hn (Nat.le_refl _) (by omega) hcap')
  have HN := Lib.hid hn
  clear h hi hn
  unfold maxLen at hcap'
  have hcl : (200 : Int) ≤ cap := by omega
  go_enter Try.func9, Try.ntmps9
  go_wp2_with fail
  refine T1.out.mono ?_
  rintro e w1 ⟨hb1, vb, vs, rfl, hbo⟩
  obtain ⟨a1, c1, rfl, hc1, hc1x⟩ := own_slice hbo.1
  obtain ⟨a2, c2, rfl, hc2, hc2x⟩ := own_slice hbo.2
  have hks := sel_sgs (xs.take 5000)
  have hkl := sel_len (xs.take 5000)
  rw [List.length_take, HN.out] at hkl
  have hnb := encs_len (sel (xs.take 5000))
  have hr1 := Lib.hid (own_rb hbo.1 (encs_byt _))
  have hr2 := Lib.hid (own_ri hbo.2)
  generalize sel (xs.take 5000) = ks at *
  have hends := Lib.hid (fun k hk => ends_iff hks (k := k) hk)
  have hbad := Lib.hid (text_encs hks).2
  have Hks := Lib.hid hks
  obtain ⟨nb, hnbe⟩ : ∃ nb, (encs ks).length = nb := ⟨_, rfl⟩
  rw [hnbe] at hnb hc1 hbo hends hbad ⊢
  have Hnb := Lib.hid hnbe
  clear hnbe hbo hks T1
  have hnb2 : (nb : Int) ≤ 800 := by omega
  have hkl2 : ks.length ≤ 9223372036854775807 := by omega
  have hm1 := Lib.hid hc1x
  unfold maxLen at hc1x hc2x
  go_wp2_with fail
  obtain ⟨k, hk, hkn⟩ : ∃ k : Nat, wrap64 ((IntKind.u64.wrap at_).tmod ((nb : Int) + 1)) = k ∧ k ≤ nb := idx_of at_ nb (by omega)
  rw [hk]
  have hkb : Hid (endsB ks k 0 = ((k : Int) == 0)) := by
    show decide (k = 0) = _
    by_cases e : k = 0
    · subst e; rfl
    · rw [beq_eq_false_iff_ne.2 (by omega)]; simp [e]
  clear hk
  go_loopw [8, 9, 10, 11, 12] (fun sm en i _ _ wr => ∃ j : Nat, j ≤ ks.length ∧ i = .int .i64 j ∧ sm = .int .i64 ((encs (ks.take j)).length : Nat) ∧ en = .bool (endsB ks k j) ∧ Below w1.heap.size w1 wr) (fun _ _ i _ _ _ => ks.length - (intOf i).toNat)
  case atStart => exact ⟨0, Nat.zero_le _, rfl, rfl, by rw [hkb.out], Below.refl _ _⟩
  case round =>
    obtain ⟨j, hj, rfl, rfl, rfl, hbel⟩ := hrel
    by_cases hlt : j < ks.length
    · obtain ⟨b, off, rfl, hbB, hc⟩ := (hr2.out.below hbel (Nat.le_refl _)).at_ (i := j) hlt
      have hz : lenI (ks.getD j 0) ≠ 0 := Hks.out _ (by simp [List.getD, hlt])
      have htk : ks.take (j + 1) = ks.take j ++ [ks.getD j 0] := by
        rw [List.take_succ_eq_append_getElem hlt]; simp [List.getD, hlt]
      have hln : (encs (ks.take (j + 1))).length = (encs (ks.take j)).length + lenI (ks.getD j 0) := by
        rw [htk, encs_snoc, List.length_append, enc_length]
      have hen : endsB ks k (j + 1) = (endsB ks k j || decide ((encs (ks.take (j + 1))).length = k)) := rfl
      have hle1 : (encs (ks.take j)).length ≤ nb := by
        have := congrArg List.length (encs_take ks j)
        rw [List.length_append, Hnb.out] at this; omega
      have hle4 := lenI_le (ks.getD j 0)
      generalize ks.getD j 0 = z at *
      have hy := Lib.hid (bytes_yes z wr hz)
      rw [hln] at hen
      generalize (encs (ks.take j)).length = sm at *
      generalize lenI z = L at *
      have Hln := Lib.hid hln; have Hen := Lib.hid hen
      clear hln hen htk hz
      have hbel2 : Below w1.heap.size w1 (wr.alloc (.cells (encV z) 5)) := hbel.alloc hbel.size _
      have hlt' : (j : Int) < (ks.length : Int) := by omega
      generalize endsB ks k j = eb at *
      have hLm : L ≤ 9223372036854775807 := by omega
      by_cases hq : sm + L = k
      · have hq' : ((sm : Int) + (L : Int) == (k : Int)) = true := by rw [beq_iff_eq]; omega
        have Hen2 : Hid (endsB ks k (j + 1) = true) := by rw [Hen.out]; simp [hq]; exact trivial
        clear hq
        cases eb
        all_goals
          go_wp2_with (go_at_call 13; refine hy.out.mono ?_; rintro e w' ⟨rfl, rfl⟩)
          go_roundw
          case rel => exact ⟨j + 1, by omega, by go_num, by rw [Hln.out]; go_num, by rw [Hen2.out], hbel2⟩
          case measure => simp [intOf]; omega
      · have hq' : ((sm : Int) + (L : Int) == (k : Int)) = false := by rw [beq_eq_false_iff_ne]; omega
        have Hen2 : Hid (endsB ks k (j + 1) = eb) := by rw [Hen.out]; simp [hq]; exact trivial
        clear hq
        cases eb
        all_goals
          go_wp2_with (go_at_call 13; refine hy.out.mono ?_; rintro e w' ⟨rfl, rfl⟩)
          go_roundw
          case rel => exact ⟨j + 1, by omega, by go_num, by rw [Hln.out]; go_num, by rw [Hen2.out], hbel2⟩
          case measure => simp [intOf]; omega
    · obtain rfl : j = ks.length := by omega
      have hge : ¬ ((ks.length : Int) < (ks.length : Int)) := by omega
      have het := hends.out k hkn
      generalize endsB ks k ks.length = t at *
      have HET := Lib.hid het
      clear het hlt
      go_wp2_with fail
      refine (known_any wr).mono ?_
      rintro e w3 ⟨rfl, hb3⟩
      have hbel3 := hbel.trans (hb3.mono hbel.size)
      have hr3 := hr1.out.below hbel3 (Nat.le_refl _)
      have T4 := Lib.hid (text_any a1 k c1 ((encs ks).take k) w3 _ (hr3.take k) (by rw [List.length_take, Hnb.out]; omega) (by omega) hm1.out t HET.out)
      have B4 := Lib.hid (bad_any a1 nb c1 (encs ks) w3 _ hr3 Hnb.out hc1 hm1.out)
      rw [hbad.out] at B4
      have HB := Lib.hid (hb1.trans (hbel3.mono hb1.size))
      clear hbel3 hr3 hb3 hbel hb1
      have hkc : (k : Int) ≤ (c1 : Int) := by omega
      cases t
      all_goals
        go_wp2_with fail
        refine T4.out.mono ?_
        rintro e w4 ⟨rfl, rfl⟩
        go_wp2_with fail
        refine B4.out.mono ?_
        rintro e w4 ⟨rfl, rfl⟩
        go_wp2_with fail
        go_ret
        exact ⟨rfl, HB.out⟩

theorem utfCuts_walk (A : Option Addr) (n cap : Nat) (zs : List Int) (at_ : Int) (w : World) (hrow : Row .i64 w A n cap zs) (hat : (Lit.int .i64 at_).wf = true) :
    Calls Try.prog 9 #[.slice A n cap, .int .i64 at_] w fun e w' => e = .returned (.bool true) ∧ Below w.heap.size w w' := by
  obtain ⟨xs, hn, hcap, hcap', h, hi⟩ := row_ri hrow
  by_cases hl : n ≤ 200
  · exact utfCuts_s A n cap xs at_ w h hi hn hcap hcap' hl
  · exact utfCuts_l A n cap (xs.take 200) at_ w (h.take _) (hi.take _) (by rw [List.length_take]; omega) hcap hcap' (by omega)
end Go.Proofs.Ytojggmncafjflaa.Utf
