/-
  Layer 1 (utf): the law on texts: the walk.
-/
import Derived.Test.YtojggmncafjflaaUtfMem
namespace Go.Proofs.Ytojggmncafjflaa.Utf
open Go.ChangeShapes Go.WideShapes Go.ChangeAt Go.RowKit
set_option linter.unusedVariables false

set_option maxHeartbeats 2000000 in
theorem utfTexts_short (A : Option Addr) (n cap : Nat) (xs : List Int) (w : World) (hn : xs.length = n) (hcap : n ≤ cap) (hcap' : cap ≤ maxLen) (hrb : RB w w.heap.size A xs) (hl : n ≤ 100000) :
    Calls Try.prog 5 #[.slice A n cap] w fun e w' => e = .returned (.bool true) ∧ Below w.heap.size w w' := by
  have hX : Byt (xs) := hrb.byt
  have hlen : (xs).length = n := hn
  have S1 := Lib.hid (signs_any A n cap (xs) w _ hrb hlen (Nat.le_refl _) hcap hcap' (by omega))
  have S2 := Lib.hid (fun w1 (hb : Below w.heap.size w w1) => refSigns_any A n cap (xs) w1 _ (hrb.below hb (Nat.le_refl _)) hlen hb.size hcap hcap' (by omega))
  have S3 := Lib.hid (fun w1 (hb : Below w.heap.size w w1) => bad_any A n cap (xs) w1 _ (hrb.below hb (Nat.le_refl _)) hlen hcap hcap')
  have S4 := Lib.hid (fun w1 (hb : Below w.heap.size w w1) t ht => text_any A n cap (xs) w1 _ (hrb.below hb (Nat.le_refl _)) hlen hcap hcap' t ht)
  have CV := Lib.hid (fun w1 (hb : Below w.heap.size w w1) => run_conv (P := Try.prog) w1 22 9 5 Try.underlying22 Try.underlying5 Try.underlying9 (hrb.below hb (Nat.le_refl _)) cap)
  have hbl := bad_le hX
  rw [hlen] at CV hbl
  have HLEN := Lib.hid hlen
  have HX := Lib.hid hX
  clear hrb hlen hX hn
  have c0 := CV.out w (Below.refl _ _)
  generalize strOfNums (xs) = s at *
  unfold maxLen at hcap'
  go_enter Try.func5, Try.ntmps5
  go_wp2_with fail
  refine S1.out.mono ?_
  rintro e w1 ⟨hb1, hp1⟩
  clear c0
  rcases hp1 with ⟨hne, rfl⟩ | ⟨heq, v, rfl, hown⟩
  · go_wp2_with fail
    refine (S2.out w1 hb1).mono ?_
    rintro e w2 ⟨hb2, hp2⟩
    rcases hp2 with ⟨_, rfl⟩ | ⟨heq, _⟩
    rotate_left
    · exact absurd heq hne
    rw [HLEN.out] at hne
    have hbw2 := hb1.trans (hb2.mono hb1.size)
    go_wp2_with fail
    refine (known_any w2).mono ?_
    rintro e w3 ⟨rfl, hb3⟩
    have hbw3 := hbw2.trans (hb3.mono hbw2.size)
    have B3 := Lib.hid (S3.out w3 hbw3)
    have T3 := Lib.hid (S4.out w3 hbw3 false (by simp [hne]))
    have c3 := CV.out w3 hbw3
    have BW := Lib.hid hbw3
    clear hb1 hb2 hb3 hbw2 hbw3 S1 S2 S3 S4 CV
    generalize bad (xs) = k at *
    have k1 : ((k : Int) == (n : Int)) = false := by rw [beq_eq_false_iff_ne]; omega
    have k2 : (k : Int) < (n : Int) := by omega
    have k3 : ((k : Int) != k) = false := by simp
    have HNE := Lib.hid hne; clear hne
    go_wp2_with fail
    refine B3.out.mono ?_
    rintro e w4 ⟨rfl, rfl⟩
    go_wp2_with fail
    refine T3.out.mono ?_
    rintro e w4 ⟨rfl, rfl⟩
    go_wp2_with fail
    go_ret
    exact ⟨rfl, BW.out⟩
  · go_wp2_with fail
    refine (S2.out w1 hb1).mono ?_
    rintro e w2 ⟨hb2, hp2⟩
    rcases hp2 with ⟨hne, _⟩ | ⟨_, v2, rfl, hown2⟩
    · exact absurd heq hne
    rw [HLEN.out] at heq
    have hbw2 := hb1.trans (hb2.mono hb1.size)
    obtain ⟨va, vc, rfl, _, _⟩ := own_slice hown
    obtain ⟨va2, vc2, rfl, _, _⟩ := own_slice hown2
    have hown' := own_below hown hb2 (Nat.le_refl _)
    have hsl : (sgn (xs)).length ≤ 1000000 := by
      have h1 := sgs_len _ (bad_spec (l := xs) (by have := HX.out; exact this)).1
      have h2 := (bad_spec (l := xs) HX.out).2.2.2.1
      omega
    go_wp2_with fail
    refine (known_any w2).mono ?_
    rintro e w3 ⟨rfl, hb3⟩
    have hbw3 := hbw2.trans (hb3.mono hbw2.size)
    have B3 := Lib.hid (S3.out w3 hbw3)
    have T3 := Lib.hid (S4.out w3 hbw3 true (by simp [heq]))
    have SY := Lib.hid (same_yes va va2 (sgn (xs)).length vc vc2 (sgn (xs)) w3 _ _ (own_ri (own_below hown' hb3 (Nat.le_refl _))) (own_ri (own_below hown2 hb3 (Nat.le_refl _))) rfl (by omega))
    have c3 := CV.out w3 hbw3
    have BW := Lib.hid hbw3
    clear hb1 hb2 hb3 hbw2 hbw3 S1 S2 S3 S4 CV hown hown2 hown'
    generalize bad (xs) = k at *
    generalize sgn (xs) = sg at *
    have k1 : ((k : Int) == (n : Int)) = true := by rw [beq_iff_eq]; omega
    have k2 : ¬ (k : Int) < (n : Int) := by omega
    have k3 : ((k : Int) != k) = false := by simp
    have HEQ := Lib.hid heq; clear heq
    go_wp2_with fail
    refine B3.out.mono ?_
    rintro e w4 ⟨rfl, rfl⟩
    go_wp2_with fail
    refine T3.out.mono ?_
    rintro e w4 ⟨rfl, rfl⟩
    go_wp2_with fail
    refine SY.out.mono ?_
    rintro e w4 ⟨rfl, q, rfl⟩
    go_wp2_with fail
    go_ret
    exact ⟨rfl, below_drewN BW.out q⟩

set_option maxHeartbeats 2000000 in
set_option maxRecDepth 100000 in
theorem utfTexts_long (A : Option Addr) (n0 cap : Nat) (xs : List Int) (w : World) (hn0 : 100000 < n0) (hcap0 : n0 ≤ cap) (hcap' : cap ≤ maxLen) (hrb : RB w w.heap.size A xs) (hn : xs.length = 100000) :
    Calls Try.prog 5 #[.slice A n0 cap] w fun e w' => e = .returned (.bool true) ∧ Below w.heap.size w w' := by
  have hcap : 100000 ≤ cap := by omega
  have hX : Byt (xs) := hrb.byt
  have hlen : (xs).length = 100000 := hn
  have S1 := Lib.hid (signs_any A 100000 cap (xs) w _ hrb hlen (Nat.le_refl _) hcap hcap' (by omega))
  have S2 := Lib.hid (fun w1 (hb : Below w.heap.size w w1) => refSigns_any A 100000 cap (xs) w1 _ (hrb.below hb (Nat.le_refl _)) hlen hb.size hcap hcap' (by omega))
  have S3 := Lib.hid (fun w1 (hb : Below w.heap.size w w1) => bad_any A 100000 cap (xs) w1 _ (hrb.below hb (Nat.le_refl _)) hlen hcap hcap')
  have S4 := Lib.hid (fun w1 (hb : Below w.heap.size w w1) t ht => text_any A 100000 cap (xs) w1 _ (hrb.below hb (Nat.le_refl _)) hlen hcap hcap' t ht)
  have CV := Lib.hid (fun w1 (hb : Below w.heap.size w w1) => run_conv (P := Try.prog) w1 22 9 5 Try.underlying22 Try.underlying5 Try.underlying9 (hrb.below hb (Nat.le_refl _)) cap)
  have hbl := bad_le hX
  rw [hlen] at CV hbl
  have HLEN := Lib.hid hlen
  have HX := Lib.hid hX
  clear hrb hlen hX hn
  have c0 := CV.out w (Below.refl _ _)
  generalize strOfNums (xs) = s at *
  unfold maxLen at hcap'
  have hcl : (100000 : Int) ≤ cap := by omega
  have hn0' : (100000 : Int) < n0 := by omega
  go_enter Try.func5, Try.ntmps5
  go_wp2_with fail
  refine S1.out.mono ?_
  rintro e w1 ⟨hb1, hp1⟩
  clear c0
  rcases hp1 with ⟨hne, rfl⟩ | ⟨heq, v, rfl, hown⟩
  · go_wp2_with fail
    refine (S2.out w1 hb1).mono ?_
    rintro e w2 ⟨hb2, hp2⟩
    rcases hp2 with ⟨_, rfl⟩ | ⟨heq, _⟩
    rotate_left
    · exact absurd heq hne
    rw [HLEN.out] at hne
    have hbw2 := hb1.trans (hb2.mono hb1.size)
    go_wp2_with fail
    refine (known_any w2).mono ?_
    rintro e w3 ⟨rfl, hb3⟩
    have hbw3 := hbw2.trans (hb3.mono hbw2.size)
    have B3 := Lib.hid (S3.out w3 hbw3)
    have T3 := Lib.hid (S4.out w3 hbw3 false (by simp [hne]))
    have c3 := CV.out w3 hbw3
    have BW := Lib.hid hbw3
    clear hb1 hb2 hb3 hbw2 hbw3 S1 S2 S3 S4 CV
    generalize bad (xs) = k at *
    have k1 : ((k : Int) == (100000 : Int)) = false := by rw [beq_eq_false_iff_ne]; omega
    have k2 : (k : Int) < (100000 : Int) := by omega
    have k3 : ((k : Int) != k) = false := by simp
    have HNE := Lib.hid hne; clear hne
    go_wp2_with fail
    refine B3.out.mono ?_
    rintro e w4 ⟨rfl, rfl⟩
    go_wp2_with fail
    refine T3.out.mono ?_
    rintro e w4 ⟨rfl, rfl⟩
    go_wp2_with fail
    go_ret
    exact ⟨rfl, BW.out⟩
  · go_wp2_with fail
    refine (S2.out w1 hb1).mono ?_
    rintro e w2 ⟨hb2, hp2⟩
    rcases hp2 with ⟨hne, _⟩ | ⟨_, v2, rfl, hown2⟩
    · exact absurd heq hne
    rw [HLEN.out] at heq
    have hbw2 := hb1.trans (hb2.mono hb1.size)
    obtain ⟨va, vc, rfl, _, _⟩ := own_slice hown
    obtain ⟨va2, vc2, rfl, _, _⟩ := own_slice hown2
    have hown' := own_below hown hb2 (Nat.le_refl _)
    have hsl : (sgn (xs)).length ≤ 1000000 := by
      have h1 := sgs_len _ (bad_spec (l := xs) (by have := HX.out; exact this)).1
      have h2 := (bad_spec (l := xs) HX.out).2.2.2.1
      omega
    go_wp2_with fail
    refine (known_any w2).mono ?_
    rintro e w3 ⟨rfl, hb3⟩
    have hbw3 := hbw2.trans (hb3.mono hbw2.size)
    have B3 := Lib.hid (S3.out w3 hbw3)
    have T3 := Lib.hid (S4.out w3 hbw3 true (by simp [heq]))
    have SY := Lib.hid (same_yes va va2 (sgn (xs)).length vc vc2 (sgn (xs)) w3 _ _ (own_ri (own_below hown' hb3 (Nat.le_refl _))) (own_ri (own_below hown2 hb3 (Nat.le_refl _))) rfl (by omega))
    have c3 := CV.out w3 hbw3
    have BW := Lib.hid hbw3
    clear hb1 hb2 hb3 hbw2 hbw3 S1 S2 S3 S4 CV hown hown2 hown'
    generalize bad (xs) = k at *
    generalize sgn (xs) = sg at *
    have k1 : ((k : Int) == (100000 : Int)) = true := by rw [beq_iff_eq]; omega
    have k2 : ¬ (k : Int) < (100000 : Int) := by omega
    have k3 : ((k : Int) != k) = false := by simp
    have HEQ := Lib.hid heq; clear heq
    go_wp2_with fail
    refine B3.out.mono ?_
    rintro e w4 ⟨rfl, rfl⟩
    go_wp2_with fail
    refine T3.out.mono ?_
    rintro e w4 ⟨rfl, rfl⟩
    go_wp2_with fail
    refine SY.out.mono ?_
    rintro e w4 ⟨rfl, q, rfl⟩
    go_wp2_with fail
    go_ret
    exact ⟨rfl, below_drewN BW.out q⟩

theorem utfTexts_walk (A : Option Addr) (n cap : Nat) (zs : List Int) (w : World) (hrow : Row .u8 w A n cap zs) :
    Calls Try.prog 5 #[.slice A n cap] w fun e w' => e = .returned (.bool true) ∧ Below w.heap.size w w' := by
  obtain ⟨xs, hn, hcap, hcap', h⟩ := row_rb hrow
  by_cases hl : n ≤ 100000
  · exact utfTexts_short A n cap xs w hn hcap hcap' h hl
  · exact utfTexts_long A n cap (xs.take 100000) w (by omega) hcap hcap' (h.take _) (by rw [List.length_take]; omega)
end Go.Proofs.Ytojggmncafjflaa.Utf
