/-
  Layer 1 (utf): the law on texts, one behind the other: the walk.
-/
import Derived.Test.YtojggmncafjflaaUtfMem
import Derived.Test.YtojggmncafjflaaUtfMore
namespace Go.Proofs.Ytojggmncafjflaa.Utf
open Go.ChangeShapes Go.WideShapes Go.ChangeAt Go.RowKit
set_option linter.unusedVariables false

theorem own_app {w : World} {base n : Nat} {v : Value} {xs ys : List Int} (h : w.ownsRow base 5 1 v n (xs.map (Value.int .u8) ++ ys.map (Value.int .u8))) : w.ownsRow base 5 1 v n ((xs ++ ys).map (Value.int .u8)) := by
  rw [List.map_append]; exact h

set_option maxHeartbeats 4000000 in
set_option maxRecDepth 100000 in
theorem utfJoins_ss (A A2 : Option Addr) (n cap n2 cap2 : Nat) (xs ys : List Int) (w : World) (hcap : n ≤ cap) (hcap' : cap ≤ maxLen) (hl : n ≤ 50000) (hrb : RB w w.heap.size A xs) (hn : xs.length = n)
    (hcap2 : n2 ≤ cap2) (hcap2' : cap2 ≤ maxLen) (hl2 : n2 ≤ 50000) (hrb2 : RB w w.heap.size A2 ys) (hn2 : ys.length = n2) :
    Calls Try.prog 7 #[.slice A n cap, .slice A2 n2 cap2] w fun e w' => e = .returned (.bool true) ∧ Below w.heap.size w w' := by
  have C1 : n ≤ cap := by omega
  have C2 : n2 ≤ cap2 := by omega
  have S1 := Lib.hid (fun w1 (hb : Below w.heap.size w w1) => bad_any A n cap xs w1 _ (hrb.below hb (Nat.le_refl _)) hn C1 hcap')
  have S2 := Lib.hid (fun w1 (hb : Below w.heap.size w w1) => bad_any A2 n2 cap2 ys w1 _ (hrb2.below hb (Nat.le_refl _)) hn2 C2 hcap2')
  have S3 := Lib.hid (fun w1 (hb : Below w.heap.size w w1) => next_at A2 n2 cap2 ys w1 _ (hrb2.below hb (Nat.le_refl _)) hn2 C2 hcap2')
  have S4 := Lib.hid (fun w1 (hb : Below w.heap.size w w1) k (hk : k ≤ n2) (hne : bad (ys.take k) ≠ k) => text_any A2 k cap2 (ys.take k) w1 _ ((hrb2.below hb (Nat.le_refl _)).take k) (by rw [List.length_take, hn2]; omega) (by omega) hcap2' false (by simp [hne]))
  have hx := hrb.byt
  have hy := hrb2.byt
  have M1 := Lib.hid (fun (h : bad xs = n) => (bad_join hx hy (by rw [hn]; exact h)).trans (by rw [hn]))
  have M2 := Lib.hid (bad_more hx hy)
  have M3 := Lib.hid (fun k m (h : nxt ys = (k, m)) (hm : 2 ≤ m) => cut_bad hy h hm)
  have M4 := Lib.hid (nxt_le hy)
  have M5 := bad_le hx
  have M6 := bad_le hy
  have M7 := Lib.hid (hx.append hy)
  have HN := Lib.hid hn
  have HN2 := Lib.hid hn2
  have L12 := Lib.hid (show (xs ++ ys).length = n + n2 by rw [List.length_append, hn, hn2])
  rw [hn] at M5; rw [hn2] at M6
  clear hn hn2
  have R1 := Lib.hid hrb; have R2 := Lib.hid hrb2; clear hrb hrb2 hx hy
  have own0 := World.ownsRow_lit (base := w.heap.size) (e := 5) (size := 1) w #[] 0 (Nat.le_refl _) (by unfold maxLen; omega) rfl
  have U1 := Lib.hid hcap'; have U2 := Lib.hid hcap2'
  unfold maxLen at hcap' hcap2'
  have Q1 : (n : Int) ≤ cap := by omega
  have Q2 : (n2 : Int) ≤ cap2 := by omega
  have ba : Below w.heap.size w (w.alloc (.cells #[] 5)) := (Below.refl _ _).alloc (Nat.le_refl _) _
  go_enter Try.func7, Try.ntmps7
  go_wp2_with (first
    | (at_builtin; refine app_rb _ rfl (.tmp 20) (.tmp 21) rfl w.heap.size _ 0 [] rfl own0 w.heap.size A n cap xs rfl (R1.out.below ba (Nat.le_refl _)) HN.out (by omega) (by simp) ?_; intro v1 w1 hown1 hg1 hat1; have hb1 : Below w.heap.size w w1 := ba.grown hg1 (by simp) (fun k hk => (own0.lt k hk).1))
    | (at_builtin; refine app_rb w1 rfl (.tmp 22) (.tmp 23) rfl w.heap.size v1 (0 + n) ([] ++ xs.map (Value.int .u8)) rfl hown1 w.heap.size A2 n2 cap2 ys rfl (R2.out.below hb1 (Nat.le_refl _)) HN2.out (by omega) hb1.size ?_; intro v2 w2 hown2 hg2 hat2; have hb2 : Below w.heap.size w w2 := hb1.grown hg2 hb1.size (fun k hk => (hown1.lt k hk).1))
    | fail)
  simp only [List.nil_append, Nat.zero_add] at hown2
  have hown3 := own_app hown2
  obtain ⟨va, vc, rfl, hvc, hvc'⟩ := own_slice hown3
  have S5 := Lib.hid (bad_any va (n + n2) vc (xs ++ ys) w2 _ (own_rb hown3 M7.out) L12.out hvc hvc')
  have T1 := Lib.hid (S1.out w2 hb2)
  have T2 := Lib.hid (S2.out w2 hb2)
  have T3 := Lib.hid (S3.out w2 hb2)
  have HB2 := Lib.hid hb2
  have hvs : n + n2 ≤ 9223372036854775807 := by omega
  clear hown3 hown2 hown1 own0 hg1 hg2 hat1 hat2 hb1 hb2 ba S1 S2 S3 R1 R2 hvc hvc'
  refine T1.out.mono ?_
  rintro e w3 ⟨rfl, rfl⟩
  go_wp2_with fail
  refine T2.out.mono ?_
  rintro e w3 ⟨rfl, rfl⟩
  generalize bad xs = bx at *
  generalize bad ys = byy at *
  generalize bad (xs ++ ys) = ball at *
  obtain ⟨⟨sg, m⟩, hp⟩ : ∃ p, nxt ys = p := ⟨_, rfl⟩
  have M8 := Lib.hid (M3.out sg m hp)
  rw [hp] at T3 M4
  have M4' : m ≤ n2 := by have := M4.out; rw [HN2.out] at this; exact this
  clear hp M3 M4
  by_cases hfull : bx = n
  · have e1 := M1.out hfull
    have F1 : ((bx : Int) == (n : Int)) = true := by rw [beq_iff_eq]; omega
    have F2 : ((ball : Int) != (n : Int) + byy) = false := by rw [bne_eq_false_iff_eq]; omega
    have HF := Lib.hid hfull; have E1 := Lib.hid e1
    clear hfull e1 M1 M2
    go_wp2_with fail
    refine S5.out.mono ?_
    rintro e w3 ⟨rfl, rfl⟩
    go_wp2_with fail
    refine T3.out.mono ?_
    rintro e w3 ⟨rfl, rfl⟩
    go_wp2_with fail
    refine (known_any w2).mono ?_
    rintro e w3 ⟨rfl, hb3⟩
    have HB3 := Lib.hid (HB2.out.trans (hb3.mono HB2.out.size))
    clear hb3
    by_cases hm : m < 2
    · go_wp2_with fail
      go_ret
      exact ⟨rfl, HB3.out⟩
    · have T4 := Lib.hid (S4.out w3 HB3.out (m - 1) (by omega) (M8.out (by omega)))
      have hm1 : (m : Int) - 1 ≤ cap2 := by omega
      have hm2 : ¬ (m : Int) < 2 := by omega
      go_wp2_with fail
      refine T4.out.mono ?_
      rintro e w4 ⟨rfl, rfl⟩
      go_wp2_with fail
      go_ret
      exact ⟨rfl, HB3.out⟩
  · have e1 := M2.out
    have F1 : ((bx : Int) == (n : Int)) = false := by rw [beq_eq_false_iff_ne]; omega
    have F2 : ¬ (ball : Int) < bx := by omega
    have HF := Lib.hid hfull; have E1 := Lib.hid e1
    clear hfull e1 M1 M2
    go_wp2_with fail
    refine S5.out.mono ?_
    rintro e w3 ⟨rfl, rfl⟩
    go_wp2_with fail
    refine T3.out.mono ?_
    rintro e w3 ⟨rfl, rfl⟩
    go_wp2_with fail
    refine (known_any w2).mono ?_
    rintro e w3 ⟨rfl, hb3⟩
    have HB3 := Lib.hid (HB2.out.trans (hb3.mono HB2.out.size))
    clear hb3
    by_cases hm : m < 2
    · go_wp2_with fail
      go_ret
      exact ⟨rfl, HB3.out⟩
    · have T4 := Lib.hid (S4.out w3 HB3.out (m - 1) (by omega) (M8.out (by omega)))
      have hm1 : (m : Int) - 1 ≤ cap2 := by omega
      have hm2 : ¬ (m : Int) < 2 := by omega
      go_wp2_with fail
      refine T4.out.mono ?_
      rintro e w4 ⟨rfl, rfl⟩
      go_wp2_with fail
      go_ret
      exact ⟨rfl, HB3.out⟩

set_option maxHeartbeats 4000000 in
set_option maxRecDepth 100000 in
theorem utfJoins_sl (A A2 : Option Addr) (n cap n2 cap2 : Nat) (xs ys : List Int) (w : World) (hcap : n ≤ cap) (hcap' : cap ≤ maxLen) (hl : n ≤ 50000) (hrb : RB w w.heap.size A xs) (hn : xs.length = n)
    (hcap2 : n2 ≤ cap2) (hcap2' : cap2 ≤ maxLen) (hl2 : 50000 < n2) (hrb2 : RB w w.heap.size A2 ys) (hn2 : ys.length = 50000) :
    Calls Try.prog 7 #[.slice A n cap, .slice A2 n2 cap2] w fun e w' => e = .returned (.bool true) ∧ Below w.heap.size w w' := by
  have C1 : n ≤ cap := by omega
  have C2 : 50000 ≤ cap2 := by omega
  have S1 := Lib.hid (fun w1 (hb : Below w.heap.size w w1) => bad_any A n cap xs w1 _ (hrb.below hb (Nat.le_refl _)) hn C1 hcap')
  have S2 := Lib.hid (fun w1 (hb : Below w.heap.size w w1) => bad_any A2 50000 cap2 ys w1 _ (hrb2.below hb (Nat.le_refl _)) hn2 C2 hcap2')
  have S3 := Lib.hid (fun w1 (hb : Below w.heap.size w w1) => next_at A2 50000 cap2 ys w1 _ (hrb2.below hb (Nat.le_refl _)) hn2 C2 hcap2')
  have S4 := Lib.hid (fun w1 (hb : Below w.heap.size w w1) k (hk : k ≤ 50000) (hne : bad (ys.take k) ≠ k) => text_any A2 k cap2 (ys.take k) w1 _ ((hrb2.below hb (Nat.le_refl _)).take k) (by rw [List.length_take, hn2]; omega) (by omega) hcap2' false (by simp [hne]))
  have hx := hrb.byt
  have hy := hrb2.byt
  have M1 := Lib.hid (fun (h : bad xs = n) => (bad_join hx hy (by rw [hn]; exact h)).trans (by rw [hn]))
  have M2 := Lib.hid (bad_more hx hy)
  have M3 := Lib.hid (fun k m (h : nxt ys = (k, m)) (hm : 2 ≤ m) => cut_bad hy h hm)
  have M4 := Lib.hid (nxt_le hy)
  have M5 := bad_le hx
  have M6 := bad_le hy
  have M7 := Lib.hid (hx.append hy)
  have HN := Lib.hid hn
  have HN2 := Lib.hid hn2
  have L12 := Lib.hid (show (xs ++ ys).length = n + 50000 by rw [List.length_append, hn, hn2])
  rw [hn] at M5; rw [hn2] at M6
  clear hn hn2
  have R1 := Lib.hid hrb; have R2 := Lib.hid hrb2; clear hrb hrb2 hx hy
  have own0 := World.ownsRow_lit (base := w.heap.size) (e := 5) (size := 1) w #[] 0 (Nat.le_refl _) (by unfold maxLen; omega) rfl
  have U1 := Lib.hid hcap'; have U2 := Lib.hid hcap2'
  unfold maxLen at hcap' hcap2'
  have Q1 : (n : Int) ≤ cap := by omega
  have Q2 : (50000 : Int) ≤ cap2 := by omega
  have ba : Below w.heap.size w (w.alloc (.cells #[] 5)) := (Below.refl _ _).alloc (Nat.le_refl _) _
  go_enter Try.func7, Try.ntmps7
  go_wp2_with (first
    | (at_builtin; refine app_rb _ rfl (.tmp 20) (.tmp 21) rfl w.heap.size _ 0 [] rfl own0 w.heap.size A n cap xs rfl (R1.out.below ba (Nat.le_refl _)) HN.out (by omega) (by simp) ?_; intro v1 w1 hown1 hg1 hat1; have hb1 : Below w.heap.size w w1 := ba.grown hg1 (by simp) (fun k hk => (own0.lt k hk).1))
    | (at_builtin; refine app_rb w1 rfl (.tmp 22) (.tmp 23) rfl w.heap.size v1 (0 + n) ([] ++ xs.map (Value.int .u8)) rfl hown1 w.heap.size A2 50000 cap2 ys rfl (R2.out.below hb1 (Nat.le_refl _)) HN2.out (by omega) hb1.size ?_; intro v2 w2 hown2 hg2 hat2; have hb2 : Below w.heap.size w w2 := hb1.grown hg2 hb1.size (fun k hk => (hown1.lt k hk).1))
    | fail)
  simp only [List.nil_append, Nat.zero_add] at hown2
  have hown3 := own_app hown2
  obtain ⟨va, vc, rfl, hvc, hvc'⟩ := own_slice hown3
  have S5 := Lib.hid (bad_any va (n + 50000) vc (xs ++ ys) w2 _ (own_rb hown3 M7.out) L12.out hvc hvc')
  have T1 := Lib.hid (S1.out w2 hb2)
  have T2 := Lib.hid (S2.out w2 hb2)
  have T3 := Lib.hid (S3.out w2 hb2)
  have HB2 := Lib.hid hb2
  have hvs : n + 50000 ≤ 9223372036854775807 := by omega
  clear hown3 hown2 hown1 own0 hg1 hg2 hat1 hat2 hb1 hb2 ba S1 S2 S3 R1 R2 hvc hvc'
  refine T1.out.mono ?_
  rintro e w3 ⟨rfl, rfl⟩
  go_wp2_with fail
  refine T2.out.mono ?_
  rintro e w3 ⟨rfl, rfl⟩
  generalize bad xs = bx at *
  generalize bad ys = byy at *
  generalize bad (xs ++ ys) = ball at *
  obtain ⟨⟨sg, m⟩, hp⟩ : ∃ p, nxt ys = p := ⟨_, rfl⟩
  have M8 := Lib.hid (M3.out sg m hp)
  rw [hp] at T3 M4
  have M4' : m ≤ 50000 := by have := M4.out; rw [HN2.out] at this; exact this
  clear hp M3 M4
  by_cases hfull : bx = n
  · have e1 := M1.out hfull
    have F1 : ((bx : Int) == (n : Int)) = true := by rw [beq_iff_eq]; omega
    have F2 : ((ball : Int) != (n : Int) + byy) = false := by rw [bne_eq_false_iff_eq]; omega
    have HF := Lib.hid hfull; have E1 := Lib.hid e1
    clear hfull e1 M1 M2
    go_wp2_with fail
    refine S5.out.mono ?_
    rintro e w3 ⟨rfl, rfl⟩
    go_wp2_with fail
    refine T3.out.mono ?_
    rintro e w3 ⟨rfl, rfl⟩
    go_wp2_with fail
    refine (known_any w2).mono ?_
    rintro e w3 ⟨rfl, hb3⟩
    have HB3 := Lib.hid (HB2.out.trans (hb3.mono HB2.out.size))
    clear hb3
    by_cases hm : m < 2
    · go_wp2_with fail
      go_ret
      exact ⟨rfl, HB3.out⟩
    · have T4 := Lib.hid (S4.out w3 HB3.out (m - 1) (by omega) (M8.out (by omega)))
      have hm1 : (m : Int) - 1 ≤ cap2 := by omega
      have hm2 : ¬ (m : Int) < 2 := by omega
      go_wp2_with fail
      refine T4.out.mono ?_
      rintro e w4 ⟨rfl, rfl⟩
      go_wp2_with fail
      go_ret
      exact ⟨rfl, HB3.out⟩
  · have e1 := M2.out
    have F1 : ((bx : Int) == (n : Int)) = false := by rw [beq_eq_false_iff_ne]; omega
    have F2 : ¬ (ball : Int) < bx := by omega
    have HF := Lib.hid hfull; have E1 := Lib.hid e1
    clear hfull e1 M1 M2
    go_wp2_with fail
    refine S5.out.mono ?_
    rintro e w3 ⟨rfl, rfl⟩
    go_wp2_with fail
    refine T3.out.mono ?_
    rintro e w3 ⟨rfl, rfl⟩
    go_wp2_with fail
    refine (known_any w2).mono ?_
    rintro e w3 ⟨rfl, hb3⟩
    have HB3 := Lib.hid (HB2.out.trans (hb3.mono HB2.out.size))
    clear hb3
    by_cases hm : m < 2
    · go_wp2_with fail
      go_ret
      exact ⟨rfl, HB3.out⟩
    · have T4 := Lib.hid (S4.out w3 HB3.out (m - 1) (by omega) (M8.out (by omega)))
      have hm1 : (m : Int) - 1 ≤ cap2 := by omega
      have hm2 : ¬ (m : Int) < 2 := by omega
      go_wp2_with fail
      refine T4.out.mono ?_
      rintro e w4 ⟨rfl, rfl⟩
      go_wp2_with fail
      go_ret
      exact ⟨rfl, HB3.out⟩

set_option maxHeartbeats 4000000 in
set_option maxRecDepth 100000 in
theorem utfJoins_ls (A A2 : Option Addr) (n cap n2 cap2 : Nat) (xs ys : List Int) (w : World) (hcap : n ≤ cap) (hcap' : cap ≤ maxLen) (hl : 50000 < n) (hrb : RB w w.heap.size A xs) (hn : xs.length = 50000)
    (hcap2 : n2 ≤ cap2) (hcap2' : cap2 ≤ maxLen) (hl2 : n2 ≤ 50000) (hrb2 : RB w w.heap.size A2 ys) (hn2 : ys.length = n2) :
    Calls Try.prog 7 #[.slice A n cap, .slice A2 n2 cap2] w fun e w' => e = .returned (.bool true) ∧ Below w.heap.size w w' := by
  have C1 : 50000 ≤ cap := by omega
  have C2 : n2 ≤ cap2 := by omega
  have S1 := Lib.hid (fun w1 (hb : Below w.heap.size w w1) => bad_any A 50000 cap xs w1 _ (hrb.below hb (Nat.le_refl _)) hn C1 hcap')
  have S2 := Lib.hid (fun w1 (hb : Below w.heap.size w w1) => bad_any A2 n2 cap2 ys w1 _ (hrb2.below hb (Nat.le_refl _)) hn2 C2 hcap2')
  have S3 := Lib.hid (fun w1 (hb : Below w.heap.size w w1) => next_at A2 n2 cap2 ys w1 _ (hrb2.below hb (Nat.le_refl _)) hn2 C2 hcap2')
  have S4 := Lib.hid (fun w1 (hb : Below w.heap.size w w1) k (hk : k ≤ n2) (hne : bad (ys.take k) ≠ k) => text_any A2 k cap2 (ys.take k) w1 _ ((hrb2.below hb (Nat.le_refl _)).take k) (by rw [List.length_take, hn2]; omega) (by omega) hcap2' false (by simp [hne]))
  have hx := hrb.byt
  have hy := hrb2.byt
  have M1 := Lib.hid (fun (h : bad xs = 50000) => (bad_join hx hy (by rw [hn]; exact h)).trans (by rw [hn]))
  have M2 := Lib.hid (bad_more hx hy)
  have M3 := Lib.hid (fun k m (h : nxt ys = (k, m)) (hm : 2 ≤ m) => cut_bad hy h hm)
  have M4 := Lib.hid (nxt_le hy)
  have M5 := bad_le hx
  have M6 := bad_le hy
  have M7 := Lib.hid (hx.append hy)
  have HN := Lib.hid hn
  have HN2 := Lib.hid hn2
  have L12 := Lib.hid (show (xs ++ ys).length = 50000 + n2 by rw [List.length_append, hn, hn2])
  rw [hn] at M5; rw [hn2] at M6
  clear hn hn2
  have R1 := Lib.hid hrb; have R2 := Lib.hid hrb2; clear hrb hrb2 hx hy
  have own0 := World.ownsRow_lit (base := w.heap.size) (e := 5) (size := 1) w #[] 0 (Nat.le_refl _) (by unfold maxLen; omega) rfl
  have U1 := Lib.hid hcap'; have U2 := Lib.hid hcap2'
  unfold maxLen at hcap' hcap2'
  have Q1 : (50000 : Int) ≤ cap := by omega
  have Q2 : (n2 : Int) ≤ cap2 := by omega
  have ba : Below w.heap.size w (w.alloc (.cells #[] 5)) := (Below.refl _ _).alloc (Nat.le_refl _) _
  go_enter Try.func7, Try.ntmps7
  go_wp2_with (first
    | (at_builtin; refine app_rb _ rfl (.tmp 20) (.tmp 21) rfl w.heap.size _ 0 [] rfl own0 w.heap.size A 50000 cap xs rfl (R1.out.below ba (Nat.le_refl _)) HN.out (by omega) (by simp) ?_; intro v1 w1 hown1 hg1 hat1; have hb1 : Below w.heap.size w w1 := ba.grown hg1 (by simp) (fun k hk => (own0.lt k hk).1))
    | (at_builtin; refine app_rb w1 rfl (.tmp 22) (.tmp 23) rfl w.heap.size v1 (0 + 50000) ([] ++ xs.map (Value.int .u8)) rfl hown1 w.heap.size A2 n2 cap2 ys rfl (R2.out.below hb1 (Nat.le_refl _)) HN2.out (by omega) hb1.size ?_; intro v2 w2 hown2 hg2 hat2; have hb2 : Below w.heap.size w w2 := hb1.grown hg2 hb1.size (fun k hk => (hown1.lt k hk).1))
    | fail)
  simp only [List.nil_append, Nat.zero_add] at hown2
  have hown3 := own_app hown2
  obtain ⟨va, vc, rfl, hvc, hvc'⟩ := own_slice hown3
  have S5 := Lib.hid (bad_any va (50000 + n2) vc (xs ++ ys) w2 _ (own_rb hown3 M7.out) L12.out hvc hvc')
  have T1 := Lib.hid (S1.out w2 hb2)
  have T2 := Lib.hid (S2.out w2 hb2)
  have T3 := Lib.hid (S3.out w2 hb2)
  have HB2 := Lib.hid hb2
  have hvs : 50000 + n2 ≤ 9223372036854775807 := by omega
  clear hown3 hown2 hown1 own0 hg1 hg2 hat1 hat2 hb1 hb2 ba S1 S2 S3 R1 R2 hvc hvc'
  refine T1.out.mono ?_
  rintro e w3 ⟨rfl, rfl⟩
  go_wp2_with fail
  refine T2.out.mono ?_
  rintro e w3 ⟨rfl, rfl⟩
  generalize bad xs = bx at *
  generalize bad ys = byy at *
  generalize bad (xs ++ ys) = ball at *
  obtain ⟨⟨sg, m⟩, hp⟩ : ∃ p, nxt ys = p := ⟨_, rfl⟩
  have M8 := Lib.hid (M3.out sg m hp)
  rw [hp] at T3 M4
  have M4' : m ≤ n2 := by have := M4.out; rw [HN2.out] at this; exact this
  clear hp M3 M4
  by_cases hfull : bx = 50000
  · have e1 := M1.out hfull
    have F1 : ((bx : Int) == (50000 : Int)) = true := by rw [beq_iff_eq]; omega
    have F2 : ((ball : Int) != (50000 : Int) + byy) = false := by rw [bne_eq_false_iff_eq]; omega
    have HF := Lib.hid hfull; have E1 := Lib.hid e1
    clear hfull e1 M1 M2
    go_wp2_with fail
    refine S5.out.mono ?_
    rintro e w3 ⟨rfl, rfl⟩
    go_wp2_with fail
    refine T3.out.mono ?_
    rintro e w3 ⟨rfl, rfl⟩
    go_wp2_with fail
    refine (known_any w2).mono ?_
    rintro e w3 ⟨rfl, hb3⟩
    have HB3 := Lib.hid (HB2.out.trans (hb3.mono HB2.out.size))
    clear hb3
    by_cases hm : m < 2
    · go_wp2_with fail
      go_ret
      exact ⟨rfl, HB3.out⟩
    · have T4 := Lib.hid (S4.out w3 HB3.out (m - 1) (by omega) (M8.out (by omega)))
      have hm1 : (m : Int) - 1 ≤ cap2 := by omega
      have hm2 : ¬ (m : Int) < 2 := by omega
      go_wp2_with fail
      refine T4.out.mono ?_
      rintro e w4 ⟨rfl, rfl⟩
      go_wp2_with fail
      go_ret
      exact ⟨rfl, HB3.out⟩
  · have e1 := M2.out
    have F1 : ((bx : Int) == (50000 : Int)) = false := by rw [beq_eq_false_iff_ne]; omega
    have F2 : ¬ (ball : Int) < bx := by omega
    have HF := Lib.hid hfull; have E1 := Lib.hid e1
    clear hfull e1 M1 M2
    go_wp2_with fail
    refine S5.out.mono ?_
    rintro e w3 ⟨rfl, rfl⟩
    go_wp2_with fail
    refine T3.out.mono ?_
    rintro e w3 ⟨rfl, rfl⟩
    go_wp2_with fail
    refine (known_any w2).mono ?_
    rintro e w3 ⟨rfl, hb3⟩
    have HB3 := Lib.hid (HB2.out.trans (hb3.mono HB2.out.size))
    clear hb3
    by_cases hm : m < 2
    · go_wp2_with fail
      go_ret
      exact ⟨rfl, HB3.out⟩
    · have T4 := Lib.hid (S4.out w3 HB3.out (m - 1) (by omega) (M8.out (by omega)))
      have hm1 : (m : Int) - 1 ≤ cap2 := by omega
      have hm2 : ¬ (m : Int) < 2 := by omega
      go_wp2_with fail
      refine T4.out.mono ?_
      rintro e w4 ⟨rfl, rfl⟩
      go_wp2_with fail
      go_ret
      exact ⟨rfl, HB3.out⟩

set_option maxHeartbeats 4000000 in
set_option maxRecDepth 100000 in
theorem utfJoins_ll (A A2 : Option Addr) (n cap n2 cap2 : Nat) (xs ys : List Int) (w : World) (hcap : n ≤ cap) (hcap' : cap ≤ maxLen) (hl : 50000 < n) (hrb : RB w w.heap.size A xs) (hn : xs.length = 50000)
    (hcap2 : n2 ≤ cap2) (hcap2' : cap2 ≤ maxLen) (hl2 : 50000 < n2) (hrb2 : RB w w.heap.size A2 ys) (hn2 : ys.length = 50000) :
    Calls Try.prog 7 #[.slice A n cap, .slice A2 n2 cap2] w fun e w' => e = .returned (.bool true) ∧ Below w.heap.size w w' := by
  have C1 : 50000 ≤ cap := by omega
  have C2 : 50000 ≤ cap2 := by omega
  have S1 := Lib.hid (fun w1 (hb : Below w.heap.size w w1) => bad_any A 50000 cap xs w1 _ (hrb.below hb (Nat.le_refl _)) hn C1 hcap')
  have S2 := Lib.hid (fun w1 (hb : Below w.heap.size w w1) => bad_any A2 50000 cap2 ys w1 _ (hrb2.below hb (Nat.le_refl _)) hn2 C2 hcap2')
  have S3 := Lib.hid (fun w1 (hb : Below w.heap.size w w1) => next_at A2 50000 cap2 ys w1 _ (hrb2.below hb (Nat.le_refl _)) hn2 C2 hcap2')
  have S4 := Lib.hid (fun w1 (hb : Below w.heap.size w w1) k (hk : k ≤ 50000) (hne : bad (ys.take k) ≠ k) => text_any A2 k cap2 (ys.take k) w1 _ ((hrb2.below hb (Nat.le_refl _)).take k) (by rw [List.length_take, hn2]; omega) (by omega) hcap2' false (by simp [hne]))
  have hx := hrb.byt
  have hy := hrb2.byt
  have M1 := Lib.hid (fun (h : bad xs = 50000) => (bad_join hx hy (by rw [hn]; exact h)).trans (by rw [hn]))
  have M2 := Lib.hid (bad_more hx hy)
  have M3 := Lib.hid (fun k m (h : nxt ys = (k, m)) (hm : 2 ≤ m) => cut_bad hy h hm)
  have M4 := Lib.hid (nxt_le hy)
  have M5 := bad_le hx
  have M6 := bad_le hy
  have M7 := Lib.hid (hx.append hy)
  have HN := Lib.hid hn
  have HN2 := Lib.hid hn2
  have L12 := Lib.hid (show (xs ++ ys).length = 50000 + 50000 by rw [List.length_append, hn, hn2])
  rw [hn] at M5; rw [hn2] at M6
  clear hn hn2
  have R1 := Lib.hid hrb; have R2 := Lib.hid hrb2; clear hrb hrb2 hx hy
  have own0 := World.ownsRow_lit (base := w.heap.size) (e := 5) (size := 1) w #[] 0 (Nat.le_refl _) (by unfold maxLen; omega) rfl
  have U1 := Lib.hid hcap'; have U2 := Lib.hid hcap2'
  unfold maxLen at hcap' hcap2'
  have Q1 : (50000 : Int) ≤ cap := by omega
  have Q2 : (50000 : Int) ≤ cap2 := by omega
  have ba : Below w.heap.size w (w.alloc (.cells #[] 5)) := (Below.refl _ _).alloc (Nat.le_refl _) _
  go_enter Try.func7, Try.ntmps7
  go_wp2_with (first
    | (at_builtin; refine app_rb _ rfl (.tmp 20) (.tmp 21) rfl w.heap.size _ 0 [] rfl own0 w.heap.size A 50000 cap xs rfl (R1.out.below ba (Nat.le_refl _)) HN.out (by omega) (by simp) ?_; intro v1 w1 hown1 hg1 hat1; have hb1 : Below w.heap.size w w1 := ba.grown hg1 (by simp) (fun k hk => (own0.lt k hk).1))
    | (at_builtin; refine app_rb w1 rfl (.tmp 22) (.tmp 23) rfl w.heap.size v1 (0 + 50000) ([] ++ xs.map (Value.int .u8)) rfl hown1 w.heap.size A2 50000 cap2 ys rfl (R2.out.below hb1 (Nat.le_refl _)) HN2.out (by omega) hb1.size ?_; intro v2 w2 hown2 hg2 hat2; have hb2 : Below w.heap.size w w2 := hb1.grown hg2 hb1.size (fun k hk => (hown1.lt k hk).1))
    | fail)
  simp only [List.nil_append, Nat.zero_add] at hown2
  have hown3 := own_app hown2
  obtain ⟨va, vc, rfl, hvc, hvc'⟩ := own_slice hown3
  have S5 := Lib.hid (bad_any va (50000 + 50000) vc (xs ++ ys) w2 _ (own_rb hown3 M7.out) L12.out hvc hvc')
  have T1 := Lib.hid (S1.out w2 hb2)
  have T2 := Lib.hid (S2.out w2 hb2)
  have T3 := Lib.hid (S3.out w2 hb2)
  have HB2 := Lib.hid hb2
  have hvs : 50000 + 50000 ≤ 9223372036854775807 := by omega
  clear hown3 hown2 hown1 own0 hg1 hg2 hat1 hat2 hb1 hb2 ba S1 S2 S3 R1 R2 hvc hvc'
  refine T1.out.mono ?_
  rintro e w3 ⟨rfl, rfl⟩
  go_wp2_with fail
  refine T2.out.mono ?_
  rintro e w3 ⟨rfl, rfl⟩
  generalize bad xs = bx at *
  generalize bad ys = byy at *
  generalize bad (xs ++ ys) = ball at *
  obtain ⟨⟨sg, m⟩, hp⟩ : ∃ p, nxt ys = p := ⟨_, rfl⟩
  have M8 := Lib.hid (M3.out sg m hp)
  rw [hp] at T3 M4
  have M4' : m ≤ 50000 := by have := M4.out; rw [HN2.out] at this; exact this
  clear hp M3 M4
  by_cases hfull : bx = 50000
  · have e1 := M1.out hfull
    have F1 : ((bx : Int) == (50000 : Int)) = true := by rw [beq_iff_eq]; omega
    have F2 : ((ball : Int) != (50000 : Int) + byy) = false := by rw [bne_eq_false_iff_eq]; omega
    have HF := Lib.hid hfull; have E1 := Lib.hid e1
    clear hfull e1 M1 M2
    go_wp2_with fail
    refine S5.out.mono ?_
    rintro e w3 ⟨rfl, rfl⟩
    go_wp2_with fail
    refine T3.out.mono ?_
    rintro e w3 ⟨rfl, rfl⟩
    go_wp2_with fail
    refine (known_any w2).mono ?_
    rintro e w3 ⟨rfl, hb3⟩
    have HB3 := Lib.hid (HB2.out.trans (hb3.mono HB2.out.size))
    clear hb3
    by_cases hm : m < 2
    · go_wp2_with fail
      go_ret
      exact ⟨rfl, HB3.out⟩
    · have T4 := Lib.hid (S4.out w3 HB3.out (m - 1) (by omega) (M8.out (by omega)))
      have hm1 : (m : Int) - 1 ≤ cap2 := by omega
      have hm2 : ¬ (m : Int) < 2 := by omega
      go_wp2_with fail
      refine T4.out.mono ?_
      rintro e w4 ⟨rfl, rfl⟩
      go_wp2_with fail
      go_ret
      exact ⟨rfl, HB3.out⟩
  · have e1 := M2.out
    have F1 : ((bx : Int) == (50000 : Int)) = false := by rw [beq_eq_false_iff_ne]; omega
    have F2 : ¬ (ball : Int) < bx := by omega
    have HF := Lib.hid hfull; have E1 := Lib.hid e1
    clear hfull e1 M1 M2
    go_wp2_with fail
    refine S5.out.mono ?_
    rintro e w3 ⟨rfl, rfl⟩
    go_wp2_with fail
    refine T3.out.mono ?_
    rintro e w3 ⟨rfl, rfl⟩
    go_wp2_with fail
    refine (known_any w2).mono ?_
    rintro e w3 ⟨rfl, hb3⟩
    have HB3 := Lib.hid (HB2.out.trans (hb3.mono HB2.out.size))
    clear hb3
    by_cases hm : m < 2
    · go_wp2_with fail
      go_ret
      exact ⟨rfl, HB3.out⟩
    · have T4 := Lib.hid (S4.out w3 HB3.out (m - 1) (by omega) (M8.out (by omega)))
      have hm1 : (m : Int) - 1 ≤ cap2 := by omega
      have hm2 : ¬ (m : Int) < 2 := by omega
      go_wp2_with fail
      refine T4.out.mono ?_
      rintro e w4 ⟨rfl, rfl⟩
      go_wp2_with fail
      go_ret
      exact ⟨rfl, HB3.out⟩

theorem utfJoins_walk (A : Option Addr) (n cap : Nat) (zs : List Int) (A2 : Option Addr) (n2 cap2 : Nat) (zs2 : List Int) (w : World) (hrow : Row .u8 w A n cap zs) (hrow2 : Row .u8 w A2 n2 cap2 zs2) :
    Calls Try.prog 7 #[.slice A n cap, .slice A2 n2 cap2] w fun e w' => e = .returned (.bool true) ∧ Below w.heap.size w w' := by
  obtain ⟨xs, hn, hcap, hcap', h⟩ := row_rb hrow
  obtain ⟨ys, hn2, hcap2, hcap2', h2⟩ := row_rb hrow2
  by_cases hl : n ≤ 50000
  · by_cases hl2 : n2 ≤ 50000
    · exact utfJoins_ss A A2 n cap n2 cap2 xs ys w hcap hcap' hl h hn hcap2 hcap2' hl2 h2 hn2
    · exact utfJoins_sl A A2 n cap n2 cap2 xs (ys.take 50000) w hcap hcap' hl h hn hcap2 hcap2' (by omega) (h2.take _) (by rw [List.length_take]; omega)
  · by_cases hl2 : n2 ≤ 50000
    · exact utfJoins_ls A A2 n cap n2 cap2 (xs.take 50000) ys w hcap hcap' (by omega) (h.take _) (by rw [List.length_take]; omega) hcap2 hcap2' hl2 h2 hn2
    · exact utfJoins_ll A A2 n cap n2 cap2 (xs.take 50000) (ys.take 50000) w hcap hcap' (by omega) (h.take _) (by rw [List.length_take]; omega) hcap2 hcap2' (by omega) (h2.take _) (by rw [List.length_take]; omega)
end Go.Proofs.Ytojggmncafjflaa.Utf
