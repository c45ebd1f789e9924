/-
  Layer 3 (rank): the law on the order of numbers: the walk.
-/
import Derived.Test.YtakgkfdbgjljkaaRankKnown
namespace Go.Proofs.Ytakgkfdbgjljkaa.Rank
open Go.ChangeShapes Go.WideShapes Go.ChangeAt Go.RowKit MemC
set_option linter.unusedVariables false

set_option maxRecDepth 100000 in
set_option maxHeartbeats 2000000 in
theorem rankInts_core (A : Option Addr) (n cap m : Nat) (xs : List Int) (w : World) (hm : m = min n 300) (hx : xs.length = m) (hcap : n ≤ cap) (hcap' : cap ≤ maxLen) (h : RI w w.heap.size A xs) :
    Calls Try.prog 3 #[.slice A n cap] w (True1 w) := by
  obtain ⟨i0, hi0, hz0, hz1, hz2⟩ := info_parts int_info
  have H := Lib.hid h
  have H0 := Lib.hid (h.below ((Below.refl _ _).alloc (Nat.le_refl _) (.cells #[] 3)) (Nat.le_refl _))
  have Hn := Lib.hid hx
  unfold maxLen at hcap'
  clear h hx
  by_cases hl : n ≤ 300
  · obtain rfl : n = m := by omega
    have hl' : ¬ (300 : Int) < (n : Int) := by omega
    clear hm
    go_enter Try.func3, Try.ntmps3
    go_wp2_with (at_builtin; refine app_all _ rfl (.tmp 9) (.tmp 10) rfl Try.underlying22 hi0 hz0 hz1 hz2 rfl w.heap.size _ 0 [] rfl (own_zero w 3) (Value.int .i64) 0 (fun _ => rfl) w.heap.size A n cap xs rfl H0.out Hn.out (by unfold maxLen; omega) (by omega) (by simp) ?_; intro v1 w1 hown1 hg1 hat1; have hb1 : Below w.heap.size w w1 := ((Below.refl _ _).alloc (Nat.le_refl _) _).grown hg1 (by simp) (fun q hq => ((own_zero w 3).lt q hq).1); simp only [Nat.zero_add, List.nil_append] at hown1; obtain ⟨a1, p1, rfl, _, _⟩ := own_slice hown1; have R1 := Lib.hid (own_rc (d := 0) hown1); have B1 := Lib.hid hb1; clear hg1 hat1 hown1 hb1)
    refine (known_any w1).mono ?_
    rintro e w2 ⟨rfl, hb⟩
    have B2 := Lib.hid (below_next B1.out hb)
    have S2 := Lib.hid (R1.out.below hb (Nat.le_refl _))
    have Z2 := Lib.hid hb.size
    clear hb
    go_wp2_with fail
    refine (ints_any A n cap xs w2 ((H.out.below B2.out (Nat.le_refl _)).more B2.out.size) Hn.out (by omega)).mono ?_
    rintro e w3 ⟨v3, rfl, hb3, ho3⟩
    obtain ⟨a3, c3, rfl, _, _⟩ := own_slice ho3
    have R3 := Lib.hid (by_reads rfl ho3)
    have B3 := Lib.hid (below_next B2.out hb3)
    have S3 := Lib.hid (S2.out.below hb3 Z2.out)
    have Z3 := Lib.hid (Nat.le_trans Z2.out hb3.size)
    clear hb3 ho3 S2 Z2
    go_wp2_with fail
    refine (refI_any a1 n p1 xs w3 (S3.out.more Z3.out) Hn.out (by omega)).mono ?_
    rintro e w4 ⟨v4, rfl, hb4, ho4⟩
    obtain ⟨a4, c4, rfl, _, _⟩ := own_slice ho4
    have R4 := Lib.hid (by_reads rfl ho4)
    have B4 := Lib.hid (below_next B3.out hb4)
    have S4 := Lib.hid (S3.out.below hb4 Z3.out)
    have Y4 := Lib.hid (Nat.le_trans Z3.out hb4.size)
    have Q3 := Lib.hid (R3.out.below hb4 (Nat.le_refl _))
    clear hb4 ho4 S3 Z3 R3
    go_wp2_with fail
    refine (same_b _ _ n _ _ _ w4 _ _ Q3.out R4.out (by rw [ints_len]; exact ordN_len (ltI_wo xs) n) (by omega)).mono ?_
    rintro e w5 ⟨rfl, hb5⟩
    have B5 := Lib.hid (below_next B4.out hb5)
    have S5 := Lib.hid (S4.out.below hb5 Y4.out)
    clear hb5 S4 Q3 R4
    go_wp2_with fail
    refine (same_b A a1 n cap p1 xs w5 _ _ (H.out.below B5.out (Nat.le_refl _)) S5.out Hn.out (by omega)).mono ?_
    rintro e w6 ⟨rfl, hb6⟩
    have B6 := Lib.hid (below_next B5.out hb6)
    clear hb6
    go_wp2_with fail
    go_ret
    exact ⟨rfl, B6.out⟩
  · obtain rfl : m = 300 := by omega
    have hl' : (300 : Int) < (n : Int) := by omega
    have hcl : (300 : Int) ≤ (cap : Int) := by omega
    clear hm
    go_enter Try.func3, Try.ntmps3
    go_wp2_with (at_builtin; refine app_all _ rfl (.tmp 9) (.tmp 10) rfl Try.underlying22 hi0 hz0 hz1 hz2 rfl w.heap.size _ 0 [] rfl (own_zero w 3) (Value.int .i64) 0 (fun _ => rfl) w.heap.size A 300 cap xs rfl H0.out Hn.out (by unfold maxLen; omega) (by omega) (by simp) ?_; intro v1 w1 hown1 hg1 hat1; have hb1 : Below w.heap.size w w1 := ((Below.refl _ _).alloc (Nat.le_refl _) _).grown hg1 (by simp) (fun q hq => ((own_zero w 3).lt q hq).1); simp only [Nat.zero_add, List.nil_append] at hown1; obtain ⟨a1, p1, rfl, _, _⟩ := own_slice hown1; have R1 := Lib.hid (own_rc (d := 0) hown1); have B1 := Lib.hid hb1; clear hg1 hat1 hown1 hb1)
    refine (known_any w1).mono ?_
    rintro e w2 ⟨rfl, hb⟩
    have B2 := Lib.hid (below_next B1.out hb)
    have S2 := Lib.hid (R1.out.below hb (Nat.le_refl _))
    have Z2 := Lib.hid hb.size
    clear hb
    go_wp2_with fail
    refine (ints_any A 300 cap xs w2 ((H.out.below B2.out (Nat.le_refl _)).more B2.out.size) Hn.out (by omega)).mono ?_
    rintro e w3 ⟨v3, rfl, hb3, ho3⟩
    obtain ⟨a3, c3, rfl, _, _⟩ := own_slice ho3
    have R3 := Lib.hid (by_reads rfl ho3)
    have B3 := Lib.hid (below_next B2.out hb3)
    have S3 := Lib.hid (S2.out.below hb3 Z2.out)
    have Z3 := Lib.hid (Nat.le_trans Z2.out hb3.size)
    clear hb3 ho3 S2 Z2
    go_wp2_with fail
    refine (refI_any a1 300 p1 xs w3 (S3.out.more Z3.out) Hn.out (by omega)).mono ?_
    rintro e w4 ⟨v4, rfl, hb4, ho4⟩
    obtain ⟨a4, c4, rfl, _, _⟩ := own_slice ho4
    have R4 := Lib.hid (by_reads rfl ho4)
    have B4 := Lib.hid (below_next B3.out hb4)
    have S4 := Lib.hid (S3.out.below hb4 Z3.out)
    have Y4 := Lib.hid (Nat.le_trans Z3.out hb4.size)
    have Q3 := Lib.hid (R3.out.below hb4 (Nat.le_refl _))
    clear hb4 ho4 S3 Z3 R3
    go_wp2_with fail
    refine (same_b _ _ 300 _ _ _ w4 _ _ Q3.out R4.out (by rw [ints_len]; exact ordN_len (ltI_wo xs) 300) (by omega)).mono ?_
    rintro e w5 ⟨rfl, hb5⟩
    have B5 := Lib.hid (below_next B4.out hb5)
    have S5 := Lib.hid (S4.out.below hb5 Y4.out)
    clear hb5 S4 Q3 R4
    go_wp2_with fail
    refine (same_b A a1 300 cap p1 xs w5 _ _ (H.out.below B5.out (Nat.le_refl _)) S5.out Hn.out (by omega)).mono ?_
    rintro e w6 ⟨rfl, hb6⟩
    have B6 := Lib.hid (below_next B5.out hb6)
    clear hb6
    go_wp2_with fail
    go_ret
    exact ⟨rfl, B6.out⟩

theorem rankInts_walk (A : Option Addr) (n cap : Nat) (zs : List Int) (w : World) (hrow : Row .i64 w A n cap zs) :
    Calls Try.prog 3 #[.slice A n cap] w fun e w' => e = .returned (.bool true) ∧ Below w.heap.size w w' := by
  obtain ⟨xs, hx, hcap, hcap', h, _⟩ := row_ri hrow
  exact rankInts_core A n cap (min n 300) (xs.take 300) w rfl (by rw [List.length_take, hx, Nat.min_comm]) hcap hcap' (h.take 300)
end Go.Proofs.Ytakgkfdbgjljkaa.Rank
