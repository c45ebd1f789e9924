/-
  Layer 5 (tree): slices.Contains of texts and of numbers.
-/
import Derived.Test.YtoecimgmghlfpaaDoorTreeTests
import Derived.Deep.QuietTactic
import Derived.BigQuiet
namespace Go.Proofs.YtoecimgmghlfpaaDoor.Tree
open Go.ChangeShapes Go.WideShapes Go.ChangeAt Go.RowKit
set_option linter.unusedVariables false

theorem any_step {α : Type} {p : α → Bool} {l : List α} {k : Nat} {u : α} (hu : l[k]? = some u) (h : (l.take k).any p = false) (hp : p u = false) : (l.take (k + 1)).any p = false := by
  rw [List.take_add_one, hu, List.any_append, h]
  simp [hp]
theorem any_hit {α : Type} {p : α → Bool} {l : List α} {k : Nat} {u : α} (hu : l[k]? = some u) (hp : p u = true) : l.any p = true :=
  List.any_eq_true.2 ⟨u, List.mem_of_getElem? hu, hp⟩
theorem any_end {α : Type} {p : α → Bool} {l : List α} {n : Nat} (hn : l.length ≤ n) (h : (l.take n).any p = false) : l.any p = false := by
  rwa [List.take_of_length_le hn] at h

set_option maxHeartbeats 4000000 in
theorem indexS (x : ByteArray) (b n C : Nat) (l : List ByteArray) (w : World) (hl : l.length = n) (hn : n ≤ 1000000) (hc : ∀ i u, l[i]? = some u → w.cell? ⟨b, i, none⟩ = some (.string u)) :
    Calls Tryd.prog 54 #[.slice (some ⟨b, 0, none⟩) n C, .string x] w fun e w' => (∃ r : Int, e = .returned (.int .i64 r) ∧ decide (0 ≤ r) = l.any (fun u : ByteArray => x.toList == u.toList)) ∧ w' = w := by
  have Hl := Lib.hid hl; have Hc := Lib.hid hc
  clear hl hc
  go_enter Tryd.func54, Tryd.ntmps54
  go_wp2
  go_loop [8] (fun i => ∃ k : Nat, k ≤ n ∧ i = .int .i64 k ∧ Hid ((l.take k).any (fun u : ByteArray => x.toList == u.toList) = false)) (fun i => n - (intOf i).toNat)
  case atStart => exact ⟨0, Nat.zero_le _, rfl, by show _ = _; simp⟩
  case round =>
    obtain ⟨k, hk, rfl, hno⟩ := hrel
    by_cases hlt : k < n
    · obtain ⟨u, hu⟩ : ∃ u, l[k]? = some u := ⟨_, List.getElem?_eq_getElem (by rw [Hl.out]; exact hlt)⟩
      have hcell := Hc.out k u hu
      have hlt' : (k : Int) < (n : Int) := by omega
      have hk0 : (0 : Int) ≤ (k : Int) := by omega
      cases hx : (x.toList == u.toList) with
      | true =>
        have HH := Lib.hid (any_hit (p := fun u : ByteArray => x.toList == u.toList) hu hx)
        clear hu
        go_wp2
        go_ret
        exact ⟨⟨_, rfl, by rw [HH.out]; exact decide_eq_true (by omega)⟩, rfl⟩
      | false =>
        have HH := Lib.hid (any_step (p := fun u : ByteArray => x.toList == u.toList) hu hno.out hx)
        clear hu hno
        go_wp2
        go_round
        case rel => exact ⟨k + 1, by omega, by go_num, HH.out⟩
        case measure => simp [intOf]; omega
    · have hn' : ¬ (k : Int) < (n : Int) := by omega
      obtain rfl : k = n := by omega
      have HH := Lib.hid (any_end (by rw [Hl.out]; exact Nat.le_refl _) hno.out)
      clear hno
      go_wp2
      go_ret
      exact ⟨⟨_, rfl, by rw [HH.out]; rfl⟩, rfl⟩
theorem containsS (x : ByteArray) (b n C : Nat) (l : List ByteArray) (w : World) (hl : l.length = n) (hn : n ≤ 1000000) (hc : ∀ i u, l[i]? = some u → w.cell? ⟨b, i, none⟩ = some (.string u)) :
    Calls Tryd.prog 40 #[.slice (some ⟨b, 0, none⟩) n C, .string x] w fun e w' => e = .returned (.bool (l.any (fun u : ByteArray => x.toList == u.toList))) ∧ w' = w := by
  have HX := Lib.hid (indexS x b n C l w hl hn hc)
  generalize l.any (fun u : ByteArray => x.toList == u.toList) = bb at *
  clear hl hc
  go_enter Tryd.func40, Tryd.ntmps40
  go_wp2_with fail
  refine HX.out.mono ?_
  rintro e w' ⟨⟨r, rfl, hr⟩, rfl⟩
  have Hr := Lib.hid hr
  clear hr
  go_wp2
  go_ret
  exact ⟨by rw [← Hr.out]; rfl, rfl⟩

set_option maxHeartbeats 4000000 in
theorem indexI (x : Int) (b n C : Nat) (l : List Int) (w : World) (hl : l.length = n) (hn : n ≤ 1000000) (hc : ∀ i u, l[i]? = some u → w.cell? ⟨b, i, none⟩ = some (.int .i64 u)) :
    Calls Tryd.prog 63 #[.slice (some ⟨b, 0, none⟩) n C, .int .i64 x] w fun e w' => (∃ r : Int, e = .returned (.int .i64 r) ∧ decide (0 ≤ r) = l.any (fun u : Int => x == u)) ∧ w' = w := by
  have Hl := Lib.hid hl; have Hc := Lib.hid hc
  clear hl hc
  go_enter Tryd.func63, Tryd.ntmps63
  go_wp2
  go_loop [8] (fun i => ∃ k : Nat, k ≤ n ∧ i = .int .i64 k ∧ Hid ((l.take k).any (fun u : Int => x == u) = false)) (fun i => n - (intOf i).toNat)
  case atStart => exact ⟨0, Nat.zero_le _, rfl, by show _ = _; simp⟩
  case round =>
    obtain ⟨k, hk, rfl, hno⟩ := hrel
    by_cases hlt : k < n
    · obtain ⟨u, hu⟩ : ∃ u, l[k]? = some u := ⟨_, List.getElem?_eq_getElem (by rw [Hl.out]; exact hlt)⟩
      have hcell := Hc.out k u hu
      have hlt' : (k : Int) < (n : Int) := by omega
      have hk0 : (0 : Int) ≤ (k : Int) := by omega
      cases hx : (x == u) with
      | true =>
        have HH := Lib.hid (any_hit (p := fun u : Int => x == u) hu hx)
        clear hu
        go_wp2
        go_ret
        exact ⟨⟨_, rfl, by rw [HH.out]; exact decide_eq_true (by omega)⟩, rfl⟩
      | false =>
        have HH := Lib.hid (any_step (p := fun u : Int => x == u) hu hno.out hx)
        clear hu hno
        go_wp2
        go_round
        case rel => exact ⟨k + 1, by omega, by go_num, HH.out⟩
        case measure => simp [intOf]; omega
    · have hn' : ¬ (k : Int) < (n : Int) := by omega
      obtain rfl : k = n := by omega
      have HH := Lib.hid (any_end (by rw [Hl.out]; exact Nat.le_refl _) hno.out)
      clear hno
      go_wp2
      go_ret
      exact ⟨⟨_, rfl, by rw [HH.out]; rfl⟩, rfl⟩
theorem containsI (x : Int) (b n C : Nat) (l : List Int) (w : World) (hl : l.length = n) (hn : n ≤ 1000000) (hc : ∀ i u, l[i]? = some u → w.cell? ⟨b, i, none⟩ = some (.int .i64 u)) :
    Calls Tryd.prog 56 #[.slice (some ⟨b, 0, none⟩) n C, .int .i64 x] w fun e w' => e = .returned (.bool (l.any (fun u : Int => x == u))) ∧ w' = w := by
  have HX := Lib.hid (indexI x b n C l w hl hn hc)
  generalize l.any (fun u : Int => x == u) = bb at *
  clear hl hc
  go_enter Tryd.func56, Tryd.ntmps56
  go_wp2_with fail
  refine HX.out.mono ?_
  rintro e w' ⟨⟨r, rfl, hr⟩, rfl⟩
  have Hr := Lib.hid hr
  clear hr
  go_wp2
  go_ret
  exact ⟨by rw [← Hr.out]; rfl, rfl⟩

end Go.Proofs.YtoecimgmghlfpaaDoor.Tree
