/-
  Layer 8 (layout): a text's width, the program's and the document's; how wide a piece is flat.
-/
import Derived.Test.YtpankfbdlakmcaaChecked
import Derived.Test.YtpankfbdlakmcaaLayMath
import Derived.WalkKit
import Derived.ProofKit
import Derived.OpenShut
import Derived.Below
import Derived.Lib.Hide
import Derived.Deep.QuietTactic
import Derived.BigQuiet
namespace Go.Proofs.Ytpankfbdlakmcaa.Doc
open Go.ChangeShapes Go.WideShapes Go.ChangeAt Go.RowKit
set_option linter.unusedVariables false

def bAt (s : ByteArray) (i : Nat) : Nat := (s.data.toList.getD i 0).toNat
theorem bAt_lt (s : ByteArray) (i : Nat) : bAt s i < 256 := by
  have := (s.data.toList.getD i 0).toNat_lt
  unfold bAt; omega
theorem idx_str {P : Program} (t : TypeId) (ht : P.underlying t = some .string) (s : ByteArray) {i : Nat} (hi : i < s.size) (W : World) :
    (Instr.index t (.string s) (.int .i64 (i : Int))).run P W = .ok (.int .u8 (bAt s i : Int)) W := by
  rw [run_index_string W t _ _ _ ht, dif_pos ⟨by omega, by omega⟩]
  have hl : i < s.data.toList.length := by rw [Array.length_toList]; exact hi
  have e : s.data.toList.getD i 0 = s.data[i]'(hi) := by
    simp only [List.getD, List.getElem?_eq_getElem hl, Option.getD_some, Array.getElem_toList]
  unfold bAt
  rw [e]
  rfl
theorem wd_step (s : ByteArray) {i : Nat} (hi : i < s.size) : wdL (s.data.toList.take (i + 1)) = wdL (s.data.toList.take i) + (if bAt s i < 128 ∨ 191 < bAt s i then 1 else 0) := by
  have hl : i < s.data.toList.length := by rw [Array.length_toList]; exact hi
  have e : s.data.toList[i]? = some (s.data.toList.getD i 0) := by simp [List.getD, List.getElem?_eq_getElem hl]
  rw [List.take_add_one, e, wdL_app]
  congr 1
  unfold bAt
  generalize s.data.toList.getD i 0 = b
  unfold wdL wide
  simp only [Option.toList_some, List.countP_cons, List.countP_nil, Bool.or_eq_true, decide_eq_true_eq, Nat.zero_add]
theorem wd_all (s : ByteArray) : wdL (s.data.toList.take s.size) = wd s := by
  have : s.size = s.data.toList.length := by rw [Array.length_toList]; rfl
  rw [this, List.take_length]; rfl

set_option maxRecDepth 100000 in
theorem width_any (s : ByteArray) (hs : s.size ≤ 4611686018427387904) (w : World) : Calls Try.prog 15 #[.string s] w fun e w' => e = .returned (.int .i64 (wd s : Int)) ∧ w = w' := by
  have HIX : Hid (∀ i, i < s.size → ∀ W : World, (Instr.index 9 (.string s) (.int .i64 (i : Int))).run Try.prog W = .ok (.int .u8 (bAt s i : Int)) W) := fun i hi W => idx_str 9 Try.underlying9 s hi W
  have HS := Lib.hid hs
  obtain ⟨n, hn⟩ : ∃ n, s.size = n := ⟨_, rfl⟩
  have HW : Hid (wdL (s.data.toList.take n) = wd s) := by show _ = _; rw [← hn]; exact wd_all s
  have HST : Hid (∀ i, i < n → wdL (s.data.toList.take (i + 1)) = wdL (s.data.toList.take i) + (if bAt s i < 128 ∨ 191 < bAt s i then 1 else 0)) := fun i hi => wd_step s (by omega)
  have HLE : Hid (∀ i, wdL (s.data.toList.take i) ≤ i) := fun i => Nat.le_trans (wdL_le _) (by simp; omega)
  rw [hn] at HIX hs
  clear HS
  go_enter Try.func15, Try.ntmps15
  go_wp2
  go_loopw [3, 7] (fun s3 s7 wr => ∃ i : Nat, i ≤ n ∧ s7 = .int .i64 (i : Int) ∧ s3 = .int .i64 (wdL (s.data.toList.take i) : Int) ∧ wr = w) (fun _ s7 _ => n - (intOf s7).toNat)
  case atStart => exact ⟨0, Nat.zero_le _, rfl, rfl, rfl⟩
  case round =>
    obtain ⟨i, hi, rfl, rfl, rfl⟩ := hrel
    by_cases hlt : i < n
    · have hix := HIX.out i hlt
      have hst := HST.out i hlt
      have hle := HLE.out i
      have hlt1 : (i : Int) < (n : Int) := by omega
      have hb := bAt_lt s i
      obtain ⟨c, hc⟩ : ∃ c, wdL (s.data.toList.take i) = c := ⟨_, rfl⟩
      obtain ⟨b, hbe⟩ : ∃ b, bAt s i = b := ⟨_, rfl⟩
      rw [hc] at hst hle ⊢
      rw [hbe] at hst hix hb
      have hw1 : IntKind.i64.wrap ((i : Int) + 1) = (i : Int) + 1 := by rw [IntKind.wrap_i64]; omega
      have hw2 : IntKind.i64.wrap ((c : Int) + 1) = (c : Int) + 1 := by rw [IntKind.wrap_i64]; omega
      by_cases h1 : b < 128
      · have h1' : (b : Int) < 128 := by omega
        rw [if_pos (.inl h1)] at hst
        have HST2 := Lib.hid hst
        clear hst hc hbe
        go_wp2
        go_roundw
        case rel => exact ⟨i + 1, by omega, by go_num, by rw [HST2.out]; go_num, trivial⟩
        case measure => simp [intOf]; omega
      · have h1' : ¬ (b : Int) < 128 := by omega
        by_cases h2 : 191 < b
        · have h2' : (191 : Int) < (b : Int) := by omega
          rw [if_pos (.inr h2)] at hst
          have HST2 := Lib.hid hst
          clear hst hc hbe
          go_wp2
          go_roundw
          case rel => exact ⟨i + 1, by omega, by go_num, by rw [HST2.out]; go_num, trivial⟩
          case measure => simp [intOf]; omega
        · have h2' : ¬ (191 : Int) < (b : Int) := by omega
          rw [if_neg (by omega)] at hst
          have HST2 := Lib.hid hst
          clear hst hc hbe
          go_wp2
          go_roundw
          case rel => exact ⟨i + 1, by omega, by go_num, by rw [HST2.out]; rfl, trivial⟩
          case measure => simp [intOf]; omega
    · obtain rfl : i = n := by omega
      have hlt1 : ¬ (i : Int) < (i : Int) := by omega
      rw [HW.out]
      go_wp2
      go_ret
      exact ⟨rfl, rfl⟩
set_option maxRecDepth 100000 in
theorem refWidth_any (s : ByteArray) (hs : s.size ≤ 4611686018427387904) (w : World) : Calls Try.prog 16 #[.string s] w fun e w' => e = .returned (.int .i64 (wd s : Int)) ∧ w = w' := by
  have HIX : Hid (∀ i, i < s.size → ∀ W : World, (Instr.index 9 (.string s) (.int .i64 (i : Int))).run Try.prog W = .ok (.int .u8 (bAt s i : Int)) W) := fun i hi W => idx_str 9 Try.underlying9 s hi W
  have HS := Lib.hid hs
  obtain ⟨n, hn⟩ : ∃ n, s.size = n := ⟨_, rfl⟩
  have HW : Hid (wdL (s.data.toList.take n) = wd s) := by show _ = _; rw [← hn]; exact wd_all s
  have HST : Hid (∀ i, i < n → wdL (s.data.toList.take (i + 1)) = wdL (s.data.toList.take i) + (if bAt s i < 128 ∨ 191 < bAt s i then 1 else 0)) := fun i hi => wd_step s (by omega)
  have HLE : Hid (∀ i, wdL (s.data.toList.take i) ≤ i) := fun i => Nat.le_trans (wdL_le _) (by simp; omega)
  rw [hn] at HIX hs
  clear HS
  go_enter Try.func16, Try.ntmps16
  go_wp2
  go_loopw [3, 4] (fun s3 s4 wr => ∃ i : Nat, i ≤ n ∧ s4 = .int .i64 (i : Int) ∧ s3 = .int .i64 (wdL (s.data.toList.take i) : Int) ∧ wr = w) (fun _ s4 _ => n - (intOf s4).toNat)
  case atStart => exact ⟨0, Nat.zero_le _, rfl, rfl, rfl⟩
  case round =>
    obtain ⟨i, hi, rfl, rfl, rfl⟩ := hrel
    by_cases hlt : i < n
    · have hix := HIX.out i hlt
      have hst := HST.out i hlt
      have hle := HLE.out i
      have hlt1 : (i : Int) < (n : Int) := by omega
      have hb := bAt_lt s i
      obtain ⟨c, hc⟩ : ∃ c, wdL (s.data.toList.take i) = c := ⟨_, rfl⟩
      obtain ⟨b, hbe⟩ : ∃ b, bAt s i = b := ⟨_, rfl⟩
      rw [hc] at hst hle ⊢
      rw [hbe] at hst hix hb
      have hw1 : IntKind.i64.wrap ((i : Int) + 1) = (i : Int) + 1 := by rw [IntKind.wrap_i64]; omega
      have hw2 : IntKind.i64.wrap ((c : Int) + 1) = (c : Int) + 1 := by rw [IntKind.wrap_i64]; omega
      by_cases h1 : b < 128
      · have h1' : (b : Int) < 128 := by omega
        rw [if_pos (.inl h1)] at hst
        have HST2 := Lib.hid hst
        clear hst hc hbe
        go_wp2
        go_roundw
        case rel => exact ⟨i + 1, by omega, by go_num, by rw [HST2.out]; go_num, trivial⟩
        case measure => simp [intOf]; omega
      · have h1' : ¬ (b : Int) < 128 := by omega
        by_cases h2 : 191 < b
        · have h2' : (191 : Int) < (b : Int) := by omega
          rw [if_pos (.inr h2)] at hst
          have HST2 := Lib.hid hst
          clear hst hc hbe
          go_wp2
          go_roundw
          case rel => exact ⟨i + 1, by omega, by go_num, by rw [HST2.out]; go_num, trivial⟩
          case measure => simp [intOf]; omega
        · have h2' : ¬ (191 : Int) < (b : Int) := by omega
          rw [if_neg (by omega)] at hst
          have HST2 := Lib.hid hst
          clear hst hc hbe
          go_wp2
          go_roundw
          case rel => exact ⟨i + 1, by omega, by go_num, by rw [HST2.out]; rfl, trivial⟩
          case measure => simp [intOf]; omega
    · obtain rfl : i = n := by omega
      have hlt1 : ¬ (i : Int) < (i : Int) := by omega
      rw [HW.out]
      go_wp2
      go_ret
      exact ⟨rfl, rfl⟩
end Go.Proofs.Ytpankfbdlakmcaa.Doc
