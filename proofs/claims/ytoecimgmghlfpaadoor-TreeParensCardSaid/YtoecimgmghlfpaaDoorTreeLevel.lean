/-
  Layer 5 (tree): how strongly operators bind (Level), what stands in parentheses (Paren), how deep.
-/
import Derived.Test.YtoecimgmghlfpaaDoorChecked
import Derived.Test.YtoecimgmghlfpaaDoorTreeMem
import Derived.Outline
import Derived.WalkMore
import Derived.OneCell
import Derived.OwnWalk
namespace Go.Proofs.YtoecimgmghlfpaaDoor.Tree
open Go.ChangeShapes Go.WideShapes Go.ChangeAt Go.RowKit
set_option linter.unusedVariables false

-- BEGIN LEVEL
set_option maxHeartbeats 4000000 in
theorem level_any (s : ByteArray) (w : World) : Calls Tryd.prog 17 #[.string s] w fun e w' => e = .returned (.int .i64 (level s : Int)) ∧ w' = w := by
  have hl : level s = level s := rfl
  conv at hl => rhs; unfold level
  cases b0 : (s.toList == [124, 124]) with
  | true =>
    have hv : level s = 1 := by rw [hl]; simp [b0]
    rw [hv]; clear hv hl
    go_enter Tryd.func17, Tryd.ntmps17
    go_wp2
    go_ret
    exact ⟨rfl, rfl⟩
  | false =>
  cases b1 : (s.toList == [38, 38]) with
  | true =>
    have hv : level s = 2 := by rw [hl]; simp [b0, b1]
    rw [hv]; clear hv hl
    go_enter Tryd.func17, Tryd.ntmps17
    go_wp2
    go_ret
    exact ⟨rfl, rfl⟩
  | false =>
  cases b2 : (s.toList == [61, 61]) with
  | true =>
    have hv : level s = 3 := by rw [hl]; simp [b0, b1, b2]
    rw [hv]; clear hv hl
    go_enter Tryd.func17, Tryd.ntmps17
    go_wp2
    go_ret
    exact ⟨rfl, rfl⟩
  | false =>
  cases b3 : (s.toList == [33, 61]) with
  | true =>
    have hv : level s = 3 := by rw [hl]; simp [b0, b1, b2, b3]
    rw [hv]; clear hv hl
    go_enter Tryd.func17, Tryd.ntmps17
    go_wp2
    go_ret
    exact ⟨rfl, rfl⟩
  | false =>
  cases b4 : (s.toList == [60]) with
  | true =>
    have hv : level s = 3 := by rw [hl]; simp [b0, b1, b2, b3, b4]
    rw [hv]; clear hv hl
    go_enter Tryd.func17, Tryd.ntmps17
    go_wp2
    go_ret
    exact ⟨rfl, rfl⟩
  | false =>
  cases b5 : (s.toList == [60, 61]) with
  | true =>
    have hv : level s = 3 := by rw [hl]; simp [b0, b1, b2, b3, b4, b5]
    rw [hv]; clear hv hl
    go_enter Tryd.func17, Tryd.ntmps17
    go_wp2
    go_ret
    exact ⟨rfl, rfl⟩
  | false =>
  cases b6 : (s.toList == [62]) with
  | true =>
    have hv : level s = 3 := by rw [hl]; simp [b0, b1, b2, b3, b4, b5, b6]
    rw [hv]; clear hv hl
    go_enter Tryd.func17, Tryd.ntmps17
    go_wp2
    go_ret
    exact ⟨rfl, rfl⟩
  | false =>
  cases b7 : (s.toList == [62, 61]) with
  | true =>
    have hv : level s = 3 := by rw [hl]; simp [b0, b1, b2, b3, b4, b5, b6, b7]
    rw [hv]; clear hv hl
    go_enter Tryd.func17, Tryd.ntmps17
    go_wp2
    go_ret
    exact ⟨rfl, rfl⟩
  | false =>
  cases b8 : (s.toList == [43]) with
  | true =>
    have hv : level s = 4 := by rw [hl]; simp [b0, b1, b2, b3, b4, b5, b6, b7, b8]
    rw [hv]; clear hv hl
    go_enter Tryd.func17, Tryd.ntmps17
    go_wp2
    go_ret
    exact ⟨rfl, rfl⟩
  | false =>
  cases b9 : (s.toList == [45]) with
  | true =>
    have hv : level s = 4 := by rw [hl]; simp [b0, b1, b2, b3, b4, b5, b6, b7, b8, b9]
    rw [hv]; clear hv hl
    go_enter Tryd.func17, Tryd.ntmps17
    go_wp2
    go_ret
    exact ⟨rfl, rfl⟩
  | false =>
  cases b10 : (s.toList == [124]) with
  | true =>
    have hv : level s = 4 := by rw [hl]; simp [b0, b1, b2, b3, b4, b5, b6, b7, b8, b9, b10]
    rw [hv]; clear hv hl
    go_enter Tryd.func17, Tryd.ntmps17
    go_wp2
    go_ret
    exact ⟨rfl, rfl⟩
  | false =>
  cases b11 : (s.toList == [94]) with
  | true =>
    have hv : level s = 4 := by rw [hl]; simp [b0, b1, b2, b3, b4, b5, b6, b7, b8, b9, b10, b11]
    rw [hv]; clear hv hl
    go_enter Tryd.func17, Tryd.ntmps17
    go_wp2
    go_ret
    exact ⟨rfl, rfl⟩
  | false =>
  cases b12 : (s.toList == [42]) with
  | true =>
    have hv : level s = 5 := by rw [hl]; simp [b0, b1, b2, b3, b4, b5, b6, b7, b8, b9, b10, b11, b12]
    rw [hv]; clear hv hl
    go_enter Tryd.func17, Tryd.ntmps17
    go_wp2
    go_ret
    exact ⟨rfl, rfl⟩
  | false =>
  cases b13 : (s.toList == [47]) with
  | true =>
    have hv : level s = 5 := by rw [hl]; simp [b0, b1, b2, b3, b4, b5, b6, b7, b8, b9, b10, b11, b12, b13]
    rw [hv]; clear hv hl
    go_enter Tryd.func17, Tryd.ntmps17
    go_wp2
    go_ret
    exact ⟨rfl, rfl⟩
  | false =>
  cases b14 : (s.toList == [37]) with
  | true =>
    have hv : level s = 5 := by rw [hl]; simp [b0, b1, b2, b3, b4, b5, b6, b7, b8, b9, b10, b11, b12, b13, b14]
    rw [hv]; clear hv hl
    go_enter Tryd.func17, Tryd.ntmps17
    go_wp2
    go_ret
    exact ⟨rfl, rfl⟩
  | false =>
  cases b15 : (s.toList == [60, 60]) with
  | true =>
    have hv : level s = 5 := by rw [hl]; simp [b0, b1, b2, b3, b4, b5, b6, b7, b8, b9, b10, b11, b12, b13, b14, b15]
    rw [hv]; clear hv hl
    go_enter Tryd.func17, Tryd.ntmps17
    go_wp2
    go_ret
    exact ⟨rfl, rfl⟩
  | false =>
  cases b16 : (s.toList == [62, 62]) with
  | true =>
    have hv : level s = 5 := by rw [hl]; simp [b0, b1, b2, b3, b4, b5, b6, b7, b8, b9, b10, b11, b12, b13, b14, b15, b16]
    rw [hv]; clear hv hl
    go_enter Tryd.func17, Tryd.ntmps17
    go_wp2
    go_ret
    exact ⟨rfl, rfl⟩
  | false =>
  cases b17 : (s.toList == [38]) with
  | true =>
    have hv : level s = 5 := by rw [hl]; simp [b0, b1, b2, b3, b4, b5, b6, b7, b8, b9, b10, b11, b12, b13, b14, b15, b16, b17]
    rw [hv]; clear hv hl
    go_enter Tryd.func17, Tryd.ntmps17
    go_wp2
    go_ret
    exact ⟨rfl, rfl⟩
  | false =>
  cases b18 : (s.toList == [38, 94]) with
  | true =>
    have hv : level s = 5 := by rw [hl]; simp [b0, b1, b2, b3, b4, b5, b6, b7, b8, b9, b10, b11, b12, b13, b14, b15, b16, b17, b18]
    rw [hv]; clear hv hl
    go_enter Tryd.func17, Tryd.ntmps17
    go_wp2
    go_ret
    exact ⟨rfl, rfl⟩
  | false =>
  have hv : level s = 0 := by rw [hl]; simp [b0, b1, b2, b3, b4, b5, b6, b7, b8, b9, b10, b11, b12, b13, b14, b15, b16, b17, b18]
  rw [hv]; clear hv hl
  go_enter Tryd.func17, Tryd.ntmps17
  go_wp2
  go_ret
  exact ⟨rfl, rfl⟩
-- END LEVEL
end Go.Proofs.YtoecimgmghlfpaaDoor.Tree
