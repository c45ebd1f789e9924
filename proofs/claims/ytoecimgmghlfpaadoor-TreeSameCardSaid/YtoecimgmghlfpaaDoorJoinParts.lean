import Derived.Test.YtoecimgmghlfpaaDoorChecked
import Derived.Test.YtoecimgmghlfpaaDoorTreeMem
import Derived.Outline
import Derived.WalkMore
import Derived.OneCell
import Derived.OwnWalk
import Derived.Deep.QuietTactic
import Derived.BigQuiet
import Derived.Test.YtoecimgmghlfpaaDoorMemRel
import Derived.Shelf.Abstract

/-
  Layer 5 (tree): how strongly operators bind (Level), what stands in parentheses (Paren), how deep.
-/
namespace Go.Proofs.YtoecimgmghlfpaaDoor.Tree
open Go.ChangeShapes Go.WideShapes Go.ChangeAt Go.RowKit
set_option linter.unusedVariables false

-- BEGIN LEVEL
set_option maxHeartbeats 4000000 in
theorem level_any (s : ByteArray) (w : World) : Calls Tryd.prog 17 #[.string s] w fun e w' => e = .returned (.int .i64 (level s : Int)) ∧ w' = w := by
  have hl : level s = level s := rfl
  conv at hl => rhs; unfold level
  cases b0 : (s.toList == [124, 124]) with
  | true =>
    have hv : level s = 1 := by rw [hl]; simp [b0]
    rw [hv]; clear hv hl
    go_enter Tryd.func17, Tryd.ntmps17
    go_wp2
    go_ret
    exact ⟨rfl, rfl⟩
  | false =>
  cases b1 : (s.toList == [38, 38]) with
  | true =>
    have hv : level s = 2 := by rw [hl]; simp [b0, b1]
    rw [hv]; clear hv hl
    go_enter Tryd.func17, Tryd.ntmps17
    go_wp2
    go_ret
    exact ⟨rfl, rfl⟩
  | false =>
  cases b2 : (s.toList == [61, 61]) with
  | true =>
    have hv : level s = 3 := by rw [hl]; simp [b0, b1, b2]
    rw [hv]; clear hv hl
    go_enter Tryd.func17, Tryd.ntmps17
    go_wp2
    go_ret
    exact ⟨rfl, rfl⟩
  | false =>
  cases b3 : (s.toList == [33, 61]) with
  | true =>
    have hv : level s = 3 := by rw [hl]; simp [b0, b1, b2, b3]
    rw [hv]; clear hv hl
    go_enter Tryd.func17, Tryd.ntmps17
    go_wp2
    go_ret
    exact ⟨rfl, rfl⟩
  | false =>
  cases b4 : (s.toList == [60]) with
  | true =>
    have hv : level s = 3 := by rw [hl]; simp [b0, b1, b2, b3, b4]
    rw [hv]; clear hv hl
    go_enter Tryd.func17, Tryd.ntmps17
    go_wp2
    go_ret
    exact ⟨rfl, rfl⟩
  | false =>
  cases b5 : (s.toList == [60, 61]) with
  | true =>
    have hv : level s = 3 := by rw [hl]; simp [b0, b1, b2, b3, b4, b5]
    rw [hv]; clear hv hl
    go_enter Tryd.func17, Tryd.ntmps17
    go_wp2
    go_ret
    exact ⟨rfl, rfl⟩
  | false =>
  cases b6 : (s.toList == [62]) with
  | true =>
    have hv : level s = 3 := by rw [hl]; simp [b0, b1, b2, b3, b4, b5, b6]
    rw [hv]; clear hv hl
    go_enter Tryd.func17, Tryd.ntmps17
    go_wp2
    go_ret
    exact ⟨rfl, rfl⟩
  | false =>
  cases b7 : (s.toList == [62, 61]) with
  | true =>
    have hv : level s = 3 := by rw [hl]; simp [b0, b1, b2, b3, b4, b5, b6, b7]
    rw [hv]; clear hv hl
    go_enter Tryd.func17, Tryd.ntmps17
    go_wp2
    go_ret
    exact ⟨rfl, rfl⟩
  | false =>
  cases b8 : (s.toList == [43]) with
  | true =>
    have hv : level s = 4 := by rw [hl]; simp [b0, b1, b2, b3, b4, b5, b6, b7, b8]
    rw [hv]; clear hv hl
    go_enter Tryd.func17, Tryd.ntmps17
    go_wp2
    go_ret
    exact ⟨rfl, rfl⟩
  | false =>
  cases b9 : (s.toList == [45]) with
  | true =>
    have hv : level s = 4 := by rw [hl]; simp [b0, b1, b2, b3, b4, b5, b6, b7, b8, b9]
    rw [hv]; clear hv hl
    go_enter Tryd.func17, Tryd.ntmps17
    go_wp2
    go_ret
    exact ⟨rfl, rfl⟩
  | false =>
  cases b10 : (s.toList == [124]) with
  | true =>
    have hv : level s = 4 := by rw [hl]; simp [b0, b1, b2, b3, b4, b5, b6, b7, b8, b9, b10]
    rw [hv]; clear hv hl
    go_enter Tryd.func17, Tryd.ntmps17
    go_wp2
    go_ret
    exact ⟨rfl, rfl⟩
  | false =>
  cases b11 : (s.toList == [94]) with
  | true =>
    have hv : level s = 4 := by rw [hl]; simp [b0, b1, b2, b3, b4, b5, b6, b7, b8, b9, b10, b11]
    rw [hv]; clear hv hl
    go_enter Tryd.func17, Tryd.ntmps17
    go_wp2
    go_ret
    exact ⟨rfl, rfl⟩
  | false =>
  cases b12 : (s.toList == [42]) with
  | true =>
    have hv : level s = 5 := by rw [hl]; simp [b0, b1, b2, b3, b4, b5, b6, b7, b8, b9, b10, b11, b12]
    rw [hv]; clear hv hl
    go_enter Tryd.func17, Tryd.ntmps17
    go_wp2
    go_ret
    exact ⟨rfl, rfl⟩
  | false =>
  cases b13 : (s.toList == [47]) with
  | true =>
    have hv : level s = 5 := by rw [hl]; simp [b0, b1, b2, b3, b4, b5, b6, b7, b8, b9, b10, b11, b12, b13]
    rw [hv]; clear hv hl
    go_enter Tryd.func17, Tryd.ntmps17
    go_wp2
    go_ret
    exact ⟨rfl, rfl⟩
  | false =>
  cases b14 : (s.toList == [37]) with
  | true =>
    have hv : level s = 5 := by rw [hl]; simp [b0, b1, b2, b3, b4, b5, b6, b7, b8, b9, b10, b11, b12, b13, b14]
    rw [hv]; clear hv hl
    go_enter Tryd.func17, Tryd.ntmps17
    go_wp2
    go_ret
    exact ⟨rfl, rfl⟩
  | false =>
  cases b15 : (s.toList == [60, 60]) with
  | true =>
    have hv : level s = 5 := by rw [hl]; simp [b0, b1, b2, b3, b4, b5, b6, b7, b8, b9, b10, b11, b12, b13, b14, b15]
    rw [hv]; clear hv hl
    go_enter Tryd.func17, Tryd.ntmps17
    go_wp2
    go_ret
    exact ⟨rfl, rfl⟩
  | false =>
  cases b16 : (s.toList == [62, 62]) with
  | true =>
    have hv : level s = 5 := by rw [hl]; simp [b0, b1, b2, b3, b4, b5, b6, b7, b8, b9, b10, b11, b12, b13, b14, b15, b16]
    rw [hv]; clear hv hl
    go_enter Tryd.func17, Tryd.ntmps17
    go_wp2
    go_ret
    exact ⟨rfl, rfl⟩
  | false =>
  cases b17 : (s.toList == [38]) with
  | true =>
    have hv : level s = 5 := by rw [hl]; simp [b0, b1, b2, b3, b4, b5, b6, b7, b8, b9, b10, b11, b12, b13, b14, b15, b16, b17]
    rw [hv]; clear hv hl
    go_enter Tryd.func17, Tryd.ntmps17
    go_wp2
    go_ret
    exact ⟨rfl, rfl⟩
  | false =>
  cases b18 : (s.toList == [38, 94]) with
  | true =>
    have hv : level s = 5 := by rw [hl]; simp [b0, b1, b2, b3, b4, b5, b6, b7, b8, b9, b10, b11, b12, b13, b14, b15, b16, b17, b18]
    rw [hv]; clear hv hl
    go_enter Tryd.func17, Tryd.ntmps17
    go_wp2
    go_ret
    exact ⟨rfl, rfl⟩
  | false =>
  have hv : level s = 0 := by rw [hl]; simp [b0, b1, b2, b3, b4, b5, b6, b7, b8, b9, b10, b11, b12, b13, b14, b15, b16, b17, b18]
  rw [hv]; clear hv hl
  go_enter Tryd.func17, Tryd.ntmps17
  go_wp2
  go_ret
  exact ⟨rfl, rfl⟩
-- END LEVEL
end Go.Proofs.YtoecimgmghlfpaaDoor.Tree

/-
  Layer 5 (tree): the tests of kinds, and which kinds hold items.
-/
namespace Go.Proofs.YtoecimgmghlfpaaDoor.Tree
open Go.ChangeShapes Go.WideShapes Go.ChangeAt Go.RowKit
set_option linter.unusedVariables false

theorem kno {k j : Int} (h : ¬ k = j) : (k == j) = false := by simpa using h

theorem isTyp_any (k : Int) (x y : ByteArray) (A : Option Addr) (n C : Nat) (w : World) : Calls Tryd.prog 47 #[.agg #[.int .i64 k, .string x, .string y, .slice A n C]] w fun e w' => e = .returned (.bool (isTyp k x)) ∧ Below w.heap.size w w' := by
  by_cases h9 : k = 9
  · subst h9
    rw [show isTyp 9 x = true from rfl]
    go_enter Tryd.func47, Tryd.ntmps47
    go_wp2
    go_ret
    exact ⟨rfl, (Below.refl _ _).alloc (Nat.le_refl _) _⟩
  by_cases h10 : k = 10
  · subst h10
    rw [show isTyp 10 x = true from rfl]
    go_enter Tryd.func47, Tryd.ntmps47
    go_wp2
    go_ret
    exact ⟨rfl, (Below.refl _ _).alloc (Nat.le_refl _) _⟩
  by_cases h11 : k = 11
  · subst h11
    rw [show isTyp 11 x = true from rfl]
    go_enter Tryd.func47, Tryd.ntmps47
    go_wp2
    go_ret
    exact ⟨rfl, (Below.refl _ _).alloc (Nat.le_refl _) _⟩
  by_cases h12 : k = 12
  · subst h12
    rw [show isTyp 12 x = true from rfl]
    go_enter Tryd.func47, Tryd.ntmps47
    go_wp2
    go_ret
    exact ⟨rfl, (Below.refl _ _).alloc (Nat.le_refl _) _⟩
  by_cases h13 : k = 13
  · subst h13
    rw [show isTyp 13 x = true from rfl]
    go_enter Tryd.func47, Tryd.ntmps47
    go_wp2
    go_ret
    exact ⟨rfl, (Below.refl _ _).alloc (Nat.le_refl _) _⟩
  rw [show isTyp k x = false by unfold isTyp; simp [h9, h10, h11, h12, h13]]
  have b9 := kno h9
  have b10 := kno h10
  have b11 := kno h11
  have b12 := kno h12
  have b13 := kno h13
  clear h9 h10 h11 h12 h13
  go_enter Tryd.func47, Tryd.ntmps47
  go_wp2
  go_ret
  exact ⟨rfl, (Below.refl _ _).alloc (Nat.le_refl _) _⟩

theorem isVal_any (k : Int) (x y : ByteArray) (A : Option Addr) (n C : Nat) (w : World) : Calls Tryd.prog 46 #[.agg #[.int .i64 k, .string x, .string y, .slice A n C]] w fun e w' => e = .returned (.bool (isVal k x)) ∧ Below w.heap.size w w' := by
  by_cases h9 : k = 9
  · subst h9
    rw [show isVal 9 x = true from rfl]
    go_enter Tryd.func46, Tryd.ntmps46
    go_wp2
    go_ret
    exact ⟨rfl, (Below.refl _ _).alloc (Nat.le_refl _) _⟩
  by_cases h26 : k = 26
  · subst h26
    rw [show isVal 26 x = true from rfl]
    go_enter Tryd.func46, Tryd.ntmps46
    go_wp2
    go_ret
    exact ⟨rfl, (Below.refl _ _).alloc (Nat.le_refl _) _⟩
  by_cases h27 : k = 27
  · subst h27
    rw [show isVal 27 x = true from rfl]
    go_enter Tryd.func46, Tryd.ntmps46
    go_wp2
    go_ret
    exact ⟨rfl, (Below.refl _ _).alloc (Nat.le_refl _) _⟩
  by_cases h28 : k = 28
  · subst h28
    rw [show isVal 28 x = true from rfl]
    go_enter Tryd.func46, Tryd.ntmps46
    go_wp2
    go_ret
    exact ⟨rfl, (Below.refl _ _).alloc (Nat.le_refl _) _⟩
  by_cases h29 : k = 29
  · subst h29
    rw [show isVal 29 x = true from rfl]
    go_enter Tryd.func46, Tryd.ntmps46
    go_wp2
    go_ret
    exact ⟨rfl, (Below.refl _ _).alloc (Nat.le_refl _) _⟩
  by_cases h30 : k = 30
  · subst h30
    rw [show isVal 30 x = true from rfl]
    go_enter Tryd.func46, Tryd.ntmps46
    go_wp2
    go_ret
    exact ⟨rfl, (Below.refl _ _).alloc (Nat.le_refl _) _⟩
  by_cases h31 : k = 31
  · subst h31
    rw [show isVal 31 x = true from rfl]
    go_enter Tryd.func46, Tryd.ntmps46
    go_wp2
    go_ret
    exact ⟨rfl, (Below.refl _ _).alloc (Nat.le_refl _) _⟩
  by_cases h32 : k = 32
  · subst h32
    rw [show isVal 32 x = true from rfl]
    go_enter Tryd.func46, Tryd.ntmps46
    go_wp2
    go_ret
    exact ⟨rfl, (Below.refl _ _).alloc (Nat.le_refl _) _⟩
  rw [show isVal k x = false by unfold isVal; simp [h9, h26, h27, h28, h29, h30, h31, h32]]
  have b9 := kno h9
  have b26 := kno h26
  have b27 := kno h27
  have b28 := kno h28
  have b29 := kno h29
  have b30 := kno h30
  have b31 := kno h31
  have b32 := kno h32
  clear h9 h26 h27 h28 h29 h30 h31 h32
  go_enter Tryd.func46, Tryd.ntmps46
  go_wp2
  go_ret
  exact ⟨rfl, (Below.refl _ _).alloc (Nat.le_refl _) _⟩

theorem isStm_any (k : Int) (x y : ByteArray) (A : Option Addr) (n C : Nat) (w : World) : Calls Tryd.prog 48 #[.agg #[.int .i64 k, .string x, .string y, .slice A n C]] w fun e w' => e = .returned (.bool (isStm k x)) ∧ Below w.heap.size w w' := by
  by_cases h5 : k = 5
  · subst h5
    rw [show isStm 5 x = true from rfl]
    go_enter Tryd.func48, Tryd.ntmps48
    go_wp2
    go_ret
    exact ⟨rfl, (Below.refl _ _).alloc (Nat.le_refl _) _⟩
  by_cases h8 : k = 8
  · subst h8
    rw [show isStm 8 x = true from rfl]
    go_enter Tryd.func48, Tryd.ntmps48
    go_wp2
    go_ret
    exact ⟨rfl, (Below.refl _ _).alloc (Nat.le_refl _) _⟩
  by_cases h17 : k = 17
  · subst h17
    rw [show isStm 17 x = true from rfl]
    go_enter Tryd.func48, Tryd.ntmps48
    go_wp2
    go_ret
    exact ⟨rfl, (Below.refl _ _).alloc (Nat.le_refl _) _⟩
  by_cases h18 : k = 18
  · subst h18
    rw [show isStm 18 x = true from rfl]
    go_enter Tryd.func48, Tryd.ntmps48
    go_wp2
    go_ret
    exact ⟨rfl, (Below.refl _ _).alloc (Nat.le_refl _) _⟩
  by_cases h19 : k = 19
  · subst h19
    rw [show isStm 19 x = true from rfl]
    go_enter Tryd.func48, Tryd.ntmps48
    go_wp2
    go_ret
    exact ⟨rfl, (Below.refl _ _).alloc (Nat.le_refl _) _⟩
  by_cases h20 : k = 20
  · subst h20
    rw [show isStm 20 x = true from rfl]
    go_enter Tryd.func48, Tryd.ntmps48
    go_wp2
    go_ret
    exact ⟨rfl, (Below.refl _ _).alloc (Nat.le_refl _) _⟩
  by_cases h21 : k = 21
  · subst h21
    rw [show isStm 21 x = true from rfl]
    go_enter Tryd.func48, Tryd.ntmps48
    go_wp2
    go_ret
    exact ⟨rfl, (Below.refl _ _).alloc (Nat.le_refl _) _⟩
  by_cases h22 : k = 22
  · subst h22
    rw [show isStm 22 x = true from rfl]
    go_enter Tryd.func48, Tryd.ntmps48
    go_wp2
    go_ret
    exact ⟨rfl, (Below.refl _ _).alloc (Nat.le_refl _) _⟩
  by_cases h23 : k = 23
  · subst h23
    rw [show isStm 23 x = true from rfl]
    go_enter Tryd.func48, Tryd.ntmps48
    go_wp2
    go_ret
    exact ⟨rfl, (Below.refl _ _).alloc (Nat.le_refl _) _⟩
  by_cases h24 : k = 24
  · subst h24
    rw [show isStm 24 x = true from rfl]
    go_enter Tryd.func48, Tryd.ntmps48
    go_wp2
    go_ret
    exact ⟨rfl, (Below.refl _ _).alloc (Nat.le_refl _) _⟩
  by_cases h25 : k = 25
  · subst h25
    rw [show isStm 25 x = true from rfl]
    go_enter Tryd.func48, Tryd.ntmps48
    go_wp2
    go_ret
    exact ⟨rfl, (Below.refl _ _).alloc (Nat.le_refl _) _⟩
  rw [show isStm k x = false by unfold isStm; simp [h5, h8, h17, h18, h19, h20, h21, h22, h23, h24, h25]]
  have b5 := kno h5
  have b8 := kno h8
  have b17 := kno h17
  have b18 := kno h18
  have b19 := kno h19
  have b20 := kno h20
  have b21 := kno h21
  have b22 := kno h22
  have b23 := kno h23
  have b24 := kno h24
  have b25 := kno h25
  clear h5 h8 h17 h18 h19 h20 h21 h22 h23 h24 h25
  go_enter Tryd.func48, Tryd.ntmps48
  go_wp2
  go_ret
  exact ⟨rfl, (Below.refl _ _).alloc (Nat.le_refl _) _⟩

theorem isDecl_any (k : Int) (x y : ByteArray) (A : Option Addr) (n C : Nat) (w : World) : Calls Tryd.prog 45 #[.agg #[.int .i64 k, .string x, .string y, .slice A n C]] w fun e w' => e = .returned (.bool (isDecl k x)) ∧ Below w.heap.size w w' := by
  by_cases h4 : k = 4
  · subst h4
    rw [show isDecl 4 x = true from rfl]
    go_enter Tryd.func45, Tryd.ntmps45
    go_wp2
    go_ret
    exact ⟨rfl, (Below.refl _ _).alloc (Nat.le_refl _) _⟩
  by_cases h5 : k = 5
  · subst h5
    rw [show isDecl 5 x = true from rfl]
    go_enter Tryd.func45, Tryd.ntmps45
    go_wp2
    go_ret
    exact ⟨rfl, (Below.refl _ _).alloc (Nat.le_refl _) _⟩
  by_cases h6 : k = 6
  · subst h6
    rw [show isDecl 6 x = true from rfl]
    go_enter Tryd.func45, Tryd.ntmps45
    go_wp2
    go_ret
    exact ⟨rfl, (Below.refl _ _).alloc (Nat.le_refl _) _⟩
  by_cases h7 : k = 7
  · subst h7
    rw [show isDecl 7 x = true from rfl]
    go_enter Tryd.func45, Tryd.ntmps45
    go_wp2
    go_ret
    exact ⟨rfl, (Below.refl _ _).alloc (Nat.le_refl _) _⟩
  by_cases h8 : k = 8
  · subst h8
    rw [show isDecl 8 x = true from rfl]
    go_enter Tryd.func45, Tryd.ntmps45
    go_wp2
    go_ret
    exact ⟨rfl, (Below.refl _ _).alloc (Nat.le_refl _) _⟩
  rw [show isDecl k x = false by unfold isDecl; simp [h4, h5, h6, h7, h8]]
  have b4 := kno h4
  have b5 := kno h5
  have b6 := kno h6
  have b7 := kno h7
  have b8 := kno h8
  clear h4 h5 h6 h7 h8
  go_enter Tryd.func45, Tryd.ntmps45
  go_wp2
  go_ret
  exact ⟨rfl, (Below.refl _ _).alloc (Nat.le_refl _) _⟩

theorem isPlc_any (k : Int) (x y : ByteArray) (A : Option Addr) (n C : Nat) (w : World) : Calls Tryd.prog 49 #[.agg #[.int .i64 k, .string x, .string y, .slice A n C]] w fun e w' => e = .returned (.bool (isPlc k x)) ∧ Below w.heap.size w w' := by
  by_cases h9 : k = 9
  · subst h9
    rw [show isPlc 9 x = true from rfl]
    go_enter Tryd.func49, Tryd.ntmps49
    go_wp2
    go_ret
    exact ⟨rfl, (Below.refl _ _).alloc (Nat.le_refl _) _⟩
  by_cases h31 : k = 31
  · subst h31
    rw [show isPlc 31 x = true from rfl]
    go_enter Tryd.func49, Tryd.ntmps49
    go_wp2
    go_ret
    exact ⟨rfl, (Below.refl _ _).alloc (Nat.le_refl _) _⟩
  by_cases h32 : k = 32
  · subst h32
    rw [show isPlc 32 x = true from rfl]
    go_enter Tryd.func49, Tryd.ntmps49
    go_wp2
    go_ret
    exact ⟨rfl, (Below.refl _ _).alloc (Nat.le_refl _) _⟩
  by_cases h28 : k = 28
  · subst h28
    cases hx : (x.toList == [42]) with
    | true =>
      rw [show isPlc 28 x = true by unfold isPlc; rw [hx]; rfl]
      go_enter Tryd.func49, Tryd.ntmps49
      go_wp2
      go_ret
      exact ⟨rfl, (Below.refl _ _).alloc (Nat.le_refl _) _⟩
    | false =>
      rw [show isPlc 28 x = false by unfold isPlc; rw [hx]; rfl]
      go_enter Tryd.func49, Tryd.ntmps49
      go_wp2
      go_ret
      exact ⟨rfl, (Below.refl _ _).alloc (Nat.le_refl _) _⟩
  rw [show isPlc k x = false by unfold isPlc; simp [h9, h31, h32, h28]]
  have b9 := kno h9
  have b31 := kno h31
  have b32 := kno h32
  have b28 := kno h28
  clear h9 h31 h32 h28
  go_enter Tryd.func49, Tryd.ntmps49
  go_wp2
  go_ret
  exact ⟨rfl, (Below.refl _ _).alloc (Nat.le_refl _) _⟩

theorem holds_any (k : Int) (w : World) : Calls Tryd.prog 32 #[.int .i64 k] w fun e w' => e = .returned (.bool (holds k)) ∧ w' = w := by
  by_cases h1 : k = 1
  · subst h1
    rw [show holds 1 = true from rfl]
    go_enter Tryd.func32, Tryd.ntmps32
    go_wp2
    go_ret
    exact ⟨rfl, rfl⟩
  by_cases h17 : k = 17
  · subst h17
    rw [show holds 17 = true from rfl]
    go_enter Tryd.func32, Tryd.ntmps32
    go_wp2
    go_ret
    exact ⟨rfl, rfl⟩
  by_cases h13 : k = 13
  · subst h13
    rw [show holds 13 = true from rfl]
    go_enter Tryd.func32, Tryd.ntmps32
    go_wp2
    go_ret
    exact ⟨rfl, rfl⟩
  rw [show holds k = false by unfold holds; simp [h1, h17, h13]]
  have b1 := kno h1
  have b17 := kno h17
  have b13 := kno h13
  clear h1 h17 h13
  go_enter Tryd.func32, Tryd.ntmps32
  go_wp2
  go_ret
  exact ⟨rfl, rfl⟩
end Go.Proofs.YtoecimgmghlfpaaDoor.Tree

/-
  Layer 5 (tree): slices.Contains of texts and of numbers.
-/
namespace Go.Proofs.YtoecimgmghlfpaaDoor.Tree
open Go.ChangeShapes Go.WideShapes Go.ChangeAt Go.RowKit
set_option linter.unusedVariables false

theorem any_step {α : Type} {p : α → Bool} {l : List α} {k : Nat} {u : α} (hu : l[k]? = some u) (h : (l.take k).any p = false) (hp : p u = false) : (l.take (k + 1)).any p = false := by
  rw [List.take_add_one, hu, List.any_append, h]
  simp [hp]
theorem any_hit {α : Type} {p : α → Bool} {l : List α} {k : Nat} {u : α} (hu : l[k]? = some u) (hp : p u = true) : l.any p = true :=
  List.any_eq_true.2 ⟨u, List.mem_of_getElem? hu, hp⟩
theorem any_end {α : Type} {p : α → Bool} {l : List α} {n : Nat} (hn : l.length ≤ n) (h : (l.take n).any p = false) : l.any p = false := by
  rwa [List.take_of_length_le hn] at h

set_option maxHeartbeats 4000000 in
theorem indexS (x : ByteArray) (b n C : Nat) (l : List ByteArray) (w : World) (hl : l.length = n) (hn : n ≤ 1000000) (hc : ∀ i u, l[i]? = some u → w.cell? ⟨b, i, none⟩ = some (.string u)) :
    Calls Tryd.prog 54 #[.slice (some ⟨b, 0, none⟩) n C, .string x] w fun e w' => (∃ r : Int, e = .returned (.int .i64 r) ∧ decide (0 ≤ r) = l.any (fun u : ByteArray => x.toList == u.toList)) ∧ w' = w := by
  have Hl := Lib.hid hl; have Hc := Lib.hid hc
  clear hl hc
  go_enter Tryd.func54, Tryd.ntmps54
  go_wp2
  go_loop [8] (fun i => ∃ k : Nat, k ≤ n ∧ i = .int .i64 k ∧ Hid ((l.take k).any (fun u : ByteArray => x.toList == u.toList) = false)) (fun i => n - (intOf i).toNat)
  case atStart => exact ⟨0, Nat.zero_le _, rfl, by show _ = _; simp⟩
  case round =>
    obtain ⟨k, hk, rfl, hno⟩ := hrel
    by_cases hlt : k < n
    · obtain ⟨u, hu⟩ : ∃ u, l[k]? = some u := ⟨_, List.getElem?_eq_getElem (by rw [Hl.out]; exact hlt)⟩
      have hcell := Hc.out k u hu
      have hlt' : (k : Int) < (n : Int) := by omega
      have hk0 : (0 : Int) ≤ (k : Int) := by omega
      cases hx : (x.toList == u.toList) with
      | true =>
        have HH := Lib.hid (any_hit (p := fun u : ByteArray => x.toList == u.toList) hu hx)
        clear hu
        go_wp2
        go_ret
        exact ⟨⟨_, rfl, by rw [HH.out]; exact decide_eq_true (by omega)⟩, rfl⟩
      | false =>
        have HH := Lib.hid (any_step (p := fun u : ByteArray => x.toList == u.toList) hu hno.out hx)
        clear hu hno
        go_wp2
        go_round
        case rel => exact ⟨k + 1, by omega, by go_num, HH.out⟩
        case measure => simp [intOf]; omega
    · have hn' : ¬ (k : Int) < (n : Int) := by omega
      obtain rfl : k = n := by omega
      have HH := Lib.hid (any_end (by rw [Hl.out]; exact Nat.le_refl _) hno.out)
      clear hno
      go_wp2
      go_ret
      exact ⟨⟨_, rfl, by rw [HH.out]; rfl⟩, rfl⟩
theorem containsS (x : ByteArray) (b n C : Nat) (l : List ByteArray) (w : World) (hl : l.length = n) (hn : n ≤ 1000000) (hc : ∀ i u, l[i]? = some u → w.cell? ⟨b, i, none⟩ = some (.string u)) :
    Calls Tryd.prog 40 #[.slice (some ⟨b, 0, none⟩) n C, .string x] w fun e w' => e = .returned (.bool (l.any (fun u : ByteArray => x.toList == u.toList))) ∧ w' = w := by
  have HX := Lib.hid (indexS x b n C l w hl hn hc)
  generalize l.any (fun u : ByteArray => x.toList == u.toList) = bb at *
  clear hl hc
  go_enter Tryd.func40, Tryd.ntmps40
  go_wp2_with fail
  refine HX.out.mono ?_
  rintro e w' ⟨⟨r, rfl, hr⟩, rfl⟩
  have Hr := Lib.hid hr
  clear hr
  go_wp2
  go_ret
  exact ⟨by rw [← Hr.out]; rfl, rfl⟩

set_option maxHeartbeats 4000000 in
theorem indexI (x : Int) (b n C : Nat) (l : List Int) (w : World) (hl : l.length = n) (hn : n ≤ 1000000) (hc : ∀ i u, l[i]? = some u → w.cell? ⟨b, i, none⟩ = some (.int .i64 u)) :
    Calls Tryd.prog 63 #[.slice (some ⟨b, 0, none⟩) n C, .int .i64 x] w fun e w' => (∃ r : Int, e = .returned (.int .i64 r) ∧ decide (0 ≤ r) = l.any (fun u : Int => x == u)) ∧ w' = w := by
  have Hl := Lib.hid hl; have Hc := Lib.hid hc
  clear hl hc
  go_enter Tryd.func63, Tryd.ntmps63
  go_wp2
  go_loop [8] (fun i => ∃ k : Nat, k ≤ n ∧ i = .int .i64 k ∧ Hid ((l.take k).any (fun u : Int => x == u) = false)) (fun i => n - (intOf i).toNat)
  case atStart => exact ⟨0, Nat.zero_le _, rfl, by show _ = _; simp⟩
  case round =>
    obtain ⟨k, hk, rfl, hno⟩ := hrel
    by_cases hlt : k < n
    · obtain ⟨u, hu⟩ : ∃ u, l[k]? = some u := ⟨_, List.getElem?_eq_getElem (by rw [Hl.out]; exact hlt)⟩
      have hcell := Hc.out k u hu
      have hlt' : (k : Int) < (n : Int) := by omega
      have hk0 : (0 : Int) ≤ (k : Int) := by omega
      cases hx : (x == u) with
      | true =>
        have HH := Lib.hid (any_hit (p := fun u : Int => x == u) hu hx)
        clear hu
        go_wp2
        go_ret
        exact ⟨⟨_, rfl, by rw [HH.out]; exact decide_eq_true (by omega)⟩, rfl⟩
      | false =>
        have HH := Lib.hid (any_step (p := fun u : Int => x == u) hu hno.out hx)
        clear hu hno
        go_wp2
        go_round
        case rel => exact ⟨k + 1, by omega, by go_num, HH.out⟩
        case measure => simp [intOf]; omega
    · have hn' : ¬ (k : Int) < (n : Int) := by omega
      obtain rfl : k = n := by omega
      have HH := Lib.hid (any_end (by rw [Hl.out]; exact Nat.le_refl _) hno.out)
      clear hno
      go_wp2
      go_ret
      exact ⟨⟨_, rfl, by rw [HH.out]; rfl⟩, rfl⟩
theorem containsI (x : Int) (b n C : Nat) (l : List Int) (w : World) (hl : l.length = n) (hn : n ≤ 1000000) (hc : ∀ i u, l[i]? = some u → w.cell? ⟨b, i, none⟩ = some (.int .i64 u)) :
    Calls Tryd.prog 56 #[.slice (some ⟨b, 0, none⟩) n C, .int .i64 x] w fun e w' => e = .returned (.bool (l.any (fun u : Int => x == u))) ∧ w' = w := by
  have HX := Lib.hid (indexI x b n C l w hl hn hc)
  generalize l.any (fun u : Int => x == u) = bb at *
  clear hl hc
  go_enter Tryd.func56, Tryd.ntmps56
  go_wp2_with fail
  refine HX.out.mono ?_
  rintro e w' ⟨⟨r, rfl, hr⟩, rfl⟩
  have Hr := Lib.hid hr
  clear hr
  go_wp2
  go_ret
  exact ⟨by rw [← Hr.out]; rfl, rfl⟩

end Go.Proofs.YtoecimgmghlfpaaDoor.Tree

/-
  Layer 5 (tree): the closures: tests, parts, rows of parts.
-/
namespace Go.Proofs.YtoecimgmghlfpaaDoor.Tree
open Go.ChangeShapes Go.WideShapes Go.ChangeAt Go.RowKit Mem
set_option linter.unusedVariables false

/-- A function that is entered as it stands. -/
def Entered (gf : Nat) : Prop := ∀ args w, (callFunc gf args).run Tryd.prog w = .ok (.enter gf args) w

/-- The function value v is a test that tells p of a node's kind and text, now and later. -/
def TestOk (w : World) (v : Value) (p : Int → ByteArray → Bool) : Prop :=
  ∃ gf caps, v = .func (.func gf) #[] caps ∧ Entered gf ∧ ∀ W, Below w.heap.size w W → ∀ k x y A n C, Calls Tryd.prog gf (#[.agg #[.int .i64 k, .string x, .string y, .slice A n C]] ++ caps) W fun e W' => e = .returned (.bool (p k x)) ∧ Below W.heap.size W W'
theorem TestOk.later {w w' : World} {v : Value} {p : Int → ByteArray → Bool} (h : TestOk w v p) (hb : Below w.heap.size w w') : TestOk w' v p := by
  obtain ⟨gf, caps, e, he, hc⟩ := h
  exact ⟨gf, caps, e, he, fun W hW => hc W (hb.trans (hW.mono hb.size))⟩

theorem entered_of {gf : Nat} {fn : Func} (h : ∀ args w, (callFunc gf args).run Tryd.prog w = .ok (.enter gf args) w) : Entered gf := h

set_option maxHeartbeats 2000000 in
theorem pass_any (gf : Nat) (caps : Array Value) (eg : Entered gf) (p : Int → ByteArray → Bool) (cb b off n C : Nat) (k : Int) (x y : ByteArray) (A : Option Addr) (m c : Nat) (w : World)
    (hk : w.cell? ⟨cb, 0, none⟩ = some (.slice (some ⟨b, off, none⟩) n C)) (hn : (0 : Int) < (n : Int)) (c0 : w.cell? ⟨b, off, none⟩ = some (.int .i64 k)) (c1 : w.cell? ⟨b, off + 1, none⟩ = some (.string x)) (c2 : w.cell? ⟨b, off + 2, none⟩ = some (.string y)) (c3 : w.cell? ⟨b, off + 3, none⟩ = some (.slice A m c))
    (hc : Calls Tryd.prog gf (#[.agg #[.int .i64 k, .string x, .string y, .slice A m c]] ++ caps) w fun e W' => e = .returned (.bool (p k x)) ∧ Below w.heap.size w W') :
    Calls Tryd.prog 59 #[.func (.func gf) #[] caps, .pointer (some ⟨cb, 0, none⟩)] w fun e W' => e = .returned (.bool (p k x)) ∧ Below w.heap.size w W' := by
  have HC := Lib.hid hc
  clear hc
  unfold Entered at eg
  go_enter Tryd.func59, Tryd.ntmps59
  go_wp2_with (go_at_fn gf; refine HC.out.mono ?_; rintro e W ⟨rfl, hgw⟩)
  go_ret
  exact ⟨rfl, hgw⟩

set_option maxHeartbeats 4000000 in
theorem indexF_any (ps : List (Int → ByteArray → Bool)) (g n C cb b off nk Ck : Nat) (k : Int) (x y : ByteArray) (A : Option Addr) (m c : Nat) (w : World) (hg : g < w.heap.size) (hl : ps.length = n) (hn : n ≤ 1000000)
    (hts : ∀ i p, ps[i]? = some p → ∃ v, w.cell? ⟨g, i, none⟩ = some v ∧ TestOk w v p) (hcb : cb < w.heap.size) (hb : b < w.heap.size)
    (hk : w.cell? ⟨cb, 0, none⟩ = some (.slice (some ⟨b, off, none⟩) nk Ck)) (hnk : (0 : Int) < (nk : Int)) (c0 : w.cell? ⟨b, off, none⟩ = some (.int .i64 k)) (c1 : w.cell? ⟨b, off + 1, none⟩ = some (.string x)) (c2 : w.cell? ⟨b, off + 2, none⟩ = some (.string y)) (c3 : w.cell? ⟨b, off + 3, none⟩ = some (.slice A m c)) :
    Calls Tryd.prog 64 #[.slice (some ⟨g, 0, none⟩) n C, .func (.func 59) #[] #[.pointer (some ⟨cb, 0, none⟩)]] w fun e w' => (∃ r : Int, e = .returned (.int .i64 r) ∧ decide (0 ≤ r) = ps.any (fun p => p k x)) ∧ Below w.heap.size w w' := by
  have Hl := Lib.hid hl; have Ht := Lib.hid hts
  have HP : Hid (∀ wr, Below w.heap.size w wr → ∀ i p v, ps[i]? = some p → wr.cell? ⟨g, i, none⟩ = some v → Calls Tryd.prog 59 #[v, .pointer (some ⟨cb, 0, none⟩)] wr fun e W' => e = .returned (.bool (p k x)) ∧ Below wr.heap.size wr W') := by
    intro wr hwr i p v hp hv
    obtain ⟨v', hv', gf, caps, rfl, he, hc⟩ := hts i p hp
    have e := (hwr.cell (p := ⟨g, i, none⟩) hg).trans hv'
    rw [hv] at e
    injection e with e
    subst e
    exact pass_any gf caps he p cb b off nk Ck k x y A m c wr ((hwr.cell hcb).trans hk) hnk ((hwr.cell hb).trans c0) ((hwr.cell hb).trans c1) ((hwr.cell hb).trans c2) ((hwr.cell hb).trans c3) (hc wr hwr k x y A m c)
  have HG := Lib.hid hg
  clear hl hts hk c0 c1 c2 c3 hg hcb hb hnk
  go_enter Tryd.func64, Tryd.ntmps64
  go_wp2
  go_loopw [8] (fun i wr => ∃ k0 : Nat, k0 ≤ n ∧ i = .int .i64 k0 ∧ Hid ((ps.take k0).any (fun p => p k x) = false) ∧ Hid (Below w.heap.size w wr)) (fun i _ => n - (intOf i).toNat)
  case atStart => exact ⟨0, Nat.zero_le _, rfl, (by show _ = _; simp), Below.refl _ _⟩
  case round =>
    obtain ⟨k0, hk0, rfl, hno, hbw⟩ := hrel
    by_cases hlt : k0 < n
    · obtain ⟨p, hp⟩ : ∃ p, ps[k0]? = some p := ⟨_, List.getElem?_eq_getElem (by rw [Hl.out]; exact hlt)⟩
      obtain ⟨v, hv, gf, caps, rfl, _, _⟩ := Ht.out k0 p hp
      have hcell := (hbw.out.cell (p := ⟨g, k0, none⟩) HG.out).trans hv
      have hlt' : (k0 : Int) < (n : Int) := by omega
      have hk00 : (0 : Int) ≤ (k0 : Int) := by omega
      have HC := Lib.hid (HP.out wr hbw.out k0 p _ hp hcell)
      clear hv
      cases hx : p k x with
      | true =>
        rw [hx] at HC
        have HH := Lib.hid (any_hit (p := fun p => p k x) hp hx)
        clear hp hx
        go_wp2_with fail
        refine HC.out.mono ?_
        rintro e w' ⟨rfl, hb1⟩
        have HB1 := Lib.hid (hbw.out.trans (hb1.mono hbw.out.size))
        clear hb1
        go_wp2
        go_ret
        exact ⟨⟨_, rfl, by rw [HH.out]; exact decide_eq_true (by omega)⟩, HB1.out⟩
      | false =>
        rw [hx] at HC
        have HH := Lib.hid (any_step (p := fun p => p k x) hp hno.out hx)
        clear hp hno hx
        go_wp2_with fail
        refine HC.out.mono ?_
        rintro e w' ⟨rfl, hb1⟩
        have HB1 := Lib.hid (hbw.out.trans (hb1.mono hbw.out.size))
        clear hb1
        go_wp2
        go_roundw
        case rel => exact ⟨k0 + 1, by omega, by go_num, HH.out, HB1.out⟩
        case measure => simp [intOf]; omega
    · have hn' : ¬ (k0 : Int) < (n : Int) := by omega
      obtain rfl : k0 = n := by omega
      have HH := Lib.hid (any_end (by rw [Hl.out]; exact Nat.le_refl _) hno.out)
      clear hno
      go_wp2
      go_ret
      exact ⟨⟨_, rfl, by rw [HH.out]; rfl⟩, hbw.out⟩

theorem containsF_any (ps : List (Int → ByteArray → Bool)) (g n C cb b off nk Ck : Nat) (k : Int) (x y : ByteArray) (A : Option Addr) (m c : Nat) (w : World) (hg : g < w.heap.size) (hl : ps.length = n) (hn : n ≤ 1000000)
    (hts : ∀ i p, ps[i]? = some p → ∃ v, w.cell? ⟨g, i, none⟩ = some v ∧ TestOk w v p) (hcb : cb < w.heap.size) (hb : b < w.heap.size)
    (hk : w.cell? ⟨cb, 0, none⟩ = some (.slice (some ⟨b, off, none⟩) nk Ck)) (hnk : (0 : Int) < (nk : Int)) (c0 : w.cell? ⟨b, off, none⟩ = some (.int .i64 k)) (c1 : w.cell? ⟨b, off + 1, none⟩ = some (.string x)) (c2 : w.cell? ⟨b, off + 2, none⟩ = some (.string y)) (c3 : w.cell? ⟨b, off + 3, none⟩ = some (.slice A m c)) :
    Calls Tryd.prog 60 #[.slice (some ⟨g, 0, none⟩) n C, .func (.func 59) #[] #[.pointer (some ⟨cb, 0, none⟩)]] w fun e w' => e = .returned (.bool (ps.any (fun p => p k x))) ∧ Below w.heap.size w w' := by
  have HX := Lib.hid (indexF_any ps g n C cb b off nk Ck k x y A m c w hg hl hn hts hcb hb hk hnk c0 c1 c2 c3)
  generalize ps.any (fun p => p k x) = bb at *
  clear hl hts hk c0 c1 c2 c3 hg hcb hb hnk
  go_enter Tryd.func60, Tryd.ntmps60
  go_wp2_with fail
  refine HX.out.mono ?_
  rintro e w' ⟨⟨r, rfl, hr⟩, hbw⟩
  have Hr := Lib.hid hr
  clear hr
  go_wp2
  go_ret
  exact ⟨by rw [← Hr.out]; rfl, hbw⟩

end Go.Proofs.YtoecimgmghlfpaaDoor.Tree

/-
  Layer 5 (tree): of, one, many, row.
-/
namespace Go.Proofs.YtoecimgmghlfpaaDoor.Tree
open Go.ChangeShapes Go.WideShapes Go.ChangeAt Go.RowKit Mem
set_option linter.unusedVariables false

theorem _root_.Go.Below.drewN' {B : Nat} {a w : World} (h : Below B a w) (n : Nat) : Below B a (w.drewN n) := ⟨h.os, h.tape, h.output, h.size, h.block⟩
theorem drewNb {B : Nat} {a w : World} (h : Below B a w) (n : Nat) : Below B a (w.drewN n) := ⟨h.os, h.tape, h.output, h.size, h.block⟩
theorem below1 (w : World) (o : Obj) : Below w.heap.size w (w.alloc o) := (Below.refl _ _).alloc (Nat.le_refl _) _

set_option maxHeartbeats 2000000 in
theorem of1_any (l : List Int) (cb g n C : Nat) (k : Int) (x y : ByteArray) (A : Option Addr) (m c : Nat) (w : World) (hl : l.length = n) (hn : n ≤ 1000000) (hcl : cb < w.heap.size)
    (hcb : w.cell? ⟨cb, 0, none⟩ = some (.slice (some ⟨g, 0, none⟩) n C)) (hg : g < w.heap.size) (hc : ∀ i u, l[i]? = some u → w.cell? ⟨g, i, none⟩ = some (.int .i64 u)) :
    Calls Tryd.prog 55 #[.agg #[.int .i64 k, .string x, .string y, .slice A m c], .pointer (some ⟨cb, 0, none⟩)] w fun e W' => e = .returned (.bool (isOf l k x)) ∧ Below w.heap.size w W' := by
  have HC := Lib.hid (fun (W : World) (hb : Below w.heap.size w W) => containsI k g n C l W hl hn (fun i u hu => (hb.cell (p := ⟨g, i, none⟩) hg).trans (hc i u hu)))
  have e : isOf l k x = l.any (fun u => k == u) := rfl
  rw [e]
  generalize l.any (fun u => k == u) = bb at *
  clear hl hc hg e
  go_enter Tryd.func55, Tryd.ntmps55
  go_wp2_with fail
  refine (HC.out _ (below1 _ _)).mono ?_
  rintro e w' ⟨rfl, rfl⟩
  go_wp2
  go_ret
  exact ⟨rfl, below1 _ _⟩

theorem enteredOf : Entered 55 := fun args w => by simp [go_sem]

theorem of_any (l : List Int) (g n : Nat) (w : World) (hl : l.length = n) (hn : n ≤ 1000000) (hg : g < w.heap.size) (hc : ∀ i u, l[i]? = some u → w.cell? ⟨g, i, none⟩ = some (.int .i64 u)) :
    Calls Tryd.prog 41 #[.slice (some ⟨g, 0, none⟩) n n] w fun e w' => Below w.heap.size w w' ∧ ∃ v, e = .returned v ∧ TestOk w' v (isOf l) := by
  have HF : Hid (TestOk (w.alloc (.cells #[.slice (some ⟨g, 0, none⟩) n n] 72)) (.func (.func 55) #[] #[.pointer (some ⟨w.heap.size, 0, none⟩)]) (isOf l)) := by
    refine ⟨_, _, rfl, enteredOf, fun W hW k x y A m c => of1_any l w.heap.size g n n k x y A m c W hl hn ?_ ?_ ?_ ?_⟩
    · have := hW.size; simp at this; omega
    · exact (hW.cell (p := ⟨w.heap.size, 0, none⟩) (by simp)).trans (by rw [World.cell?_alloc_at _ _ _ _ rfl]; rfl)
    · have := hW.size; simp at this; omega
    · intro i u hu
      refine (hW.cell (p := ⟨g, i, none⟩) (by simp; omega)).trans ?_
      rw [World.cell?_alloc_lt _ _ _ hg]; exact hc i u hu
  clear hl hc hg
  go_enter Tryd.func41, Tryd.ntmps41
  go_wp2
  go_ret
  exact ⟨below1 _ _, _, rfl, HF.out⟩

/-- The function value v takes the part pt of Kids, now and later. -/
def TakePost (pt : Pt) (f : F) (w : World) (e : Ending) (w' : World) : Prop :=
  Below w.heap.size w w' ∧ ((pt.take f = none ∧ ∃ v, e = .returned (.tuple #[v, .bool false])) ∨ (∃ g A n C, pt.take f = some g ∧ e = .returned (.tuple #[.slice A n C, .bool true]) ∧ Fs w (Lo w.heap.size) (.slice A n C) g))
def PartOk (w : World) (v : Value) (pt : Pt) : Prop :=
  ∃ gf c, v = .func (.func gf) #[] #[.pointer (some ⟨c, 0, none⟩)] ∧ Entered gf ∧ ∀ W, Below w.heap.size w W → ∀ A n C f, Fs W (Lo W.heap.size) (.slice A n C) f → Calls Tryd.prog gf #[.slice A n C, .pointer (some ⟨c, 0, none⟩)] W (TakePost pt f W)
theorem PartOk.later {w w' : World} {v : Value} {pt : Pt} (h : PartOk w v pt) (hb : Below w.heap.size w w') : PartOk w' v pt := by
  obtain ⟨gf, c, e, he, hc⟩ := h
  exact ⟨gf, c, e, he, fun W hW => hc W (hb.trans (hW.mono hb.size))⟩

theorem Fs.tail {w : World} {S : Nat → Prop} {b off n C : Nat} {k : Int} {x y : ByteArray} {c r : F} (h : Fs w S (.slice (some ⟨b, off, none⟩) n C) (.cons k x y c r)) :
    1 ≤ n ∧ n ≤ C ∧ C ≤ 9223372036854775807 ∧ r.len = n - 1 ∧ ∀ A', (n - 1 = 0 ∨ A' = some ⟨b, off + 4, none⟩) → Fs w S (.slice A' (n - 1) (C - 1)) r := by
  obtain ⟨b', off', n', C', s, e, h1, h2, h3, _, _, _, _, _, _, hr⟩ := h
  injection e with e1 e2 e3
  injection e1 with e1
  injection e1 with e4 e5
  subst e4; subst e5; subst e2; subst e3
  refine ⟨by omega, by omega, h3, by simpa using h1, fun A' hA => ?_⟩
  simp only [Nat.add_sub_cancel] at hA ⊢
  refine hr A' ?_
  rcases hA with hA | hA
  · exact .inl (F.len_zero (by omega))
  · exact .inr hA
/-- kids[1:]. -/
theorem tail_slice (b off n C : Nat) (hn : 1 ≤ n) (hC : n ≤ C) : ∃ A' n' C', (∀ W, (Instr.slice 22 (.slice (some ⟨b, off, none⟩) n C) (some (.int .i64 1)) none none).run Tryd.prog W = .ok (.slice A' n' C') W) ∧ n' = n - 1 ∧ C' = C - 1 ∧ (n - 1 = 0 ∨ A' = some ⟨b, off + 4, none⟩) := by
  have h2 : (1 : Int) ≤ (n : Int) := by omega
  refine ⟨if C = 1 then some ⟨b, off, none⟩ else some ⟨b, off + 4, none⟩, n - 1, C - 1, fun W => ?_, rfl, rfl, ?_⟩
  · rw [run_slice_l (P := Tryd.prog) W 22 _ n C (by kernel_rfl) .i64 1 (by omega) h2]
    have hs : (sizeOf (Tryd.prog.elem 22)).run Tryd.prog W = .ok 4 W := by kernel_rfl
    rw [hs]
    simp only [Result.andThen_ok, sliced, Addr.add]
    by_cases hc : C = 1 <;> simp [hc]
  · by_cases hc : C = 1
    · left; omega
    · right; rw [if_neg hc]

theorem lt_new {w W : World} {o : Obj} (h : (World.drew (w.alloc o)).heap.size ≤ W.heap.size) : w.heap.size < W.heap.size := by
  have e : (World.drew (w.alloc o)).heap.size = w.heap.size + 1 := by show (w.alloc o).heap.size = _; simp
  omega

theorem hid_mono {p q : Prop} (h : p → q) (hp : Hid p) : Hid q := h hp

set_option maxRecDepth 100000 in
set_option maxHeartbeats 4000000 in
theorem one1_any (ps : List (Int → ByteArray → Bool)) (cb g n0 : Nat) (A : Option Addr) (n C : Nat) (f : F) (w : World) (hf : Fs w (Lo w.heap.size) (.slice A n C) f) (hl : ps.length = n0) (hn : n0 ≤ 1000000)
    (hcb : w.cell? ⟨cb, 0, none⟩ = some (.slice (some ⟨g, 0, none⟩) n0 n0)) (hcl : cb < w.heap.size) (hg : g < w.heap.size) (hts : ∀ i p, ps[i]? = some p → ∃ v, w.cell? ⟨g, i, none⟩ = some v ∧ TestOk w v p) :
    Calls Tryd.prog 58 #[.slice A n C, .pointer (some ⟨cb, 0, none⟩)] w (TakePost (.one ps) f w) := by
  cases hfe : f with
  | nil =>
    obtain ⟨A', C', e, _, _⟩ := hf.slice
    injection e with e1 e2 e3
    subst e1; subst e3
    rw [hfe] at e2
    simp only [F.len] at e2
    subst e2
    clear hf hts hcb hg hfe
    go_enter Tryd.func58, Tryd.ntmps58
    go_wp2
    go_ret2
    exact ⟨below1 _ _, .inl ⟨rfl, _, rfl⟩⟩
  | cons k x y c r =>
    rw [hfe] at hf
    obtain ⟨b, off, s, rfl, hb, hi, hat⟩ := hf.at_ (i := 0) rfl
    obtain ⟨As, Cs, rfl, _, _⟩ := hat.kids.slice
    have c0 := hat.c0; have c1 := hat.c1; have c2 := hat.c2; have c3 := hat.c3
    simp only [Nat.zero_mul, Nat.add_zero] at c0 c1 c2 c3
    obtain ⟨h1n, hnC, hCm, hrl, hr⟩ := hf.tail
    obtain ⟨A', n', C', hsl, en, eC, hA'⟩ := tail_slice b off n C h1n hnC
    have hr2 := hr A' hA'
    rw [← en, ← eC] at hr2
    have hcw : ∀ W, Below w.heap.size w W → W.cell? ⟨cb, 0, none⟩ = some (.slice (some ⟨g, 0, none⟩) n0 n0) := fun W hW => (hW.cell (p := ⟨cb, 0, none⟩) hcl).trans hcb
    have HK := Lib.hid (fun (W : World) (hW : Below w.heap.size w W) (cb2 : Nat) (hc2 : cb2 < W.heap.size) (hk2 : W.cell? ⟨cb2, 0, none⟩ = some (.slice (some ⟨b, off, none⟩) n C)) =>
      containsF_any ps g n0 n0 cb2 b off n C k x y As c.len Cs W (by have := hW.size; omega) hl hn (fun i p hp => by
        obtain ⟨v, hv, ht⟩ := hts i p hp
        exact ⟨v, (hW.cell (p := ⟨g, i, none⟩) hg).trans hv, ht.later hW⟩) hc2 (by have := hW.size; have : b < w.heap.size := hb; omega) hk2 (by omega)
        ((hW.cell (p := ⟨b, off, none⟩) hb).trans c0) ((hW.cell (p := ⟨b, off + 1, none⟩) hb).trans c1) ((hW.cell (p := ⟨b, off + 2, none⟩) hb).trans c2) ((hW.cell (p := ⟨b, off + 3, none⟩) hb).trans c3))
    have HR := Lib.hid hr2
    have hpt : Pt.take (.one ps) (.cons k x y c r) = if ps.any (fun p => p k x) then some r else none := rfl
    have HPT := Lib.hid hpt
    generalize ps.any (fun p => p k x) = bb at *
    have hb1 := below1 w (.cells #[.slice (some ⟨b, off, none⟩) n C] 22)
    have hcc := hcw _ hb1
    have hn0 : ((n : Int) == 0) = false := kno (by omega)
    have HCW := Lib.hid hcw
    have HB1 := Lib.hid hb1
    have HC2 : Hid (∀ W, Below (w.alloc (.cells #[.slice (some ⟨b, off, none⟩) n C] 22)).heap.size (w.alloc (.cells #[.slice (some ⟨b, off, none⟩) n C] 22)) W → W.cell? ⟨w.heap.size, 0, none⟩ = some (.slice (some ⟨b, off, none⟩) n C)) := fun W hW =>
      (hW.cell (p := ⟨w.heap.size, 0, none⟩) (by simp)).trans (by rw [World.cell?_alloc_at _ _ _ _ rfl]; rfl)
    have HQ := Lib.hid (fun (W : World) (hW : Below (w.alloc (.cells #[.slice (some ⟨b, off, none⟩) n C] 22)).heap.size (w.alloc (.cells #[.slice (some ⟨b, off, none⟩) n C] 22)) W) =>
      HK.out W (hb1.trans (hW.mono hb1.size)) w.heap.size (lt_new (o := .cells #[.slice (some ⟨b, off, none⟩) n C] 22) hW.size) (HC2.out W hW))
    clear hf hts hg hfe hat c0 c1 c2 c3 hr hr2 hpt hcw hb1 hb hi hrl en eC hA' HK hcb
    go_enter Tryd.func58, Tryd.ntmps58
    go_wp2
    refine region_rel (fun W W' => Below W.heap.size W W') [Cd.is (Value.slice (some ⟨b, off, none⟩) n C), Cd.is (Value.slice A' n' C'), Cd.is (Value.slice (some ⟨g, 0, none⟩) n0 n0), Cd.is (Value.func (.func 59) #[] #[.pointer (some ⟨w.heap.size, 0, none⟩)]), Cd.is (Value.bool bb), Cd.is (Value.slice A' n' C'), Cd.is (Value.bool bb)] (by kernel_rfl) (by decide) (by kernel_rfl) (Below.refl _ _) (fun _ _ _ h k => h.trans (k.mono h.size)) ?steps ?behind
    case steps =>
      intro xv W hW a ha
      replace hW := undrew hW
      simp only [fillA] at ha
      simp only [List.setIfInBounds_toArray, List.set_cons_succ, List.set_cons_zero, Nat.zero_add, Nat.reduceAdd] at ha
      subst ha
      refine ⟨fun hd K hK => ?s0, fun hd K hK => ?s1, fun hd K hK => ?s2, fun hd K hK => ?s3, fun hd K hK => ?s4, fun hd K hK => ?s5, fun hd K hK => ?s6, trivial⟩
      case s0 =>
        clear hd
        simp only [Act.put, List.setIfInBounds_toArray, List.set_cons_succ, List.set_cons_zero] at hK
        refine (if_pos (by rfl)).mpr ?_
        have hcell := HC2.out W hW
        go_simp
        exact hK.out _ _ (Below.refl _ _) rfl
      case s1 =>
        have hx0 : xv 0 = Value.slice (some ⟨b, off, none⟩) n C := hd 0 (by kernel_rfl)
        clear hd
        simp only [Act.put, List.setIfInBounds_toArray, List.set_cons_succ, List.set_cons_zero] at hK
        rw [hx0] at hK ⊢
        refine (if_pos (by rfl)).mpr ?_
        go_simp
        exact hK.out _ _ (Below.refl _ _) rfl
      case s2 =>
        clear hd
        simp only [Act.put, List.setIfInBounds_toArray, List.set_cons_succ, List.set_cons_zero] at hK
        refine (if_pos (by rfl)).mpr ?_
        have hcell := HCW.out W (HB1.out.trans (hW.mono HB1.out.size))
        go_simp
        exact hK.out _ _ (Below.refl _ _) rfl
      case s3 =>
        clear hd
        simp only [Act.put, List.setIfInBounds_toArray, List.set_cons_succ, List.set_cons_zero] at hK
        refine (if_pos (by rfl)).mpr ?_
        go_simp
        exact hK.out _ _ (Below.refl _ _) rfl
      case s4 =>
        have hx2 : xv 2 = Value.slice (some ⟨g, 0, none⟩) n0 n0 := hd 2 (by kernel_rfl)
        have hx3 : xv 3 = Value.func (.func 59) #[] #[.pointer (some ⟨w.heap.size, 0, none⟩)] := hd 3 (by kernel_rfl)
        clear hd
        simp only [Act.put, List.setIfInBounds_toArray, List.set_cons_succ, List.set_cons_zero] at hK
        rw [hx2] at hK ⊢
        rw [hx3] at hK ⊢
        refine (if_pos (by rfl)).mpr ?_
        go_simp
        refine (HQ.out W hW).mono ?_
        rintro e w' ⟨rfl, hb⟩
        exact hK.out _ _ hb rfl
      case s5 =>
        have hx1 : xv 1 = Value.slice A' n' C' := hd 1 (by kernel_rfl)
        clear hd
        simp only [Act.put, List.setIfInBounds_toArray, List.set_cons_succ, List.set_cons_zero] at hK
        rw [hx1] at hK ⊢
        refine (if_pos (by rfl)).mpr ?_
        go_simp
        exact hK.out _ _ (Below.refl _ _) rfl
      case s6 =>
        have hx4 : xv 4 = Value.bool bb := hd 4 (by kernel_rfl)
        clear hd
        simp only [Act.put, List.setIfInBounds_toArray, List.set_cons_succ, List.set_cons_zero] at hK
        rw [hx4] at hK ⊢
        refine (if_pos (by rfl)).mpr ?_
        go_simp
        exact hK.out _ _ (Below.refl _ _) rfl
    case behind =>
      intro xv W hW hx a ha
      replace hW := undrew hW
      simp only [fillA] at ha
      simp only [List.setIfInBounds_toArray, List.set_cons_succ, List.set_cons_zero, Nat.zero_add, Nat.reduceAdd] at ha
      subst ha
      have h5 : xv 5 = Value.slice A' n' C' := hx 5 (by decide)
      have h6 : xv 6 = Value.bool bb := hx 6 (by decide)
      rw [h5, h6]
      go_wp2
      go_ret2
      refine ⟨HB1.out.trans (hW.mono HB1.out.size), ?_⟩
      cases bb with
      | true => exact .inr ⟨r, A', n', C', HPT.out, rfl, HR.out⟩
      | false => exact .inl ⟨HPT.out, _, rfl⟩

theorem enteredOne : Entered 58 := fun args w => by simp [go_sem]
theorem one_any (ps : List (Int → ByteArray → Bool)) (g n0 : Nat) (w : World) (hl : ps.length = n0) (hn : n0 ≤ 1000000) (hg : g < w.heap.size) (hts : ∀ i p, ps[i]? = some p → ∃ v, w.cell? ⟨g, i, none⟩ = some v ∧ TestOk w v p) :
    Calls Tryd.prog 44 #[.slice (some ⟨g, 0, none⟩) n0 n0] w fun e w' => Below w.heap.size w w' ∧ ∃ v, e = .returned v ∧ PartOk w' v (.one ps) := by
  have hb1 := below1 w (.cells #[.slice (some ⟨g, 0, none⟩) n0 n0] 76)
  have HF : Hid (PartOk (w.alloc (.cells #[.slice (some ⟨g, 0, none⟩) n0 n0] 76)) (.func (.func 58) #[] #[.pointer (some ⟨w.heap.size, 0, none⟩)]) (.one ps)) := by
    refine ⟨_, _, rfl, enteredOne, fun W hW A n C f hf => one1_any ps w.heap.size g n0 A n C f W hf hl hn ?_ ?_ ?_ ?_⟩
    · exact (hW.cell (p := ⟨w.heap.size, 0, none⟩) (by simp)).trans (by rw [World.cell?_alloc_at _ _ _ _ rfl]; rfl)
    · have := hW.size; simp at this; omega
    · have := hW.size; simp at this; omega
    · intro i p hp
      obtain ⟨v, hv, ht⟩ := hts i p hp
      have hb2 := hb1.trans (hW.mono hb1.size)
      exact ⟨v, (hb2.cell (p := ⟨g, i, none⟩) hg).trans hv, ht.later hb2⟩
  have HB := Lib.hid hb1
  clear hl hts hg hb1
  go_enter Tryd.func44, Tryd.ntmps44
  go_wp2
  go_ret
  exact ⟨HB.out, _, rfl, HF.out⟩

/-- How far many has come. -/
def ManyAt (w wr : World) (p : Int → ByteArray → Bool) (f : F) (A : Option Addr) (n C : Nat) (g : F) : Prop := Fs w (Lo w.heap.size) (.slice A n C) g ∧ dropM p g = dropM p f
def slLen : Value → Nat
  | .slice _ n _ => n
  | _ => 0

set_option maxRecDepth 100000 in
set_option maxHeartbeats 4000000 in
theorem many1_any (p : Int → ByteArray → Bool) (cb : Nat) (vt : Value) (A : Option Addr) (n C : Nat) (f : F) (w : World) (hf : Fs w (Lo w.heap.size) (.slice A n C) f) (hcb : w.cell? ⟨cb, 0, none⟩ = some vt) (hcl : cb < w.heap.size) (ht : TestOk w vt p) :
    Calls Tryd.prog 57 #[.slice A n C, .pointer (some ⟨cb, 0, none⟩)] w (TakePost (.many p) f w) := by
  obtain ⟨gf, caps, rfl, eg, hc⟩ := ht
  have HT := Lib.hid hc
  have HC := Lib.hid (fun (W : World) (hW : Below w.heap.size w W) => (hW.cell (p := ⟨cb, 0, none⟩) hcl).trans hcb)
  have HF : Hid (ManyAt w w p f A n C f) := ⟨hf, rfl⟩
  unfold Entered at eg
  clear hf hcb hcl hc
  go_enter Tryd.func57, Tryd.ntmps57
  go_wp2
  go_loopw [0] (fun s0 wr => ∃ A n C g, s0 = .slice A n C ∧ Hid (ManyAt w wr p f A n C g) ∧ Hid (Below w.heap.size w wr)) (fun s0 _ => slLen s0)
  case atStart => exact ⟨A, n, C, f, rfl, HF.out, Below.refl _ _⟩
  case round =>
    obtain ⟨A, n, C, g, rfl, HM, HB⟩ := hrel
    cases hg : g with
    | nil =>
      rw [hg] at HM
      obtain ⟨A0, C0, e, _, _⟩ := HM.out.1.slice
      injection e with e1 e2 e3
      subst e1; subst e3
      simp only [F.len] at e2
      subst e2
      have HE : Hid (Fs w (Lo w.heap.size) (.slice A 0 C) (dropM p f)) := by
        have := HM.out.1
        rw [← HM.out.2]; exact this
      clear HM hg
      go_wp2
      go_quiet (fail)
      go_wp2
      go_ret2
      exact ⟨drewNb HB.out _, .inr ⟨_, _, _, _, rfl, rfl, HE.out⟩⟩
    | cons k x y c r =>
      rw [hg] at HM
      obtain ⟨b, off, s, rfl, hb0, hi, hat⟩ := HM.out.1.at_ (i := 0) rfl
      obtain ⟨As, Cs, rfl, _, _⟩ := hat.kids.slice
      have hb : b < wr.heap.size := Nat.lt_of_lt_of_le hb0 HB.out.size
      have cc : ∀ o, wr.cell? ⟨b, o, none⟩ = w.cell? ⟨b, o, none⟩ := fun o => HB.out.cell (p := ⟨b, o, none⟩) hb0
      have c0 := hat.c0; have c1 := hat.c1; have c2 := hat.c2; have c3 := hat.c3
      simp only [Nat.zero_mul, Nat.add_zero, ← cc] at c0 c1 c2 c3
      obtain ⟨h1n, hnC, hCm, hrl, hr⟩ := HM.out.1.tail
      obtain ⟨A', n', C', hsl, en, eC, hA'⟩ := tail_slice b off n C h1n hnC
      have hr2 := hr A' hA'
      rw [← en, ← eC] at hr2
      have HQ := Lib.hid (fun (W : World) (hW : Below wr.heap.size wr W) => HT.out W (HB.out.trans (hW.mono HB.out.size)) k x y As c.len Cs)
      have hlt : n' < n := by omega
      have hn0 : (0 : Int) < (n : Int) := by omega
      have hn1 : (1 : Int) ≤ (n : Int) := by omega
      have hdrop : dropM p (.cons k x y c r) = if p k x then dropM p r else .cons k x y c r := rfl
      cases hp : p k x with
      | true =>
        have HM2 : Hid (∀ W, Below wr.heap.size wr W → ManyAt w W p f A' n' C' r) := fun W hW => ⟨hr2, by rw [← HM.out.2, hdrop, hp]; rfl⟩
        rw [hp] at HQ
        clear HM hg hat cc hr hr2 hdrop hp hA' eC en
        go_wp2
        refine region_rel (fun W W' => Below W.heap.size W W') [Cd.is (Value.slice (some ⟨b, off, none⟩) n C), Cd.is (Value.int .i64 (n : Int)), Cd.is (Value.bool true), Cd.is (Value.bool true), Cd.is (Value.func (.func gf) #[] caps), Cd.is (Value.slice (some ⟨b, off, none⟩) n C), Cd.is (Value.pointer (some ⟨b, off, none⟩)), Cd.is (Value.agg #[.int .i64 k, .string x, .string y, .slice As c.len Cs]), Cd.is (Value.bool true), Cd.is (Value.bool true)] (by kernel_rfl) (by decide) (by kernel_rfl) (Below.refl _ _) (fun _ _ _ h k => h.trans (k.mono h.size)) ?steps ?behind
        case steps =>
          intro xv W hW a ha
          replace hW := undrew hW
          simp only [fillA] at ha
          simp only [List.setIfInBounds_toArray, List.set_cons_succ, List.set_cons_zero, Nat.zero_add, Nat.reduceAdd] at ha
          subst ha
          refine ⟨fun hd K hK => ?s0, fun hd K hK => ?s1, fun hd K hK => ?s2, fun hd K hK => ?s3, fun hd K hK => ?s4, fun hd K hK => ?s5, fun hd K hK => ?s6, fun hd K hK => ?s7, fun hd K hK => ?s8, fun hd K hK => ?s9, trivial⟩
          case s0 =>
            clear hd
            simp only [Act.put, List.setIfInBounds_toArray, List.set_cons_succ, List.set_cons_zero] at hK
            refine (if_pos (by rfl)).mpr ?_
            go_simp
            exact hK.out _ _ (Below.refl _ _) rfl
          case s1 =>
            have hx0 : xv 0 = Value.slice (some ⟨b, off, none⟩) n C := hd 0 (by kernel_rfl)
            clear hd
            simp only [Act.put, List.setIfInBounds_toArray, List.set_cons_succ, List.set_cons_zero] at hK
            rw [hx0] at hK ⊢
            refine (if_pos (by rfl)).mpr ?_
            go_simp
            exact hK.out _ _ (Below.refl _ _) rfl
          case s2 =>
            have hx1 : xv 1 = Value.int .i64 (n : Int) := hd 1 (by kernel_rfl)
            clear hd
            simp only [Act.put, List.setIfInBounds_toArray, List.set_cons_succ, List.set_cons_zero] at hK
            rw [hx1] at hK ⊢
            refine (if_pos (by rfl)).mpr ?_
            go_simp
            exact hK.out _ _ (Below.refl _ _) rfl
          case s3 =>
            have hx2 : xv 2 = Value.bool true := hd 2 (by kernel_rfl)
            clear hd
            simp only [Act.put, List.setIfInBounds_toArray, List.set_cons_succ, List.set_cons_zero] at hK
            rw [hx2] at hK ⊢
            refine (if_pos (by rfl)).mpr ?_
            go_simp
            exact hK.out _ _ (Below.refl _ _) rfl
          case s4 =>
            have hx3 : xv 3 = Value.bool true := hd 3 (by kernel_rfl)
            clear hd
            simp only [Act.put, List.setIfInBounds_toArray, List.set_cons_succ, List.set_cons_zero] at hK
            rw [hx3] at hK ⊢
            refine (if_pos (by rfl)).mpr ?_
            have hcell := HC.out W (HB.out.trans (hW.mono HB.out.size))
            go_simp
            exact hK.out _ _ (Below.refl _ _) rfl
          case s5 =>
            have hx3 : xv 3 = Value.bool true := hd 3 (by kernel_rfl)
            clear hd
            simp only [Act.put, List.setIfInBounds_toArray, List.set_cons_succ, List.set_cons_zero] at hK
            rw [hx3] at hK ⊢
            refine (if_pos (by rfl)).mpr ?_
            go_simp
            exact hK.out _ _ (Below.refl _ _) rfl
          case s6 =>
            have hx3 : xv 3 = Value.bool true := hd 3 (by kernel_rfl)
            have hx5 : xv 5 = Value.slice (some ⟨b, off, none⟩) n C := hd 5 (by kernel_rfl)
            clear hd
            simp only [Act.put, List.setIfInBounds_toArray, List.set_cons_succ, List.set_cons_zero] at hK
            rw [hx3] at hK ⊢
            rw [hx5] at hK ⊢
            refine (if_pos (by rfl)).mpr ?_
            go_simp
            exact hK.out _ _ (Below.refl _ _) rfl
          case s7 =>
            have hx3 : xv 3 = Value.bool true := hd 3 (by kernel_rfl)
            have hx6 : xv 6 = Value.pointer (some ⟨b, off, none⟩) := hd 6 (by kernel_rfl)
            clear hd
            simp only [Act.put, List.setIfInBounds_toArray, List.set_cons_succ, List.set_cons_zero] at hK
            rw [hx3] at hK ⊢
            rw [hx6] at hK ⊢
            refine (if_pos (by rfl)).mpr ?_
            have hc0 := (hW.cell (p := ⟨b, off, none⟩) hb).trans c0; have hc1 := (hW.cell (p := ⟨b, off + 1, none⟩) hb).trans c1; have hc2 := (hW.cell (p := ⟨b, off + 2, none⟩) hb).trans c2; have hc3 := (hW.cell (p := ⟨b, off + 3, none⟩) hb).trans c3
            go_simp
            exact hK.out _ _ (Below.refl _ _) rfl
          case s8 =>
            have hx3 : xv 3 = Value.bool true := hd 3 (by kernel_rfl)
            have hx4 : xv 4 = Value.func (.func gf) #[] caps := hd 4 (by kernel_rfl)
            have hx7 : xv 7 = Value.agg #[.int .i64 k, .string x, .string y, .slice As c.len Cs] := hd 7 (by kernel_rfl)
            clear hd
            simp only [Act.put, List.setIfInBounds_toArray, List.set_cons_succ, List.set_cons_zero] at hK
            rw [hx3] at hK ⊢
            rw [hx4] at hK ⊢
            rw [hx7] at hK ⊢
            refine (if_pos (by rfl)).mpr ?_
            go_simp
            go_at_fn gf
            refine (HQ.out W hW).mono ?_
            rintro e w' ⟨rfl, hbw⟩
            exact hK.out _ _ hbw rfl
          case s9 =>
            have hx3 : xv 3 = Value.bool true := hd 3 (by kernel_rfl)
            have hx8 : xv 8 = Value.bool true := hd 8 (by kernel_rfl)
            clear hd
            simp only [Act.put, List.setIfInBounds_toArray, List.set_cons_succ, List.set_cons_zero] at hK
            rw [hx3] at hK ⊢
            rw [hx8] at hK ⊢
            refine (if_pos (by rfl)).mpr ?_
            go_simp
            exact hK.out _ _ (Below.refl _ _) rfl
        case behind =>
          intro xv W hW hx a ha
          replace hW := undrew hW
          simp only [fillA] at ha
          simp only [List.setIfInBounds_toArray, List.set_cons_succ, List.set_cons_zero, Nat.zero_add, Nat.reduceAdd] at ha
          subst ha
          have h9 : xv 9 = Value.bool true := hx 9 (by decide)
          rw [h9]
          have HW := Lib.hid (HB.out.trans (hW.mono HB.out.size))
          have HG := Lib.hid (HM2.out W hW)
          clear hW hx h9 HQ HM2 HB
          go_wp2
          go_roundw
          case rel => exact ⟨A', n', C', r, rfl, HG.out, HW.out⟩
          case measure => simp [slLen]; omega
      | false =>
        have HE : Hid (Fs w (Lo w.heap.size) (.slice (some ⟨b, off, none⟩) n C) (dropM p f)) := by
          rw [← HM.out.2, hdrop, hp]; exact HM.out.1
        rw [hp] at HQ
        clear HM hg hat cc hr hr2 hdrop hp hA' eC en
        go_wp2
        refine region_rel (fun W W' => Below W.heap.size W W') [Cd.is (Value.slice (some ⟨b, off, none⟩) n C), Cd.is (Value.int .i64 (n : Int)), Cd.is (Value.bool true), Cd.is (Value.bool true), Cd.is (Value.func (.func gf) #[] caps), Cd.is (Value.slice (some ⟨b, off, none⟩) n C), Cd.is (Value.pointer (some ⟨b, off, none⟩)), Cd.is (Value.agg #[.int .i64 k, .string x, .string y, .slice As c.len Cs]), Cd.is (Value.bool false), Cd.is (Value.bool false)] (by kernel_rfl) (by decide) (by kernel_rfl) (Below.refl _ _) (fun _ _ _ h k => h.trans (k.mono h.size)) ?steps ?behind
        case steps =>
          intro xv W hW a ha
          replace hW := undrew hW
          simp only [fillA] at ha
          simp only [List.setIfInBounds_toArray, List.set_cons_succ, List.set_cons_zero, Nat.zero_add, Nat.reduceAdd] at ha
          subst ha
          refine ⟨fun hd K hK => ?s0, fun hd K hK => ?s1, fun hd K hK => ?s2, fun hd K hK => ?s3, fun hd K hK => ?s4, fun hd K hK => ?s5, fun hd K hK => ?s6, fun hd K hK => ?s7, fun hd K hK => ?s8, fun hd K hK => ?s9, trivial⟩
          case s0 =>
            clear hd
            simp only [Act.put, List.setIfInBounds_toArray, List.set_cons_succ, List.set_cons_zero] at hK
            refine (if_pos (by rfl)).mpr ?_
            go_simp
            exact hK.out _ _ (Below.refl _ _) rfl
          case s1 =>
            have hx0 : xv 0 = Value.slice (some ⟨b, off, none⟩) n C := hd 0 (by kernel_rfl)
            clear hd
            simp only [Act.put, List.setIfInBounds_toArray, List.set_cons_succ, List.set_cons_zero] at hK
            rw [hx0] at hK ⊢
            refine (if_pos (by rfl)).mpr ?_
            go_simp
            exact hK.out _ _ (Below.refl _ _) rfl
          case s2 =>
            have hx1 : xv 1 = Value.int .i64 (n : Int) := hd 1 (by kernel_rfl)
            clear hd
            simp only [Act.put, List.setIfInBounds_toArray, List.set_cons_succ, List.set_cons_zero] at hK
            rw [hx1] at hK ⊢
            refine (if_pos (by rfl)).mpr ?_
            go_simp
            exact hK.out _ _ (Below.refl _ _) rfl
          case s3 =>
            have hx2 : xv 2 = Value.bool true := hd 2 (by kernel_rfl)
            clear hd
            simp only [Act.put, List.setIfInBounds_toArray, List.set_cons_succ, List.set_cons_zero] at hK
            rw [hx2] at hK ⊢
            refine (if_pos (by rfl)).mpr ?_
            go_simp
            exact hK.out _ _ (Below.refl _ _) rfl
          case s4 =>
            have hx3 : xv 3 = Value.bool true := hd 3 (by kernel_rfl)
            clear hd
            simp only [Act.put, List.setIfInBounds_toArray, List.set_cons_succ, List.set_cons_zero] at hK
            rw [hx3] at hK ⊢
            refine (if_pos (by rfl)).mpr ?_
            have hcell := HC.out W (HB.out.trans (hW.mono HB.out.size))
            go_simp
            exact hK.out _ _ (Below.refl _ _) rfl
          case s5 =>
            have hx3 : xv 3 = Value.bool true := hd 3 (by kernel_rfl)
            clear hd
            simp only [Act.put, List.setIfInBounds_toArray, List.set_cons_succ, List.set_cons_zero] at hK
            rw [hx3] at hK ⊢
            refine (if_pos (by rfl)).mpr ?_
            go_simp
            exact hK.out _ _ (Below.refl _ _) rfl
          case s6 =>
            have hx3 : xv 3 = Value.bool true := hd 3 (by kernel_rfl)
            have hx5 : xv 5 = Value.slice (some ⟨b, off, none⟩) n C := hd 5 (by kernel_rfl)
            clear hd
            simp only [Act.put, List.setIfInBounds_toArray, List.set_cons_succ, List.set_cons_zero] at hK
            rw [hx3] at hK ⊢
            rw [hx5] at hK ⊢
            refine (if_pos (by rfl)).mpr ?_
            go_simp
            exact hK.out _ _ (Below.refl _ _) rfl
          case s7 =>
            have hx3 : xv 3 = Value.bool true := hd 3 (by kernel_rfl)
            have hx6 : xv 6 = Value.pointer (some ⟨b, off, none⟩) := hd 6 (by kernel_rfl)
            clear hd
            simp only [Act.put, List.setIfInBounds_toArray, List.set_cons_succ, List.set_cons_zero] at hK
            rw [hx3] at hK ⊢
            rw [hx6] at hK ⊢
            refine (if_pos (by rfl)).mpr ?_
            have hc0 := (hW.cell (p := ⟨b, off, none⟩) hb).trans c0; have hc1 := (hW.cell (p := ⟨b, off + 1, none⟩) hb).trans c1; have hc2 := (hW.cell (p := ⟨b, off + 2, none⟩) hb).trans c2; have hc3 := (hW.cell (p := ⟨b, off + 3, none⟩) hb).trans c3
            go_simp
            exact hK.out _ _ (Below.refl _ _) rfl
          case s8 =>
            have hx3 : xv 3 = Value.bool true := hd 3 (by kernel_rfl)
            have hx4 : xv 4 = Value.func (.func gf) #[] caps := hd 4 (by kernel_rfl)
            have hx7 : xv 7 = Value.agg #[.int .i64 k, .string x, .string y, .slice As c.len Cs] := hd 7 (by kernel_rfl)
            clear hd
            simp only [Act.put, List.setIfInBounds_toArray, List.set_cons_succ, List.set_cons_zero] at hK
            rw [hx3] at hK ⊢
            rw [hx4] at hK ⊢
            rw [hx7] at hK ⊢
            refine (if_pos (by rfl)).mpr ?_
            go_simp
            go_at_fn gf
            refine (HQ.out W hW).mono ?_
            rintro e w' ⟨rfl, hbw⟩
            exact hK.out _ _ hbw rfl
          case s9 =>
            have hx3 : xv 3 = Value.bool true := hd 3 (by kernel_rfl)
            have hx8 : xv 8 = Value.bool false := hd 8 (by kernel_rfl)
            clear hd
            simp only [Act.put, List.setIfInBounds_toArray, List.set_cons_succ, List.set_cons_zero] at hK
            rw [hx3] at hK ⊢
            rw [hx8] at hK ⊢
            refine (if_pos (by rfl)).mpr ?_
            go_simp
            exact hK.out _ _ (Below.refl _ _) rfl
        case behind =>
          intro xv W hW hx a ha
          replace hW := undrew hW
          simp only [fillA] at ha
          simp only [List.setIfInBounds_toArray, List.set_cons_succ, List.set_cons_zero, Nat.zero_add, Nat.reduceAdd] at ha
          subst ha
          have h9 : xv 9 = Value.bool false := hx 9 (by decide)
          rw [h9]
          have HW := Lib.hid (HB.out.trans (hW.mono HB.out.size))
          clear hW hx h9 HQ
          go_wp2
          go_ret2
          exact ⟨HW.out, .inr ⟨_, _, _, _, rfl, rfl, HE.out⟩⟩
-- END MANY
end Go.Proofs.YtoecimgmghlfpaaDoor.Tree

/-
  Layer 5 (tree): many, and rows of parts.
-/
namespace Go.Proofs.YtoecimgmghlfpaaDoor.Tree
open Go.ChangeShapes Go.WideShapes Go.ChangeAt Go.RowKit Mem
set_option linter.unusedVariables false

theorem enteredMany : Entered 57 := fun args w => by simp [go_sem]
theorem many_any (p : Int → ByteArray → Bool) (gf : Nat) (caps : Array Value) (w : World) (ht : TestOk w (.func (.func gf) #[] caps) p) :
    Calls Tryd.prog 43 #[.func (.func gf) #[] caps] w fun e w' => Below w.heap.size w w' ∧ ∃ v, e = .returned v ∧ PartOk w' v (.many p) := by
  have hb1 := below1 w (.cells #[.func (.func gf) #[] caps] 55)
  have HF : Hid (PartOk (w.alloc (.cells #[.func (.func gf) #[] caps] 55)) (.func (.func 57) #[] #[.pointer (some ⟨w.heap.size, 0, none⟩)]) (.many p)) := by
    refine ⟨_, _, rfl, enteredMany, fun W hW A n C f hf => many1_any p w.heap.size (.func (.func gf) #[] caps) A n C f W hf ?_ ?_ ?_⟩
    · exact (hW.cell (p := ⟨w.heap.size, 0, none⟩) (by simp)).trans (by rw [World.cell?_alloc_at _ _ _ _ rfl]; rfl)
    · have := hW.size; simp at this; omega
    · exact ht.later (hb1.trans (hW.mono hb1.size))
  have HB := Lib.hid hb1
  clear ht hb1
  go_enter Tryd.func43, Tryd.ntmps43
  go_wp2
  go_ret
  exact ⟨HB.out, _, rfl, HF.out⟩

/-- How far row has come. -/
structure RowAt (w wr : World) (pts : List Pt) (f : F) (k : Nat) (A : Option Addr) (n C : Nat) (g : F) : Prop where
  fs : Fs wr (Lo wr.heap.size) (.slice A n C) g
  eq : rowOK (pts.drop k) g = rowOK pts f
  bel : Below w.heap.size w wr

theorem rowOK_step {pts : List Pt} {k : Nat} {pt : Pt} (h : pts[k]? = some pt) (g : F) : rowOK (pts.drop k) g = (match pt.take g with
    | none => false
    | some g' => rowOK (pts.drop (k + 1)) g') := by
  have hk : k < pts.length := (List.getElem?_eq_some_iff.1 h).1
  have e : pts[k] = pt := by rw [List.getElem?_eq_getElem hk] at h; exact Option.some.inj h
  rw [List.drop_eq_getElem_cons hk, e, rowOK]
  cases pt.take g <;> rfl
theorem rowOK_nil : ∀ f : F, rowOK [] f = decide (f.len = 0)
  | .nil => rfl
  | .cons .. => by simp [rowOK, F.len]

set_option maxRecDepth 100000 in
set_option maxHeartbeats 4000000 in
theorem row_any (pts : List Pt) (g n0 : Nat) (A : Option Addr) (n C : Nat) (f : F) (w : World) (hf : Fs w (Lo w.heap.size) (.slice A n C) f) (hl : pts.length = n0) (hn : n0 ≤ 1000000) (hg : g < w.heap.size)
    (hts : ∀ i p, pts[i]? = some p → ∃ v, w.cell? ⟨g, i, none⟩ = some v ∧ PartOk w v p) :
    Calls Tryd.prog 42 #[.slice A n C, .slice (some ⟨g, 0, none⟩) n0 n0] w fun e w' => e = .returned (.bool (rowOK pts f)) ∧ Below w.heap.size w w' := by
  have Hl := Lib.hid hl; have Ht := Lib.hid hts; have HG := Lib.hid hg
  have HF : Hid (RowAt w w pts f 0 A n C f) := ⟨hf, rfl, Below.refl _ _⟩
  clear hl hts hg hf
  go_enter Tryd.func42, Tryd.ntmps42
  go_wp2
  go_loopw [0, 11] (fun s0 i wr => ∃ (k : Nat) (A : Option Addr) (n C : Nat) (g' : F), k ≤ n0 ∧ i = .int .i64 k ∧ s0 = .slice A n C ∧ Hid (RowAt w wr pts f k A n C g')) (fun _ i _ => n0 - (intOf i).toNat)
  case atStart => exact ⟨0, A, n, C, f, Nat.zero_le _, rfl, rfl, HF.out⟩
  case round =>
    obtain ⟨k, A, n, C, g', hk, rfl, rfl, HM⟩ := hrel
    by_cases hlt : k < n0
    · obtain ⟨pt, hp⟩ : ∃ p, pts[k]? = some p := ⟨_, List.getElem?_eq_getElem (by rw [Hl.out]; exact hlt)⟩
      obtain ⟨v, hv, hok⟩ := Ht.out k pt hp
      obtain ⟨gf, c, rfl, eg, hc⟩ := hok
      have hcell := (HM.out.bel.cell (p := ⟨g, k, none⟩) HG.out).trans hv
      have hlt' : (k : Int) < (n0 : Int) := by omega
      have hk00 : (0 : Int) ≤ (k : Int) := by omega
      have HC := Lib.hid (hc wr HM.out.bel A n C g' HM.out.fs)
      have HS := Lib.hid ((rowOK_step hp g').symm.trans HM.out.eq)
      unfold Entered at eg
      clear hv hc hp
      go_wp2_with fail
      refine HC.out.mono ?_
      rintro e w' ⟨hb1, hh⟩
      have HB1 := Lib.hid (HM.out.bel.trans (hb1.mono HM.out.bel.size))
      rcases hh with ⟨ht, v, rfl⟩ | ⟨g2, A2, n2, C2, ht, rfl, hf2⟩
      · have HE : Hid (rowOK pts f = false) := by show _ = _; rw [← HS.out, ht]
        clear ht hb1
        go_wp2
        go_ret
        exact ⟨by rw [HE.out]; rfl, HB1.out⟩
      · have HE : Hid (RowAt w w' pts f (k + 1) A2 n2 C2 g2) := ⟨(hf2.below hb1 (Nat.le_refl _)).up hb1.size, by rw [← HS.out, ht], HB1.out⟩
        clear ht hb1 hf2
        go_wp2
        go_roundw
        case rel => exact ⟨k + 1, A2, n2, C2, g2, by omega, by go_num, rfl, HE.out⟩
        case measure => simp [intOf]; omega
    · have hn' : ¬ (k : Int) < (n0 : Int) := by omega
      obtain rfl : k = n0 := by omega
      obtain ⟨A0, C0, e, _, _⟩ := HM.out.fs.slice
      injection e with e1 e2 e3
      have HE : Hid (rowOK pts f = decide (n = 0)) := by
        show _ = _
        rw [← HM.out.eq, List.drop_eq_nil_of_le (by rw [Hl.out]; exact Nat.le_refl _), rowOK_nil, e2]
      clear e1 e2 e3
      by_cases hz : n = 0
      · subst hz
        go_wp2
        go_ret
        exact ⟨by rw [HE.out]; rfl, HM.out.bel⟩
      · have hzz : ((n : Int) == 0) = false := kno (by omega)
        rw [decide_eq_false hz] at HE
        clear hz
        go_wp2
        go_ret
        exact ⟨by rw [HE.out]; rfl, HM.out.bel⟩
end Go.Proofs.YtoecimgmghlfpaaDoor.Tree

/-
  Layer 5 (tree): what stands in parentheses.
-/
namespace Go.Proofs.YtoecimgmghlfpaaDoor.Tree
open Go.ChangeShapes Go.WideShapes Go.ChangeAt Go.RowKit
set_option linter.unusedVariables false

/-- Paren at any place. -/
def parenI (pk : Int) (px : ByteArray) (f : F) (p : Int) : Bool :=
  if 0 ≤ p then (match f.drop p.toNat with
    | .nil => false
    | .cons kk kx _ _ _ => paren pk px p.toNat kk kx) else false

theorem paren_out (pk : Int) (px y : ByteArray) (A : Option Addr) (n C : Nat) (p : Int) (hp : p < 0 ∨ (n : Int) ≤ p) (w : World) :
    Calls Tryd.prog 15 #[.agg #[.int .i64 pk, .string px, .string y, .slice A n C], .int .i64 p] w fun e w' => e = .returned (.bool false) ∧ Below w.heap.size w w' := by
  by_cases h0 : p < 0
  · clear hp
    go_enter Tryd.func15, Tryd.ntmps15
    go_wp2
    go_ret
    exact ⟨rfl, (Below.refl _ _).alloc (Nat.le_refl _) _⟩
  · have hn : (n : Int) ≤ p := by omega
    clear hp
    go_enter Tryd.func15, Tryd.ntmps15
    go_wp2
    go_ret
    exact ⟨rfl, (Below.refl _ _).alloc (Nat.le_refl _) _⟩

theorem below2 (w : World) (o1 o2 : Obj) : Below w.heap.size w ((w.alloc o1).alloc o2) := ((Below.refl _ _).alloc (Nat.le_refl _) _).alloc (by simp) _
theorem below2q (w : World) (o1 o2 : Obj) (q : Nat) : Below w.heap.size w (((w.alloc o1).alloc o2).drewN q) := ⟨(below2 w o1 o2).os, (below2 w o1 o2).tape, (below2 w o1 o2).output, (below2 w o1 o2).size, (below2 w o1 o2).block⟩
theorem paren_b0 (px kx : ByteArray) : paren 29 px 0 29 kx = decide (level kx < level px) := rfl
theorem paren_b1 (px kx : ByteArray) : paren 29 px 1 29 kx = decide (level kx ≤ level px) := rfl

set_option maxHeartbeats 4000000 in
theorem paren_at0 (As : Option Addr) (ns Cs b off n C : Nat) (pk kk : Int) (px py kx ky : ByteArray) (w : World) (hb : b < w.heap.size) (hi : (0 : Int) < (n : Int)) (hC : n ≤ C) (hm : C ≤ 9223372036854775807) (c0 : w.cell? ⟨b, off, none⟩ = some (.int .i64 kk)) (c1 : w.cell? ⟨b, off + 1, none⟩ = some (.string kx)) (c2 : w.cell? ⟨b, off + 2, none⟩ = some (.string ky)) (c3 : w.cell? ⟨b, off + 3, none⟩ = some (.slice As ns Cs)) :
    Calls Tryd.prog 15 #[.agg #[.int .i64 pk, .string px, .string py, .slice (some ⟨b, off, none⟩) n C], .int .i64 0] w fun e w' => e = .returned (.bool (paren pk px 0 kk kx)) ∧ Below w.heap.size w w' := by
  have hn0 : ¬ (n : Int) ≤ 0 := by omega
  by_cases p29 : pk = 29
  · subst p29
    by_cases k29 : kk = 29
    · subst k29
      rw [paren_b0]
      have hL := Lib.hid (fun (s : ByteArray) (w : World) => level_any s w)
      go_enter Tryd.func15, Tryd.ntmps15
      go_wp2
      go_quiet (first | (go_at_call 17; refine Calls.quiet_of_same (hL.out _ _)))
      go_wp2
      go_ret
      exact ⟨rfl, below2q _ _ _ _⟩
    · have k29' := kno k29
      rw [show paren 29 px 0 kk kx = false by simp [paren, k29]]
      clear k29
      go_enter Tryd.func15, Tryd.ntmps15
      go_wp2
      go_quiet (fail)
      go_wp2
      go_ret
      exact ⟨rfl, below2q _ _ _ _⟩
  have p29' := kno p29
  by_cases p28 : pk = 28
  · subst p28
    by_cases k29 : kk = 29
    · subst k29
      rw [show paren 28 px 0 29 kx = true from rfl]
      go_enter Tryd.func15, Tryd.ntmps15
      go_wp2
      go_ret
      exact ⟨rfl, below2 _ _ _⟩
    by_cases k28 : kk = 28
    · subst k28
      rw [show paren 28 px 0 28 kx = true from rfl]
      go_enter Tryd.func15, Tryd.ntmps15
      go_wp2
      go_ret
      exact ⟨rfl, below2 _ _ _⟩
    have k29' := kno k29; have k28' := kno k28
    rw [show paren 28 px 0 kk kx = false by simp [paren, k29, k28]]
    clear k29 k28 p29
    go_enter Tryd.func15, Tryd.ntmps15
    go_wp2
    go_ret
    exact ⟨rfl, below2 _ _ _⟩
  have p28' := kno p28
  by_cases p30 : pk = 30
  · subst p30
    by_cases k29 : kk = 29
    · subst k29
      rw [show paren 30 px 0 29 kx = true from rfl]
      go_enter Tryd.func15, Tryd.ntmps15
      go_wp2
      go_ret
      exact ⟨rfl, below2 _ _ _⟩
    by_cases k28 : kk = 28
    · subst k28
      rw [show paren 30 px 0 28 kx = true from rfl]
      go_enter Tryd.func15, Tryd.ntmps15
      go_wp2
      go_ret
      exact ⟨rfl, below2 _ _ _⟩
    have k29' := kno k29; have k28' := kno k28
    rw [show paren 30 px 0 kk kx = false by simp [paren, k29, k28]]
    clear k29 k28
    go_enter Tryd.func15, Tryd.ntmps15
    go_wp2
    go_ret
    exact ⟨rfl, below2 _ _ _⟩
  have p30' := kno p30
  by_cases p31 : pk = 31
  · subst p31
    by_cases k29 : kk = 29
    · subst k29
      rw [show paren 31 px 0 29 kx = true from rfl]
      go_enter Tryd.func15, Tryd.ntmps15
      go_wp2
      go_ret
      exact ⟨rfl, below2 _ _ _⟩
    by_cases k28 : kk = 28
    · subst k28
      rw [show paren 31 px 0 28 kx = true from rfl]
      go_enter Tryd.func15, Tryd.ntmps15
      go_wp2
      go_ret
      exact ⟨rfl, below2 _ _ _⟩
    have k29' := kno k29; have k28' := kno k28
    rw [show paren 31 px 0 kk kx = false by simp [paren, k29, k28]]
    clear k29 k28
    go_enter Tryd.func15, Tryd.ntmps15
    go_wp2
    go_ret
    exact ⟨rfl, below2 _ _ _⟩
  have p31' := kno p31
  by_cases p32 : pk = 32
  · subst p32
    by_cases k29 : kk = 29
    · subst k29
      rw [show paren 32 px 0 29 kx = true from rfl]
      go_enter Tryd.func15, Tryd.ntmps15
      go_wp2
      go_ret
      exact ⟨rfl, below2 _ _ _⟩
    by_cases k28 : kk = 28
    · subst k28
      rw [show paren 32 px 0 28 kx = true from rfl]
      go_enter Tryd.func15, Tryd.ntmps15
      go_wp2
      go_ret
      exact ⟨rfl, below2 _ _ _⟩
    have k29' := kno k29; have k28' := kno k28
    rw [show paren 32 px 0 kk kx = false by simp [paren, k29, k28]]
    clear k29 k28
    go_enter Tryd.func15, Tryd.ntmps15
    go_wp2
    go_ret
    exact ⟨rfl, below2 _ _ _⟩
  have p32' := kno p32
  rw [show paren pk px 0 kk kx = false by simp [paren, p29, p28, p30, p31, p32]]
  clear p29 p28 p30 p31 p32
  go_enter Tryd.func15, Tryd.ntmps15
  go_wp2
  go_ret
  exact ⟨rfl, below2 _ _ _⟩

set_option maxHeartbeats 4000000 in
theorem paren_at1 (As : Option Addr) (ns Cs b off n C : Nat) (pk kk : Int) (px py kx ky : ByteArray) (w : World) (hb : b < w.heap.size) (hi : (1 : Int) < (n : Int)) (hC : n ≤ C) (hm : C ≤ 9223372036854775807) (c0 : w.cell? ⟨b, off + 4, none⟩ = some (.int .i64 kk)) (c1 : w.cell? ⟨b, off + 5, none⟩ = some (.string kx)) (c2 : w.cell? ⟨b, off + 6, none⟩ = some (.string ky)) (c3 : w.cell? ⟨b, off + 7, none⟩ = some (.slice As ns Cs)) :
    Calls Tryd.prog 15 #[.agg #[.int .i64 pk, .string px, .string py, .slice (some ⟨b, off, none⟩) n C], .int .i64 1] w fun e w' => e = .returned (.bool (paren pk px 1 kk kx)) ∧ Below w.heap.size w w' := by
  have hn0 : ¬ (n : Int) ≤ 1 := by omega
  by_cases p29 : pk = 29
  · subst p29
    by_cases k29 : kk = 29
    · subst k29
      rw [paren_b1]
      have hL := Lib.hid (fun (s : ByteArray) (w : World) => level_any s w)
      go_enter Tryd.func15, Tryd.ntmps15
      go_wp2
      go_quiet (first | (go_at_call 17; refine Calls.quiet_of_same (hL.out _ _)))
      go_wp2
      go_ret
      exact ⟨rfl, below2q _ _ _ _⟩
    · have k29' := kno k29
      rw [show paren 29 px 1 kk kx = false by simp [paren, k29]]
      clear k29
      go_enter Tryd.func15, Tryd.ntmps15
      go_wp2
      go_quiet (fail)
      go_wp2
      go_ret
      exact ⟨rfl, below2q _ _ _ _⟩
  have p29' := kno p29
  by_cases p28 : pk = 28
  · subst p28
    by_cases k29 : kk = 29
    · subst k29
      rw [show paren 28 px 1 29 kx = true from rfl]
      go_enter Tryd.func15, Tryd.ntmps15
      go_wp2
      go_ret
      exact ⟨rfl, below2 _ _ _⟩
    by_cases k28 : kk = 28
    · subst k28
      rw [show paren 28 px 1 28 kx = true from rfl]
      go_enter Tryd.func15, Tryd.ntmps15
      go_wp2
      go_ret
      exact ⟨rfl, below2 _ _ _⟩
    have k29' := kno k29; have k28' := kno k28
    rw [show paren 28 px 1 kk kx = false by simp [paren, k29, k28]]
    clear k29 k28 p29
    go_enter Tryd.func15, Tryd.ntmps15
    go_wp2
    go_ret
    exact ⟨rfl, below2 _ _ _⟩
  have p28' := kno p28
  by_cases p30 : pk = 30
  · subst p30
    rw [show paren 30 px 1 kk kx = false by simp [paren]]
    by_cases k29 : kk = 29
    · subst k29
      go_enter Tryd.func15, Tryd.ntmps15
      go_wp2
      go_ret
      exact ⟨rfl, below2 _ _ _⟩
    have k29' := kno k29
    clear k29
    go_enter Tryd.func15, Tryd.ntmps15
    go_wp2
    go_ret
    exact ⟨rfl, below2 _ _ _⟩
  have p30' := kno p30
  by_cases p31 : pk = 31
  · subst p31
    rw [show paren 31 px 1 kk kx = false by simp [paren]]
    by_cases k29 : kk = 29
    · subst k29
      go_enter Tryd.func15, Tryd.ntmps15
      go_wp2
      go_ret
      exact ⟨rfl, below2 _ _ _⟩
    have k29' := kno k29
    clear k29
    go_enter Tryd.func15, Tryd.ntmps15
    go_wp2
    go_ret
    exact ⟨rfl, below2 _ _ _⟩
  have p31' := kno p31
  by_cases p32 : pk = 32
  · subst p32
    rw [show paren 32 px 1 kk kx = false by simp [paren]]
    by_cases k29 : kk = 29
    · subst k29
      go_enter Tryd.func15, Tryd.ntmps15
      go_wp2
      go_ret
      exact ⟨rfl, below2 _ _ _⟩
    have k29' := kno k29
    clear k29
    go_enter Tryd.func15, Tryd.ntmps15
    go_wp2
    go_ret
    exact ⟨rfl, below2 _ _ _⟩
  have p32' := kno p32
  rw [show paren pk px 1 kk kx = false by simp [paren, p29, p28, p30, p31, p32]]
  clear p29 p28 p30 p31 p32
  go_enter Tryd.func15, Tryd.ntmps15
  go_wp2
  go_ret
  exact ⟨rfl, below2 _ _ _⟩

set_option maxHeartbeats 4000000 in
theorem paren_ati (As : Option Addr) (ns Cs b off n C i : Nat) (pk kk : Int) (px py kx ky : ByteArray) (w : World) (hb : b < w.heap.size) (hi : (i : Int) < (n : Int)) (hC : n ≤ C) (hm : C ≤ 9223372036854775807) (c0 : w.cell? ⟨b, off + i * 4, none⟩ = some (.int .i64 kk)) (c1 : w.cell? ⟨b, off + i * 4 + 1, none⟩ = some (.string kx)) (c2 : w.cell? ⟨b, off + i * 4 + 2, none⟩ = some (.string ky)) (c3 : w.cell? ⟨b, off + i * 4 + 3, none⟩ = some (.slice As ns Cs)) (h0 : ((i : Int) == 0) = false) (h1 : ((i : Int) == 1) = false) :
    Calls Tryd.prog 15 #[.agg #[.int .i64 pk, .string px, .string py, .slice (some ⟨b, off, none⟩) n C], .int .i64 (i : Int)] w fun e w' => e = .returned (.bool (paren pk px i kk kx)) ∧ Below w.heap.size w w' := by
  have hn0 : ¬ (n : Int) ≤ (i : Int) := by omega
  have hi0 : ¬ (i : Int) < 0 := by omega
  have hip : (0 : Int) ≤ (i : Int) := by omega
  have i0 : ¬ i = 0 := by rintro rfl; simp at h0
  have i1 : ¬ i = 1 := by rintro rfl; simp at h1
  by_cases p28 : pk = 28
  · subst p28
    by_cases k29 : kk = 29
    · subst k29
      rw [show paren 28 px i 29 kx = true from rfl]
      clear i0 i1
      go_enter Tryd.func15, Tryd.ntmps15
      go_wp2
      go_ret
      exact ⟨rfl, below2 _ _ _⟩
    by_cases k28 : kk = 28
    · subst k28
      rw [show paren 28 px i 28 kx = true from rfl]
      clear i0 i1
      go_enter Tryd.func15, Tryd.ntmps15
      go_wp2
      go_ret
      exact ⟨rfl, below2 _ _ _⟩
    have k29' := kno k29; have k28' := kno k28
    rw [show paren 28 px i kk kx = false by simp [paren, k29, k28]]
    clear k29 k28 i0 i1
    go_enter Tryd.func15, Tryd.ntmps15
    go_wp2
    go_ret
    exact ⟨rfl, below2 _ _ _⟩
  have p28' := kno p28
  rw [show paren pk px i kk kx = false by unfold paren; simp [p28, i0, i1]]
  by_cases p29 : pk = 29
  · subst p29
    clear i0 i1 p28
    go_enter Tryd.func15, Tryd.ntmps15
    go_wp2
    go_ret
    exact ⟨rfl, below2 _ _ _⟩
  have p29' := kno p29
  by_cases p30 : pk = 30
  · subst p30
    clear i0 i1 p28
    go_enter Tryd.func15, Tryd.ntmps15
    go_wp2
    go_ret
    exact ⟨rfl, below2 _ _ _⟩
  have p30' := kno p30
  by_cases p31 : pk = 31
  · subst p31
    clear i0 i1 p28
    go_enter Tryd.func15, Tryd.ntmps15
    go_wp2
    go_ret
    exact ⟨rfl, below2 _ _ _⟩
  have p31' := kno p31
  by_cases p32 : pk = 32
  · subst p32
    clear i0 i1 p28
    go_enter Tryd.func15, Tryd.ntmps15
    go_wp2
    go_ret
    exact ⟨rfl, below2 _ _ _⟩
  have p32' := kno p32
  clear p28 p29 p30 p31 p32 i0 i1
  go_enter Tryd.func15, Tryd.ntmps15
  go_wp2
  go_ret
  exact ⟨rfl, below2 _ _ _⟩

theorem paren_is (w : World) (pk : Int) (px py : ByteArray) (A : Option Addr) (n C : Nat) (f : F) (p : Int) (hf : Fs w (Lo w.heap.size) (.slice A n C) f) :
    Calls Tryd.prog 15 #[.agg #[.int .i64 pk, .string px, .string py, .slice A n C], .int .i64 p] w fun e w' => e = .returned (.bool (parenI pk px f p)) ∧ Below w.heap.size w w' := by
  obtain ⟨A', C', e, hnC, hCm⟩ := hf.slice
  injection e with e1 e2 e3
  subst e1; subst e2; subst e3
  by_cases hp : p < 0 ∨ ((f.len : Nat) : Int) ≤ p
  · have e : parenI pk px f p = false := by
      unfold parenI
      split
      · rw [F.drop_all _ _ (by omega)]
      · rfl
    rw [e]
    exact paren_out pk px py A _ C p hp w
  · obtain ⟨i, rfl⟩ : ∃ i : Nat, p = (i : Int) := ⟨p.toNat, by omega⟩
    obtain ⟨k, x, y, c, r, hd, _⟩ := F.drop_cons (n := i) (f := f) (by omega)
    have e : parenI pk px f (i : Int) = paren pk px i k x := by
      unfold parenI
      rw [if_pos (by omega), Int.toNat_natCast, hd]
    rw [e]
    obtain ⟨b, off, s, rfl, hb, hi, hat⟩ := hf.at_ hd
    obtain ⟨As, Cs, rfl, _, _⟩ := hat.kids.slice
    have c0 := hat.c0; have c1 := hat.c1; have c2 := hat.c2; have c3 := hat.c3
    by_cases i0 : i = 0
    · subst i0
      simp only [Nat.zero_mul, Nat.add_zero] at c0 c1 c2 c3
      exact paren_at0 As _ Cs b off _ C pk k px py x y w hb (by omega) hnC hCm c0 c1 c2 c3
    by_cases i1 : i = 1
    · subst i1
      exact paren_at1 As _ Cs b off _ C pk k px py x y w hb (by omega) hnC hCm c0 c1 c2 c3
    exact paren_ati As _ Cs b off _ C i pk k px py x y w hb (by omega) hnC hCm c0 c1 c2 c3 (by simpa using i0) (by simpa using (show ¬ (i : Int) = 1 by omega))
end Go.Proofs.YtoecimgmghlfpaaDoor.Tree
