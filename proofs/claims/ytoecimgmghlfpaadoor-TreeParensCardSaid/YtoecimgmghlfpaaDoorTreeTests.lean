/-
  Layer 5 (tree): the tests of kinds, and which kinds hold items.
-/
import Derived.Test.YtoecimgmghlfpaaDoorTreeLevel
namespace Go.Proofs.YtoecimgmghlfpaaDoor.Tree
open Go.ChangeShapes Go.WideShapes Go.ChangeAt Go.RowKit
set_option linter.unusedVariables false

theorem kno {k j : Int} (h : ¬ k = j) : (k == j) = false := by simpa using h

theorem isTyp_any (k : Int) (x y : ByteArray) (A : Option Addr) (n C : Nat) (w : World) : Calls Tryd.prog 47 #[.agg #[.int .i64 k, .string x, .string y, .slice A n C]] w fun e w' => e = .returned (.bool (isTyp k x)) ∧ Below w.heap.size w w' := by
  by_cases h9 : k = 9
  · subst h9
    rw [show isTyp 9 x = true from rfl]
    go_enter Tryd.func47, Tryd.ntmps47
    go_wp2
    go_ret
    exact ⟨rfl, (Below.refl _ _).alloc (Nat.le_refl _) _⟩
  by_cases h10 : k = 10
  · subst h10
    rw [show isTyp 10 x = true from rfl]
    go_enter Tryd.func47, Tryd.ntmps47
    go_wp2
    go_ret
    exact ⟨rfl, (Below.refl _ _).alloc (Nat.le_refl _) _⟩
  by_cases h11 : k = 11
  · subst h11
    rw [show isTyp 11 x = true from rfl]
    go_enter Tryd.func47, Tryd.ntmps47
    go_wp2
    go_ret
    exact ⟨rfl, (Below.refl _ _).alloc (Nat.le_refl _) _⟩
  by_cases h12 : k = 12
  · subst h12
    rw [show isTyp 12 x = true from rfl]
    go_enter Tryd.func47, Tryd.ntmps47
    go_wp2
    go_ret
    exact ⟨rfl, (Below.refl _ _).alloc (Nat.le_refl _) _⟩
  by_cases h13 : k = 13
  · subst h13
    rw [show isTyp 13 x = true from rfl]
    go_enter Tryd.func47, Tryd.ntmps47
    go_wp2
    go_ret
    exact ⟨rfl, (Below.refl _ _).alloc (Nat.le_refl _) _⟩
  rw [show isTyp k x = false by unfold isTyp; simp [h9, h10, h11, h12, h13]]
  have b9 := kno h9
  have b10 := kno h10
  have b11 := kno h11
  have b12 := kno h12
  have b13 := kno h13
  clear h9 h10 h11 h12 h13
  go_enter Tryd.func47, Tryd.ntmps47
  go_wp2
  go_ret
  exact ⟨rfl, (Below.refl _ _).alloc (Nat.le_refl _) _⟩

theorem isVal_any (k : Int) (x y : ByteArray) (A : Option Addr) (n C : Nat) (w : World) : Calls Tryd.prog 46 #[.agg #[.int .i64 k, .string x, .string y, .slice A n C]] w fun e w' => e = .returned (.bool (isVal k x)) ∧ Below w.heap.size w w' := by
  by_cases h9 : k = 9
  · subst h9
    rw [show isVal 9 x = true from rfl]
    go_enter Tryd.func46, Tryd.ntmps46
    go_wp2
    go_ret
    exact ⟨rfl, (Below.refl _ _).alloc (Nat.le_refl _) _⟩
  by_cases h26 : k = 26
  · subst h26
    rw [show isVal 26 x = true from rfl]
    go_enter Tryd.func46, Tryd.ntmps46
    go_wp2
    go_ret
    exact ⟨rfl, (Below.refl _ _).alloc (Nat.le_refl _) _⟩
  by_cases h27 : k = 27
  · subst h27
    rw [show isVal 27 x = true from rfl]
    go_enter Tryd.func46, Tryd.ntmps46
    go_wp2
    go_ret
    exact ⟨rfl, (Below.refl _ _).alloc (Nat.le_refl _) _⟩
  by_cases h28 : k = 28
  · subst h28
    rw [show isVal 28 x = true from rfl]
    go_enter Tryd.func46, Tryd.ntmps46
    go_wp2
    go_ret
    exact ⟨rfl, (Below.refl _ _).alloc (Nat.le_refl _) _⟩
  by_cases h29 : k = 29
  · subst h29
    rw [show isVal 29 x = true from rfl]
    go_enter Tryd.func46, Tryd.ntmps46
    go_wp2
    go_ret
    exact ⟨rfl, (Below.refl _ _).alloc (Nat.le_refl _) _⟩
  by_cases h30 : k = 30
  · subst h30
    rw [show isVal 30 x = true from rfl]
    go_enter Tryd.func46, Tryd.ntmps46
    go_wp2
    go_ret
    exact ⟨rfl, (Below.refl _ _).alloc (Nat.le_refl _) _⟩
  by_cases h31 : k = 31
  · subst h31
    rw [show isVal 31 x = true from rfl]
    go_enter Tryd.func46, Tryd.ntmps46
    go_wp2
    go_ret
    exact ⟨rfl, (Below.refl _ _).alloc (Nat.le_refl _) _⟩
  by_cases h32 : k = 32
  · subst h32
    rw [show isVal 32 x = true from rfl]
    go_enter Tryd.func46, Tryd.ntmps46
    go_wp2
    go_ret
    exact ⟨rfl, (Below.refl _ _).alloc (Nat.le_refl _) _⟩
  rw [show isVal k x = false by unfold isVal; simp [h9, h26, h27, h28, h29, h30, h31, h32]]
  have b9 := kno h9
  have b26 := kno h26
  have b27 := kno h27
  have b28 := kno h28
  have b29 := kno h29
  have b30 := kno h30
  have b31 := kno h31
  have b32 := kno h32
  clear h9 h26 h27 h28 h29 h30 h31 h32
  go_enter Tryd.func46, Tryd.ntmps46
  go_wp2
  go_ret
  exact ⟨rfl, (Below.refl _ _).alloc (Nat.le_refl _) _⟩

theorem isStm_any (k : Int) (x y : ByteArray) (A : Option Addr) (n C : Nat) (w : World) : Calls Tryd.prog 48 #[.agg #[.int .i64 k, .string x, .string y, .slice A n C]] w fun e w' => e = .returned (.bool (isStm k x)) ∧ Below w.heap.size w w' := by
  by_cases h5 : k = 5
  · subst h5
    rw [show isStm 5 x = true from rfl]
    go_enter Tryd.func48, Tryd.ntmps48
    go_wp2
    go_ret
    exact ⟨rfl, (Below.refl _ _).alloc (Nat.le_refl _) _⟩
  by_cases h8 : k = 8
  · subst h8
    rw [show isStm 8 x = true from rfl]
    go_enter Tryd.func48, Tryd.ntmps48
    go_wp2
    go_ret
    exact ⟨rfl, (Below.refl _ _).alloc (Nat.le_refl _) _⟩
  by_cases h17 : k = 17
  · subst h17
    rw [show isStm 17 x = true from rfl]
    go_enter Tryd.func48, Tryd.ntmps48
    go_wp2
    go_ret
    exact ⟨rfl, (Below.refl _ _).alloc (Nat.le_refl _) _⟩
  by_cases h18 : k = 18
  · subst h18
    rw [show isStm 18 x = true from rfl]
    go_enter Tryd.func48, Tryd.ntmps48
    go_wp2
    go_ret
    exact ⟨rfl, (Below.refl _ _).alloc (Nat.le_refl _) _⟩
  by_cases h19 : k = 19
  · subst h19
    rw [show isStm 19 x = true from rfl]
    go_enter Tryd.func48, Tryd.ntmps48
    go_wp2
    go_ret
    exact ⟨rfl, (Below.refl _ _).alloc (Nat.le_refl _) _⟩
  by_cases h20 : k = 20
  · subst h20
    rw [show isStm 20 x = true from rfl]
    go_enter Tryd.func48, Tryd.ntmps48
    go_wp2
    go_ret
    exact ⟨rfl, (Below.refl _ _).alloc (Nat.le_refl _) _⟩
  by_cases h21 : k = 21
  · subst h21
    rw [show isStm 21 x = true from rfl]
    go_enter Tryd.func48, Tryd.ntmps48
    go_wp2
    go_ret
    exact ⟨rfl, (Below.refl _ _).alloc (Nat.le_refl _) _⟩
  by_cases h22 : k = 22
  · subst h22
    rw [show isStm 22 x = true from rfl]
    go_enter Tryd.func48, Tryd.ntmps48
    go_wp2
    go_ret
    exact ⟨rfl, (Below.refl _ _).alloc (Nat.le_refl _) _⟩
  by_cases h23 : k = 23
  · subst h23
    rw [show isStm 23 x = true from rfl]
    go_enter Tryd.func48, Tryd.ntmps48
    go_wp2
    go_ret
    exact ⟨rfl, (Below.refl _ _).alloc (Nat.le_refl _) _⟩
  by_cases h24 : k = 24
  · subst h24
    rw [show isStm 24 x = true from rfl]
    go_enter Tryd.func48, Tryd.ntmps48
    go_wp2
    go_ret
    exact ⟨rfl, (Below.refl _ _).alloc (Nat.le_refl _) _⟩
  by_cases h25 : k = 25
  · subst h25
    rw [show isStm 25 x = true from rfl]
    go_enter Tryd.func48, Tryd.ntmps48
    go_wp2
    go_ret
    exact ⟨rfl, (Below.refl _ _).alloc (Nat.le_refl _) _⟩
  rw [show isStm k x = false by unfold isStm; simp [h5, h8, h17, h18, h19, h20, h21, h22, h23, h24, h25]]
  have b5 := kno h5
  have b8 := kno h8
  have b17 := kno h17
  have b18 := kno h18
  have b19 := kno h19
  have b20 := kno h20
  have b21 := kno h21
  have b22 := kno h22
  have b23 := kno h23
  have b24 := kno h24
  have b25 := kno h25
  clear h5 h8 h17 h18 h19 h20 h21 h22 h23 h24 h25
  go_enter Tryd.func48, Tryd.ntmps48
  go_wp2
  go_ret
  exact ⟨rfl, (Below.refl _ _).alloc (Nat.le_refl _) _⟩

theorem isDecl_any (k : Int) (x y : ByteArray) (A : Option Addr) (n C : Nat) (w : World) : Calls Tryd.prog 45 #[.agg #[.int .i64 k, .string x, .string y, .slice A n C]] w fun e w' => e = .returned (.bool (isDecl k x)) ∧ Below w.heap.size w w' := by
  by_cases h4 : k = 4
  · subst h4
    rw [show isDecl 4 x = true from rfl]
    go_enter Tryd.func45, Tryd.ntmps45
    go_wp2
    go_ret
    exact ⟨rfl, (Below.refl _ _).alloc (Nat.le_refl _) _⟩
  by_cases h5 : k = 5
  · subst h5
    rw [show isDecl 5 x = true from rfl]
    go_enter Tryd.func45, Tryd.ntmps45
    go_wp2
    go_ret
    exact ⟨rfl, (Below.refl _ _).alloc (Nat.le_refl _) _⟩
  by_cases h6 : k = 6
  · subst h6
    rw [show isDecl 6 x = true from rfl]
    go_enter Tryd.func45, Tryd.ntmps45
    go_wp2
    go_ret
    exact ⟨rfl, (Below.refl _ _).alloc (Nat.le_refl _) _⟩
  by_cases h7 : k = 7
  · subst h7
    rw [show isDecl 7 x = true from rfl]
    go_enter Tryd.func45, Tryd.ntmps45
    go_wp2
    go_ret
    exact ⟨rfl, (Below.refl _ _).alloc (Nat.le_refl _) _⟩
  by_cases h8 : k = 8
  · subst h8
    rw [show isDecl 8 x = true from rfl]
    go_enter Tryd.func45, Tryd.ntmps45
    go_wp2
    go_ret
    exact ⟨rfl, (Below.refl _ _).alloc (Nat.le_refl _) _⟩
  rw [show isDecl k x = false by unfold isDecl; simp [h4, h5, h6, h7, h8]]
  have b4 := kno h4
  have b5 := kno h5
  have b6 := kno h6
  have b7 := kno h7
  have b8 := kno h8
  clear h4 h5 h6 h7 h8
  go_enter Tryd.func45, Tryd.ntmps45
  go_wp2
  go_ret
  exact ⟨rfl, (Below.refl _ _).alloc (Nat.le_refl _) _⟩

theorem isPlc_any (k : Int) (x y : ByteArray) (A : Option Addr) (n C : Nat) (w : World) : Calls Tryd.prog 49 #[.agg #[.int .i64 k, .string x, .string y, .slice A n C]] w fun e w' => e = .returned (.bool (isPlc k x)) ∧ Below w.heap.size w w' := by
  by_cases h9 : k = 9
  · subst h9
    rw [show isPlc 9 x = true from rfl]
    go_enter Tryd.func49, Tryd.ntmps49
    go_wp2
    go_ret
    exact ⟨rfl, (Below.refl _ _).alloc (Nat.le_refl _) _⟩
  by_cases h31 : k = 31
  · subst h31
    rw [show isPlc 31 x = true from rfl]
    go_enter Tryd.func49, Tryd.ntmps49
    go_wp2
    go_ret
    exact ⟨rfl, (Below.refl _ _).alloc (Nat.le_refl _) _⟩
  by_cases h32 : k = 32
  · subst h32
    rw [show isPlc 32 x = true from rfl]
    go_enter Tryd.func49, Tryd.ntmps49
    go_wp2
    go_ret
    exact ⟨rfl, (Below.refl _ _).alloc (Nat.le_refl _) _⟩
  by_cases h28 : k = 28
  · subst h28
    cases hx : (x.toList == [42]) with
    | true =>
      rw [show isPlc 28 x = true by unfold isPlc; rw [hx]; rfl]
      go_enter Tryd.func49, Tryd.ntmps49
      go_wp2
      go_ret
      exact ⟨rfl, (Below.refl _ _).alloc (Nat.le_refl _) _⟩
    | false =>
      rw [show isPlc 28 x = false by unfold isPlc; rw [hx]; rfl]
      go_enter Tryd.func49, Tryd.ntmps49
      go_wp2
      go_ret
      exact ⟨rfl, (Below.refl _ _).alloc (Nat.le_refl _) _⟩
  rw [show isPlc k x = false by unfold isPlc; simp [h9, h31, h32, h28]]
  have b9 := kno h9
  have b31 := kno h31
  have b32 := kno h32
  have b28 := kno h28
  clear h9 h31 h32 h28
  go_enter Tryd.func49, Tryd.ntmps49
  go_wp2
  go_ret
  exact ⟨rfl, (Below.refl _ _).alloc (Nat.le_refl _) _⟩

theorem holds_any (k : Int) (w : World) : Calls Tryd.prog 32 #[.int .i64 k] w fun e w' => e = .returned (.bool (holds k)) ∧ w' = w := by
  by_cases h1 : k = 1
  · subst h1
    rw [show holds 1 = true from rfl]
    go_enter Tryd.func32, Tryd.ntmps32
    go_wp2
    go_ret
    exact ⟨rfl, rfl⟩
  by_cases h17 : k = 17
  · subst h17
    rw [show holds 17 = true from rfl]
    go_enter Tryd.func32, Tryd.ntmps32
    go_wp2
    go_ret
    exact ⟨rfl, rfl⟩
  by_cases h13 : k = 13
  · subst h13
    rw [show holds 13 = true from rfl]
    go_enter Tryd.func32, Tryd.ntmps32
    go_wp2
    go_ret
    exact ⟨rfl, rfl⟩
  rw [show holds k = false by unfold holds; simp [h1, h17, h13]]
  have b1 := kno h1
  have b17 := kno h17
  have b13 := kno h13
  clear h1 h17 h13
  go_enter Tryd.func32, Tryd.ntmps32
  go_wp2
  go_ret
  exact ⟨rfl, rfl⟩
end Go.Proofs.YtoecimgmghlfpaaDoor.Tree
