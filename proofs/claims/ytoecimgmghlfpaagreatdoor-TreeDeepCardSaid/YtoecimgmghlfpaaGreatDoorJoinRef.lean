import Derived.Test.YtoecimgmghlfpaaGreatDoorJoinParts
import Derived.Test.YtoecimgmghlfpaaGreatDoorJoinKids
import Derived.Test.YtoecimgmghlfpaaGreatDoorMemRel
import Derived.Test.YtoecimgmghlfpaaGreatDoorLexRef

/-
  Layer 5 (tree): the document's fits: what a sign asks of a Kid. Written by gen_treereffits.py.
-/
namespace Go.Proofs.YtoecimgmghlfpaaGreatDoor.Tree
open Go.ChangeShapes Go.WideShapes Go.ChangeAt Go.RowKit
set_option linter.unusedVariables false

theorem isTyp_rng (k : Int) (x : ByteArray) : isTyp k x = decide (9 ≤ k ∧ k ≤ 13) := by
  unfold isTyp
  by_cases h : 9 ≤ k ∧ k ≤ 13
  · rw [decide_eq_true h]
    have : k = 9 ∨ k = 10 ∨ k = 11 ∨ k = 12 ∨ k = 13 := by omega
    rcases this with rfl | rfl | rfl | rfl | rfl <;> rfl
  · rw [decide_eq_false h, kno (by omega), kno (by omega), kno (by omega), kno (by omega), kno (by omega)]; rfl
theorem isVal_rng (k : Int) (x : ByteArray) : isVal k x = (k == 9 || decide (26 ≤ k ∧ k ≤ 32)) := by
  unfold isVal
  by_cases h9 : k = 9
  · subst h9; rfl
  by_cases h : 26 ≤ k ∧ k ≤ 32
  · rw [decide_eq_true h, kno h9]
    have : k = 26 ∨ k = 27 ∨ k = 28 ∨ k = 29 ∨ k = 30 ∨ k = 31 ∨ k = 32 := by omega
    rcases this with rfl | rfl | rfl | rfl | rfl | rfl | rfl <;> rfl
  · rw [decide_eq_false h, kno h9, kno (by omega), kno (by omega), kno (by omega), kno (by omega), kno (by omega), kno (by omega), kno (by omega)]; rfl
theorem isStm_rng (k : Int) (x : ByteArray) : isStm k x = (k == 5 || k == 8 || decide (17 ≤ k ∧ k ≤ 25)) := by
  unfold isStm
  by_cases h5 : k = 5
  · subst h5; rfl
  by_cases h8 : k = 8
  · subst h8; rfl
  by_cases h : 17 ≤ k ∧ k ≤ 25
  · rw [decide_eq_true h, kno h5, kno h8]
    have : k = 17 ∨ k = 18 ∨ k = 19 ∨ k = 20 ∨ k = 21 ∨ k = 22 ∨ k = 23 ∨ k = 24 ∨ k = 25 := by omega
    rcases this with rfl | rfl | rfl | rfl | rfl | rfl | rfl | rfl | rfl <;> rfl
  · rw [decide_eq_false h, kno h5, kno h8, kno (by omega), kno (by omega), kno (by omega), kno (by omega), kno (by omega), kno (by omega), kno (by omega), kno (by omega), kno (by omega)]; rfl

/-- What a sign asks of a node. -/
def fitsS (s : Int) (k : Int) (x : ByteArray) : Bool :=
  if s = 116 then isTyp k x else if s = 101 then isVal k x else if s = 112 then isPlc k x
  else if s = 84 then isTyp k x || k == 33 else if s = 69 then isVal k x || k == 33 else if s = 82 then k == 16 || k == 33
  else if s = 65 then k == 15 else if s = 80 then k == 16 else if s = 66 then k == 17 else if s = 76 then k == 17 || k == 18 || k == 33
  else if s = 67 then k == 30 else if s = 115 then isStm k x else if s = 102 then k == 14 || k == 8 else if s = 78 then k == 9 else false

end Go.Proofs.YtoecimgmghlfpaaGreatDoor.Tree

/-
  Layer 5 (tree): the document's fits, some of the signs. Written by gen_treereffits.py.
-/
namespace Go.Proofs.YtoecimgmghlfpaaGreatDoor.Tree
open Go.ChangeShapes Go.WideShapes Go.ChangeAt Go.RowKit
set_option linter.unusedVariables false

set_option maxRecDepth 100000 in
set_option maxHeartbeats 8000000 in
theorem fits_lt (k : Int) (x y : ByteArray) (A : Option Addr) (n C : Nat) (w : World) : Calls Tryz.prog 64 #[.agg #[.int .i64 k, .string x, .string y, .slice A n C], .int .u8 116] w fun e w' => e = .returned (.bool (fitsS 116 k x)) ∧ Below w.heap.size w w' := by
  by_cases e9 : k = 9
  · subst e9
    rw [show fitsS 116 9 x = true by rfl]
    go_enter Tryz.func64, Tryz.ntmps64
    go_wp2
    go_ret
    exact ⟨rfl, below1 _ _⟩
  have n9 := kno e9
  by_cases cT : 10 ≤ k ∧ k ≤ 13
  · skip
    have h10 : (10 : Int) ≤ k := by omega
    have h13 : k ≤ 13 := by omega
    have h26 : ¬ (26 : Int) ≤ k := by omega
    have h17 : ¬ (17 : Int) ≤ k := by omega
    rw [show fitsS 116 k x = true by (show isTyp k x = _; rw [isTyp_rng, decide_eq_true (by omega)])]
    go_enter Tryz.func64, Tryz.ntmps64
    go_wp2
    go_ret
    exact ⟨rfl, below1 _ _⟩
  by_cases cL : k < 10
  · skip
    have h10 : ¬ (10 : Int) ≤ k := by omega
    have h26 : ¬ (26 : Int) ≤ k := by omega
    have h17 : ¬ (17 : Int) ≤ k := by omega
    rw [show fitsS 116 k x = false by (show isTyp k x = _; rw [isTyp_rng, decide_eq_false (by omega)])]
    go_enter Tryz.func64, Tryz.ntmps64
    go_wp2
    go_ret
    exact ⟨rfl, below1 _ _⟩
  by_cases cM : 14 ≤ k ∧ k ≤ 16
  · skip
    have h10 : (10 : Int) ≤ k := by omega
    have h13 : ¬ k ≤ 13 := by omega
    have h26 : ¬ (26 : Int) ≤ k := by omega
    have h17 : ¬ (17 : Int) ≤ k := by omega
    rw [show fitsS 116 k x = false by (show isTyp k x = _; rw [isTyp_rng, decide_eq_false (by omega)])]
    go_enter Tryz.func64, Tryz.ntmps64
    go_wp2
    go_ret
    exact ⟨rfl, below1 _ _⟩
  by_cases cN : 17 ≤ k ∧ k ≤ 25
  · skip
    have h10 : (10 : Int) ≤ k := by omega
    have h13 : ¬ k ≤ 13 := by omega
    have h26 : ¬ (26 : Int) ≤ k := by omega
    have h17 : (17 : Int) ≤ k := by omega
    have h25 : k ≤ 25 := by omega
    rw [show fitsS 116 k x = false by (show isTyp k x = _; rw [isTyp_rng, decide_eq_false (by omega)])]
    go_enter Tryz.func64, Tryz.ntmps64
    go_wp2
    go_ret
    exact ⟨rfl, below1 _ _⟩
  by_cases cV : 26 ≤ k ∧ k ≤ 32
  · skip
    have h10 : (10 : Int) ≤ k := by omega
    have h13 : ¬ k ≤ 13 := by omega
    have h26 : (26 : Int) ≤ k := by omega
    have h32 : k ≤ 32 := by omega
    have h17 : (17 : Int) ≤ k := by omega
    have h25 : ¬ k ≤ 25 := by omega
    rw [show fitsS 116 k x = false by (show isTyp k x = _; rw [isTyp_rng, decide_eq_false (by omega)])]
    go_enter Tryz.func64, Tryz.ntmps64
    go_wp2
    go_ret
    exact ⟨rfl, below1 _ _⟩
  have h10 : (10 : Int) ≤ k := by omega
  have h13 : ¬ k ≤ 13 := by omega
  have h26 : (26 : Int) ≤ k := by omega
  have h32 : ¬ k ≤ 32 := by omega
  have h17 : (17 : Int) ≤ k := by omega
  have h25 : ¬ k ≤ 25 := by omega
  rw [show fitsS 116 k x = false by (show isTyp k x = _; rw [isTyp_rng, decide_eq_false (by omega)])]
  go_enter Tryz.func64, Tryz.ntmps64
  go_wp2
  go_ret
  exact ⟨rfl, below1 _ _⟩

set_option maxRecDepth 100000 in
set_option maxHeartbeats 8000000 in
theorem fits_le (k : Int) (x y : ByteArray) (A : Option Addr) (n C : Nat) (w : World) : Calls Tryz.prog 64 #[.agg #[.int .i64 k, .string x, .string y, .slice A n C], .int .u8 101] w fun e w' => e = .returned (.bool (fitsS 101 k x)) ∧ Below w.heap.size w w' := by
  by_cases e9 : k = 9
  · subst e9
    rw [show fitsS 101 9 x = true by rfl]
    go_enter Tryz.func64, Tryz.ntmps64
    go_wp2
    go_ret
    exact ⟨rfl, below1 _ _⟩
  have n9 := kno e9
  by_cases cT : 10 ≤ k ∧ k ≤ 13
  · skip
    have h10 : (10 : Int) ≤ k := by omega
    have h13 : k ≤ 13 := by omega
    have h26 : ¬ (26 : Int) ≤ k := by omega
    have h17 : ¬ (17 : Int) ≤ k := by omega
    rw [show fitsS 101 k x = false by (show isVal k x = _; rw [isVal_rng, n9, decide_eq_false (by omega)]; rfl)]
    go_enter Tryz.func64, Tryz.ntmps64
    go_wp2
    go_ret
    exact ⟨rfl, below1 _ _⟩
  by_cases cL : k < 10
  · skip
    have h10 : ¬ (10 : Int) ≤ k := by omega
    have h26 : ¬ (26 : Int) ≤ k := by omega
    have h17 : ¬ (17 : Int) ≤ k := by omega
    rw [show fitsS 101 k x = false by (show isVal k x = _; rw [isVal_rng, n9, decide_eq_false (by omega)]; rfl)]
    go_enter Tryz.func64, Tryz.ntmps64
    go_wp2
    go_ret
    exact ⟨rfl, below1 _ _⟩
  by_cases cM : 14 ≤ k ∧ k ≤ 16
  · skip
    have h10 : (10 : Int) ≤ k := by omega
    have h13 : ¬ k ≤ 13 := by omega
    have h26 : ¬ (26 : Int) ≤ k := by omega
    have h17 : ¬ (17 : Int) ≤ k := by omega
    rw [show fitsS 101 k x = false by (show isVal k x = _; rw [isVal_rng, n9, decide_eq_false (by omega)]; rfl)]
    go_enter Tryz.func64, Tryz.ntmps64
    go_wp2
    go_ret
    exact ⟨rfl, below1 _ _⟩
  by_cases cN : 17 ≤ k ∧ k ≤ 25
  · skip
    have h10 : (10 : Int) ≤ k := by omega
    have h13 : ¬ k ≤ 13 := by omega
    have h26 : ¬ (26 : Int) ≤ k := by omega
    have h17 : (17 : Int) ≤ k := by omega
    have h25 : k ≤ 25 := by omega
    rw [show fitsS 101 k x = false by (show isVal k x = _; rw [isVal_rng, n9, decide_eq_false (by omega)]; rfl)]
    go_enter Tryz.func64, Tryz.ntmps64
    go_wp2
    go_ret
    exact ⟨rfl, below1 _ _⟩
  by_cases cV : 26 ≤ k ∧ k ≤ 32
  · skip
    have h10 : (10 : Int) ≤ k := by omega
    have h13 : ¬ k ≤ 13 := by omega
    have h26 : (26 : Int) ≤ k := by omega
    have h32 : k ≤ 32 := by omega
    have h17 : (17 : Int) ≤ k := by omega
    have h25 : ¬ k ≤ 25 := by omega
    rw [show fitsS 101 k x = true by (show isVal k x = _; rw [isVal_rng, n9, decide_eq_true (by omega)]; rfl)]
    go_enter Tryz.func64, Tryz.ntmps64
    go_wp2
    go_ret
    exact ⟨rfl, below1 _ _⟩
  have h10 : (10 : Int) ≤ k := by omega
  have h13 : ¬ k ≤ 13 := by omega
  have h26 : (26 : Int) ≤ k := by omega
  have h32 : ¬ k ≤ 32 := by omega
  have h17 : (17 : Int) ≤ k := by omega
  have h25 : ¬ k ≤ 25 := by omega
  rw [show fitsS 101 k x = false by (show isVal k x = _; rw [isVal_rng, n9, decide_eq_false (by omega)]; rfl)]
  go_enter Tryz.func64, Tryz.ntmps64
  go_wp2
  go_ret
  exact ⟨rfl, below1 _ _⟩

set_option maxRecDepth 100000 in
set_option maxHeartbeats 8000000 in
theorem fits_uE (k : Int) (x y : ByteArray) (A : Option Addr) (n C : Nat) (w : World) : Calls Tryz.prog 64 #[.agg #[.int .i64 k, .string x, .string y, .slice A n C], .int .u8 69] w fun e w' => e = .returned (.bool (fitsS 69 k x)) ∧ Below w.heap.size w w' := by
  by_cases e9 : k = 9
  · subst e9
    rw [show fitsS 69 9 x = true by rfl]
    go_enter Tryz.func64, Tryz.ntmps64
    go_wp2
    go_ret
    exact ⟨rfl, below1 _ _⟩
  have n9 := kno e9
  by_cases cT : 10 ≤ k ∧ k ≤ 13
  · skip
    have h10 : (10 : Int) ≤ k := by omega
    have h13 : k ≤ 13 := by omega
    have h26 : ¬ (26 : Int) ≤ k := by omega
    have h17 : ¬ (17 : Int) ≤ k := by omega
    rw [show fitsS 69 k x = (k == 33) by (show (isVal k x || k == 33) = _; rw [isVal_rng, n9, decide_eq_false (by omega)]; simp)]
    go_enter Tryz.func64, Tryz.ntmps64
    go_wp2
    go_ret
    exact ⟨rfl, below1 _ _⟩
  by_cases cL : k < 10
  · skip
    have h10 : ¬ (10 : Int) ≤ k := by omega
    have h26 : ¬ (26 : Int) ≤ k := by omega
    have h17 : ¬ (17 : Int) ≤ k := by omega
    rw [show fitsS 69 k x = (k == 33) by (show (isVal k x || k == 33) = _; rw [isVal_rng, n9, decide_eq_false (by omega)]; simp)]
    go_enter Tryz.func64, Tryz.ntmps64
    go_wp2
    go_ret
    exact ⟨rfl, below1 _ _⟩
  by_cases cM : 14 ≤ k ∧ k ≤ 16
  · skip
    have h10 : (10 : Int) ≤ k := by omega
    have h13 : ¬ k ≤ 13 := by omega
    have h26 : ¬ (26 : Int) ≤ k := by omega
    have h17 : ¬ (17 : Int) ≤ k := by omega
    rw [show fitsS 69 k x = (k == 33) by (show (isVal k x || k == 33) = _; rw [isVal_rng, n9, decide_eq_false (by omega)]; simp)]
    go_enter Tryz.func64, Tryz.ntmps64
    go_wp2
    go_ret
    exact ⟨rfl, below1 _ _⟩
  by_cases cN : 17 ≤ k ∧ k ≤ 25
  · skip
    have h10 : (10 : Int) ≤ k := by omega
    have h13 : ¬ k ≤ 13 := by omega
    have h26 : ¬ (26 : Int) ≤ k := by omega
    have h17 : (17 : Int) ≤ k := by omega
    have h25 : k ≤ 25 := by omega
    rw [show fitsS 69 k x = (k == 33) by (show (isVal k x || k == 33) = _; rw [isVal_rng, n9, decide_eq_false (by omega)]; simp)]
    go_enter Tryz.func64, Tryz.ntmps64
    go_wp2
    go_ret
    exact ⟨rfl, below1 _ _⟩
  by_cases cV : 26 ≤ k ∧ k ≤ 32
  · skip
    have h10 : (10 : Int) ≤ k := by omega
    have h13 : ¬ k ≤ 13 := by omega
    have h26 : (26 : Int) ≤ k := by omega
    have h32 : k ≤ 32 := by omega
    have h17 : (17 : Int) ≤ k := by omega
    have h25 : ¬ k ≤ 25 := by omega
    rw [show fitsS 69 k x = true by (show (isVal k x || k == 33) = _; rw [isVal_rng, n9, decide_eq_true (by omega)]; simp)]
    go_enter Tryz.func64, Tryz.ntmps64
    go_wp2
    go_ret
    exact ⟨rfl, below1 _ _⟩
  have h10 : (10 : Int) ≤ k := by omega
  have h13 : ¬ k ≤ 13 := by omega
  have h26 : (26 : Int) ≤ k := by omega
  have h32 : ¬ k ≤ 32 := by omega
  have h17 : (17 : Int) ≤ k := by omega
  have h25 : ¬ k ≤ 25 := by omega
  rw [show fitsS 69 k x = (k == 33) by (show (isVal k x || k == 33) = _; rw [isVal_rng, n9, decide_eq_false (by omega)]; simp)]
  go_enter Tryz.func64, Tryz.ntmps64
  go_wp2
  go_ret
  exact ⟨rfl, below1 _ _⟩

set_option maxRecDepth 100000 in
set_option maxHeartbeats 8000000 in
theorem fits_uA (k : Int) (x y : ByteArray) (A : Option Addr) (n C : Nat) (w : World) : Calls Tryz.prog 64 #[.agg #[.int .i64 k, .string x, .string y, .slice A n C], .int .u8 65] w fun e w' => e = .returned (.bool (fitsS 65 k x)) ∧ Below w.heap.size w w' := by
  by_cases e9 : k = 9
  · subst e9
    rw [show fitsS 65 9 x = false by rfl]
    go_enter Tryz.func64, Tryz.ntmps64
    go_wp2
    go_ret
    exact ⟨rfl, below1 _ _⟩
  have n9 := kno e9
  by_cases cT : 10 ≤ k ∧ k ≤ 13
  · skip
    have h10 : (10 : Int) ≤ k := by omega
    have h13 : k ≤ 13 := by omega
    have h26 : ¬ (26 : Int) ≤ k := by omega
    have h17 : ¬ (17 : Int) ≤ k := by omega
    rw [show fitsS 65 k x = (k == 15) from rfl]
    go_enter Tryz.func64, Tryz.ntmps64
    go_wp2
    go_ret
    exact ⟨rfl, below1 _ _⟩
  by_cases cL : k < 10
  · skip
    have h10 : ¬ (10 : Int) ≤ k := by omega
    have h26 : ¬ (26 : Int) ≤ k := by omega
    have h17 : ¬ (17 : Int) ≤ k := by omega
    rw [show fitsS 65 k x = (k == 15) from rfl]
    go_enter Tryz.func64, Tryz.ntmps64
    go_wp2
    go_ret
    exact ⟨rfl, below1 _ _⟩
  by_cases cM : 14 ≤ k ∧ k ≤ 16
  · skip
    have h10 : (10 : Int) ≤ k := by omega
    have h13 : ¬ k ≤ 13 := by omega
    have h26 : ¬ (26 : Int) ≤ k := by omega
    have h17 : ¬ (17 : Int) ≤ k := by omega
    rw [show fitsS 65 k x = (k == 15) from rfl]
    go_enter Tryz.func64, Tryz.ntmps64
    go_wp2
    go_ret
    exact ⟨rfl, below1 _ _⟩
  by_cases cN : 17 ≤ k ∧ k ≤ 25
  · skip
    have h10 : (10 : Int) ≤ k := by omega
    have h13 : ¬ k ≤ 13 := by omega
    have h26 : ¬ (26 : Int) ≤ k := by omega
    have h17 : (17 : Int) ≤ k := by omega
    have h25 : k ≤ 25 := by omega
    rw [show fitsS 65 k x = (k == 15) from rfl]
    go_enter Tryz.func64, Tryz.ntmps64
    go_wp2
    go_ret
    exact ⟨rfl, below1 _ _⟩
  by_cases cV : 26 ≤ k ∧ k ≤ 32
  · skip
    have h10 : (10 : Int) ≤ k := by omega
    have h13 : ¬ k ≤ 13 := by omega
    have h26 : (26 : Int) ≤ k := by omega
    have h32 : k ≤ 32 := by omega
    have h17 : (17 : Int) ≤ k := by omega
    have h25 : ¬ k ≤ 25 := by omega
    rw [show fitsS 65 k x = (k == 15) from rfl]
    go_enter Tryz.func64, Tryz.ntmps64
    go_wp2
    go_ret
    exact ⟨rfl, below1 _ _⟩
  have h10 : (10 : Int) ≤ k := by omega
  have h13 : ¬ k ≤ 13 := by omega
  have h26 : (26 : Int) ≤ k := by omega
  have h32 : ¬ k ≤ 32 := by omega
  have h17 : (17 : Int) ≤ k := by omega
  have h25 : ¬ k ≤ 25 := by omega
  rw [show fitsS 65 k x = (k == 15) from rfl]
  go_enter Tryz.func64, Tryz.ntmps64
  go_wp2
  go_ret
  exact ⟨rfl, below1 _ _⟩

set_option maxRecDepth 100000 in
set_option maxHeartbeats 8000000 in
theorem fits_uP (k : Int) (x y : ByteArray) (A : Option Addr) (n C : Nat) (w : World) : Calls Tryz.prog 64 #[.agg #[.int .i64 k, .string x, .string y, .slice A n C], .int .u8 80] w fun e w' => e = .returned (.bool (fitsS 80 k x)) ∧ Below w.heap.size w w' := by
  by_cases e9 : k = 9
  · subst e9
    rw [show fitsS 80 9 x = false by rfl]
    go_enter Tryz.func64, Tryz.ntmps64
    go_wp2
    go_ret
    exact ⟨rfl, below1 _ _⟩
  have n9 := kno e9
  by_cases cT : 10 ≤ k ∧ k ≤ 13
  · skip
    have h10 : (10 : Int) ≤ k := by omega
    have h13 : k ≤ 13 := by omega
    have h26 : ¬ (26 : Int) ≤ k := by omega
    have h17 : ¬ (17 : Int) ≤ k := by omega
    rw [show fitsS 80 k x = (k == 16) from rfl]
    go_enter Tryz.func64, Tryz.ntmps64
    go_wp2
    go_ret
    exact ⟨rfl, below1 _ _⟩
  by_cases cL : k < 10
  · skip
    have h10 : ¬ (10 : Int) ≤ k := by omega
    have h26 : ¬ (26 : Int) ≤ k := by omega
    have h17 : ¬ (17 : Int) ≤ k := by omega
    rw [show fitsS 80 k x = (k == 16) from rfl]
    go_enter Tryz.func64, Tryz.ntmps64
    go_wp2
    go_ret
    exact ⟨rfl, below1 _ _⟩
  by_cases cM : 14 ≤ k ∧ k ≤ 16
  · skip
    have h10 : (10 : Int) ≤ k := by omega
    have h13 : ¬ k ≤ 13 := by omega
    have h26 : ¬ (26 : Int) ≤ k := by omega
    have h17 : ¬ (17 : Int) ≤ k := by omega
    rw [show fitsS 80 k x = (k == 16) from rfl]
    go_enter Tryz.func64, Tryz.ntmps64
    go_wp2
    go_ret
    exact ⟨rfl, below1 _ _⟩
  by_cases cN : 17 ≤ k ∧ k ≤ 25
  · skip
    have h10 : (10 : Int) ≤ k := by omega
    have h13 : ¬ k ≤ 13 := by omega
    have h26 : ¬ (26 : Int) ≤ k := by omega
    have h17 : (17 : Int) ≤ k := by omega
    have h25 : k ≤ 25 := by omega
    rw [show fitsS 80 k x = (k == 16) from rfl]
    go_enter Tryz.func64, Tryz.ntmps64
    go_wp2
    go_ret
    exact ⟨rfl, below1 _ _⟩
  by_cases cV : 26 ≤ k ∧ k ≤ 32
  · skip
    have h10 : (10 : Int) ≤ k := by omega
    have h13 : ¬ k ≤ 13 := by omega
    have h26 : (26 : Int) ≤ k := by omega
    have h32 : k ≤ 32 := by omega
    have h17 : (17 : Int) ≤ k := by omega
    have h25 : ¬ k ≤ 25 := by omega
    rw [show fitsS 80 k x = (k == 16) from rfl]
    go_enter Tryz.func64, Tryz.ntmps64
    go_wp2
    go_ret
    exact ⟨rfl, below1 _ _⟩
  have h10 : (10 : Int) ≤ k := by omega
  have h13 : ¬ k ≤ 13 := by omega
  have h26 : (26 : Int) ≤ k := by omega
  have h32 : ¬ k ≤ 32 := by omega
  have h17 : (17 : Int) ≤ k := by omega
  have h25 : ¬ k ≤ 25 := by omega
  rw [show fitsS 80 k x = (k == 16) from rfl]
  go_enter Tryz.func64, Tryz.ntmps64
  go_wp2
  go_ret
  exact ⟨rfl, below1 _ _⟩

end Go.Proofs.YtoecimgmghlfpaaGreatDoor.Tree

/-
  Layer 5 (tree): the document's fits, some of the signs. Written by gen_treereffits.py.
-/
namespace Go.Proofs.YtoecimgmghlfpaaGreatDoor.Tree
open Go.ChangeShapes Go.WideShapes Go.ChangeAt Go.RowKit
set_option linter.unusedVariables false

set_option maxRecDepth 100000 in
set_option maxHeartbeats 8000000 in
theorem fits_lp (k : Int) (x y : ByteArray) (A : Option Addr) (n C : Nat) (w : World) : Calls Tryz.prog 64 #[.agg #[.int .i64 k, .string x, .string y, .slice A n C], .int .u8 112] w fun e w' => e = .returned (.bool (fitsS 112 k x)) ∧ Below w.heap.size w w' := by
  by_cases e9 : k = 9
  · subst e9
    rw [show fitsS 112 9 x = true by rfl]
    go_enter Tryz.func64, Tryz.ntmps64
    go_wp2
    go_ret
    exact ⟨rfl, below1 _ _⟩
  have n9 := kno e9
  by_cases e31 : k = 31
  · subst e31
    rw [show fitsS 112 31 x = true by rfl]
    go_enter Tryz.func64, Tryz.ntmps64
    go_wp2
    go_ret
    exact ⟨rfl, below1 _ _⟩
  have n31 := kno e31
  by_cases e32 : k = 32
  · subst e32
    rw [show fitsS 112 32 x = true by rfl]
    go_enter Tryz.func64, Tryz.ntmps64
    go_wp2
    go_ret
    exact ⟨rfl, below1 _ _⟩
  have n32 := kno e32
  by_cases e28 : k = 28
  · subst e28
    cases hx : (x.toList == [42]) with
    | true =>
      rw [show fitsS 112 28 x = true by simp [fitsS, isPlc, hx]]
      go_enter Tryz.func64, Tryz.ntmps64
      go_wp2
      go_ret
      exact ⟨rfl, below1 _ _⟩
    | false =>
      rw [show fitsS 112 28 x = false by simp [fitsS, isPlc, hx]]
      go_enter Tryz.func64, Tryz.ntmps64
      go_wp2
      go_ret
      exact ⟨rfl, below1 _ _⟩
  have n28 := kno e28
  by_cases cT : 10 ≤ k ∧ k ≤ 13
  · skip
    have h10 : (10 : Int) ≤ k := by omega
    have h13 : k ≤ 13 := by omega
    have h26 : ¬ (26 : Int) ≤ k := by omega
    have h17 : ¬ (17 : Int) ≤ k := by omega
    rw [show fitsS 112 k x = false by (show isPlc k x = _; unfold isPlc; rw [n9, n31, n32, n28]; rfl)]
    go_enter Tryz.func64, Tryz.ntmps64
    go_wp2
    go_ret
    exact ⟨rfl, below1 _ _⟩
  by_cases cL : k < 10
  · skip
    have h10 : ¬ (10 : Int) ≤ k := by omega
    have h26 : ¬ (26 : Int) ≤ k := by omega
    have h17 : ¬ (17 : Int) ≤ k := by omega
    rw [show fitsS 112 k x = false by (show isPlc k x = _; unfold isPlc; rw [n9, n31, n32, n28]; rfl)]
    go_enter Tryz.func64, Tryz.ntmps64
    go_wp2
    go_ret
    exact ⟨rfl, below1 _ _⟩
  by_cases cM : 14 ≤ k ∧ k ≤ 16
  · skip
    have h10 : (10 : Int) ≤ k := by omega
    have h13 : ¬ k ≤ 13 := by omega
    have h26 : ¬ (26 : Int) ≤ k := by omega
    have h17 : ¬ (17 : Int) ≤ k := by omega
    rw [show fitsS 112 k x = false by (show isPlc k x = _; unfold isPlc; rw [n9, n31, n32, n28]; rfl)]
    go_enter Tryz.func64, Tryz.ntmps64
    go_wp2
    go_ret
    exact ⟨rfl, below1 _ _⟩
  by_cases cN : 17 ≤ k ∧ k ≤ 25
  · skip
    have h10 : (10 : Int) ≤ k := by omega
    have h13 : ¬ k ≤ 13 := by omega
    have h26 : ¬ (26 : Int) ≤ k := by omega
    have h17 : (17 : Int) ≤ k := by omega
    have h25 : k ≤ 25 := by omega
    rw [show fitsS 112 k x = false by (show isPlc k x = _; unfold isPlc; rw [n9, n31, n32, n28]; rfl)]
    go_enter Tryz.func64, Tryz.ntmps64
    go_wp2
    go_ret
    exact ⟨rfl, below1 _ _⟩
  by_cases cV : 26 ≤ k ∧ k ≤ 32
  · skip
    have h10 : (10 : Int) ≤ k := by omega
    have h13 : ¬ k ≤ 13 := by omega
    have h26 : (26 : Int) ≤ k := by omega
    have h32 : k ≤ 32 := by omega
    have h17 : (17 : Int) ≤ k := by omega
    have h25 : ¬ k ≤ 25 := by omega
    rw [show fitsS 112 k x = false by (show isPlc k x = _; unfold isPlc; rw [n9, n31, n32, n28]; rfl)]
    go_enter Tryz.func64, Tryz.ntmps64
    go_wp2
    go_ret
    exact ⟨rfl, below1 _ _⟩
  have h10 : (10 : Int) ≤ k := by omega
  have h13 : ¬ k ≤ 13 := by omega
  have h26 : (26 : Int) ≤ k := by omega
  have h32 : ¬ k ≤ 32 := by omega
  have h17 : (17 : Int) ≤ k := by omega
  have h25 : ¬ k ≤ 25 := by omega
  rw [show fitsS 112 k x = false by (show isPlc k x = _; unfold isPlc; rw [n9, n31, n32, n28]; rfl)]
  go_enter Tryz.func64, Tryz.ntmps64
  go_wp2
  go_ret
  exact ⟨rfl, below1 _ _⟩

set_option maxRecDepth 100000 in
set_option maxHeartbeats 8000000 in
theorem fits_uT (k : Int) (x y : ByteArray) (A : Option Addr) (n C : Nat) (w : World) : Calls Tryz.prog 64 #[.agg #[.int .i64 k, .string x, .string y, .slice A n C], .int .u8 84] w fun e w' => e = .returned (.bool (fitsS 84 k x)) ∧ Below w.heap.size w w' := by
  by_cases e9 : k = 9
  · subst e9
    rw [show fitsS 84 9 x = true by rfl]
    go_enter Tryz.func64, Tryz.ntmps64
    go_wp2
    go_ret
    exact ⟨rfl, below1 _ _⟩
  have n9 := kno e9
  by_cases cT : 10 ≤ k ∧ k ≤ 13
  · skip
    have h10 : (10 : Int) ≤ k := by omega
    have h13 : k ≤ 13 := by omega
    have h26 : ¬ (26 : Int) ≤ k := by omega
    have h17 : ¬ (17 : Int) ≤ k := by omega
    rw [show fitsS 84 k x = true by (show (isTyp k x || k == 33) = _; rw [isTyp_rng, decide_eq_true (by omega)]; simp)]
    go_enter Tryz.func64, Tryz.ntmps64
    go_wp2
    go_ret
    exact ⟨rfl, below1 _ _⟩
  by_cases cL : k < 10
  · skip
    have h10 : ¬ (10 : Int) ≤ k := by omega
    have h26 : ¬ (26 : Int) ≤ k := by omega
    have h17 : ¬ (17 : Int) ≤ k := by omega
    rw [show fitsS 84 k x = (k == 33) by (show (isTyp k x || k == 33) = _; rw [isTyp_rng, decide_eq_false (by omega)]; simp)]
    go_enter Tryz.func64, Tryz.ntmps64
    go_wp2
    go_ret
    exact ⟨rfl, below1 _ _⟩
  by_cases cM : 14 ≤ k ∧ k ≤ 16
  · skip
    have h10 : (10 : Int) ≤ k := by omega
    have h13 : ¬ k ≤ 13 := by omega
    have h26 : ¬ (26 : Int) ≤ k := by omega
    have h17 : ¬ (17 : Int) ≤ k := by omega
    rw [show fitsS 84 k x = (k == 33) by (show (isTyp k x || k == 33) = _; rw [isTyp_rng, decide_eq_false (by omega)]; simp)]
    go_enter Tryz.func64, Tryz.ntmps64
    go_wp2
    go_ret
    exact ⟨rfl, below1 _ _⟩
  by_cases cN : 17 ≤ k ∧ k ≤ 25
  · skip
    have h10 : (10 : Int) ≤ k := by omega
    have h13 : ¬ k ≤ 13 := by omega
    have h26 : ¬ (26 : Int) ≤ k := by omega
    have h17 : (17 : Int) ≤ k := by omega
    have h25 : k ≤ 25 := by omega
    rw [show fitsS 84 k x = (k == 33) by (show (isTyp k x || k == 33) = _; rw [isTyp_rng, decide_eq_false (by omega)]; simp)]
    go_enter Tryz.func64, Tryz.ntmps64
    go_wp2
    go_ret
    exact ⟨rfl, below1 _ _⟩
  by_cases cV : 26 ≤ k ∧ k ≤ 32
  · skip
    have h10 : (10 : Int) ≤ k := by omega
    have h13 : ¬ k ≤ 13 := by omega
    have h26 : (26 : Int) ≤ k := by omega
    have h32 : k ≤ 32 := by omega
    have h17 : (17 : Int) ≤ k := by omega
    have h25 : ¬ k ≤ 25 := by omega
    rw [show fitsS 84 k x = (k == 33) by (show (isTyp k x || k == 33) = _; rw [isTyp_rng, decide_eq_false (by omega)]; simp)]
    go_enter Tryz.func64, Tryz.ntmps64
    go_wp2
    go_ret
    exact ⟨rfl, below1 _ _⟩
  have h10 : (10 : Int) ≤ k := by omega
  have h13 : ¬ k ≤ 13 := by omega
  have h26 : (26 : Int) ≤ k := by omega
  have h32 : ¬ k ≤ 32 := by omega
  have h17 : (17 : Int) ≤ k := by omega
  have h25 : ¬ k ≤ 25 := by omega
  rw [show fitsS 84 k x = (k == 33) by (show (isTyp k x || k == 33) = _; rw [isTyp_rng, decide_eq_false (by omega)]; simp)]
  go_enter Tryz.func64, Tryz.ntmps64
  go_wp2
  go_ret
  exact ⟨rfl, below1 _ _⟩

set_option maxRecDepth 100000 in
set_option maxHeartbeats 8000000 in
theorem fits_uR (k : Int) (x y : ByteArray) (A : Option Addr) (n C : Nat) (w : World) : Calls Tryz.prog 64 #[.agg #[.int .i64 k, .string x, .string y, .slice A n C], .int .u8 82] w fun e w' => e = .returned (.bool (fitsS 82 k x)) ∧ Below w.heap.size w w' := by
  by_cases e9 : k = 9
  · subst e9
    rw [show fitsS 82 9 x = false by rfl]
    go_enter Tryz.func64, Tryz.ntmps64
    go_wp2
    go_ret
    exact ⟨rfl, below1 _ _⟩
  have n9 := kno e9
  by_cases e16 : k = 16
  · subst e16
    rw [show fitsS 82 16 x = true by rfl]
    go_enter Tryz.func64, Tryz.ntmps64
    go_wp2
    go_ret
    exact ⟨rfl, below1 _ _⟩
  have n16 := kno e16
  by_cases cT : 10 ≤ k ∧ k ≤ 13
  · skip
    have h10 : (10 : Int) ≤ k := by omega
    have h13 : k ≤ 13 := by omega
    have h26 : ¬ (26 : Int) ≤ k := by omega
    have h17 : ¬ (17 : Int) ≤ k := by omega
    rw [show fitsS 82 k x = (k == 33) by (show (k == 16 || k == 33) = _; rw [n16]; rfl)]
    go_enter Tryz.func64, Tryz.ntmps64
    go_wp2
    go_ret
    exact ⟨rfl, below1 _ _⟩
  by_cases cL : k < 10
  · skip
    have h10 : ¬ (10 : Int) ≤ k := by omega
    have h26 : ¬ (26 : Int) ≤ k := by omega
    have h17 : ¬ (17 : Int) ≤ k := by omega
    rw [show fitsS 82 k x = (k == 33) by (show (k == 16 || k == 33) = _; rw [n16]; rfl)]
    go_enter Tryz.func64, Tryz.ntmps64
    go_wp2
    go_ret
    exact ⟨rfl, below1 _ _⟩
  by_cases cM : 14 ≤ k ∧ k ≤ 16
  · skip
    have h10 : (10 : Int) ≤ k := by omega
    have h13 : ¬ k ≤ 13 := by omega
    have h26 : ¬ (26 : Int) ≤ k := by omega
    have h17 : ¬ (17 : Int) ≤ k := by omega
    rw [show fitsS 82 k x = (k == 33) by (show (k == 16 || k == 33) = _; rw [n16]; rfl)]
    go_enter Tryz.func64, Tryz.ntmps64
    go_wp2
    go_ret
    exact ⟨rfl, below1 _ _⟩
  by_cases cN : 17 ≤ k ∧ k ≤ 25
  · skip
    have h10 : (10 : Int) ≤ k := by omega
    have h13 : ¬ k ≤ 13 := by omega
    have h26 : ¬ (26 : Int) ≤ k := by omega
    have h17 : (17 : Int) ≤ k := by omega
    have h25 : k ≤ 25 := by omega
    rw [show fitsS 82 k x = (k == 33) by (show (k == 16 || k == 33) = _; rw [n16]; rfl)]
    go_enter Tryz.func64, Tryz.ntmps64
    go_wp2
    go_ret
    exact ⟨rfl, below1 _ _⟩
  by_cases cV : 26 ≤ k ∧ k ≤ 32
  · skip
    have h10 : (10 : Int) ≤ k := by omega
    have h13 : ¬ k ≤ 13 := by omega
    have h26 : (26 : Int) ≤ k := by omega
    have h32 : k ≤ 32 := by omega
    have h17 : (17 : Int) ≤ k := by omega
    have h25 : ¬ k ≤ 25 := by omega
    rw [show fitsS 82 k x = (k == 33) by (show (k == 16 || k == 33) = _; rw [n16]; rfl)]
    go_enter Tryz.func64, Tryz.ntmps64
    go_wp2
    go_ret
    exact ⟨rfl, below1 _ _⟩
  have h10 : (10 : Int) ≤ k := by omega
  have h13 : ¬ k ≤ 13 := by omega
  have h26 : (26 : Int) ≤ k := by omega
  have h32 : ¬ k ≤ 32 := by omega
  have h17 : (17 : Int) ≤ k := by omega
  have h25 : ¬ k ≤ 25 := by omega
  rw [show fitsS 82 k x = (k == 33) by (show (k == 16 || k == 33) = _; rw [n16]; rfl)]
  go_enter Tryz.func64, Tryz.ntmps64
  go_wp2
  go_ret
  exact ⟨rfl, below1 _ _⟩

set_option maxRecDepth 100000 in
set_option maxHeartbeats 8000000 in
theorem fits_uN (k : Int) (x y : ByteArray) (A : Option Addr) (n C : Nat) (w : World) : Calls Tryz.prog 64 #[.agg #[.int .i64 k, .string x, .string y, .slice A n C], .int .u8 78] w fun e w' => e = .returned (.bool (fitsS 78 k x)) ∧ Below w.heap.size w w' := by
  by_cases e9 : k = 9
  · subst e9
    rw [show fitsS 78 9 x = true by rfl]
    go_enter Tryz.func64, Tryz.ntmps64
    go_wp2
    go_ret
    exact ⟨rfl, below1 _ _⟩
  have n9 := kno e9
  by_cases cT : 10 ≤ k ∧ k ≤ 13
  · skip
    have h10 : (10 : Int) ≤ k := by omega
    have h13 : k ≤ 13 := by omega
    have h26 : ¬ (26 : Int) ≤ k := by omega
    have h17 : ¬ (17 : Int) ≤ k := by omega
    rw [show fitsS 78 k x = false by (show (k == 9) = _; rw [n9])]
    go_enter Tryz.func64, Tryz.ntmps64
    go_wp2
    go_ret
    exact ⟨rfl, below1 _ _⟩
  by_cases cL : k < 10
  · skip
    have h10 : ¬ (10 : Int) ≤ k := by omega
    have h26 : ¬ (26 : Int) ≤ k := by omega
    have h17 : ¬ (17 : Int) ≤ k := by omega
    rw [show fitsS 78 k x = false by (show (k == 9) = _; rw [n9])]
    go_enter Tryz.func64, Tryz.ntmps64
    go_wp2
    go_ret
    exact ⟨rfl, below1 _ _⟩
  by_cases cM : 14 ≤ k ∧ k ≤ 16
  · skip
    have h10 : (10 : Int) ≤ k := by omega
    have h13 : ¬ k ≤ 13 := by omega
    have h26 : ¬ (26 : Int) ≤ k := by omega
    have h17 : ¬ (17 : Int) ≤ k := by omega
    rw [show fitsS 78 k x = false by (show (k == 9) = _; rw [n9])]
    go_enter Tryz.func64, Tryz.ntmps64
    go_wp2
    go_ret
    exact ⟨rfl, below1 _ _⟩
  by_cases cN : 17 ≤ k ∧ k ≤ 25
  · skip
    have h10 : (10 : Int) ≤ k := by omega
    have h13 : ¬ k ≤ 13 := by omega
    have h26 : ¬ (26 : Int) ≤ k := by omega
    have h17 : (17 : Int) ≤ k := by omega
    have h25 : k ≤ 25 := by omega
    rw [show fitsS 78 k x = false by (show (k == 9) = _; rw [n9])]
    go_enter Tryz.func64, Tryz.ntmps64
    go_wp2
    go_ret
    exact ⟨rfl, below1 _ _⟩
  by_cases cV : 26 ≤ k ∧ k ≤ 32
  · skip
    have h10 : (10 : Int) ≤ k := by omega
    have h13 : ¬ k ≤ 13 := by omega
    have h26 : (26 : Int) ≤ k := by omega
    have h32 : k ≤ 32 := by omega
    have h17 : (17 : Int) ≤ k := by omega
    have h25 : ¬ k ≤ 25 := by omega
    rw [show fitsS 78 k x = false by (show (k == 9) = _; rw [n9])]
    go_enter Tryz.func64, Tryz.ntmps64
    go_wp2
    go_ret
    exact ⟨rfl, below1 _ _⟩
  have h10 : (10 : Int) ≤ k := by omega
  have h13 : ¬ k ≤ 13 := by omega
  have h26 : (26 : Int) ≤ k := by omega
  have h32 : ¬ k ≤ 32 := by omega
  have h17 : (17 : Int) ≤ k := by omega
  have h25 : ¬ k ≤ 25 := by omega
  rw [show fitsS 78 k x = false by (show (k == 9) = _; rw [n9])]
  go_enter Tryz.func64, Tryz.ntmps64
  go_wp2
  go_ret
  exact ⟨rfl, below1 _ _⟩

end Go.Proofs.YtoecimgmghlfpaaGreatDoor.Tree

/-
  Layer 5 (tree): the document's fits, some of the signs. Written by gen_treereffits.py.
-/
namespace Go.Proofs.YtoecimgmghlfpaaGreatDoor.Tree
open Go.ChangeShapes Go.WideShapes Go.ChangeAt Go.RowKit
set_option linter.unusedVariables false

set_option maxRecDepth 100000 in
set_option maxHeartbeats 8000000 in
theorem fits_uB (k : Int) (x y : ByteArray) (A : Option Addr) (n C : Nat) (w : World) : Calls Tryz.prog 64 #[.agg #[.int .i64 k, .string x, .string y, .slice A n C], .int .u8 66] w fun e w' => e = .returned (.bool (fitsS 66 k x)) ∧ Below w.heap.size w w' := by
  by_cases e9 : k = 9
  · subst e9
    rw [show fitsS 66 9 x = false by rfl]
    go_enter Tryz.func64, Tryz.ntmps64
    go_wp2
    go_ret
    exact ⟨rfl, below1 _ _⟩
  have n9 := kno e9
  by_cases cT : 10 ≤ k ∧ k ≤ 13
  · skip
    have h10 : (10 : Int) ≤ k := by omega
    have h13 : k ≤ 13 := by omega
    have h26 : ¬ (26 : Int) ≤ k := by omega
    have h17 : ¬ (17 : Int) ≤ k := by omega
    rw [show fitsS 66 k x = (k == 17) from rfl]
    go_enter Tryz.func64, Tryz.ntmps64
    go_wp2
    go_ret
    exact ⟨rfl, below1 _ _⟩
  by_cases cL : k < 10
  · skip
    have h10 : ¬ (10 : Int) ≤ k := by omega
    have h26 : ¬ (26 : Int) ≤ k := by omega
    have h17 : ¬ (17 : Int) ≤ k := by omega
    rw [show fitsS 66 k x = (k == 17) from rfl]
    go_enter Tryz.func64, Tryz.ntmps64
    go_wp2
    go_ret
    exact ⟨rfl, below1 _ _⟩
  by_cases cM : 14 ≤ k ∧ k ≤ 16
  · skip
    have h10 : (10 : Int) ≤ k := by omega
    have h13 : ¬ k ≤ 13 := by omega
    have h26 : ¬ (26 : Int) ≤ k := by omega
    have h17 : ¬ (17 : Int) ≤ k := by omega
    rw [show fitsS 66 k x = (k == 17) from rfl]
    go_enter Tryz.func64, Tryz.ntmps64
    go_wp2
    go_ret
    exact ⟨rfl, below1 _ _⟩
  by_cases cN : 17 ≤ k ∧ k ≤ 25
  · skip
    have h10 : (10 : Int) ≤ k := by omega
    have h13 : ¬ k ≤ 13 := by omega
    have h26 : ¬ (26 : Int) ≤ k := by omega
    have h17 : (17 : Int) ≤ k := by omega
    have h25 : k ≤ 25 := by omega
    rw [show fitsS 66 k x = (k == 17) from rfl]
    go_enter Tryz.func64, Tryz.ntmps64
    go_wp2
    go_ret
    exact ⟨rfl, below1 _ _⟩
  by_cases cV : 26 ≤ k ∧ k ≤ 32
  · skip
    have h10 : (10 : Int) ≤ k := by omega
    have h13 : ¬ k ≤ 13 := by omega
    have h26 : (26 : Int) ≤ k := by omega
    have h32 : k ≤ 32 := by omega
    have h17 : (17 : Int) ≤ k := by omega
    have h25 : ¬ k ≤ 25 := by omega
    rw [show fitsS 66 k x = (k == 17) from rfl]
    go_enter Tryz.func64, Tryz.ntmps64
    go_wp2
    go_ret
    exact ⟨rfl, below1 _ _⟩
  have h10 : (10 : Int) ≤ k := by omega
  have h13 : ¬ k ≤ 13 := by omega
  have h26 : (26 : Int) ≤ k := by omega
  have h32 : ¬ k ≤ 32 := by omega
  have h17 : (17 : Int) ≤ k := by omega
  have h25 : ¬ k ≤ 25 := by omega
  rw [show fitsS 66 k x = (k == 17) from rfl]
  go_enter Tryz.func64, Tryz.ntmps64
  go_wp2
  go_ret
  exact ⟨rfl, below1 _ _⟩

set_option maxRecDepth 100000 in
set_option maxHeartbeats 8000000 in
theorem fits_uL (k : Int) (x y : ByteArray) (A : Option Addr) (n C : Nat) (w : World) : Calls Tryz.prog 64 #[.agg #[.int .i64 k, .string x, .string y, .slice A n C], .int .u8 76] w fun e w' => e = .returned (.bool (fitsS 76 k x)) ∧ Below w.heap.size w w' := by
  by_cases e9 : k = 9
  · subst e9
    rw [show fitsS 76 9 x = false by rfl]
    go_enter Tryz.func64, Tryz.ntmps64
    go_wp2
    go_ret
    exact ⟨rfl, below1 _ _⟩
  have n9 := kno e9
  by_cases e17 : k = 17
  · subst e17
    rw [show fitsS 76 17 x = true by rfl]
    go_enter Tryz.func64, Tryz.ntmps64
    go_wp2
    go_ret
    exact ⟨rfl, below1 _ _⟩
  have n17 := kno e17
  by_cases e18 : k = 18
  · subst e18
    rw [show fitsS 76 18 x = true by rfl]
    go_enter Tryz.func64, Tryz.ntmps64
    go_wp2
    go_ret
    exact ⟨rfl, below1 _ _⟩
  have n18 := kno e18
  by_cases cT : 10 ≤ k ∧ k ≤ 13
  · skip
    have h10 : (10 : Int) ≤ k := by omega
    have h13 : k ≤ 13 := by omega
    have h26 : ¬ (26 : Int) ≤ k := by omega
    have h17 : ¬ (17 : Int) ≤ k := by omega
    rw [show fitsS 76 k x = (k == 33) by (show (k == 17 || k == 18 || k == 33) = _; rw [n17, n18]; rfl)]
    go_enter Tryz.func64, Tryz.ntmps64
    go_wp2
    go_ret
    exact ⟨rfl, below1 _ _⟩
  by_cases cL : k < 10
  · skip
    have h10 : ¬ (10 : Int) ≤ k := by omega
    have h26 : ¬ (26 : Int) ≤ k := by omega
    have h17 : ¬ (17 : Int) ≤ k := by omega
    rw [show fitsS 76 k x = (k == 33) by (show (k == 17 || k == 18 || k == 33) = _; rw [n17, n18]; rfl)]
    go_enter Tryz.func64, Tryz.ntmps64
    go_wp2
    go_ret
    exact ⟨rfl, below1 _ _⟩
  by_cases cM : 14 ≤ k ∧ k ≤ 16
  · skip
    have h10 : (10 : Int) ≤ k := by omega
    have h13 : ¬ k ≤ 13 := by omega
    have h26 : ¬ (26 : Int) ≤ k := by omega
    have h17 : ¬ (17 : Int) ≤ k := by omega
    rw [show fitsS 76 k x = (k == 33) by (show (k == 17 || k == 18 || k == 33) = _; rw [n17, n18]; rfl)]
    go_enter Tryz.func64, Tryz.ntmps64
    go_wp2
    go_ret
    exact ⟨rfl, below1 _ _⟩
  by_cases cN : 17 ≤ k ∧ k ≤ 25
  · skip
    have h10 : (10 : Int) ≤ k := by omega
    have h13 : ¬ k ≤ 13 := by omega
    have h26 : ¬ (26 : Int) ≤ k := by omega
    have h17 : (17 : Int) ≤ k := by omega
    have h25 : k ≤ 25 := by omega
    rw [show fitsS 76 k x = (k == 33) by (show (k == 17 || k == 18 || k == 33) = _; rw [n17, n18]; rfl)]
    go_enter Tryz.func64, Tryz.ntmps64
    go_wp2
    go_ret
    exact ⟨rfl, below1 _ _⟩
  by_cases cV : 26 ≤ k ∧ k ≤ 32
  · skip
    have h10 : (10 : Int) ≤ k := by omega
    have h13 : ¬ k ≤ 13 := by omega
    have h26 : (26 : Int) ≤ k := by omega
    have h32 : k ≤ 32 := by omega
    have h17 : (17 : Int) ≤ k := by omega
    have h25 : ¬ k ≤ 25 := by omega
    rw [show fitsS 76 k x = (k == 33) by (show (k == 17 || k == 18 || k == 33) = _; rw [n17, n18]; rfl)]
    go_enter Tryz.func64, Tryz.ntmps64
    go_wp2
    go_ret
    exact ⟨rfl, below1 _ _⟩
  have h10 : (10 : Int) ≤ k := by omega
  have h13 : ¬ k ≤ 13 := by omega
  have h26 : (26 : Int) ≤ k := by omega
  have h32 : ¬ k ≤ 32 := by omega
  have h17 : (17 : Int) ≤ k := by omega
  have h25 : ¬ k ≤ 25 := by omega
  rw [show fitsS 76 k x = (k == 33) by (show (k == 17 || k == 18 || k == 33) = _; rw [n17, n18]; rfl)]
  go_enter Tryz.func64, Tryz.ntmps64
  go_wp2
  go_ret
  exact ⟨rfl, below1 _ _⟩

set_option maxRecDepth 100000 in
set_option maxHeartbeats 8000000 in
theorem fits_uC (k : Int) (x y : ByteArray) (A : Option Addr) (n C : Nat) (w : World) : Calls Tryz.prog 64 #[.agg #[.int .i64 k, .string x, .string y, .slice A n C], .int .u8 67] w fun e w' => e = .returned (.bool (fitsS 67 k x)) ∧ Below w.heap.size w w' := by
  by_cases e9 : k = 9
  · subst e9
    rw [show fitsS 67 9 x = false by rfl]
    go_enter Tryz.func64, Tryz.ntmps64
    go_wp2
    go_ret
    exact ⟨rfl, below1 _ _⟩
  have n9 := kno e9
  by_cases cT : 10 ≤ k ∧ k ≤ 13
  · skip
    have h10 : (10 : Int) ≤ k := by omega
    have h13 : k ≤ 13 := by omega
    have h26 : ¬ (26 : Int) ≤ k := by omega
    have h17 : ¬ (17 : Int) ≤ k := by omega
    rw [show fitsS 67 k x = (k == 30) from rfl]
    go_enter Tryz.func64, Tryz.ntmps64
    go_wp2
    go_ret
    exact ⟨rfl, below1 _ _⟩
  by_cases cL : k < 10
  · skip
    have h10 : ¬ (10 : Int) ≤ k := by omega
    have h26 : ¬ (26 : Int) ≤ k := by omega
    have h17 : ¬ (17 : Int) ≤ k := by omega
    rw [show fitsS 67 k x = (k == 30) from rfl]
    go_enter Tryz.func64, Tryz.ntmps64
    go_wp2
    go_ret
    exact ⟨rfl, below1 _ _⟩
  by_cases cM : 14 ≤ k ∧ k ≤ 16
  · skip
    have h10 : (10 : Int) ≤ k := by omega
    have h13 : ¬ k ≤ 13 := by omega
    have h26 : ¬ (26 : Int) ≤ k := by omega
    have h17 : ¬ (17 : Int) ≤ k := by omega
    rw [show fitsS 67 k x = (k == 30) from rfl]
    go_enter Tryz.func64, Tryz.ntmps64
    go_wp2
    go_ret
    exact ⟨rfl, below1 _ _⟩
  by_cases cN : 17 ≤ k ∧ k ≤ 25
  · skip
    have h10 : (10 : Int) ≤ k := by omega
    have h13 : ¬ k ≤ 13 := by omega
    have h26 : ¬ (26 : Int) ≤ k := by omega
    have h17 : (17 : Int) ≤ k := by omega
    have h25 : k ≤ 25 := by omega
    rw [show fitsS 67 k x = (k == 30) from rfl]
    go_enter Tryz.func64, Tryz.ntmps64
    go_wp2
    go_ret
    exact ⟨rfl, below1 _ _⟩
  by_cases cV : 26 ≤ k ∧ k ≤ 32
  · skip
    have h10 : (10 : Int) ≤ k := by omega
    have h13 : ¬ k ≤ 13 := by omega
    have h26 : (26 : Int) ≤ k := by omega
    have h32 : k ≤ 32 := by omega
    have h17 : (17 : Int) ≤ k := by omega
    have h25 : ¬ k ≤ 25 := by omega
    rw [show fitsS 67 k x = (k == 30) from rfl]
    go_enter Tryz.func64, Tryz.ntmps64
    go_wp2
    go_ret
    exact ⟨rfl, below1 _ _⟩
  have h10 : (10 : Int) ≤ k := by omega
  have h13 : ¬ k ≤ 13 := by omega
  have h26 : (26 : Int) ≤ k := by omega
  have h32 : ¬ k ≤ 32 := by omega
  have h17 : (17 : Int) ≤ k := by omega
  have h25 : ¬ k ≤ 25 := by omega
  rw [show fitsS 67 k x = (k == 30) from rfl]
  go_enter Tryz.func64, Tryz.ntmps64
  go_wp2
  go_ret
  exact ⟨rfl, below1 _ _⟩

set_option maxRecDepth 100000 in
set_option maxHeartbeats 8000000 in
theorem fits_ls (k : Int) (x y : ByteArray) (A : Option Addr) (n C : Nat) (w : World) : Calls Tryz.prog 64 #[.agg #[.int .i64 k, .string x, .string y, .slice A n C], .int .u8 115] w fun e w' => e = .returned (.bool (fitsS 115 k x)) ∧ Below w.heap.size w w' := by
  by_cases e9 : k = 9
  · subst e9
    rw [show fitsS 115 9 x = false by rfl]
    go_enter Tryz.func64, Tryz.ntmps64
    go_wp2
    go_ret
    exact ⟨rfl, below1 _ _⟩
  have n9 := kno e9
  by_cases e5 : k = 5
  · subst e5
    rw [show fitsS 115 5 x = true by rfl]
    go_enter Tryz.func64, Tryz.ntmps64
    go_wp2
    go_ret
    exact ⟨rfl, below1 _ _⟩
  have n5 := kno e5
  by_cases e8 : k = 8
  · subst e8
    rw [show fitsS 115 8 x = true by rfl]
    go_enter Tryz.func64, Tryz.ntmps64
    go_wp2
    go_ret
    exact ⟨rfl, below1 _ _⟩
  have n8 := kno e8
  by_cases cT : 10 ≤ k ∧ k ≤ 13
  · skip
    have h10 : (10 : Int) ≤ k := by omega
    have h13 : k ≤ 13 := by omega
    have h26 : ¬ (26 : Int) ≤ k := by omega
    have h17 : ¬ (17 : Int) ≤ k := by omega
    rw [show fitsS 115 k x = false by (show isStm k x = _; rw [isStm_rng, n5, n8, decide_eq_false (by omega)]; rfl)]
    go_enter Tryz.func64, Tryz.ntmps64
    go_wp2
    go_ret
    exact ⟨rfl, below1 _ _⟩
  by_cases cL : k < 10
  · skip
    have h10 : ¬ (10 : Int) ≤ k := by omega
    have h26 : ¬ (26 : Int) ≤ k := by omega
    have h17 : ¬ (17 : Int) ≤ k := by omega
    rw [show fitsS 115 k x = false by (show isStm k x = _; rw [isStm_rng, n5, n8, decide_eq_false (by omega)]; rfl)]
    go_enter Tryz.func64, Tryz.ntmps64
    go_wp2
    go_ret
    exact ⟨rfl, below1 _ _⟩
  by_cases cM : 14 ≤ k ∧ k ≤ 16
  · skip
    have h10 : (10 : Int) ≤ k := by omega
    have h13 : ¬ k ≤ 13 := by omega
    have h26 : ¬ (26 : Int) ≤ k := by omega
    have h17 : ¬ (17 : Int) ≤ k := by omega
    rw [show fitsS 115 k x = false by (show isStm k x = _; rw [isStm_rng, n5, n8, decide_eq_false (by omega)]; rfl)]
    go_enter Tryz.func64, Tryz.ntmps64
    go_wp2
    go_ret
    exact ⟨rfl, below1 _ _⟩
  by_cases cN : 17 ≤ k ∧ k ≤ 25
  · skip
    have h10 : (10 : Int) ≤ k := by omega
    have h13 : ¬ k ≤ 13 := by omega
    have h26 : ¬ (26 : Int) ≤ k := by omega
    have h17 : (17 : Int) ≤ k := by omega
    have h25 : k ≤ 25 := by omega
    rw [show fitsS 115 k x = true by (show isStm k x = _; rw [isStm_rng, n5, n8, decide_eq_true (by omega)]; rfl)]
    go_enter Tryz.func64, Tryz.ntmps64
    go_wp2
    go_ret
    exact ⟨rfl, below1 _ _⟩
  by_cases cV : 26 ≤ k ∧ k ≤ 32
  · skip
    have h10 : (10 : Int) ≤ k := by omega
    have h13 : ¬ k ≤ 13 := by omega
    have h26 : (26 : Int) ≤ k := by omega
    have h32 : k ≤ 32 := by omega
    have h17 : (17 : Int) ≤ k := by omega
    have h25 : ¬ k ≤ 25 := by omega
    rw [show fitsS 115 k x = false by (show isStm k x = _; rw [isStm_rng, n5, n8, decide_eq_false (by omega)]; rfl)]
    go_enter Tryz.func64, Tryz.ntmps64
    go_wp2
    go_ret
    exact ⟨rfl, below1 _ _⟩
  have h10 : (10 : Int) ≤ k := by omega
  have h13 : ¬ k ≤ 13 := by omega
  have h26 : (26 : Int) ≤ k := by omega
  have h32 : ¬ k ≤ 32 := by omega
  have h17 : (17 : Int) ≤ k := by omega
  have h25 : ¬ k ≤ 25 := by omega
  rw [show fitsS 115 k x = false by (show isStm k x = _; rw [isStm_rng, n5, n8, decide_eq_false (by omega)]; rfl)]
  go_enter Tryz.func64, Tryz.ntmps64
  go_wp2
  go_ret
  exact ⟨rfl, below1 _ _⟩

set_option maxRecDepth 100000 in
set_option maxHeartbeats 8000000 in
theorem fits_lf (k : Int) (x y : ByteArray) (A : Option Addr) (n C : Nat) (w : World) : Calls Tryz.prog 64 #[.agg #[.int .i64 k, .string x, .string y, .slice A n C], .int .u8 102] w fun e w' => e = .returned (.bool (fitsS 102 k x)) ∧ Below w.heap.size w w' := by
  by_cases e9 : k = 9
  · subst e9
    rw [show fitsS 102 9 x = false by rfl]
    go_enter Tryz.func64, Tryz.ntmps64
    go_wp2
    go_ret
    exact ⟨rfl, below1 _ _⟩
  have n9 := kno e9
  by_cases e14 : k = 14
  · subst e14
    rw [show fitsS 102 14 x = true by rfl]
    go_enter Tryz.func64, Tryz.ntmps64
    go_wp2
    go_ret
    exact ⟨rfl, below1 _ _⟩
  have n14 := kno e14
  by_cases cT : 10 ≤ k ∧ k ≤ 13
  · skip
    have h10 : (10 : Int) ≤ k := by omega
    have h13 : k ≤ 13 := by omega
    have h26 : ¬ (26 : Int) ≤ k := by omega
    have h17 : ¬ (17 : Int) ≤ k := by omega
    rw [show fitsS 102 k x = (k == 8) by (show (k == 14 || k == 8) = _; rw [n14]; rfl)]
    go_enter Tryz.func64, Tryz.ntmps64
    go_wp2
    go_ret
    exact ⟨rfl, below1 _ _⟩
  by_cases cL : k < 10
  · skip
    have h10 : ¬ (10 : Int) ≤ k := by omega
    have h26 : ¬ (26 : Int) ≤ k := by omega
    have h17 : ¬ (17 : Int) ≤ k := by omega
    rw [show fitsS 102 k x = (k == 8) by (show (k == 14 || k == 8) = _; rw [n14]; rfl)]
    go_enter Tryz.func64, Tryz.ntmps64
    go_wp2
    go_ret
    exact ⟨rfl, below1 _ _⟩
  by_cases cM : 14 ≤ k ∧ k ≤ 16
  · skip
    have h10 : (10 : Int) ≤ k := by omega
    have h13 : ¬ k ≤ 13 := by omega
    have h26 : ¬ (26 : Int) ≤ k := by omega
    have h17 : ¬ (17 : Int) ≤ k := by omega
    rw [show fitsS 102 k x = (k == 8) by (show (k == 14 || k == 8) = _; rw [n14]; rfl)]
    go_enter Tryz.func64, Tryz.ntmps64
    go_wp2
    go_ret
    exact ⟨rfl, below1 _ _⟩
  by_cases cN : 17 ≤ k ∧ k ≤ 25
  · skip
    have h10 : (10 : Int) ≤ k := by omega
    have h13 : ¬ k ≤ 13 := by omega
    have h26 : ¬ (26 : Int) ≤ k := by omega
    have h17 : (17 : Int) ≤ k := by omega
    have h25 : k ≤ 25 := by omega
    rw [show fitsS 102 k x = (k == 8) by (show (k == 14 || k == 8) = _; rw [n14]; rfl)]
    go_enter Tryz.func64, Tryz.ntmps64
    go_wp2
    go_ret
    exact ⟨rfl, below1 _ _⟩
  by_cases cV : 26 ≤ k ∧ k ≤ 32
  · skip
    have h10 : (10 : Int) ≤ k := by omega
    have h13 : ¬ k ≤ 13 := by omega
    have h26 : (26 : Int) ≤ k := by omega
    have h32 : k ≤ 32 := by omega
    have h17 : (17 : Int) ≤ k := by omega
    have h25 : ¬ k ≤ 25 := by omega
    rw [show fitsS 102 k x = (k == 8) by (show (k == 14 || k == 8) = _; rw [n14]; rfl)]
    go_enter Tryz.func64, Tryz.ntmps64
    go_wp2
    go_ret
    exact ⟨rfl, below1 _ _⟩
  have h10 : (10 : Int) ≤ k := by omega
  have h13 : ¬ k ≤ 13 := by omega
  have h26 : (26 : Int) ≤ k := by omega
  have h32 : ¬ k ≤ 32 := by omega
  have h17 : (17 : Int) ≤ k := by omega
  have h25 : ¬ k ≤ 25 := by omega
  rw [show fitsS 102 k x = (k == 8) by (show (k == 14 || k == 8) = _; rw [n14]; rfl)]
  go_enter Tryz.func64, Tryz.ntmps64
  go_wp2
  go_ret
  exact ⟨rfl, below1 _ _⟩

end Go.Proofs.YtoecimgmghlfpaaGreatDoor.Tree

/-
  Layer 5 (tree): the document's fits, some of the signs. Written by gen_treereffits.py.
-/
namespace Go.Proofs.YtoecimgmghlfpaaGreatDoor.Tree
open Go.ChangeShapes Go.WideShapes Go.ChangeAt Go.RowKit
set_option linter.unusedVariables false


/-- The signs. -/
def Signs : List Int := [116, 101, 112, 84, 69, 82, 65, 80, 66, 76, 67, 115, 102, 78]
theorem fitsS_any (s : Int) (hs : s ∈ Signs) (k : Int) (x y : ByteArray) (A : Option Addr) (n C : Nat) (w : World) : Calls Tryz.prog 64 #[.agg #[.int .i64 k, .string x, .string y, .slice A n C], .int .u8 s] w fun e w' => e = .returned (.bool (fitsS s k x)) ∧ Below w.heap.size w w' := by
  simp only [Signs, List.mem_cons, List.not_mem_nil, or_false] at hs
  rcases hs with rfl | rfl | rfl | rfl | rfl | rfl | rfl | rfl | rfl | rfl | rfl | rfl | rfl | rfl
  · exact fits_lt k x y A n C w
  · exact fits_le k x y A n C w
  · exact fits_lp k x y A n C w
  · exact fits_uT k x y A n C w
  · exact fits_uE k x y A n C w
  · exact fits_uR k x y A n C w
  · exact fits_uA k x y A n C w
  · exact fits_uP k x y A n C w
  · exact fits_uB k x y A n C w
  · exact fits_uL k x y A n C w
  · exact fits_uC k x y A n C w
  · exact fits_ls k x y A n C w
  · exact fits_lf k x y A n C w
  · exact fits_uN k x y A n C w
end Go.Proofs.YtoecimgmghlfpaaGreatDoor.Tree

/-
  Layer 5 (tree): the document's row: Kids as signs ask, and that it is as the program's parts. Written by gen_treerefrow.py.
-/
namespace Go.Proofs.YtoecimgmghlfpaaGreatDoor.Tree
open Go.ChangeShapes Go.WideShapes Go.ChangeAt Go.RowKit Mem
set_option linter.unusedVariables false

/-- Are Kids as signs ask, one for each; behind them any number of the last sign, if more? -/
def rowS : F → List Int → Bool → Bool
  | .nil, sg, more => sg.isEmpty || (more && sg.tail.isEmpty)
  | .cons k x _ _ r, sg, more => match sg with
    | [] => false
    | s :: ss => fitsS s k x && rowS r (if more && ss.isEmpty then [s] else ss) more

/-- As many as there must be. -/
def lenOK (sg : List Int) (more : Bool) (n : Nat) : Bool := if more then decide (sg.length ≤ n + 1) else decide (sg.length = n)
theorem rowS_len : ∀ (f : F) (sg : List Int) (more : Bool), sg ≠ [] ∨ more = false → lenOK sg more f.len = false → rowS f sg more = false
  | .nil, sg, more, h0, h => by
    unfold lenOK at h
    cases more with
    | true =>
      simp only [if_true, F.len] at h
      match sg, h with
      | [], h => simp at h
      | [s], h => simp at h
      | s :: t :: r, h => rfl
    | false =>
      simp only [Bool.false_eq_true, if_false, F.len] at h
      match sg, h with
      | [], h => simp at h
      | s :: r, h => rfl
  | .cons k x y c r, sg, more, h0, h => by
    match sg with
    | [] => rfl
    | s :: ss =>
      have key : rowS r (if more && ss.isEmpty then [s] else ss) more = false := by
        refine rowS_len r _ more ?_ ?_
        · cases more with
          | true =>
            left
            cases ss with
            | nil => simp
            | cons => simp
          | false => exact .inr rfl
        · unfold lenOK at h ⊢
          cases more with
          | true =>
            simp only [if_true, F.len, Bool.true_and] at h ⊢
            have h' := of_decide_eq_false h
            refine decide_eq_false ?_
            cases ss with
            | nil => simp at h'
            | cons t q =>
              simp only [List.isEmpty_cons, Bool.false_eq_true, if_false, List.length_cons] at h' ⊢
              omega
          | false =>
            simp only [Bool.false_eq_true, if_false, F.len, Bool.false_and] at h ⊢
            have h' := of_decide_eq_false h
            refine decide_eq_false ?_
            simp only [List.length_cons] at h'
            omega
      simp only [rowS, key, Bool.and_false]
/-- The signs that are left at place i. -/
def st (sg : List Int) (more : Bool) (i : Nat) : List Int := sg.drop (if more then min i (sg.length - 1) else i)
theorem rowS_step {f : F} {sg : List Int} {more : Bool} {i q : Nat} {k : Int} {x y : ByteArray} {c r : F} {s : Int} (hd : f.drop i = .cons k x y c r) (hr : f.drop (i + 1) = r) (hq : (if more then min i (sg.length - 1) else i) = q) (hs : sg[q]? = some s) :
    rowS (f.drop i) (st sg more i) more = (fitsS s k x && rowS (f.drop (i + 1)) (st sg more (i + 1)) more) := by
  have hlt : q < sg.length := (List.getElem?_eq_some_iff.1 hs).1
  have hsq : sg[q] = s := by rw [List.getElem?_eq_getElem hlt] at hs; exact Option.some.inj hs
  have h1 : st sg more i = s :: sg.drop (q + 1) := by
    unfold st; rw [hq, List.drop_eq_getElem_cons hlt, hsq]
  rw [hd, h1, hr]
  simp only [rowS]
  congr 2
  unfold st
  cases more with
  | true =>
    simp only [if_true, Bool.true_and] at hq ⊢
    by_cases hl : q + 1 = sg.length
    · have e : sg.drop (q + 1) = [] := List.drop_eq_nil_of_le (by omega)
      have e2 : min (i + 1) (sg.length - 1) = q := by omega
      rw [e, e2, List.drop_eq_getElem_cons hlt, hsq, e]
      rfl
    · have e : (sg.drop (q + 1)).isEmpty = false := by
        rw [List.isEmpty_eq_false_iff]
        intro h
        have := congrArg List.length h
        rw [List.length_drop, List.length_nil] at this; omega
      rw [e, if_neg (by simp), show min (i + 1) (sg.length - 1) = q + 1 by omega]
  | false =>
    simp only [Bool.false_eq_true, if_false, Bool.false_and] at hq ⊢
    rw [hq]
theorem rowS_end {f : F} {sg : List Int} {more : Bool} {n : Nat} (hn : f.len = n) (hne : sg ≠ []) (hl : lenOK sg more n = true) : rowS (f.drop n) (st sg more n) more = true := by
  rw [F.drop_all _ _ (by omega)]
  have hp : 0 < sg.length := List.length_pos_iff.2 hne
  unfold lenOK at hl
  unfold st
  cases more with
  | true =>
    simp only [if_true, decide_eq_true_eq] at hl ⊢
    rw [show min n (sg.length - 1) = sg.length - 1 by omega, List.drop_eq_getElem_cons (by omega), List.drop_eq_nil_of_le (by omega)]
    rfl
  | false =>
    simp only [Bool.false_eq_true, if_false, decide_eq_true_eq] at hl ⊢
    rw [List.drop_eq_nil_of_le (by omega)]
    rfl

/-! ### As the program's parts -/
theorem rowS_one (T : Int → List (Int → ByteArray → Bool)) : ∀ (f : F) (sg : List Int), (∀ s ∈ sg, ∀ k x, (T s).any (fun p => p k x) = fitsS s k x) → rowS f sg false = rowOK (sg.map fun s => .one (T s)) f
  | .nil, sg, h => by
    cases sg with
    | nil => rfl
    | cons s ss => rfl
  | .cons k x y c r, sg, h => by
    cases sg with
    | nil => rfl
    | cons s ss =>
      have ih := rowS_one T r ss (fun t ht => h t (List.mem_cons_of_mem _ ht))
      have h0 := h s (List.mem_cons_self ..) k x
      simp only [rowS, Bool.false_and, Bool.false_eq_true, if_false, List.map_cons, rowOK, Pt.take]
      rw [ih, ← h0]
      cases (T s).any (fun p => p k x) <;> rfl
theorem rowS_many (p : Int → ByteArray → Bool) (s : Int) (h : ∀ k x, p k x = fitsS s k x) : ∀ f : F, rowS f [s] true = rowOK [.many p] f
  | .nil => rfl
  | .cons k x y c r => by
    have ih := rowS_many p s h r
    simp only [rowOK, Pt.take] at ih
    simp only [rowS, Bool.true_and, List.isEmpty_nil, if_true, rowOK, Pt.take, dropM]
    rw [ih, ← h k x]
    cases p k x <;> rfl
theorem rowS_one_many (T : List (Int → ByteArray → Bool)) (p : Int → ByteArray → Bool) (s t : Int) (hT : ∀ k x, T.any (fun p => p k x) = fitsS s k x) (h : ∀ k x, p k x = fitsS t k x) (f : F) : rowS f [s, t] true = rowOK [.one T, .many p] f := by
  cases f with
  | nil => rfl
  | cons k x y c r =>
    have hm := rowS_many p t h r
    simp only [rowS, Bool.true_and, List.isEmpty_cons, Bool.false_eq_true, if_false, rowOK, Pt.take]
    rw [hm, ← hT k x]
    cases T.any (fun p => p k x) <;> rfl

set_option maxRecDepth 100000 in
set_option maxHeartbeats 8000000 in
theorem refRow_any (sg : List Int) (more : Bool) (hs : ∀ s ∈ sg, s ∈ Signs) (hby : Utf.Byt sg) (hne : sg ≠ []) (hsl : sg.length ≤ 100) (A : Option Addr) (n C : Nat) (f : F) (w : World) (hf : Fs w (Lo w.heap.size) (.slice A n C) f) :
    Calls Tryz.prog 47 #[.slice A n C, .string (strOfNums sg), .bool more] w fun e w' => e = .returned (.bool (rowS f sg more)) ∧ Below w.heap.size w w' := by
  have hsz : (strOfNums sg).size = sg.length := Lex.strOfNums_size sg
  have HIX : Hid (∀ (q : Nat), q < sg.length → ∀ W : World, (Instr.index 9 (.string (strOfNums sg)) (.int .i64 (q : Int))).run Tryz.prog W = .ok (.int .u8 (sg.getD q 0)) W) := fun q hq W => Lex.run_idx_str (P := Tryz.prog) 9 Tryz.underlying9 hby hq W
  obtain ⟨A0, C0, e, hnC, hCm⟩ := hf.slice
  injection e with e1 e2 e3
  have hfl : f.len = n := e2.symm
  have hn63 : n ≤ 9223372036854775807 := by omega
  clear e1 e3 e2
  have HF := Lib.hid hf; have HFL := Lib.hid hfl; have HS := Lib.hid hs; have HNE := Lib.hid hne
  have hp : 0 < sg.length := List.length_pos_iff.2 hne
  have HLEN : Hid (lenOK sg more n = false → rowS f sg more = false) := fun h => rowS_len f sg more (.inl hne) (by rw [hfl]; exact h)
  have HEND : Hid (lenOK sg more n = true → rowS (f.drop n) (st sg more n) more = true) := fun h => rowS_end hfl hne h
  have HLK : Hid (lenOK sg more n = if more then decide (sg.length ≤ n + 1) else decide (sg.length = n)) := rfl
  obtain ⟨sx, hsx⟩ : ∃ sx, strOfNums sg = sx := ⟨_, rfl⟩
  obtain ⟨m, hm⟩ : ∃ m, sg.length = m := ⟨_, rfl⟩
  rw [hsx, hm] at hsz
  rw [hsx] at HIX ⊢
  rw [hm] at HIX HLK hsl hp
  have HM := Lib.hid hm
  have hm1 : ((m : Int) - 1) = ((m - 1 : Nat) : Int) := by omega
  clear hf hfl hs hne hby hsx hm
  cases more with
  | true =>
    by_cases hbad : n + 1 < m
    · have HE := Lib.hid (HLEN.out (by rw [HLK.out]; simp; omega))
      rw [HE.out]
      have q1 : (n : Int) < (m : Int) := by omega
      have q2 : ¬ (m : Int) - 1 ≤ (n : Int) := by omega
      clear HF hm1
      go_enter Tryz.func47, Tryz.ntmps47
      go_wp2
      go_ret
      exact ⟨rfl, Below.refl _ _⟩
    · have HE := Lib.hid (HEND.out (by rw [HLK.out]; simp; omega))
      by_cases hlt : n < m
      · have q1 : (n : Int) < (m : Int) := by omega
        have q2 : ((m - 1 : Nat) : Int) ≤ (n : Int) := by omega
        have q3 : ¬ (m : Int) < (n : Int) := by omega
        go_enter Tryz.func47, Tryz.ntmps47
        go_wp2
        go_loopw [7] (fun s7 wr => ∃ i : Nat, i ≤ n ∧ s7 = .int .i64 (i : Int) ∧ Hid (rowS (f.drop i) (st sg true i) true = rowS f sg true) ∧ Hid (Below w.heap.size w wr)) (fun s7 _ => n - (intOf s7).toNat)
        case atStart => exact ⟨0, Nat.zero_le _, rfl, (by show rowS (f.drop 0) (st sg true 0) true = _; unfold st; simp [F.drop]), Below.refl _ _⟩
        case round =>
          obtain ⟨i, hi, rfl, hst, HB⟩ := hrel
          by_cases hin : i < n
          · have hin' : (i : Int) < (n : Int) := by omega
            have hqm : i < m := by omega
            have hge : ¬ (m : Int) ≤ (i : Int) := by omega
            obtain ⟨s, hsg⟩ : ∃ s, sg[i]? = some s := ⟨_, List.getElem?_eq_getElem (by rw [HM.out]; omega)⟩
            have hgd : sg.getD (i) 0 = s := by simp [List.getD, hsg]
            obtain ⟨k, x, y, kc, kr, hdr, hdr2⟩ := F.drop_cons (n := i) (f := f) (by rw [HFL.out]; exact hin)
            have HST0 : Hid (rowS (f.drop i) (st sg true i) true = (fitsS s k x && rowS (f.drop (i + 1)) (st sg true (i + 1)) true)) := rowS_step hdr hdr2 (by rw [HM.out]; simp; omega) hsg
            obtain ⟨b, off, s3, rfl, hbS, _, hat⟩ := (HF.out.later HB.out).at_ hdr
            obtain ⟨Ak, Ck, rfl, _, _⟩ := hat.kids.slice
            have hb : b < wr.heap.size := hbS
            have c0 := hat.c0; have c1 := hat.c1; have c2 := hat.c2; have c3 := hat.c3
            have HFT := Lib.hid (fun W : World => fitsS_any s (HS.out s (List.mem_of_getElem? hsg)) k x y Ak kc.len Ck W)
            have HIX := Lib.hid (fun W : World => HIX.out (i) (by omega) W)
            rw [hgd] at HIX
            have hi0 : (0 : Int) ≤ (i : Int) := by omega
            obtain ⟨bb, hbb⟩ : ∃ bb, fitsS s k x = bb := ⟨_, rfl⟩
            rw [hbb] at HFT HST0
            have HST : Hid (rowS f sg true = (bb && rowS (f.drop (i + 1)) (st sg true (i + 1)) true)) := hst.out.symm.trans HST0.out
            clear hdr hdr2 hat hbS hsg hgd hbb HST0 hst
            go_wp2
            refine region_rel (fun W W' => Below W.heap.size W W') [Cd.is (Value.slice (some ⟨b, off, none⟩) n C), Cd.is (Value.int .i64 (i : Int)), Cd.is (Value.pointer (some ⟨b, off + i * 4, none⟩)), Cd.is (Value.agg #[.int .i64 k, .string x, .string y, .slice Ak kc.len Ck]), Cd.is (Value.string sx), Cd.is (Value.int .i64 (i : Int)), Cd.is (Value.int .u8 s), Cd.is (Value.bool bb), Cd.is (Value.bool (!bb))] (by kernel_rfl) (by decide) (by kernel_rfl) (Below.refl _ _) (fun _ _ _ h k => h.trans (k.mono h.size)) ?steps ?behind
            case steps =>
              intro xv W hW a ha
              replace hW := undrew hW
              simp only [fillA] at ha
              simp only [List.setIfInBounds_toArray, List.set_cons_succ, List.set_cons_zero, Nat.zero_add, Nat.reduceAdd] at ha
              subst ha
              refine ⟨fun hd K hK => ?s0, fun hd K hK => ?s1, fun hd K hK => ?s2, fun hd K hK => ?s3, fun hd K hK => ?s4, fun hd K hK => ?s5, fun hd K hK => ?s6, fun hd K hK => ?s7, fun hd K hK => ?s8, trivial⟩
              case s0 =>
                clear hd
                simp only [Act.put, List.setIfInBounds_toArray, List.set_cons_succ, List.set_cons_zero] at hK
                refine (if_pos (by rfl)).mpr ?_
                go_simp
                exact hK.out _ _ (Below.refl _ _) rfl
              case s1 =>
                clear hd
                simp only [Act.put, List.setIfInBounds_toArray, List.set_cons_succ, List.set_cons_zero] at hK
                refine (if_pos (by rfl)).mpr ?_
                go_simp
                exact hK.out _ _ (Below.refl _ _) rfl
              case s2 =>
                have hx0 : xv 0 = Value.slice (some ⟨b, off, none⟩) n C := hd 0 (by kernel_rfl)
                have hx1 : xv 1 = Value.int .i64 (i : Int) := hd 1 (by kernel_rfl)
                clear hd
                simp only [Act.put, List.setIfInBounds_toArray, List.set_cons_succ, List.set_cons_zero] at hK
                rw [hx0] at hK ⊢
                rw [hx1] at hK ⊢
                refine (if_pos (by rfl)).mpr ?_
                go_simp
                exact hK.out _ _ (Below.refl _ _) rfl
              case s3 =>
                have hx2 : xv 2 = Value.pointer (some ⟨b, off + i * 4, none⟩) := hd 2 (by kernel_rfl)
                clear hd
                simp only [Act.put, List.setIfInBounds_toArray, List.set_cons_succ, List.set_cons_zero] at hK
                rw [hx2] at hK ⊢
                refine (if_pos (by rfl)).mpr ?_
                have hc0 := (hW.cell (p := ⟨b, off + i * 4, none⟩) hb).trans c0; have hc1 := (hW.cell (p := ⟨b, off + i * 4 + 1, none⟩) hb).trans c1; have hc2 := (hW.cell (p := ⟨b, off + i * 4 + 2, none⟩) hb).trans c2; have hc3 := (hW.cell (p := ⟨b, off + i * 4 + 3, none⟩) hb).trans c3
                go_simp
                exact hK.out _ _ (Below.refl _ _) rfl
              case s4 =>
                clear hd
                simp only [Act.put, List.setIfInBounds_toArray, List.set_cons_succ, List.set_cons_zero] at hK
                refine (if_pos (by rfl)).mpr ?_
                go_simp
                exact hK.out _ _ (Below.refl _ _) rfl
              case s5 =>
                clear hd
                simp only [Act.put, List.setIfInBounds_toArray, List.set_cons_succ, List.set_cons_zero] at hK
                refine (if_pos (by rfl)).mpr ?_
                go_simp
                exact hK.out _ _ (Below.refl _ _) rfl
              case s6 =>
                have hx4 : xv 4 = Value.string sx := hd 4 (by kernel_rfl)
                have hx5 : xv 5 = Value.int .i64 (i : Int) := hd 5 (by kernel_rfl)
                clear hd
                simp only [Act.put, List.setIfInBounds_toArray, List.set_cons_succ, List.set_cons_zero] at hK
                rw [hx4] at hK ⊢
                rw [hx5] at hK ⊢
                refine (if_pos (by rfl)).mpr ?_
                have hix := HIX.out W
                go_simp
                exact hK.out _ _ (Below.refl _ _) rfl
              case s7 =>
                have hx3 : xv 3 = Value.agg #[.int .i64 k, .string x, .string y, .slice Ak kc.len Ck] := hd 3 (by kernel_rfl)
                have hx6 : xv 6 = Value.int .u8 s := hd 6 (by kernel_rfl)
                clear hd
                simp only [Act.put, List.setIfInBounds_toArray, List.set_cons_succ, List.set_cons_zero] at hK
                rw [hx3] at hK ⊢
                rw [hx6] at hK ⊢
                refine (if_pos (by rfl)).mpr ?_
                go_simp
                go_at_call 64
                refine (HFT.out W).mono ?_
                rintro e w' ⟨rfl, hbw⟩
                exact hK.out _ _ hbw rfl
              case s8 =>
                have hx7 : xv 7 = Value.bool bb := hd 7 (by kernel_rfl)
                clear hd
                simp only [Act.put, List.setIfInBounds_toArray, List.set_cons_succ, List.set_cons_zero] at hK
                rw [hx7] at hK ⊢
                refine (if_pos (by rfl)).mpr ?_
                go_simp
                exact hK.out _ _ (Below.refl _ _) rfl
            case behind =>
              intro xv W hW hx a ha
              replace hW := undrew hW
              simp only [fillA] at ha
              simp only [List.setIfInBounds_toArray, List.set_cons_succ, List.set_cons_zero, Nat.zero_add, Nat.reduceAdd] at ha
              subst ha
              have h8 : xv 8 = Value.bool (!bb) := hx 8 (by decide)
              rw [h8]
              have HW := Lib.hid (HB.out.trans (hW.mono HB.out.size))
              clear hx h8 hW
              cases bb with
              | true =>
                have HN : Hid (rowS (f.drop (i + 1)) (st sg true (i + 1)) true = rowS f sg true) := by
                  show _ = _
                  rw [HST.out]; rfl
                go_wp2
                go_roundw
                case rel => exact ⟨i + 1, by omega, by go_num, HN.out, HW.out⟩
                case measure => simp [intOf]; omega
              | false =>
                have HE : Hid (rowS f sg true = false) := by
                  show _ = _
                  rw [HST.out]; rfl
                go_wp2
                go_ret
                exact ⟨by rw [HE.out]; rfl, HW.out⟩
          · have hin' : ¬ (i : Int) < (n : Int) := by omega
            obtain rfl : i = n := by omega
            have HV : Hid (rowS f sg true = true) := hst.out.symm.trans HE.out
            clear hst hin
            go_wp2
            go_ret
            exact ⟨by rw [HV.out]; rfl, HB.out⟩
      · by_cases hgt : m < n
        · have q1 : ¬ (n : Int) < (m : Int) := by omega
          have q3 : (m : Int) < (n : Int) := by omega
          go_enter Tryz.func47, Tryz.ntmps47
          go_wp2
          go_loopw [7] (fun s7 wr => ∃ i : Nat, i ≤ n ∧ s7 = .int .i64 (i : Int) ∧ Hid (rowS (f.drop i) (st sg true i) true = rowS f sg true) ∧ Hid (Below w.heap.size w wr)) (fun s7 _ => n - (intOf s7).toNat)
          case atStart => exact ⟨0, Nat.zero_le _, rfl, (by show rowS (f.drop 0) (st sg true 0) true = _; unfold st; simp [F.drop]), Below.refl _ _⟩
          case round =>
            obtain ⟨i, hi, rfl, hst, HB⟩ := hrel
            by_cases hin : i < n
            · have hin' : (i : Int) < (n : Int) := by omega
              by_cases hqm : i < m
              · skip
                have hge : ¬ (m : Int) ≤ (i : Int) := by omega
                obtain ⟨s, hsg⟩ : ∃ s, sg[i]? = some s := ⟨_, List.getElem?_eq_getElem (by rw [HM.out]; omega)⟩
                have hgd : sg.getD (i) 0 = s := by simp [List.getD, hsg]
                obtain ⟨k, x, y, kc, kr, hdr, hdr2⟩ := F.drop_cons (n := i) (f := f) (by rw [HFL.out]; exact hin)
                have HST0 : Hid (rowS (f.drop i) (st sg true i) true = (fitsS s k x && rowS (f.drop (i + 1)) (st sg true (i + 1)) true)) := rowS_step hdr hdr2 (by rw [HM.out]; simp; omega) hsg
                obtain ⟨b, off, s3, rfl, hbS, _, hat⟩ := (HF.out.later HB.out).at_ hdr
                obtain ⟨Ak, Ck, rfl, _, _⟩ := hat.kids.slice
                have hb : b < wr.heap.size := hbS
                have c0 := hat.c0; have c1 := hat.c1; have c2 := hat.c2; have c3 := hat.c3
                have HFT := Lib.hid (fun W : World => fitsS_any s (HS.out s (List.mem_of_getElem? hsg)) k x y Ak kc.len Ck W)
                have HIX := Lib.hid (fun W : World => HIX.out (i) (by omega) W)
                rw [hgd] at HIX
                have hi0 : (0 : Int) ≤ (i : Int) := by omega
                obtain ⟨bb, hbb⟩ : ∃ bb, fitsS s k x = bb := ⟨_, rfl⟩
                rw [hbb] at HFT HST0
                have HST : Hid (rowS f sg true = (bb && rowS (f.drop (i + 1)) (st sg true (i + 1)) true)) := hst.out.symm.trans HST0.out
                clear hdr hdr2 hat hbS hsg hgd hbb HST0 hst
                go_wp2
                refine region_rel (fun W W' => Below W.heap.size W W') [Cd.is (Value.slice (some ⟨b, off, none⟩) n C), Cd.is (Value.int .i64 (i : Int)), Cd.is (Value.pointer (some ⟨b, off + i * 4, none⟩)), Cd.is (Value.agg #[.int .i64 k, .string x, .string y, .slice Ak kc.len Ck]), Cd.is (Value.string sx), Cd.is (Value.int .i64 (i : Int)), Cd.is (Value.int .u8 s), Cd.is (Value.bool bb), Cd.is (Value.bool (!bb))] (by kernel_rfl) (by decide) (by kernel_rfl) (Below.refl _ _) (fun _ _ _ h k => h.trans (k.mono h.size)) ?steps ?behind
                case steps =>
                  intro xv W hW a ha
                  replace hW := undrew hW
                  simp only [fillA] at ha
                  simp only [List.setIfInBounds_toArray, List.set_cons_succ, List.set_cons_zero, Nat.zero_add, Nat.reduceAdd] at ha
                  subst ha
                  refine ⟨fun hd K hK => ?s0, fun hd K hK => ?s1, fun hd K hK => ?s2, fun hd K hK => ?s3, fun hd K hK => ?s4, fun hd K hK => ?s5, fun hd K hK => ?s6, fun hd K hK => ?s7, fun hd K hK => ?s8, trivial⟩
                  case s0 =>
                    clear hd
                    simp only [Act.put, List.setIfInBounds_toArray, List.set_cons_succ, List.set_cons_zero] at hK
                    refine (if_pos (by rfl)).mpr ?_
                    go_simp
                    exact hK.out _ _ (Below.refl _ _) rfl
                  case s1 =>
                    clear hd
                    simp only [Act.put, List.setIfInBounds_toArray, List.set_cons_succ, List.set_cons_zero] at hK
                    refine (if_pos (by rfl)).mpr ?_
                    go_simp
                    exact hK.out _ _ (Below.refl _ _) rfl
                  case s2 =>
                    have hx0 : xv 0 = Value.slice (some ⟨b, off, none⟩) n C := hd 0 (by kernel_rfl)
                    have hx1 : xv 1 = Value.int .i64 (i : Int) := hd 1 (by kernel_rfl)
                    clear hd
                    simp only [Act.put, List.setIfInBounds_toArray, List.set_cons_succ, List.set_cons_zero] at hK
                    rw [hx0] at hK ⊢
                    rw [hx1] at hK ⊢
                    refine (if_pos (by rfl)).mpr ?_
                    go_simp
                    exact hK.out _ _ (Below.refl _ _) rfl
                  case s3 =>
                    have hx2 : xv 2 = Value.pointer (some ⟨b, off + i * 4, none⟩) := hd 2 (by kernel_rfl)
                    clear hd
                    simp only [Act.put, List.setIfInBounds_toArray, List.set_cons_succ, List.set_cons_zero] at hK
                    rw [hx2] at hK ⊢
                    refine (if_pos (by rfl)).mpr ?_
                    have hc0 := (hW.cell (p := ⟨b, off + i * 4, none⟩) hb).trans c0; have hc1 := (hW.cell (p := ⟨b, off + i * 4 + 1, none⟩) hb).trans c1; have hc2 := (hW.cell (p := ⟨b, off + i * 4 + 2, none⟩) hb).trans c2; have hc3 := (hW.cell (p := ⟨b, off + i * 4 + 3, none⟩) hb).trans c3
                    go_simp
                    exact hK.out _ _ (Below.refl _ _) rfl
                  case s4 =>
                    clear hd
                    simp only [Act.put, List.setIfInBounds_toArray, List.set_cons_succ, List.set_cons_zero] at hK
                    refine (if_pos (by rfl)).mpr ?_
                    go_simp
                    exact hK.out _ _ (Below.refl _ _) rfl
                  case s5 =>
                    clear hd
                    simp only [Act.put, List.setIfInBounds_toArray, List.set_cons_succ, List.set_cons_zero] at hK
                    refine (if_pos (by rfl)).mpr ?_
                    go_simp
                    exact hK.out _ _ (Below.refl _ _) rfl
                  case s6 =>
                    have hx4 : xv 4 = Value.string sx := hd 4 (by kernel_rfl)
                    have hx5 : xv 5 = Value.int .i64 (i : Int) := hd 5 (by kernel_rfl)
                    clear hd
                    simp only [Act.put, List.setIfInBounds_toArray, List.set_cons_succ, List.set_cons_zero] at hK
                    rw [hx4] at hK ⊢
                    rw [hx5] at hK ⊢
                    refine (if_pos (by rfl)).mpr ?_
                    have hix := HIX.out W
                    go_simp
                    exact hK.out _ _ (Below.refl _ _) rfl
                  case s7 =>
                    have hx3 : xv 3 = Value.agg #[.int .i64 k, .string x, .string y, .slice Ak kc.len Ck] := hd 3 (by kernel_rfl)
                    have hx6 : xv 6 = Value.int .u8 s := hd 6 (by kernel_rfl)
                    clear hd
                    simp only [Act.put, List.setIfInBounds_toArray, List.set_cons_succ, List.set_cons_zero] at hK
                    rw [hx3] at hK ⊢
                    rw [hx6] at hK ⊢
                    refine (if_pos (by rfl)).mpr ?_
                    go_simp
                    go_at_call 64
                    refine (HFT.out W).mono ?_
                    rintro e w' ⟨rfl, hbw⟩
                    exact hK.out _ _ hbw rfl
                  case s8 =>
                    have hx7 : xv 7 = Value.bool bb := hd 7 (by kernel_rfl)
                    clear hd
                    simp only [Act.put, List.setIfInBounds_toArray, List.set_cons_succ, List.set_cons_zero] at hK
                    rw [hx7] at hK ⊢
                    refine (if_pos (by rfl)).mpr ?_
                    go_simp
                    exact hK.out _ _ (Below.refl _ _) rfl
                case behind =>
                  intro xv W hW hx a ha
                  replace hW := undrew hW
                  simp only [fillA] at ha
                  simp only [List.setIfInBounds_toArray, List.set_cons_succ, List.set_cons_zero, Nat.zero_add, Nat.reduceAdd] at ha
                  subst ha
                  have h8 : xv 8 = Value.bool (!bb) := hx 8 (by decide)
                  rw [h8]
                  have HW := Lib.hid (HB.out.trans (hW.mono HB.out.size))
                  clear hx h8 hW
                  cases bb with
                  | true =>
                    have HN : Hid (rowS (f.drop (i + 1)) (st sg true (i + 1)) true = rowS f sg true) := by
                      show _ = _
                      rw [HST.out]; rfl
                    go_wp2
                    go_roundw
                    case rel => exact ⟨i + 1, by omega, by go_num, HN.out, HW.out⟩
                    case measure => simp [intOf]; omega
                  | false =>
                    have HE : Hid (rowS f sg true = false) := by
                      show _ = _
                      rw [HST.out]; rfl
                    go_wp2
                    go_ret
                    exact ⟨by rw [HE.out]; rfl, HW.out⟩
              · skip
                have hge : (m : Int) ≤ (i : Int) := by omega
                obtain ⟨s, hsg⟩ : ∃ s, sg[m - 1]? = some s := ⟨_, List.getElem?_eq_getElem (by rw [HM.out]; omega)⟩
                have hgd : sg.getD (m - 1) 0 = s := by simp [List.getD, hsg]
                obtain ⟨k, x, y, kc, kr, hdr, hdr2⟩ := F.drop_cons (n := i) (f := f) (by rw [HFL.out]; exact hin)
                have HST0 : Hid (rowS (f.drop i) (st sg true i) true = (fitsS s k x && rowS (f.drop (i + 1)) (st sg true (i + 1)) true)) := rowS_step hdr hdr2 (by rw [HM.out]; simp; omega) hsg
                obtain ⟨b, off, s3, rfl, hbS, _, hat⟩ := (HF.out.later HB.out).at_ hdr
                obtain ⟨Ak, Ck, rfl, _, _⟩ := hat.kids.slice
                have hb : b < wr.heap.size := hbS
                have c0 := hat.c0; have c1 := hat.c1; have c2 := hat.c2; have c3 := hat.c3
                have HFT := Lib.hid (fun W : World => fitsS_any s (HS.out s (List.mem_of_getElem? hsg)) k x y Ak kc.len Ck W)
                have HIX := Lib.hid (fun W : World => HIX.out (m - 1) (by omega) W)
                rw [hgd] at HIX
                have hi0 : (0 : Int) ≤ (i : Int) := by omega
                obtain ⟨bb, hbb⟩ : ∃ bb, fitsS s k x = bb := ⟨_, rfl⟩
                rw [hbb] at HFT HST0
                have HST : Hid (rowS f sg true = (bb && rowS (f.drop (i + 1)) (st sg true (i + 1)) true)) := hst.out.symm.trans HST0.out
                clear hdr hdr2 hat hbS hsg hgd hbb HST0 hst
                go_wp2
                refine region_rel (fun W W' => Below W.heap.size W W') [Cd.is (Value.slice (some ⟨b, off, none⟩) n C), Cd.is (Value.int .i64 (i : Int)), Cd.is (Value.pointer (some ⟨b, off + i * 4, none⟩)), Cd.is (Value.agg #[.int .i64 k, .string x, .string y, .slice Ak kc.len Ck]), Cd.is (Value.string sx), Cd.is (Value.int .i64 ((m - 1 : Nat) : Int)), Cd.is (Value.int .u8 s), Cd.is (Value.bool bb), Cd.is (Value.bool (!bb))] (by kernel_rfl) (by decide) (by kernel_rfl) (Below.refl _ _) (fun _ _ _ h k => h.trans (k.mono h.size)) ?steps ?behind
                case steps =>
                  intro xv W hW a ha
                  replace hW := undrew hW
                  simp only [fillA] at ha
                  simp only [List.setIfInBounds_toArray, List.set_cons_succ, List.set_cons_zero, Nat.zero_add, Nat.reduceAdd] at ha
                  subst ha
                  refine ⟨fun hd K hK => ?s0, fun hd K hK => ?s1, fun hd K hK => ?s2, fun hd K hK => ?s3, fun hd K hK => ?s4, fun hd K hK => ?s5, fun hd K hK => ?s6, fun hd K hK => ?s7, fun hd K hK => ?s8, trivial⟩
                  case s0 =>
                    clear hd
                    simp only [Act.put, List.setIfInBounds_toArray, List.set_cons_succ, List.set_cons_zero] at hK
                    refine (if_pos (by rfl)).mpr ?_
                    go_simp
                    exact hK.out _ _ (Below.refl _ _) rfl
                  case s1 =>
                    clear hd
                    simp only [Act.put, List.setIfInBounds_toArray, List.set_cons_succ, List.set_cons_zero] at hK
                    refine (if_pos (by rfl)).mpr ?_
                    go_simp
                    exact hK.out _ _ (Below.refl _ _) rfl
                  case s2 =>
                    have hx0 : xv 0 = Value.slice (some ⟨b, off, none⟩) n C := hd 0 (by kernel_rfl)
                    have hx1 : xv 1 = Value.int .i64 (i : Int) := hd 1 (by kernel_rfl)
                    clear hd
                    simp only [Act.put, List.setIfInBounds_toArray, List.set_cons_succ, List.set_cons_zero] at hK
                    rw [hx0] at hK ⊢
                    rw [hx1] at hK ⊢
                    refine (if_pos (by rfl)).mpr ?_
                    go_simp
                    exact hK.out _ _ (Below.refl _ _) rfl
                  case s3 =>
                    have hx2 : xv 2 = Value.pointer (some ⟨b, off + i * 4, none⟩) := hd 2 (by kernel_rfl)
                    clear hd
                    simp only [Act.put, List.setIfInBounds_toArray, List.set_cons_succ, List.set_cons_zero] at hK
                    rw [hx2] at hK ⊢
                    refine (if_pos (by rfl)).mpr ?_
                    have hc0 := (hW.cell (p := ⟨b, off + i * 4, none⟩) hb).trans c0; have hc1 := (hW.cell (p := ⟨b, off + i * 4 + 1, none⟩) hb).trans c1; have hc2 := (hW.cell (p := ⟨b, off + i * 4 + 2, none⟩) hb).trans c2; have hc3 := (hW.cell (p := ⟨b, off + i * 4 + 3, none⟩) hb).trans c3
                    go_simp
                    exact hK.out _ _ (Below.refl _ _) rfl
                  case s4 =>
                    clear hd
                    simp only [Act.put, List.setIfInBounds_toArray, List.set_cons_succ, List.set_cons_zero] at hK
                    refine (if_pos (by rfl)).mpr ?_
                    go_simp
                    exact hK.out _ _ (Below.refl _ _) rfl
                  case s5 =>
                    clear hd
                    simp only [Act.put, List.setIfInBounds_toArray, List.set_cons_succ, List.set_cons_zero] at hK
                    refine (if_pos (by rfl)).mpr ?_
                    go_simp
                    exact hK.out _ _ (Below.refl _ _) rfl
                  case s6 =>
                    have hx4 : xv 4 = Value.string sx := hd 4 (by kernel_rfl)
                    have hx5 : xv 5 = Value.int .i64 ((m - 1 : Nat) : Int) := hd 5 (by kernel_rfl)
                    clear hd
                    simp only [Act.put, List.setIfInBounds_toArray, List.set_cons_succ, List.set_cons_zero] at hK
                    rw [hx4] at hK ⊢
                    rw [hx5] at hK ⊢
                    refine (if_pos (by rfl)).mpr ?_
                    have hix := HIX.out W
                    go_simp
                    exact hK.out _ _ (Below.refl _ _) rfl
                  case s7 =>
                    have hx3 : xv 3 = Value.agg #[.int .i64 k, .string x, .string y, .slice Ak kc.len Ck] := hd 3 (by kernel_rfl)
                    have hx6 : xv 6 = Value.int .u8 s := hd 6 (by kernel_rfl)
                    clear hd
                    simp only [Act.put, List.setIfInBounds_toArray, List.set_cons_succ, List.set_cons_zero] at hK
                    rw [hx3] at hK ⊢
                    rw [hx6] at hK ⊢
                    refine (if_pos (by rfl)).mpr ?_
                    go_simp
                    go_at_call 64
                    refine (HFT.out W).mono ?_
                    rintro e w' ⟨rfl, hbw⟩
                    exact hK.out _ _ hbw rfl
                  case s8 =>
                    have hx7 : xv 7 = Value.bool bb := hd 7 (by kernel_rfl)
                    clear hd
                    simp only [Act.put, List.setIfInBounds_toArray, List.set_cons_succ, List.set_cons_zero] at hK
                    rw [hx7] at hK ⊢
                    refine (if_pos (by rfl)).mpr ?_
                    go_simp
                    exact hK.out _ _ (Below.refl _ _) rfl
                case behind =>
                  intro xv W hW hx a ha
                  replace hW := undrew hW
                  simp only [fillA] at ha
                  simp only [List.setIfInBounds_toArray, List.set_cons_succ, List.set_cons_zero, Nat.zero_add, Nat.reduceAdd] at ha
                  subst ha
                  have h8 : xv 8 = Value.bool (!bb) := hx 8 (by decide)
                  rw [h8]
                  have HW := Lib.hid (HB.out.trans (hW.mono HB.out.size))
                  clear hx h8 hW
                  cases bb with
                  | true =>
                    have HN : Hid (rowS (f.drop (i + 1)) (st sg true (i + 1)) true = rowS f sg true) := by
                      show _ = _
                      rw [HST.out]; rfl
                    go_wp2
                    go_roundw
                    case rel => exact ⟨i + 1, by omega, by go_num, HN.out, HW.out⟩
                    case measure => simp [intOf]; omega
                  | false =>
                    have HE : Hid (rowS f sg true = false) := by
                      show _ = _
                      rw [HST.out]; rfl
                    go_wp2
                    go_ret
                    exact ⟨by rw [HE.out]; rfl, HW.out⟩
            · have hin' : ¬ (i : Int) < (n : Int) := by omega
              obtain rfl : i = n := by omega
              have HV : Hid (rowS f sg true = true) := hst.out.symm.trans HE.out
              clear hst hin
              go_wp2
              go_ret
              exact ⟨by rw [HV.out]; rfl, HB.out⟩
        · have q1 : ¬ (n : Int) < (m : Int) := by omega
          have q3 : ¬ (m : Int) < (n : Int) := by omega
          go_enter Tryz.func47, Tryz.ntmps47
          go_wp2
          go_loopw [7] (fun s7 wr => ∃ i : Nat, i ≤ n ∧ s7 = .int .i64 (i : Int) ∧ Hid (rowS (f.drop i) (st sg true i) true = rowS f sg true) ∧ Hid (Below w.heap.size w wr)) (fun s7 _ => n - (intOf s7).toNat)
          case atStart => exact ⟨0, Nat.zero_le _, rfl, (by show rowS (f.drop 0) (st sg true 0) true = _; unfold st; simp [F.drop]), Below.refl _ _⟩
          case round =>
            obtain ⟨i, hi, rfl, hst, HB⟩ := hrel
            by_cases hin : i < n
            · have hin' : (i : Int) < (n : Int) := by omega
              have hqm : i < m := by omega
              have hge : ¬ (m : Int) ≤ (i : Int) := by omega
              obtain ⟨s, hsg⟩ : ∃ s, sg[i]? = some s := ⟨_, List.getElem?_eq_getElem (by rw [HM.out]; omega)⟩
              have hgd : sg.getD (i) 0 = s := by simp [List.getD, hsg]
              obtain ⟨k, x, y, kc, kr, hdr, hdr2⟩ := F.drop_cons (n := i) (f := f) (by rw [HFL.out]; exact hin)
              have HST0 : Hid (rowS (f.drop i) (st sg true i) true = (fitsS s k x && rowS (f.drop (i + 1)) (st sg true (i + 1)) true)) := rowS_step hdr hdr2 (by rw [HM.out]; simp; omega) hsg
              obtain ⟨b, off, s3, rfl, hbS, _, hat⟩ := (HF.out.later HB.out).at_ hdr
              obtain ⟨Ak, Ck, rfl, _, _⟩ := hat.kids.slice
              have hb : b < wr.heap.size := hbS
              have c0 := hat.c0; have c1 := hat.c1; have c2 := hat.c2; have c3 := hat.c3
              have HFT := Lib.hid (fun W : World => fitsS_any s (HS.out s (List.mem_of_getElem? hsg)) k x y Ak kc.len Ck W)
              have HIX := Lib.hid (fun W : World => HIX.out (i) (by omega) W)
              rw [hgd] at HIX
              have hi0 : (0 : Int) ≤ (i : Int) := by omega
              obtain ⟨bb, hbb⟩ : ∃ bb, fitsS s k x = bb := ⟨_, rfl⟩
              rw [hbb] at HFT HST0
              have HST : Hid (rowS f sg true = (bb && rowS (f.drop (i + 1)) (st sg true (i + 1)) true)) := hst.out.symm.trans HST0.out
              clear hdr hdr2 hat hbS hsg hgd hbb HST0 hst
              go_wp2
              refine region_rel (fun W W' => Below W.heap.size W W') [Cd.is (Value.slice (some ⟨b, off, none⟩) n C), Cd.is (Value.int .i64 (i : Int)), Cd.is (Value.pointer (some ⟨b, off + i * 4, none⟩)), Cd.is (Value.agg #[.int .i64 k, .string x, .string y, .slice Ak kc.len Ck]), Cd.is (Value.string sx), Cd.is (Value.int .i64 (i : Int)), Cd.is (Value.int .u8 s), Cd.is (Value.bool bb), Cd.is (Value.bool (!bb))] (by kernel_rfl) (by decide) (by kernel_rfl) (Below.refl _ _) (fun _ _ _ h k => h.trans (k.mono h.size)) ?steps ?behind
              case steps =>
                intro xv W hW a ha
                replace hW := undrew hW
                simp only [fillA] at ha
                simp only [List.setIfInBounds_toArray, List.set_cons_succ, List.set_cons_zero, Nat.zero_add, Nat.reduceAdd] at ha
                subst ha
                refine ⟨fun hd K hK => ?s0, fun hd K hK => ?s1, fun hd K hK => ?s2, fun hd K hK => ?s3, fun hd K hK => ?s4, fun hd K hK => ?s5, fun hd K hK => ?s6, fun hd K hK => ?s7, fun hd K hK => ?s8, trivial⟩
                case s0 =>
                  clear hd
                  simp only [Act.put, List.setIfInBounds_toArray, List.set_cons_succ, List.set_cons_zero] at hK
                  refine (if_pos (by rfl)).mpr ?_
                  go_simp
                  exact hK.out _ _ (Below.refl _ _) rfl
                case s1 =>
                  clear hd
                  simp only [Act.put, List.setIfInBounds_toArray, List.set_cons_succ, List.set_cons_zero] at hK
                  refine (if_pos (by rfl)).mpr ?_
                  go_simp
                  exact hK.out _ _ (Below.refl _ _) rfl
                case s2 =>
                  have hx0 : xv 0 = Value.slice (some ⟨b, off, none⟩) n C := hd 0 (by kernel_rfl)
                  have hx1 : xv 1 = Value.int .i64 (i : Int) := hd 1 (by kernel_rfl)
                  clear hd
                  simp only [Act.put, List.setIfInBounds_toArray, List.set_cons_succ, List.set_cons_zero] at hK
                  rw [hx0] at hK ⊢
                  rw [hx1] at hK ⊢
                  refine (if_pos (by rfl)).mpr ?_
                  go_simp
                  exact hK.out _ _ (Below.refl _ _) rfl
                case s3 =>
                  have hx2 : xv 2 = Value.pointer (some ⟨b, off + i * 4, none⟩) := hd 2 (by kernel_rfl)
                  clear hd
                  simp only [Act.put, List.setIfInBounds_toArray, List.set_cons_succ, List.set_cons_zero] at hK
                  rw [hx2] at hK ⊢
                  refine (if_pos (by rfl)).mpr ?_
                  have hc0 := (hW.cell (p := ⟨b, off + i * 4, none⟩) hb).trans c0; have hc1 := (hW.cell (p := ⟨b, off + i * 4 + 1, none⟩) hb).trans c1; have hc2 := (hW.cell (p := ⟨b, off + i * 4 + 2, none⟩) hb).trans c2; have hc3 := (hW.cell (p := ⟨b, off + i * 4 + 3, none⟩) hb).trans c3
                  go_simp
                  exact hK.out _ _ (Below.refl _ _) rfl
                case s4 =>
                  clear hd
                  simp only [Act.put, List.setIfInBounds_toArray, List.set_cons_succ, List.set_cons_zero] at hK
                  refine (if_pos (by rfl)).mpr ?_
                  go_simp
                  exact hK.out _ _ (Below.refl _ _) rfl
                case s5 =>
                  clear hd
                  simp only [Act.put, List.setIfInBounds_toArray, List.set_cons_succ, List.set_cons_zero] at hK
                  refine (if_pos (by rfl)).mpr ?_
                  go_simp
                  exact hK.out _ _ (Below.refl _ _) rfl
                case s6 =>
                  have hx4 : xv 4 = Value.string sx := hd 4 (by kernel_rfl)
                  have hx5 : xv 5 = Value.int .i64 (i : Int) := hd 5 (by kernel_rfl)
                  clear hd
                  simp only [Act.put, List.setIfInBounds_toArray, List.set_cons_succ, List.set_cons_zero] at hK
                  rw [hx4] at hK ⊢
                  rw [hx5] at hK ⊢
                  refine (if_pos (by rfl)).mpr ?_
                  have hix := HIX.out W
                  go_simp
                  exact hK.out _ _ (Below.refl _ _) rfl
                case s7 =>
                  have hx3 : xv 3 = Value.agg #[.int .i64 k, .string x, .string y, .slice Ak kc.len Ck] := hd 3 (by kernel_rfl)
                  have hx6 : xv 6 = Value.int .u8 s := hd 6 (by kernel_rfl)
                  clear hd
                  simp only [Act.put, List.setIfInBounds_toArray, List.set_cons_succ, List.set_cons_zero] at hK
                  rw [hx3] at hK ⊢
                  rw [hx6] at hK ⊢
                  refine (if_pos (by rfl)).mpr ?_
                  go_simp
                  go_at_call 64
                  refine (HFT.out W).mono ?_
                  rintro e w' ⟨rfl, hbw⟩
                  exact hK.out _ _ hbw rfl
                case s8 =>
                  have hx7 : xv 7 = Value.bool bb := hd 7 (by kernel_rfl)
                  clear hd
                  simp only [Act.put, List.setIfInBounds_toArray, List.set_cons_succ, List.set_cons_zero] at hK
                  rw [hx7] at hK ⊢
                  refine (if_pos (by rfl)).mpr ?_
                  go_simp
                  exact hK.out _ _ (Below.refl _ _) rfl
              case behind =>
                intro xv W hW hx a ha
                replace hW := undrew hW
                simp only [fillA] at ha
                simp only [List.setIfInBounds_toArray, List.set_cons_succ, List.set_cons_zero, Nat.zero_add, Nat.reduceAdd] at ha
                subst ha
                have h8 : xv 8 = Value.bool (!bb) := hx 8 (by decide)
                rw [h8]
                have HW := Lib.hid (HB.out.trans (hW.mono HB.out.size))
                clear hx h8 hW
                cases bb with
                | true =>
                  have HN : Hid (rowS (f.drop (i + 1)) (st sg true (i + 1)) true = rowS f sg true) := by
                    show _ = _
                    rw [HST.out]; rfl
                  go_wp2
                  go_roundw
                  case rel => exact ⟨i + 1, by omega, by go_num, HN.out, HW.out⟩
                  case measure => simp [intOf]; omega
                | false =>
                  have HE : Hid (rowS f sg true = false) := by
                    show _ = _
                    rw [HST.out]; rfl
                  go_wp2
                  go_ret
                  exact ⟨by rw [HE.out]; rfl, HW.out⟩
            · have hin' : ¬ (i : Int) < (n : Int) := by omega
              obtain rfl : i = n := by omega
              have HV : Hid (rowS f sg true = true) := hst.out.symm.trans HE.out
              clear hst hin
              go_wp2
              go_ret
              exact ⟨by rw [HV.out]; rfl, HB.out⟩
  | false =>
    by_cases hlt : n < m
    · have HE := Lib.hid (HLEN.out (by rw [HLK.out]; simp; omega))
      rw [HE.out]
      have q1 : (n : Int) < (m : Int) := by omega
      clear HF hm1
      go_enter Tryz.func47, Tryz.ntmps47
      go_wp2
      go_ret
      exact ⟨rfl, Below.refl _ _⟩
    · by_cases hgt : m < n
      · have HE := Lib.hid (HLEN.out (by rw [HLK.out]; simp; omega))
        rw [HE.out]
        have q1 : ¬ (n : Int) < (m : Int) := by omega
        have q3 : (m : Int) < (n : Int) := by omega
        clear HF hm1
        go_enter Tryz.func47, Tryz.ntmps47
        go_wp2
        go_ret
        exact ⟨rfl, Below.refl _ _⟩
      · have HE := Lib.hid (HEND.out (by rw [HLK.out]; simp; omega))
        have q1 : ¬ (n : Int) < (m : Int) := by omega
        have q3 : ¬ (m : Int) < (n : Int) := by omega
        go_enter Tryz.func47, Tryz.ntmps47
        go_wp2
        go_loopw [7] (fun s7 wr => ∃ i : Nat, i ≤ n ∧ s7 = .int .i64 (i : Int) ∧ Hid (rowS (f.drop i) (st sg false i) false = rowS f sg false) ∧ Hid (Below w.heap.size w wr)) (fun s7 _ => n - (intOf s7).toNat)
        case atStart => exact ⟨0, Nat.zero_le _, rfl, (by show rowS (f.drop 0) (st sg false 0) false = _; rfl), Below.refl _ _⟩
        case round =>
          obtain ⟨i, hi, rfl, hst, HB⟩ := hrel
          by_cases hin : i < n
          · have hin' : (i : Int) < (n : Int) := by omega
            have hge : ¬ (m : Int) ≤ (i : Int) := by omega
            obtain ⟨s, hsg⟩ : ∃ s, sg[i]? = some s := ⟨_, List.getElem?_eq_getElem (by rw [HM.out]; omega)⟩
            have hgd : sg.getD (i) 0 = s := by simp [List.getD, hsg]
            obtain ⟨k, x, y, kc, kr, hdr, hdr2⟩ := F.drop_cons (n := i) (f := f) (by rw [HFL.out]; exact hin)
            have HST0 : Hid (rowS (f.drop i) (st sg false i) false = (fitsS s k x && rowS (f.drop (i + 1)) (st sg false (i + 1)) false)) := rowS_step hdr hdr2 (by rw [HM.out]; rfl) hsg
            obtain ⟨b, off, s3, rfl, hbS, _, hat⟩ := (HF.out.later HB.out).at_ hdr
            obtain ⟨Ak, Ck, rfl, _, _⟩ := hat.kids.slice
            have hb : b < wr.heap.size := hbS
            have c0 := hat.c0; have c1 := hat.c1; have c2 := hat.c2; have c3 := hat.c3
            have HFT := Lib.hid (fun W : World => fitsS_any s (HS.out s (List.mem_of_getElem? hsg)) k x y Ak kc.len Ck W)
            have HIX := Lib.hid (fun W : World => HIX.out (i) (by omega) W)
            rw [hgd] at HIX
            have hi0 : (0 : Int) ≤ (i : Int) := by omega
            obtain ⟨bb, hbb⟩ : ∃ bb, fitsS s k x = bb := ⟨_, rfl⟩
            rw [hbb] at HFT HST0
            have HST : Hid (rowS f sg false = (bb && rowS (f.drop (i + 1)) (st sg false (i + 1)) false)) := hst.out.symm.trans HST0.out
            clear hdr hdr2 hat hbS hsg hgd hbb HST0 hst
            go_wp2
            refine region_rel (fun W W' => Below W.heap.size W W') [Cd.is (Value.slice (some ⟨b, off, none⟩) n C), Cd.is (Value.int .i64 (i : Int)), Cd.is (Value.pointer (some ⟨b, off + i * 4, none⟩)), Cd.is (Value.agg #[.int .i64 k, .string x, .string y, .slice Ak kc.len Ck]), Cd.is (Value.string sx), Cd.is (Value.int .i64 (i : Int)), Cd.is (Value.int .u8 s), Cd.is (Value.bool bb), Cd.is (Value.bool (!bb))] (by kernel_rfl) (by decide) (by kernel_rfl) (Below.refl _ _) (fun _ _ _ h k => h.trans (k.mono h.size)) ?steps ?behind
            case steps =>
              intro xv W hW a ha
              replace hW := undrew hW
              simp only [fillA] at ha
              simp only [List.setIfInBounds_toArray, List.set_cons_succ, List.set_cons_zero, Nat.zero_add, Nat.reduceAdd] at ha
              subst ha
              refine ⟨fun hd K hK => ?s0, fun hd K hK => ?s1, fun hd K hK => ?s2, fun hd K hK => ?s3, fun hd K hK => ?s4, fun hd K hK => ?s5, fun hd K hK => ?s6, fun hd K hK => ?s7, fun hd K hK => ?s8, trivial⟩
              case s0 =>
                clear hd
                simp only [Act.put, List.setIfInBounds_toArray, List.set_cons_succ, List.set_cons_zero] at hK
                refine (if_pos (by rfl)).mpr ?_
                go_simp
                exact hK.out _ _ (Below.refl _ _) rfl
              case s1 =>
                clear hd
                simp only [Act.put, List.setIfInBounds_toArray, List.set_cons_succ, List.set_cons_zero] at hK
                refine (if_pos (by rfl)).mpr ?_
                go_simp
                exact hK.out _ _ (Below.refl _ _) rfl
              case s2 =>
                have hx0 : xv 0 = Value.slice (some ⟨b, off, none⟩) n C := hd 0 (by kernel_rfl)
                have hx1 : xv 1 = Value.int .i64 (i : Int) := hd 1 (by kernel_rfl)
                clear hd
                simp only [Act.put, List.setIfInBounds_toArray, List.set_cons_succ, List.set_cons_zero] at hK
                rw [hx0] at hK ⊢
                rw [hx1] at hK ⊢
                refine (if_pos (by rfl)).mpr ?_
                go_simp
                exact hK.out _ _ (Below.refl _ _) rfl
              case s3 =>
                have hx2 : xv 2 = Value.pointer (some ⟨b, off + i * 4, none⟩) := hd 2 (by kernel_rfl)
                clear hd
                simp only [Act.put, List.setIfInBounds_toArray, List.set_cons_succ, List.set_cons_zero] at hK
                rw [hx2] at hK ⊢
                refine (if_pos (by rfl)).mpr ?_
                have hc0 := (hW.cell (p := ⟨b, off + i * 4, none⟩) hb).trans c0; have hc1 := (hW.cell (p := ⟨b, off + i * 4 + 1, none⟩) hb).trans c1; have hc2 := (hW.cell (p := ⟨b, off + i * 4 + 2, none⟩) hb).trans c2; have hc3 := (hW.cell (p := ⟨b, off + i * 4 + 3, none⟩) hb).trans c3
                go_simp
                exact hK.out _ _ (Below.refl _ _) rfl
              case s4 =>
                clear hd
                simp only [Act.put, List.setIfInBounds_toArray, List.set_cons_succ, List.set_cons_zero] at hK
                refine (if_pos (by rfl)).mpr ?_
                go_simp
                exact hK.out _ _ (Below.refl _ _) rfl
              case s5 =>
                clear hd
                simp only [Act.put, List.setIfInBounds_toArray, List.set_cons_succ, List.set_cons_zero] at hK
                refine (if_pos (by rfl)).mpr ?_
                go_simp
                exact hK.out _ _ (Below.refl _ _) rfl
              case s6 =>
                have hx4 : xv 4 = Value.string sx := hd 4 (by kernel_rfl)
                have hx5 : xv 5 = Value.int .i64 (i : Int) := hd 5 (by kernel_rfl)
                clear hd
                simp only [Act.put, List.setIfInBounds_toArray, List.set_cons_succ, List.set_cons_zero] at hK
                rw [hx4] at hK ⊢
                rw [hx5] at hK ⊢
                refine (if_pos (by rfl)).mpr ?_
                have hix := HIX.out W
                go_simp
                exact hK.out _ _ (Below.refl _ _) rfl
              case s7 =>
                have hx3 : xv 3 = Value.agg #[.int .i64 k, .string x, .string y, .slice Ak kc.len Ck] := hd 3 (by kernel_rfl)
                have hx6 : xv 6 = Value.int .u8 s := hd 6 (by kernel_rfl)
                clear hd
                simp only [Act.put, List.setIfInBounds_toArray, List.set_cons_succ, List.set_cons_zero] at hK
                rw [hx3] at hK ⊢
                rw [hx6] at hK ⊢
                refine (if_pos (by rfl)).mpr ?_
                go_simp
                go_at_call 64
                refine (HFT.out W).mono ?_
                rintro e w' ⟨rfl, hbw⟩
                exact hK.out _ _ hbw rfl
              case s8 =>
                have hx7 : xv 7 = Value.bool bb := hd 7 (by kernel_rfl)
                clear hd
                simp only [Act.put, List.setIfInBounds_toArray, List.set_cons_succ, List.set_cons_zero] at hK
                rw [hx7] at hK ⊢
                refine (if_pos (by rfl)).mpr ?_
                go_simp
                exact hK.out _ _ (Below.refl _ _) rfl
            case behind =>
              intro xv W hW hx a ha
              replace hW := undrew hW
              simp only [fillA] at ha
              simp only [List.setIfInBounds_toArray, List.set_cons_succ, List.set_cons_zero, Nat.zero_add, Nat.reduceAdd] at ha
              subst ha
              have h8 : xv 8 = Value.bool (!bb) := hx 8 (by decide)
              rw [h8]
              have HW := Lib.hid (HB.out.trans (hW.mono HB.out.size))
              clear hx h8 hW
              cases bb with
              | true =>
                have HN : Hid (rowS (f.drop (i + 1)) (st sg false (i + 1)) false = rowS f sg false) := by
                  show _ = _
                  rw [HST.out]; rfl
                go_wp2
                go_roundw
                case rel => exact ⟨i + 1, by omega, by go_num, HN.out, HW.out⟩
                case measure => simp [intOf]; omega
              | false =>
                have HE : Hid (rowS f sg false = false) := by
                  show _ = _
                  rw [HST.out]; rfl
                go_wp2
                go_ret
                exact ⟨by rw [HE.out]; rfl, HW.out⟩
          · have hin' : ¬ (i : Int) < (n : Int) := by omega
            obtain rfl : i = n := by omega
            have HV : Hid (rowS f sg false = true) := hst.out.symm.trans HE.out
            clear hst hin
            go_wp2
            go_ret
            exact ⟨by rw [HV.out]; rfl, HB.out⟩
end Go.Proofs.YtoecimgmghlfpaaGreatDoor.Tree

/-
  Layer 5 (tree): the document's file: a file's Kids. Written by gen_treereffile.py.
-/
namespace Go.Proofs.YtoecimgmghlfpaaGreatDoor.Tree
open Go.ChangeShapes Go.WideShapes Go.ChangeAt Go.RowKit Mem
set_option linter.unusedVariables false

def now (k : Int) : Nat := if k = 2 then 1 else if k = 3 then 2 else if 4 ≤ k ∧ k ≤ 7 then 3 else 0
def fileS : Nat → F → Bool
  | last, .nil => decide (0 < last)
  | last, .cons k _ _ _ r => if k = 8 then fileS last r else if now k = 0 ∨ now k < last ∨ (now k = 1 ∧ last = 1) ∨ (last = 0 ∧ now k ≠ 1) then false else fileS (now k) r

theorem isDecl_now (k : Int) (x : ByteArray) : isDecl k x = (k == 8 || decide (now k = 3)) := by
  unfold isDecl now
  by_cases h8 : k = 8
  · subst h8; rfl
  by_cases h2 : k = 2
  · subst h2; rfl
  by_cases h3 : k = 3
  · subst h3; rfl
  by_cases h : 4 ≤ k ∧ k ≤ 7
  · have : k = 4 ∨ k = 5 ∨ k = 6 ∨ k = 7 := by omega
    rcases this with rfl | rfl | rfl | rfl <;> rfl
  · rw [if_neg h2, if_neg h3, if_neg h, kno h8, kno (by omega), kno (by omega), kno (by omega), kno (by omega)]; rfl
theorem now_le (k : Int) : now k ≤ 3 := by
  unfold now
  split
  · omega
  · split
    · omega
    · split <;> omega
theorem now_one {k : Int} (h : ¬ k = 2) : now k ≠ 1 := by
  unfold now
  rw [if_neg h]
  split
  · omega
  · split <;> omega
theorem now_two {k : Int} (h : ¬ k = 3) : now k ≠ 2 := by
  unfold now
  split
  · omega
  · split <;> omega
theorem file3 : ∀ f : F, fileS 3 f = rowOK [.many isDecl] f
  | .nil => rfl
  | .cons k x y c r => by
    have ih := file3 r
    simp only [rowOK, Pt.take] at ih
    simp only [fileS, rowOK, Pt.take, dropM]
    rw [isDecl_now]
    by_cases h8 : k = 8
    · subst h8; simpa using ih
    · rw [if_neg h8, kno h8, Bool.false_or]
      have hn := now_le k
      by_cases h3 : now k = 3
      · rw [if_neg (by omega), h3]; simpa using ih
      · rw [if_pos (by omega), decide_eq_false h3]; rfl
theorem file12 : ∀ (f : F) (l : Nat), l = 1 ∨ l = 2 → fileS l f = rowOK [.many (isOf [3, 8]), .many isDecl] f
  | .nil, l, hl => by rcases hl with rfl | rfl <;> rfl
  | .cons k x y c r, l, hl => by
    have ih := file12 r
    have h3r := file3 r
    have h3c := file3 (.cons k x y c r)
    simp only [rowOK, Pt.take] at ih h3r h3c
    simp only [fileS, rowOK, Pt.take, dropM]
    have hof : isOf [3, 8] k x = (k == 3 || k == 8) := by simp [isOf]
    rw [hof]
    by_cases h8 : k = 8
    · subst h8; simpa using ih l hl
    · rw [if_neg h8, kno h8, Bool.or_false]
      by_cases h3 : k = 3
      · subst h3
        rw [show now 3 = 2 from rfl, if_neg (by omega)]
        simpa using ih 2 (.inr rfl)
      · rw [kno h3]
        simp only [Bool.false_eq_true, if_false]
        simp only [fileS, if_neg h8] at h3c
        rw [← h3c]
        have hn := now_two h3
        have hn3 := now_le k
        by_cases he : now k = 3
        · rw [if_neg (by omega), if_neg (by omega)]
        · rw [if_pos (by omega), if_pos (by omega)]
theorem file0 : ∀ f : F, fileS 0 f = rowOK [.many (isOf [8]), .one [isOf [2]], .many (isOf [3, 8]), .many isDecl] f
  | .nil => rfl
  | .cons k x y c r => by
    have ih := file0 r
    have h12 := file12 r 1 (.inl rfl)
    simp only [rowOK, Pt.take] at ih h12
    simp only [fileS, rowOK, Pt.take, dropM]
    have hof : isOf [8] k x = (k == 8) := by simp [isOf]
    rw [hof]
    by_cases h8 : k = 8
    · subst h8; simpa using ih
    · rw [if_neg h8, kno h8]
      simp only [Bool.false_eq_true, if_false]
      by_cases h2 : k = 2
      · subst h2
        rw [show now 2 = 1 from rfl, if_neg (by omega), h12]
        simp [isOf]
      · have hn := now_one h2
        have hcond : now k = 0 ∨ now k < 0 ∨ (now k = 1 ∧ (0 : Nat) = 1) ∨ (True ∧ now k ≠ 1) := .inr (.inr (.inr ⟨trivial, hn⟩))
        rw [if_pos hcond]
        have h2' := kno h2
        simp [isOf, h2']

set_option maxRecDepth 100000 in
set_option maxHeartbeats 16000000 in
theorem refFile_any (A : Option Addr) (n C : Nat) (f : F) (w : World) (hf : Fs w (Lo w.heap.size) (.slice A n C) f) :
    Calls Tryz.prog 46 #[.slice A n C] w fun e w' => e = .returned (.bool (fileS 0 f)) ∧ w' = w := by
  obtain ⟨A0, C0, e, hnC, hCm⟩ := hf.slice
  injection e with e1 e2 e3
  have hfl : f.len = n := e2.symm
  have hn63 : n ≤ 9223372036854775807 := by omega
  have HF := Lib.hid hf; have HFL := Lib.hid hfl
  clear hf hfl e1 e2 e3 hnC hCm
  go_enter Tryz.func46, Tryz.ntmps46
  go_wp2
  go_loop [3, 4] (fun s3 s4 => ∃ i l : Nat, i ≤ n ∧ l ≤ 3 ∧ s4 = .int .i64 (i : Int) ∧ s3 = .int .i64 (l : Int) ∧ Hid (fileS l (f.drop i) = fileS 0 f)) (fun _ s4 => n - (intOf s4).toNat)
  case atStart => exact ⟨0, 0, Nat.zero_le _, by omega, rfl, rfl, rfl⟩
  case round =>
    obtain ⟨i, l, hi, hl, rfl, rfl, hst⟩ := hrel
    by_cases hin : i < n
    · have hin' : (i : Int) < (n : Int) := by omega
      obtain ⟨k, x, y, kc, kr, hdr, hdr2⟩ := F.drop_cons (n := i) (f := f) (by rw [HFL.out]; exact hin)
      obtain ⟨b, off, s3, rfl, hbS, _, hat⟩ := HF.out.at_ hdr
      have c0 := hat.c0
      have hi0 : (0 : Int) ≤ (i : Int) := by omega
      have hst2 := hst.out
      rw [hdr] at hst2
      simp only [fileS] at hst2
      have HDR := Lib.hid hdr2
      clear hst hdr hdr2 hat
      have hl4 : l = 0 ∨ l = 1 ∨ l = 2 ∨ l = 3 := by omega
      by_cases k8 : k = 8
      · subst k8
        have HE : Hid (fileS l (f.drop (i + 1)) = fileS 0 f) := by show _ = _; rw [HDR.out, ← hst2]; simp
        clear hst2 hl4
        go_wp2
        go_round
        case rel => exact ⟨i + 1, l, by omega, by omega, by go_num, rfl, HE.out⟩
        case measure => simp [intOf]; omega
      have n8 := kno k8
      rw [if_neg k8] at hst2
      by_cases k2 : k = 2
      · subst k2
        rw [show now 2 = 1 from rfl] at hst2
        rcases hl4 with rfl | rfl | rfl | rfl
        · have HE : Hid (fileS 1 (f.drop (i + 1)) = fileS 0 f) := by show _ = _; rw [HDR.out, ← hst2]; simp
          clear hst2
          go_wp2
          go_round
          case rel => exact ⟨i + 1, 1, by omega, by omega, by go_num, rfl, HE.out⟩
          case measure => simp [intOf]; omega
        · have HE : Hid (fileS 0 f = false) := by show _ = _; rw [← hst2]; simp
          clear hst2
          go_wp2
          go_ret
          exact ⟨by rw [HE.out]; rfl, rfl⟩
        · have HE : Hid (fileS 0 f = false) := by show _ = _; rw [← hst2]; simp
          clear hst2
          go_wp2
          go_ret
          exact ⟨by rw [HE.out]; rfl, rfl⟩
        · have HE : Hid (fileS 0 f = false) := by show _ = _; rw [← hst2]; simp
          clear hst2
          go_wp2
          go_ret
          exact ⟨by rw [HE.out]; rfl, rfl⟩
      have n2 := kno k2
      by_cases k3 : k = 3
      · subst k3
        rw [show now 3 = 2 from rfl] at hst2
        rcases hl4 with rfl | rfl | rfl | rfl
        · have HE : Hid (fileS 0 f = false) := by show _ = _; rw [← hst2]; simp
          clear hst2
          go_wp2
          go_ret
          exact ⟨by rw [HE.out]; rfl, rfl⟩
        · have HE : Hid (fileS 2 (f.drop (i + 1)) = fileS 0 f) := by show _ = _; rw [HDR.out, ← hst2]; simp
          clear hst2
          go_wp2
          go_round
          case rel => exact ⟨i + 1, 2, by omega, by omega, by go_num, rfl, HE.out⟩
          case measure => simp [intOf]; omega
        · have HE : Hid (fileS 2 (f.drop (i + 1)) = fileS 0 f) := by show _ = _; rw [HDR.out, ← hst2]; simp
          clear hst2
          go_wp2
          go_round
          case rel => exact ⟨i + 1, 2, by omega, by omega, by go_num, rfl, HE.out⟩
          case measure => simp [intOf]; omega
        · have HE : Hid (fileS 0 f = false) := by show _ = _; rw [← hst2]; simp
          clear hst2
          go_wp2
          go_ret
          exact ⟨by rw [HE.out]; rfl, rfl⟩
      have n3 := kno k3
      by_cases k4 : k = 4
      · subst k4
        rw [show now 4 = 3 from rfl] at hst2
        rcases hl4 with rfl | rfl | rfl | rfl
        · have HE : Hid (fileS 0 f = false) := by show _ = _; rw [← hst2]; simp
          clear hst2
          go_wp2
          go_ret
          exact ⟨by rw [HE.out]; rfl, rfl⟩
        · have HE : Hid (fileS 3 (f.drop (i + 1)) = fileS 0 f) := by show _ = _; rw [HDR.out, ← hst2]; simp
          clear hst2
          go_wp2
          go_round
          case rel => exact ⟨i + 1, 3, by omega, by omega, by go_num, rfl, HE.out⟩
          case measure => simp [intOf]; omega
        · have HE : Hid (fileS 3 (f.drop (i + 1)) = fileS 0 f) := by show _ = _; rw [HDR.out, ← hst2]; simp
          clear hst2
          go_wp2
          go_round
          case rel => exact ⟨i + 1, 3, by omega, by omega, by go_num, rfl, HE.out⟩
          case measure => simp [intOf]; omega
        · have HE : Hid (fileS 3 (f.drop (i + 1)) = fileS 0 f) := by show _ = _; rw [HDR.out, ← hst2]; simp
          clear hst2
          go_wp2
          go_round
          case rel => exact ⟨i + 1, 3, by omega, by omega, by go_num, rfl, HE.out⟩
          case measure => simp [intOf]; omega
      have n4 := kno k4
      by_cases k5 : k = 5
      · subst k5
        rw [show now 5 = 3 from rfl] at hst2
        rcases hl4 with rfl | rfl | rfl | rfl
        · have HE : Hid (fileS 0 f = false) := by show _ = _; rw [← hst2]; simp
          clear hst2
          go_wp2
          go_ret
          exact ⟨by rw [HE.out]; rfl, rfl⟩
        · have HE : Hid (fileS 3 (f.drop (i + 1)) = fileS 0 f) := by show _ = _; rw [HDR.out, ← hst2]; simp
          clear hst2
          go_wp2
          go_round
          case rel => exact ⟨i + 1, 3, by omega, by omega, by go_num, rfl, HE.out⟩
          case measure => simp [intOf]; omega
        · have HE : Hid (fileS 3 (f.drop (i + 1)) = fileS 0 f) := by show _ = _; rw [HDR.out, ← hst2]; simp
          clear hst2
          go_wp2
          go_round
          case rel => exact ⟨i + 1, 3, by omega, by omega, by go_num, rfl, HE.out⟩
          case measure => simp [intOf]; omega
        · have HE : Hid (fileS 3 (f.drop (i + 1)) = fileS 0 f) := by show _ = _; rw [HDR.out, ← hst2]; simp
          clear hst2
          go_wp2
          go_round
          case rel => exact ⟨i + 1, 3, by omega, by omega, by go_num, rfl, HE.out⟩
          case measure => simp [intOf]; omega
      have n5 := kno k5
      by_cases k6 : k = 6
      · subst k6
        rw [show now 6 = 3 from rfl] at hst2
        rcases hl4 with rfl | rfl | rfl | rfl
        · have HE : Hid (fileS 0 f = false) := by show _ = _; rw [← hst2]; simp
          clear hst2
          go_wp2
          go_ret
          exact ⟨by rw [HE.out]; rfl, rfl⟩
        · have HE : Hid (fileS 3 (f.drop (i + 1)) = fileS 0 f) := by show _ = _; rw [HDR.out, ← hst2]; simp
          clear hst2
          go_wp2
          go_round
          case rel => exact ⟨i + 1, 3, by omega, by omega, by go_num, rfl, HE.out⟩
          case measure => simp [intOf]; omega
        · have HE : Hid (fileS 3 (f.drop (i + 1)) = fileS 0 f) := by show _ = _; rw [HDR.out, ← hst2]; simp
          clear hst2
          go_wp2
          go_round
          case rel => exact ⟨i + 1, 3, by omega, by omega, by go_num, rfl, HE.out⟩
          case measure => simp [intOf]; omega
        · have HE : Hid (fileS 3 (f.drop (i + 1)) = fileS 0 f) := by show _ = _; rw [HDR.out, ← hst2]; simp
          clear hst2
          go_wp2
          go_round
          case rel => exact ⟨i + 1, 3, by omega, by omega, by go_num, rfl, HE.out⟩
          case measure => simp [intOf]; omega
      have n6 := kno k6
      by_cases k7 : k = 7
      · subst k7
        rw [show now 7 = 3 from rfl] at hst2
        rcases hl4 with rfl | rfl | rfl | rfl
        · have HE : Hid (fileS 0 f = false) := by show _ = _; rw [← hst2]; simp
          clear hst2
          go_wp2
          go_ret
          exact ⟨by rw [HE.out]; rfl, rfl⟩
        · have HE : Hid (fileS 3 (f.drop (i + 1)) = fileS 0 f) := by show _ = _; rw [HDR.out, ← hst2]; simp
          clear hst2
          go_wp2
          go_round
          case rel => exact ⟨i + 1, 3, by omega, by omega, by go_num, rfl, HE.out⟩
          case measure => simp [intOf]; omega
        · have HE : Hid (fileS 3 (f.drop (i + 1)) = fileS 0 f) := by show _ = _; rw [HDR.out, ← hst2]; simp
          clear hst2
          go_wp2
          go_round
          case rel => exact ⟨i + 1, 3, by omega, by omega, by go_num, rfl, HE.out⟩
          case measure => simp [intOf]; omega
        · have HE : Hid (fileS 3 (f.drop (i + 1)) = fileS 0 f) := by show _ = _; rw [HDR.out, ← hst2]; simp
          clear hst2
          go_wp2
          go_round
          case rel => exact ⟨i + 1, 3, by omega, by omega, by go_num, rfl, HE.out⟩
          case measure => simp [intOf]; omega
      have n7 := kno k7
      have hnow : now k = 0 := by unfold now; rw [if_neg k2, if_neg k3, if_neg (by omega)]
      have HE : Hid (fileS 0 f = false) := by show _ = _; rw [← hst2, hnow]; simp
      clear hst2 hl4 hnow
      by_cases h4 : (4 : Int) ≤ k
      · have h7 : ¬ k ≤ 7 := by omega
        go_wp2
        go_ret
        exact ⟨by rw [HE.out]; rfl, rfl⟩
      · skip
        go_wp2
        go_ret
        exact ⟨by rw [HE.out]; rfl, rfl⟩
    · have hin' : ¬ (i : Int) < (n : Int) := by omega
      have hst2 := hst.out
      rw [F.drop_all _ _ (by rw [HFL.out]; omega)] at hst2
      simp only [fileS] at hst2
      clear hst
      have HE : Hid (fileS 0 f = decide (0 < l)) := hst2.symm
      clear hst2
      go_wp2
      go_ret
      exact ⟨by rw [HE.out]; rfl, rfl⟩
end Go.Proofs.YtoecimgmghlfpaaGreatDoor.Tree
