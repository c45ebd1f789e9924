/-
  Layer 5 (tree): whether two nodes are alike, but for their Kids.
-/
import Derived.Test.YtoecimgmghlfpaaDoorTreeCopy
import Derived.Test.YtoecimgmghlfpaaDoorMemRel4
namespace Go.Proofs.YtoecimgmghlfpaaDoor.Tree
open Go.ChangeShapes Go.WideShapes Go.ChangeAt Go.RowKit Mem
set_option linter.unusedVariables false

def alikeB (k : Int) (x y : ByteArray) (n : Nat) (k' : Int) (x' y' : ByteArray) (n' : Nat) : Bool := k == k' && (x.toList == x'.toList && (y.toList == y'.toList && decide (n = n')))

set_option maxRecDepth 100000 in
set_option maxHeartbeats 8000000 in
theorem alike_any (k k' : Int) (x y x' y' : ByteArray) (A A' : Option Addr) (n C n' C' : Nat) (w : World) (hC : n ≤ 9223372036854775807) (hC' : n' ≤ 9223372036854775807) :
    Calls Tryd.prog 25 #[.agg #[.int .i64 k, .string x, .string y, .slice A n C], .agg #[.int .i64 k', .string x', .string y', .slice A' n' C']] w fun e w' => e = .returned (.bool (alikeB k x y n k' x' y' n')) ∧ Below w.heap.size w w' := by
  have HB := Lib.hid (below2 w (.cells #[.int .i64 k, .string x, .string y, .slice A n C] 24) (.cells #[.int .i64 k', .string x', .string y', .slice A' n' C'] 24))
  unfold alikeB
  cases hk : (k == k') with
  | false =>
    go_enter Tryd.func25, Tryd.ntmps25
    go_wp2
    go_ret
    exact ⟨by simp, HB.out⟩
  | true =>
    cases hx : (x.toList == x'.toList) with
    | false =>
      go_enter Tryd.func25, Tryd.ntmps25
      go_wp2
      go_ret
      exact ⟨by simp, HB.out⟩
    | true =>
      cases hy : (y.toList == y'.toList) with
      | false =>
        go_enter Tryd.func25, Tryd.ntmps25
        go_wp2
        go_ret
        exact ⟨by simp, HB.out⟩
      | true =>
        by_cases hn : n = n'
        · subst hn
          have hn' : ((n : Int) == (n : Int)) = true := by simp
          go_enter Tryd.func25, Tryd.ntmps25
          go_wp2
          go_ret
          exact ⟨by simp, HB.out⟩
        · have hn' : ((n : Int) == (n' : Int)) = false := by
            have : ¬ ((n : Int) = (n' : Int)) := by omega
            simpa using this
          go_enter Tryd.func25, Tryd.ntmps25
          go_wp2
          go_ret
          exact ⟨by simp [hn], HB.out⟩
end Go.Proofs.YtoecimgmghlfpaaDoor.Tree
