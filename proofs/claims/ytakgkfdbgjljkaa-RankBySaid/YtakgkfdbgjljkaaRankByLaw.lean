/-
  Layer 3 (rank): the law on things that are alike, which stay as they stood: the walk.
-/
import Derived.Test.YtakgkfdbgjljkaaRankByLow
import Derived.Test.YtakgkfdbgjljkaaRankByHigh
namespace Go.Proofs.Ytakgkfdbgjljkaa.Rank
open Go.ChangeShapes Go.WideShapes Go.ChangeAt Go.RowKit MemC
set_option linter.unusedVariables false

theorem rankBy_walk (A : Option Addr) (n cap : Nat) (zs : List Int) (x : Int) (w : World) (hrow : Row .i64 w A n cap zs) (hxw : (Lit.int .i64 x).wf = true) :
    Calls Try.prog 5 #[.slice A n cap, .int .i64 x] w fun e w' => e = .returned (.bool true) ∧ Below w.heap.size w w' := by
  obtain ⟨xs, hx, hcap, hcap', h, _⟩ := row_ri hrow
  by_cases hl : n ≤ 300
  · exact rankBy_low A n cap xs x w hx hcap hcap' h hl
  · exact rankBy_high A n cap (xs.take 300) x w (by rw [List.length_take, hx]; omega) hcap hcap' (h.take 300) (by omega)
end Go.Proofs.Ytakgkfdbgjljkaa.Rank
