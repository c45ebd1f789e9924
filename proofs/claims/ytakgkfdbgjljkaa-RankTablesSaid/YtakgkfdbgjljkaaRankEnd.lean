/-
  Layer 3 (rank): how the law on rows that only grow ends: the result lies in a cell, one mark is left to shut.
-/
import Derived.Test.YtakgkfdbgjljkaaRankAll
import Derived.Test.YtakgkfdbgjljkaaRankTextsLaw
import Derived.Deep.Cut
namespace Go.Proofs.Ytakgkfdbgjljkaa.Rank
open Go.ChangeShapes Go.WideShapes Go.ChangeAt Go.RowKit Go.Shelf MemC
set_option linter.unusedVariables false

theorem tables_end (w w1 : World) (D : Nat) (tm : Array Value) (ht : tm.getD 6 undef = .pointer (some ⟨w.heap.size + 1 + 1, 0, none⟩)) (h1 : w1.heap[w.heap.size + 2]? = some (.cells #[.bool false] 4 (0, 0))) (h2 : w1.heap[D]? = some (.deferred (some []))) (h3 : Below w.heap.size w w1) (h4 : w.heap.size + 3 ≤ D) :
    bodyPostM Fence.wide 5 Try.prog Try.f7 (True1 w) .ret { tmps := tm, defers := [{ target := .collected D, args := #[] }] } (w1.setCell ⟨w.heap.size + 1 + 1, 0, none⟩ (.bool true)) := by
  have hrF : (w1.setCell ⟨w.heap.size + 1 + 1, 0, none⟩ (.bool true)).heap[w.heap.size + 2]? = some (.cells #[.bool true] 4 (0, 0)) := one_setCell h1
  have hkF : (w1.setCell ⟨w.heap.size + 1 + 1, 0, none⟩ (.bool true)).heap[D]? = some (.deferred (some [])) := (Below.heap_setCell _ _ _ _ (by show D ≠ w.heap.size + 1 + 1; omega)).trans h2
  have hbF : Below w.heap.size w ((w1.setCell ⟨w.heap.size + 1 + 1, 0, none⟩ (.bool true)).putObj D (.deferred none)) := (h3.setCell (by show w.heap.size ≤ w.heap.size + 1 + 1; omega) _).trans (belowK_b (w := w) (Nat.le_refl _) _ D _ _ (by omega) hkF rfl rfl)
  have ht' : tm[6]?.getD undef = .pointer (some ⟨w.heap.size + 1 + 1, 0, none⟩) := by simpa using ht
  generalize w1.setCell ⟨w.heap.size + 1 + 1, 0, none⟩ (.bool true) = W at *
  have hld : (W.putObj D (.deferred none)).cell? ⟨w.heap.size + 1 + 1, 0, none⟩ = some (.bool true) := cell_of_one ((World.putObj_heap_other (by omega)).trans hrF)
  refine ⟨by simp, .inl ⟨_, _, rfl, run_takeDeferred hkF, ?_⟩⟩
  generalize W.putObj D (.deferred none) = W' at *
  exact ⟨_, by simp [results, Try.results7, go_sem, ht', hld], rfl, hbF⟩
end Go.Proofs.Ytakgkfdbgjljkaa.Rank
