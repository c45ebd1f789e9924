/-
  Layer 1 (utf): the chapter's examples hold in the program.
-/
import Derived.Test.YtoecimgmghlfpaaDoorUtfNext
namespace Go.Proofs.YtoecimgmghlfpaaDoor.Utf
open Go.ChangeShapes Go.WideShapes Go.ChangeAt Go.RowKit
set_option linter.unusedVariables false

theorem rb_new (w : World) (xs : List Int) (T : TypeId) (hb : Byt xs) : RB (w.alloc (.cells (xs.map (Value.int .u8)).toArray T)) (w.heap.size + 1) (some ⟨w.heap.size, 0, none⟩) xs :=
  ⟨hb, .inr ⟨_, _, rfl, by omega, fun i hi => by
    rw [World.cell?_alloc_at _ _ _ _ rfl]
    simp [List.getD, hi]⟩⟩

theorem known1 (w : World) (g : Nat) (hg : g = w.heap.size) : Calls Tryd.prog 70 #[.slice (some ⟨g, 0, none⟩) 3 3] (w.alloc (.cells #[.int .u8 195, .int .u8 169, .int .u8 65] 5)) fun e w' => e = .returned (.tuple #[.int .i64 233, .int .i64 2]) ∧ w.alloc (.cells #[.int .u8 195, .int .u8 169, .int .u8 65] 5) = w' := hg ▸
  (next_any (some ⟨w.heap.size, 0, none⟩) 3 [195, 169, 65] _ _ (rb_new w [195, 169, 65] _ (by intro x hx; simp at hx; omega)) (by simp) (by unfold maxLen; omega)).mono fun e w' ⟨h, h'⟩ =>
    ⟨h.trans (by rw [show nxt [195, 169, 65] = (233, 2) from by decide +kernel]; rfl), h'⟩
theorem known2 (w : World) (g : Nat) (hg : g = w.heap.size) : Calls Tryd.prog 70 #[.slice (some ⟨g, 0, none⟩) 2 2] (w.alloc (.cells #[.int .u8 192, .int .u8 128] 5)) fun e w' => e = .returned (.tuple #[.int .i64 (-1), .int .i64 0]) ∧ w.alloc (.cells #[.int .u8 192, .int .u8 128] 5) = w' := hg ▸
  (next_any (some ⟨w.heap.size, 0, none⟩) 2 [192, 128] _ _ (rb_new w [192, 128] _ (by intro x hx; simp at hx; omega)) (by simp) (by unfold maxLen; omega)).mono fun e w' ⟨h, h'⟩ =>
    ⟨h.trans (by rw [show nxt [192, 128] = (-1, 0) from by decide +kernel]; rfl), h'⟩
theorem known4 (w : World) (g : Nat) (hg : g = w.heap.size) : (convert 64 9 (.slice (some ⟨g, 0, none⟩) 3 3)).run Tryd.prog (w.alloc (.cells #[.int .u8 226, .int .u8 130, .int .u8 172] 5)) = .ok (.string { data := #[226, 130, 172] }) (w.alloc (.cells #[.int .u8 226, .int .u8 130, .int .u8 172] 5)) := hg ▸
  (run_conv (P := Tryd.prog) _ 64 9 5 Tryd.underlying64 Tryd.underlying5 Tryd.underlying9 (rb_new w [226, 130, 172] _ (by intro x hx; simp at hx; omega)) 3).trans (by rfl)

end Go.Proofs.YtoecimgmghlfpaaDoor.Utf
