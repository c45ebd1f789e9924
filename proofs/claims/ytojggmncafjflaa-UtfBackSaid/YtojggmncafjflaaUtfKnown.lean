/-
  Layer 1 (utf): the chapter's examples hold in the program.
-/
import Derived.Test.YtojggmncafjflaaUtfNext
namespace Go.Proofs.Ytojggmncafjflaa.Utf
open Go.ChangeShapes Go.WideShapes Go.ChangeAt Go.RowKit
set_option linter.unusedVariables false

theorem rb_new (w : World) (xs : List Int) (T : TypeId) (hb : Byt xs) : RB (w.alloc (.cells (xs.map (Value.int .u8)).toArray T)) (w.heap.size + 1) (some ⟨w.heap.size, 0, none⟩) xs :=
  ⟨hb, .inr ⟨_, _, rfl, by omega, fun i hi => by
    rw [World.cell?_alloc_at _ _ _ _ rfl]
    simp [List.getD, hi]⟩⟩

theorem known1 (w : World) (g : Nat) (hg : g = w.heap.size) : Calls Try.prog 10 #[.slice (some ⟨g, 0, none⟩) 3 3] (w.alloc (.cells #[.int .u8 195, .int .u8 169, .int .u8 65] 5)) fun e w' => e = .returned (.tuple #[.int .i64 233, .int .i64 2]) ∧ w.alloc (.cells #[.int .u8 195, .int .u8 169, .int .u8 65] 5) = w' := hg ▸
  (next_any (some ⟨w.heap.size, 0, none⟩) 3 [195, 169, 65] _ _ (rb_new w [195, 169, 65] _ (by intro x hx; simp at hx; omega)) (by simp) (by unfold maxLen; omega)).mono fun e w' ⟨h, h'⟩ =>
    ⟨h.trans (by rw [show nxt [195, 169, 65] = (233, 2) from by decide +kernel]; rfl), h'⟩
theorem known2 (w : World) (g : Nat) (hg : g = w.heap.size) : Calls Try.prog 10 #[.slice (some ⟨g, 0, none⟩) 2 2] (w.alloc (.cells #[.int .u8 192, .int .u8 128] 5)) fun e w' => e = .returned (.tuple #[.int .i64 (-1), .int .i64 0]) ∧ w.alloc (.cells #[.int .u8 192, .int .u8 128] 5) = w' := hg ▸
  (next_any (some ⟨w.heap.size, 0, none⟩) 2 [192, 128] _ _ (rb_new w [192, 128] _ (by intro x hx; simp at hx; omega)) (by simp) (by unfold maxLen; omega)).mono fun e w' ⟨h, h'⟩ =>
    ⟨h.trans (by rw [show nxt [192, 128] = (-1, 0) from by decide +kernel]; rfl), h'⟩
theorem known3 (w : World) : Calls Try.prog 13 #[.int .i64 8364] w fun e w' => e = .returned (.tuple #[.slice (some ⟨w.heap.size, 0, none⟩) 3 3, .int .i64 0]) ∧ w.alloc (.cells #[.int .u8 226, .int .u8 130, .int .u8 172] 5) = w' :=
  (bytes_yes 8364 w (by rw [show lenI 8364 = 3 from by decide +kernel]; omega)).mono fun e w' ⟨h, h'⟩ =>
    ⟨h.trans (by rw [show lenI 8364 = 3 from by decide +kernel]), by rw [← h']; unfold encV; rw [show enc 8364 = [226, 130, 172] from by decide +kernel]; rfl⟩
theorem known4 (w : World) (g : Nat) (hg : g = w.heap.size) : (convert 22 9 (.slice (some ⟨g, 0, none⟩) 3 3)).run Try.prog (w.alloc (.cells #[.int .u8 226, .int .u8 130, .int .u8 172] 5)) = .ok (.string { data := #[226, 130, 172] }) (w.alloc (.cells #[.int .u8 226, .int .u8 130, .int .u8 172] 5)) := hg ▸
  (run_conv (P := Try.prog) _ 22 9 5 Try.underlying22 Try.underlying5 Try.underlying9 (rb_new w [226, 130, 172] _ (by intro x hx; simp at hx; omega)) 3).trans (by rfl)

set_option maxHeartbeats 1000000 in
theorem known_any (w : World) :
    Calls Try.prog 12 #[] w fun e w' => e = .returned (.bool true) ∧ Below w.heap.size w w' := by
  have k4 := known4 ((w.alloc (.cells #[.int .u8 195, .int .u8 169, .int .u8 65] 5)).alloc (.cells #[.int .u8 192, .int .u8 128] 5)) (w.heap.size + 1 + 1) (by simp)
  go_enter Try.func12, Try.ntmps12
  go_wp2_with fail
  refine (known1 _ _ (by simp)).mono ?_
  rintro e w1 ⟨rfl, rfl⟩
  go_wp2_with fail
  refine (known2 _ _ (by simp)).mono ?_
  rintro e w1 ⟨rfl, rfl⟩
  go_wp2_with fail
  refine (known3 _).mono ?_
  rintro e w1 ⟨rfl, rfl⟩
  go_wp2_with fail
  go_ret
  exact ⟨rfl, (((Below.refl _ _).alloc (Nat.le_refl _) _).alloc (by simp) _).alloc (by simp; omega) _⟩
end Go.Proofs.Ytojggmncafjflaa.Utf
