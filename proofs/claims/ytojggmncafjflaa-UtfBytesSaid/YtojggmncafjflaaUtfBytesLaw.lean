/-
  Layer 1 (utf): the law on a sign's bytes: the walk.
-/
import Derived.Test.YtojggmncafjflaaUtfKnown
namespace Go.Proofs.Ytojggmncafjflaa.Utf
open Go.ChangeShapes Go.WideShapes Go.ChangeAt Go.RowKit
set_option linter.unusedVariables false

set_option maxHeartbeats 1000000 in
theorem utfBytes_walk (n : Int) (hn : (Lit.int .i64 n).wf = true) (w : World) :
    Calls Try.prog 4 #[.int .i64 n] w fun e w' => e = .returned (.bool true) ∧ Below w.heap.size w w' := by
  obtain ⟨h0, h1⟩ := bounds_i64 hn
  clear hn
  by_cases h : lenI n = 0
  · have B1 := Lib.hid (bytes_no n w h0 h1 h)
    have B2 := Lib.hid (refBytes_no n w h)
    have B3 := Lib.hid (known_any w)
    clear h h0 h1
    have kn := fun W : World => run_conv (P := Try.prog) W 22 9 5 Try.underlying22 Try.underlying5 Try.underlying9 (RB.nil W 0 none) 0
    simp only [List.length_nil] at kn
    go_enter Try.func4, Try.ntmps4
    go_wp2_with fail
    refine B1.out.mono ?_
    rintro e w1 ⟨rfl, rfl⟩
    go_wp2_with fail
    refine B2.out.mono ?_
    rintro e w1 ⟨rfl, rfl⟩
    go_wp2_with fail
    refine B3.out.mono ?_
    rintro e w1 ⟨rfl, hb⟩
    go_wp2_with fail
    go_ret
    exact ⟨rfl, hb⟩
  · have r1 := rb_enc w n 5
    have r2 := rb_enc (w.alloc (.cells (encV n) 5)) n 5
    have B1 := Lib.hid (bytes_yes n w h)
    have B2 := Lib.hid (refBytes_yes n (w.alloc (.cells (encV n) 5)) h)
    have B3 := Lib.hid (known_any ((w.alloc (.cells (encV n) 5)).alloc (.cells (encV n) 5)))
    have hL := enc_length n
    clear h
    generalize lenI n = L at *
    go_enter Try.func4, Try.ntmps4
    have HL := Lib.hid hL; clear hL
    have R1 := Lib.hid r1; have R2 := Lib.hid r2; clear r1 r2
    go_wp2_with fail
    refine B1.out.mono ?_
    rintro e w1 ⟨rfl, rfl⟩
    go_wp2_with fail
    refine B2.out.mono ?_
    rintro e w1 ⟨rfl, rfl⟩
    go_wp2_with fail
    refine B3.out.mono ?_
    rintro e w3 ⟨rfl, hb⟩
    have c1 := run_conv (P := Try.prog) w3 22 9 5 Try.underlying22 Try.underlying5 Try.underlying9 ((R1.out.keep fun p hp => World.cell?_alloc_lt _ _ p (by simpa using hp)).below hb (by simp)) L
    have c2 := run_conv (P := Try.prog) w3 22 9 5 Try.underlying22 Try.underlying5 Try.underlying9 (R2.out.below hb (by simp)) L
    rw [HL.out] at c1 c2
    have e2 : (w.alloc (.cells (encV n) 5)).heap.size = w.heap.size + 1 := by simp
    rw [e2] at c2
    clear e2
    have hbw : Below w.heap.size w w3 := (((Below.refl _ _).alloc (Nat.le_refl _) _).alloc (by simp) _).trans (hb.mono (by simp; omega))
    clear hb R1 R2 B1 B2 B3
    go_wp2_with fail
    go_ret
    exact ⟨rfl, hbw⟩
end Go.Proofs.Ytojggmncafjflaa.Utf
