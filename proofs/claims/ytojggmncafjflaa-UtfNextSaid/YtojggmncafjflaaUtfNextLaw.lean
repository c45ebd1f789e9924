/-
  Layer 1 (utf): the law on the sign with which bytes begin: the walk.
-/
import Derived.Test.YtojggmncafjflaaUtfRef
namespace Go.Proofs.Ytojggmncafjflaa.Utf
open Go.ChangeShapes Go.WideShapes Go.ChangeAt Go.RowKit
set_option linter.unusedVariables false

set_option maxHeartbeats 1000000 in
theorem utfNext_walk (A : Option Addr) (n cap : Nat) (zs : List Int) (w : World) (hrow : Row .u8 w A n cap zs) :
    Calls Try.prog 3 #[.slice A n cap] w fun e w' => e = .returned (.bool true) ∧ Below w.heap.size w w' := by
  obtain ⟨xs, hn, hcap, hcap', h⟩ := row_rb hrow
  clear hrow
  by_cases hl : n ≤ 100000
  · have C1 := Lib.hid (next_at A n cap xs w _ h hn hcap hcap')
    have C2 := Lib.hid (refNext_any A n cap xs w _ h hn (Nat.le_refl _) hcap hcap')
    clear h hn
    unfold maxLen at hcap'
    generalize nxt xs = p at *
    obtain ⟨k, m⟩ := p
    go_enter Try.func3, Try.ntmps3
    go_wp2_with fail
    refine C1.out.mono ?_
    rintro e w1 ⟨rfl, rfl⟩
    go_wp2_with fail
    refine C2.out.mono ?_
    rintro e w1 ⟨rfl, hb⟩
    go_wp2_with fail
    refine (known_any _).mono ?_
    rintro e w2 ⟨rfl, hb2⟩
    go_wp2_with fail
    go_ret
    exact ⟨rfl, hb.trans (hb2.mono hb.size)⟩
  · have hln : (xs.take 100000).length = 100000 := by rw [List.length_take]; omega
    have C1 := Lib.hid (next_at A 100000 cap (xs.take 100000) w _ (h.take _) hln (by omega) hcap')
    have C2 := Lib.hid (refNext_any A 100000 cap (xs.take 100000) w _ (h.take _) hln (Nat.le_refl _) (by omega) hcap')
    clear h hn hln
    unfold maxLen at hcap'
    generalize nxt (xs.take 100000) = p at *
    obtain ⟨k, m⟩ := p
    have hcl : (100000 : Int) ≤ cap := by omega
    go_enter Try.func3, Try.ntmps3
    go_wp2_with fail
    refine C1.out.mono ?_
    rintro e w1 ⟨rfl, rfl⟩
    go_wp2_with fail
    refine C2.out.mono ?_
    rintro e w1 ⟨rfl, hb⟩
    go_wp2_with fail
    refine (known_any _).mono ?_
    rintro e w2 ⟨rfl, hb2⟩
    go_wp2_with fail
    go_ret
    exact ⟨rfl, hb.trans (hb2.mono hb.size)⟩
end Go.Proofs.Ytojggmncafjflaa.Utf
