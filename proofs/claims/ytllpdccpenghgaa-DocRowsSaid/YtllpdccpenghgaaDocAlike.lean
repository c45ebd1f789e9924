/-
  Layer 7 (doc): alike: the same pieces.
-/
import Derived.Test.YtllpdccpenghgaaDocFew
import Derived.BigQuiet
import Derived.Deep.QuietTactic
import Derived.Laws.StructEq
namespace Go.Proofs.Ytllpdccpenghgaa.Doc
open Go.ChangeShapes Go.WideShapes Go.ChangeAt Go.RowKit Mem
set_option linter.unusedVariables false

set_option maxHeartbeats 8000000 in
set_option maxRecDepth 100000 in
theorem alike_any (a1 a2 : Option Addr) (n C1 C2 : Nat) (l : List Pc) (w : World) (hn : l.length = n) (hnb : n ≤ 1000000) (hc1 : n ≤ C1) (hc2 : n ≤ C2) (h1 : RdP w a1 l) (h2 : RdP w a2 l) :
    Calls Try.prog 18 #[.slice a1 n C1, .slice a2 n C2] w fun e w' => e = .returned (.bool true) ∧ Below w.heap.size w w' := by
  have H1 := Lib.hid h1
  have H2 := Lib.hid h2
  have HN := Lib.hid hn
  clear h1 h2 hn
  go_enter Try.func18, Try.ntmps18
  go_wp2
  go_loopw [5] (fun s5 wr => ∃ (i : Nat), i ≤ n ∧ s5 = .int .i64 (i : Int) ∧ Hid (Below w.heap.size w wr)) (fun s5 _ => n - (intOf s5).toNat)
  case atStart => exact ⟨0, Nat.zero_le _, rfl, Below.refl _ _⟩
  case round =>
    obtain ⟨i, hi, rfl, hbw⟩ := hrel
    by_cases hlt : i < n
    · obtain ⟨g1, o1, p, rfl, hp, u0, u1⟩ := (H1.out.below hbw.out).at_ (i := i) (by rw [HN.out]; exact hlt)
      obtain ⟨g2, o2, p2, rfl, hp2, v0, v1⟩ := (H2.out.below hbw.out).at_ (i := i) (by rw [HN.out]; exact hlt)
      rw [hp] at hp2
      cases hp2
      obtain ⟨k, x⟩ := p
      dsimp only at u0 u1 v0 v1
      have hlt1 : (i : Int) < (n : Int) := by omega
      have hlt0 : (0 : Int) ≤ (i : Int) := by omega
      have HBw := Lib.hid hbw.out
      clear hp hbw
      go_wp2
      go_quiet (fail)
      go_wp2
      go_roundw
      case rel => exact ⟨i + 1, by omega, by go_num, ⟨HBw.out.os, HBw.out.tape, HBw.out.output, HBw.out.size, HBw.out.block⟩⟩
      case measure => simp [intOf]; omega
    · obtain rfl : i = n := by omega
      have hlt1 : ¬ (i : Int) < (i : Int) := by omega
      go_wp2
      go_ret
      exact ⟨rfl, hbw.out⟩
end Go.Proofs.Ytllpdccpenghgaa.Doc
