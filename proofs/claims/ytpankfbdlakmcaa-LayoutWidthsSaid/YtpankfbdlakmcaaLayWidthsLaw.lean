/-
  Layer 8 (layout): the law LayoutWidths.
-/
import Derived.Test.YtpankfbdlakmcaaLayTools
namespace Go.Proofs.Ytpankfbdlakmcaa.Doc
open Go.ChangeShapes Go.WideShapes Go.ChangeAt Go.RowKit Mem
set_option linter.unusedVariables false

theorem cut_size (s : ByteArray) (m : Int) (h0 : 0 ≤ m) (h1 : m ≤ 20000) : (s.extract 0 m.toNat).size ≤ 20000 := by
  rw [ByteArray.size_extract]; omega
set_option maxHeartbeats 4000000 in
set_option maxRecDepth 100000 in
theorem layoutWidths_walk (s t : ByteArray) (w : World) (hs : s.size ≤ maxLen) (ht : t.size ≤ maxLen) :
    Calls Try.prog 4 #[.string s, .string t] w fun e w' => e = .returned (.bool true) ∧ Below w.heap.size w w' := by
  unfold maxLen at hs ht
  obtain ⟨ms, hms⟩ : ∃ m : Int, min (s.size : Int) 20000 = m := ⟨_, rfl⟩
  obtain ⟨mt, hmt⟩ : ∃ m : Int, min (t.size : Int) 20000 = m := ⟨_, rfl⟩
  have a0 : 0 ≤ ms := by omega
  have a1 : ms ≤ (s.size : Int) := by omega
  have a2 : ms ≤ 20000 := by omega
  have c0 : 0 ≤ mt := by omega
  have c1 : mt ≤ (t.size : Int) := by omega
  have c2 : mt ≤ 20000 := by omega
  have zs := cut_size s ms a0 a2
  have zt := cut_size t mt c0 c2
  go_enter Try.func4, Try.ntmps4
  go_wp2
  go_quiet (fail)
  go_wp2_with fail
  refine (known_any _).mono ?_
  rintro e w1 ⟨rfl, hb1⟩
  have HB1 : Hid (Below w.heap.size w w1) := ⟨hb1.os, hb1.tape, hb1.output, hb1.size, hb1.block⟩
  generalize s.extract 0 ms.toNat = s1 at *
  generalize t.extract 0 mt.toNat = t1 at *
  have hadd : ¬ 9223372036854775807 < s1.size + t1.size := by omega
  have HA : Hid (wd (s1 ++ t1) = wd s1 + wd t1) := wd_app s1 t1
  have hl1 := wd_le s1
  have hl2 := wd_le t1
  have HW1 := fun W => width_any s1 (by omega) W
  have HW2 := fun W => width_any t1 (by omega) W
  have HW3 := fun W => width_any (s1 ++ t1) (by rw [ByteArray.size_append]; omega) W
  have HW4 := fun W => refWidth_any s1 (by omega) W
  obtain ⟨n1, hn1⟩ : ∃ n, wd s1 = n := ⟨_, rfl⟩
  obtain ⟨n2, hn2⟩ : ∃ n, wd t1 = n := ⟨_, rfl⟩
  rw [hn1, hn2] at HA
  rw [hn1] at HW1 HW4 hl1
  rw [hn2] at HW2 hl2
  rw [HA.out] at HW3
  have hwr : IntKind.i64.wrap ((n1 : Int) + (n2 : Int)) = (n1 : Int) + (n2 : Int) := by rw [IntKind.wrap_i64]; omega
  have hcast : ((n1 + n2 : Nat) : Int) = (n1 : Int) + (n2 : Int) := by omega
  rw [hcast] at HW3
  have HW1 := Lib.hid HW1
  have HW2 := Lib.hid HW2
  have HW3 := Lib.hid HW3
  have HW4 := Lib.hid HW4
  clear hb1 hms hmt a0 a1 a2 c0 c1 c2 hn1 hn2 hcast
  go_wp2_with fail
  refine (HW1.out _).mono ?_
  rintro e w2 ⟨rfl, rfl⟩
  go_wp2_with fail
  refine (HW4.out _).mono ?_
  rintro e w2 ⟨rfl, rfl⟩
  go_wp2_with fail
  refine (HW3.out _).mono ?_
  rintro e w2 ⟨rfl, rfl⟩
  go_wp2_with fail
  refine (HW1.out _).mono ?_
  rintro e w2 ⟨rfl, rfl⟩
  go_wp2_with fail
  refine (HW2.out _).mono ?_
  rintro e w2 ⟨rfl, rfl⟩
  go_wp2
  go_ret
  exact ⟨rfl, HB1.out⟩
end Go.Proofs.Ytpankfbdlakmcaa.Doc
