/-
 Layer 6 (parse): what tokens begin: isSign, beginsType, beginsUnary; isPlace.
-/
import Derived.Test.YtaiihnniblibaaaGreatDoorParseRow
namespace Go.Proofs.YtaiihnniblibaaaGreatDoor.Parse
open Go.ChangeShapes Go.WideShapes Go.ChangeAt Go.RowKit Tree MemT Mem
set_option linter.unusedVariables false
set_option maxHeartbeats 2000000 in
theorem isSign_any (t : Tk) (w : World) : Calls Tryz.prog 111 #[tkV t] w fun e w' => e = .returned (.bool (isSign t)) ∧ Below w.heap.size w w' := by
 obtain ⟨k, x, pl, fi⟩ := t
 have hb := (Below.refl w.heap.size w).alloc (Nat.le_refl _) (.cells #[.int .i64 k, .string x, .int .i64 (pl : Int), .bool fi] 75)
 have HB := Lib.hid hb
 clear hb
 cases b0 : (x.toList == [45]) with
 | true =>
  have hv : isSign ⟨k, x, pl, fi⟩ = true := by simp only [isSign, isT, b0]; rfl
  rw [hv]; clear hv
  unfold tkV
  go_enter Tryz.func111, Tryz.ntmps111
  go_wp2
  go_ret
  exact ⟨rfl, HB.out⟩
 | false =>
 cases b1 : (x.toList == [33]) with
 | true =>
  have hv : isSign ⟨k, x, pl, fi⟩ = true := by simp only [isSign, isT, b0, b1]; rfl
  rw [hv]; clear hv
  unfold tkV
  go_enter Tryz.func111, Tryz.ntmps111
  go_wp2
  go_ret
  exact ⟨rfl, HB.out⟩
 | false =>
 cases b2 : (x.toList == [94]) with
 | true =>
  have hv : isSign ⟨k, x, pl, fi⟩ = true := by simp only [isSign, isT, b0, b1, b2]; rfl
  rw [hv]; clear hv
  unfold tkV
  go_enter Tryz.func111, Tryz.ntmps111
  go_wp2
  go_ret
  exact ⟨rfl, HB.out⟩
 | false =>
 cases b3 : (x.toList == [42]) with
 | true =>
  have hv : isSign ⟨k, x, pl, fi⟩ = true := by simp only [isSign, isT, b0, b1, b2, b3]; rfl
  rw [hv]; clear hv
  unfold tkV
  go_enter Tryz.func111, Tryz.ntmps111
  go_wp2
  go_ret
  exact ⟨rfl, HB.out⟩
 | false =>
 cases b4 : (x.toList == [38]) with
 | true =>
  have hv : isSign ⟨k, x, pl, fi⟩ = true := by simp only [isSign, isT, b0, b1, b2, b3, b4]; rfl
  rw [hv]; clear hv
  unfold tkV
  go_enter Tryz.func111, Tryz.ntmps111
  go_wp2
  go_ret
  exact ⟨rfl, HB.out⟩
 | false =>
 cases b5 : (x.toList == [43]) with
 | true =>
  have hv : isSign ⟨k, x, pl, fi⟩ = true := by simp only [isSign, isT, b0, b1, b2, b3, b4, b5]; rfl
  rw [hv]; clear hv
  unfold tkV
  go_enter Tryz.func111, Tryz.ntmps111
  go_wp2
  go_ret
  exact ⟨rfl, HB.out⟩
 | false =>
 have hv : isSign ⟨k, x, pl, fi⟩ = false := by simp only [isSign, isT, b0, b1, b2, b3, b4, b5]; rfl
 rw [hv]; clear hv
 unfold tkV
 go_enter Tryz.func111, Tryz.ntmps111
 go_wp2
 go_ret
 exact ⟨rfl, HB.out⟩
set_option maxHeartbeats 2000000 in
theorem begT_any (t : Tk) (w : World) : Calls Tryz.prog 88 #[tkV t] w fun e w' => e = .returned (.bool (begT t)) ∧ Below w.heap.size w w' := by
 have HI := Lib.hid (fun W => isName_any t W)
 obtain ⟨k, x, pl, fi⟩ := t
 have hb := (Below.refl w.heap.size w).alloc (Nat.le_refl _) (.cells #[.int .i64 k, .string x, .int .i64 (pl : Int), .bool fi] 75)
 have HB := Lib.hid hb
 clear hb
 cases b0 : (x.toList == [42]) with
 | true =>
  have hv : begT ⟨k, x, pl, fi⟩ = true := by simp only [begT, isT, b0]; rfl
  rw [hv]; clear hv HI
  unfold tkV
  go_enter Tryz.func88, Tryz.ntmps88
  go_wp2
  go_ret
  exact ⟨rfl, HB.out⟩
 | false =>
 cases b1 : (x.toList == [91]) with
 | true =>
  have hv : begT ⟨k, x, pl, fi⟩ = true := by simp only [begT, isT, b0, b1]; rfl
  rw [hv]; clear hv HI
  unfold tkV
  go_enter Tryz.func88, Tryz.ntmps88
  go_wp2
  go_ret
  exact ⟨rfl, HB.out⟩
 | false =>
 cases b2 : (x.toList == [109, 97, 112]) with
 | true =>
  have hv : begT ⟨k, x, pl, fi⟩ = true := by simp only [begT, isT, b0, b1, b2]; rfl
  rw [hv]; clear hv HI
  unfold tkV
  go_enter Tryz.func88, Tryz.ntmps88
  go_wp2
  go_ret
  exact ⟨rfl, HB.out⟩
 | false =>
 cases b3 : (x.toList == [115, 116, 114, 117, 99, 116]) with
 | true =>
  have hv : begT ⟨k, x, pl, fi⟩ = true := by simp only [begT, isT, b0, b1, b2, b3]; rfl
  rw [hv]; clear hv HI
  unfold tkV
  go_enter Tryz.func88, Tryz.ntmps88
  go_wp2
  go_ret
  exact ⟨rfl, HB.out⟩
 | false =>
 have hv : begT ⟨k, x, pl, fi⟩ = isNm ⟨k, x, pl, fi⟩ := by simp only [begT, isT, b0, b1, b2, b3]; rfl
 rw [hv]; clear hv
 generalize isNm ⟨k, x, pl, fi⟩ = bb at *
 unfold tkV at *
 go_enter Tryz.func88, Tryz.ntmps88
 go_wp2_with fail
 refine (HI.out _).mono ?_
 rintro e w1 ⟨rfl, hb1⟩
 have HB1 := Lib.hid (HB.out.trans (hb1.mono HB.out.size))
 clear hb1
 go_wp2
 go_ret
 exact ⟨rfl, HB1.out⟩
set_option maxHeartbeats 2000000 in
theorem begU_any (t : Tk) (w : World) : Calls Tryz.prog 110 #[tkV t] w fun e w' => e = .returned (.bool (begU t)) ∧ Below w.heap.size w w' := by
 have HI := Lib.hid (fun W => isName_any t W)
 have HS := Lib.hid (fun W => isSign_any t W)
 obtain ⟨k, x, pl, fi⟩ := t
 have hb := (Below.refl w.heap.size w).alloc (Nat.le_refl _) (.cells #[.int .i64 k, .string x, .int .i64 (pl : Int), .bool fi] 75)
 have HB := Lib.hid hb
 clear hb
 cases b0 : (k == 2) with
 | true =>
  have hv : begU ⟨k, x, pl, fi⟩ = true := by simp only [begU, isT, b0]; rfl
  rw [hv]; clear hv HI HS
  unfold tkV
  go_enter Tryz.func110, Tryz.ntmps110
  go_wp2
  go_ret
  exact ⟨rfl, HB.out⟩
 | false =>
 cases b1 : (k == 3) with
 | true =>
  have hv : begU ⟨k, x, pl, fi⟩ = true := by simp only [begU, isT, b0, b1]; rfl
  rw [hv]; clear hv HI HS
  unfold tkV
  go_enter Tryz.func110, Tryz.ntmps110
  go_wp2
  go_ret
  exact ⟨rfl, HB.out⟩
 | false =>
 cases b2 : (x.toList == [40]) with
 | true =>
  have hv : begU ⟨k, x, pl, fi⟩ = true := by simp only [begU, isT, b0, b1, b2]; rfl
  rw [hv]; clear hv HI HS
  unfold tkV
  go_enter Tryz.func110, Tryz.ntmps110
  go_wp2
  go_ret
  exact ⟨rfl, HB.out⟩
 | false =>
 have hv : begU ⟨k, x, pl, fi⟩ = (isNm ⟨k, x, pl, fi⟩ || isSign ⟨k, x, pl, fi⟩) := by simp only [begU, isT, b0, b1, b2]; rfl
 rw [hv]; clear hv
 generalize isSign ⟨k, x, pl, fi⟩ = b4 at *
 generalize hgn : isNm ⟨k, x, pl, fi⟩ = b3 at *
 clear hgn
 unfold tkV at *
 cases b3 with
 | true =>
  clear HS
  go_enter Tryz.func110, Tryz.ntmps110
  go_wp2_with fail
  refine (HI.out _).mono ?_
  rintro e w1 ⟨rfl, hb1⟩
  have HB1 := Lib.hid (HB.out.trans (hb1.mono HB.out.size))
  clear hb1
  go_wp2
  go_ret
  exact ⟨rfl, HB1.out⟩
 | false =>
  have hbx0 : Box4 (w.alloc (.cells #[.int .i64 k, .string x, .int .i64 (pl : Int), .bool fi] 75)) w.heap.size 75 (.int .i64 k) (.string x) (.int .i64 (pl : Int)) (.bool fi) := box4_new w _ _ _ _ _
  have HX := Lib.hid hbx0
  clear hbx0
  go_enter Tryz.func110, Tryz.ntmps110
  go_wp2_with fail
  refine (HI.out _).mono ?_
  rintro e w1 ⟨rfl, hb1⟩
  have HB1 := Lib.hid (HB.out.trans (hb1.mono HB.out.size))
  obtain ⟨x0, x1, x2, x3⟩ := (HX.out.later hb1).cells
  clear hb1
  go_wp2_with fail
  refine (HS.out _).mono ?_
  rintro e w2 ⟨rfl, hb2⟩
  have HB2 := Lib.hid (HB1.out.trans (hb2.mono HB1.out.size))
  clear hb2
  go_wp2
  go_ret
  exact ⟨rfl, HB2.out⟩
set_option maxHeartbeats 2000000 in
theorem plc_any (k : Int) (x y : ByteArray) (c : F) (A : Option Addr) (n C : Nat) (w : World) : Calls Tryz.prog 127 #[.agg #[.int .i64 k, .string x, .string y, .slice A n C]] w fun e w' => e = .returned (.bool (plc ⟨k, x, y, c⟩)) ∧ Below w.heap.size w w' := by
 have hb := (Below.refl w.heap.size w).alloc (Nat.le_refl _) (.cells #[.int .i64 k, .string x, .string y, .slice A n C] 24)
 have HB := Lib.hid hb
 clear hb
 cases b0 : (k == 9) with
 | true =>
  have hv : plc ⟨k, x, y, c⟩ = true := by simp only [plc, b0]; rfl
  rw [hv]; clear hv
  go_enter Tryz.func127, Tryz.ntmps127
  go_wp2
  go_ret
  exact ⟨rfl, HB.out⟩
 | false =>
 cases b1 : (k == 31) with
 | true =>
  have hv : plc ⟨k, x, y, c⟩ = true := by simp only [plc, b0, b1]; rfl
  rw [hv]; clear hv
  go_enter Tryz.func127, Tryz.ntmps127
  go_wp2
  go_ret
  exact ⟨rfl, HB.out⟩
 | false =>
 cases b2 : (k == 32) with
 | true =>
  have hv : plc ⟨k, x, y, c⟩ = true := by simp only [plc, b0, b1, b2]; rfl
  rw [hv]; clear hv
  go_enter Tryz.func127, Tryz.ntmps127
  go_wp2
  go_ret
  exact ⟨rfl, HB.out⟩
 | false =>
 cases b3 : (k == 28) with
 | false =>
  have hv : plc ⟨k, x, y, c⟩ = false := by simp only [plc, b0, b1, b2, b3]; rfl
  rw [hv]; clear hv
  go_enter Tryz.func127, Tryz.ntmps127
  go_wp2
  go_ret
  exact ⟨rfl, HB.out⟩
 | true =>
 cases b4 : (x.toList == [42]) with
 | true =>
  have hv : plc ⟨k, x, y, c⟩ = true := by simp only [plc, b0, b1, b2, b3, b4]; rfl
  rw [hv]; clear hv
  go_enter Tryz.func127, Tryz.ntmps127
  go_wp2
  go_ret
  exact ⟨rfl, HB.out⟩
 | false =>
  have hv : plc ⟨k, x, y, c⟩ = false := by simp only [plc, b0, b1, b2, b3, b4]; rfl
  rw [hv]; clear hv
  go_enter Tryz.func127, Tryz.ntmps127
  go_wp2
  go_ret
  exact ⟨rfl, HB.out⟩
end Go.Proofs.YtaiihnniblibaaaGreatDoor.Parse
