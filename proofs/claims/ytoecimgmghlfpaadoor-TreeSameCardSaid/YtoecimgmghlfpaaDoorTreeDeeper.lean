/-
  Layer 5 (tree): how much deeper a Kid stands. Written by gen_treedeep.py.
-/
import Derived.Test.YtoecimgmghlfpaaDoorJoinParts
import Derived.Test.YtoecimgmghlfpaaDoorJoinKids
namespace Go.Proofs.YtoecimgmghlfpaaDoor.Tree
open Go.ChangeShapes Go.WideShapes Go.ChangeAt Go.RowKit Mem
set_option linter.unusedVariables false

set_option maxRecDepth 100000 in
set_option maxHeartbeats 4000000 in
theorem deep_28 (px py : ByteArray) (A : Option Addr) (n C : Nat) (f : F) (w : World) (hf : Fs w (Lo w.heap.size) (.slice A n C) f) (p : Int) : Calls Tryd.prog 33 #[.agg #[.int .i64 28, .string px, .string py, .slice A n C], .int .i64 p] w fun e w' => e = .returned (.int .i64 ((if parenI 28 px f p then 1 else 0) + 1)) ∧ Below w.heap.size w w' := by
  have b1 := below1 w (.cells #[.int .i64 28, .string px, .string py, .slice A n C] 24)
  have HP := Lib.hid (paren_is (w.alloc (.cells #[.int .i64 28, .string px, .string py, .slice A n C] 24)) 28 px py A n C f p (hf.later b1))
  have HB := Lib.hid b1
  have HBX : Hid (∀ W, Below (w.alloc (.cells #[.int .i64 28, .string px, .string py, .slice A n C] 24)).heap.size (w.alloc (.cells #[.int .i64 28, .string px, .string py, .slice A n C] 24)) W → W.cell? ⟨w.heap.size, 0, none⟩ = some (.int .i64 28)) := fun W hW => by
    rw [hW.cell (p := ⟨w.heap.size, 0, none⟩) (by simp), World.cell?_alloc_at _ _ _ _ rfl]; rfl
  generalize parenI 28 px f p = pb at *
  clear b1 hf
  cases pb with
  | true =>
    go_enter Tryd.func33, Tryd.ntmps33
    go_wp2_with fail
    refine (HP.out).mono ?_
    rintro e w1 ⟨rfl, hb⟩
    have HE := Lib.hid (HB.out.trans (hb.mono HB.out.size))
    have q0 := HBX.out w1 hb
    clear hb HBX HP
    go_wp2
    go_ret
    exact ⟨rfl, HE.out⟩
  | false =>
    go_enter Tryd.func33, Tryd.ntmps33
    go_wp2_with fail
    refine (HP.out).mono ?_
    rintro e w1 ⟨rfl, hb⟩
    have HE := Lib.hid (HB.out.trans (hb.mono HB.out.size))
    have q0 := HBX.out w1 hb
    clear hb HBX HP
    go_wp2
    go_ret
    exact ⟨rfl, HE.out⟩
set_option maxRecDepth 100000 in
set_option maxHeartbeats 4000000 in
theorem deep_10 (px py : ByteArray) (A : Option Addr) (n C : Nat) (f : F) (w : World) (hf : Fs w (Lo w.heap.size) (.slice A n C) f) (p : Int) : Calls Tryd.prog 33 #[.agg #[.int .i64 10, .string px, .string py, .slice A n C], .int .i64 p] w fun e w' => e = .returned (.int .i64 ((if parenI 10 px f p then 1 else 0) + 1)) ∧ Below w.heap.size w w' := by
  have b1 := below1 w (.cells #[.int .i64 10, .string px, .string py, .slice A n C] 24)
  have HP := Lib.hid (paren_is (w.alloc (.cells #[.int .i64 10, .string px, .string py, .slice A n C] 24)) 10 px py A n C f p (hf.later b1))
  have HB := Lib.hid b1
  have HBX : Hid (∀ W, Below (w.alloc (.cells #[.int .i64 10, .string px, .string py, .slice A n C] 24)).heap.size (w.alloc (.cells #[.int .i64 10, .string px, .string py, .slice A n C] 24)) W → W.cell? ⟨w.heap.size, 0, none⟩ = some (.int .i64 10)) := fun W hW => by
    rw [hW.cell (p := ⟨w.heap.size, 0, none⟩) (by simp), World.cell?_alloc_at _ _ _ _ rfl]; rfl
  generalize parenI 10 px f p = pb at *
  clear b1 hf
  cases pb with
  | true =>
    go_enter Tryd.func33, Tryd.ntmps33
    go_wp2_with fail
    refine (HP.out).mono ?_
    rintro e w1 ⟨rfl, hb⟩
    have HE := Lib.hid (HB.out.trans (hb.mono HB.out.size))
    have q0 := HBX.out w1 hb
    clear hb HBX HP
    go_wp2
    go_ret
    exact ⟨rfl, HE.out⟩
  | false =>
    go_enter Tryd.func33, Tryd.ntmps33
    go_wp2_with fail
    refine (HP.out).mono ?_
    rintro e w1 ⟨rfl, hb⟩
    have HE := Lib.hid (HB.out.trans (hb.mono HB.out.size))
    have q0 := HBX.out w1 hb
    clear hb HBX HP
    go_wp2
    go_ret
    exact ⟨rfl, HE.out⟩
set_option maxRecDepth 100000 in
set_option maxHeartbeats 4000000 in
theorem deep_11 (px py : ByteArray) (A : Option Addr) (n C : Nat) (f : F) (w : World) (hf : Fs w (Lo w.heap.size) (.slice A n C) f) (p : Int) : Calls Tryd.prog 33 #[.agg #[.int .i64 11, .string px, .string py, .slice A n C], .int .i64 p] w fun e w' => e = .returned (.int .i64 ((if parenI 11 px f p then 1 else 0) + 1)) ∧ Below w.heap.size w w' := by
  have b1 := below1 w (.cells #[.int .i64 11, .string px, .string py, .slice A n C] 24)
  have HP := Lib.hid (paren_is (w.alloc (.cells #[.int .i64 11, .string px, .string py, .slice A n C] 24)) 11 px py A n C f p (hf.later b1))
  have HB := Lib.hid b1
  have HBX : Hid (∀ W, Below (w.alloc (.cells #[.int .i64 11, .string px, .string py, .slice A n C] 24)).heap.size (w.alloc (.cells #[.int .i64 11, .string px, .string py, .slice A n C] 24)) W → W.cell? ⟨w.heap.size, 0, none⟩ = some (.int .i64 11)) := fun W hW => by
    rw [hW.cell (p := ⟨w.heap.size, 0, none⟩) (by simp), World.cell?_alloc_at _ _ _ _ rfl]; rfl
  generalize parenI 11 px f p = pb at *
  clear b1 hf
  cases pb with
  | true =>
    go_enter Tryd.func33, Tryd.ntmps33
    go_wp2_with fail
    refine (HP.out).mono ?_
    rintro e w1 ⟨rfl, hb⟩
    have HE := Lib.hid (HB.out.trans (hb.mono HB.out.size))
    have q0 := HBX.out w1 hb
    clear hb HBX HP
    go_wp2
    go_ret
    exact ⟨rfl, HE.out⟩
  | false =>
    go_enter Tryd.func33, Tryd.ntmps33
    go_wp2_with fail
    refine (HP.out).mono ?_
    rintro e w1 ⟨rfl, hb⟩
    have HE := Lib.hid (HB.out.trans (hb.mono HB.out.size))
    have q0 := HBX.out w1 hb
    clear hb HBX HP
    go_wp2
    go_ret
    exact ⟨rfl, HE.out⟩
set_option maxRecDepth 100000 in
set_option maxHeartbeats 4000000 in
theorem deep_12 (px py : ByteArray) (A : Option Addr) (n C : Nat) (f : F) (w : World) (hf : Fs w (Lo w.heap.size) (.slice A n C) f) (p : Int) : Calls Tryd.prog 33 #[.agg #[.int .i64 12, .string px, .string py, .slice A n C], .int .i64 p] w fun e w' => e = .returned (.int .i64 ((if parenI 12 px f p then 1 else 0) + 1)) ∧ Below w.heap.size w w' := by
  have b1 := below1 w (.cells #[.int .i64 12, .string px, .string py, .slice A n C] 24)
  have HP := Lib.hid (paren_is (w.alloc (.cells #[.int .i64 12, .string px, .string py, .slice A n C] 24)) 12 px py A n C f p (hf.later b1))
  have HB := Lib.hid b1
  have HBX : Hid (∀ W, Below (w.alloc (.cells #[.int .i64 12, .string px, .string py, .slice A n C] 24)).heap.size (w.alloc (.cells #[.int .i64 12, .string px, .string py, .slice A n C] 24)) W → W.cell? ⟨w.heap.size, 0, none⟩ = some (.int .i64 12)) := fun W hW => by
    rw [hW.cell (p := ⟨w.heap.size, 0, none⟩) (by simp), World.cell?_alloc_at _ _ _ _ rfl]; rfl
  generalize parenI 12 px f p = pb at *
  clear b1 hf
  cases pb with
  | true =>
    go_enter Tryd.func33, Tryd.ntmps33
    go_wp2_with fail
    refine (HP.out).mono ?_
    rintro e w1 ⟨rfl, hb⟩
    have HE := Lib.hid (HB.out.trans (hb.mono HB.out.size))
    have q0 := HBX.out w1 hb
    clear hb HBX HP
    go_wp2
    go_ret
    exact ⟨rfl, HE.out⟩
  | false =>
    go_enter Tryd.func33, Tryd.ntmps33
    go_wp2_with fail
    refine (HP.out).mono ?_
    rintro e w1 ⟨rfl, hb⟩
    have HE := Lib.hid (HB.out.trans (hb.mono HB.out.size))
    have q0 := HBX.out w1 hb
    clear hb HBX HP
    go_wp2
    go_ret
    exact ⟨rfl, HE.out⟩
set_option maxRecDepth 100000 in
set_option maxHeartbeats 4000000 in
theorem deep_13 (px py : ByteArray) (A : Option Addr) (n C : Nat) (f : F) (w : World) (hf : Fs w (Lo w.heap.size) (.slice A n C) f) (p : Int) : Calls Tryd.prog 33 #[.agg #[.int .i64 13, .string px, .string py, .slice A n C], .int .i64 p] w fun e w' => e = .returned (.int .i64 ((if parenI 13 px f p then 1 else 0) + 1)) ∧ Below w.heap.size w w' := by
  have b1 := below1 w (.cells #[.int .i64 13, .string px, .string py, .slice A n C] 24)
  have HP := Lib.hid (paren_is (w.alloc (.cells #[.int .i64 13, .string px, .string py, .slice A n C] 24)) 13 px py A n C f p (hf.later b1))
  have HB := Lib.hid b1
  have HBX : Hid (∀ W, Below (w.alloc (.cells #[.int .i64 13, .string px, .string py, .slice A n C] 24)).heap.size (w.alloc (.cells #[.int .i64 13, .string px, .string py, .slice A n C] 24)) W → W.cell? ⟨w.heap.size, 0, none⟩ = some (.int .i64 13)) := fun W hW => by
    rw [hW.cell (p := ⟨w.heap.size, 0, none⟩) (by simp), World.cell?_alloc_at _ _ _ _ rfl]; rfl
  generalize parenI 13 px f p = pb at *
  clear b1 hf
  cases pb with
  | true =>
    go_enter Tryd.func33, Tryd.ntmps33
    go_wp2_with fail
    refine (HP.out).mono ?_
    rintro e w1 ⟨rfl, hb⟩
    have HE := Lib.hid (HB.out.trans (hb.mono HB.out.size))
    have q0 := HBX.out w1 hb
    clear hb HBX HP
    go_wp2
    go_ret
    exact ⟨rfl, HE.out⟩
  | false =>
    go_enter Tryd.func33, Tryd.ntmps33
    go_wp2_with fail
    refine (HP.out).mono ?_
    rintro e w1 ⟨rfl, hb⟩
    have HE := Lib.hid (HB.out.trans (hb.mono HB.out.size))
    have q0 := HBX.out w1 hb
    clear hb HBX HP
    go_wp2
    go_ret
    exact ⟨rfl, HE.out⟩
set_option maxRecDepth 100000 in
set_option maxHeartbeats 4000000 in
theorem deep_15 (px py : ByteArray) (A : Option Addr) (n C : Nat) (f : F) (w : World) (hf : Fs w (Lo w.heap.size) (.slice A n C) f) (p : Int) : Calls Tryd.prog 33 #[.agg #[.int .i64 15, .string px, .string py, .slice A n C], .int .i64 p] w fun e w' => e = .returned (.int .i64 ((if parenI 15 px f p then 1 else 0) + 1)) ∧ Below w.heap.size w w' := by
  have b1 := below1 w (.cells #[.int .i64 15, .string px, .string py, .slice A n C] 24)
  have HP := Lib.hid (paren_is (w.alloc (.cells #[.int .i64 15, .string px, .string py, .slice A n C] 24)) 15 px py A n C f p (hf.later b1))
  have HB := Lib.hid b1
  have HBX : Hid (∀ W, Below (w.alloc (.cells #[.int .i64 15, .string px, .string py, .slice A n C] 24)).heap.size (w.alloc (.cells #[.int .i64 15, .string px, .string py, .slice A n C] 24)) W → W.cell? ⟨w.heap.size, 0, none⟩ = some (.int .i64 15)) := fun W hW => by
    rw [hW.cell (p := ⟨w.heap.size, 0, none⟩) (by simp), World.cell?_alloc_at _ _ _ _ rfl]; rfl
  generalize parenI 15 px f p = pb at *
  clear b1 hf
  cases pb with
  | true =>
    go_enter Tryd.func33, Tryd.ntmps33
    go_wp2_with fail
    refine (HP.out).mono ?_
    rintro e w1 ⟨rfl, hb⟩
    have HE := Lib.hid (HB.out.trans (hb.mono HB.out.size))
    have q0 := HBX.out w1 hb
    clear hb HBX HP
    go_wp2
    go_ret
    exact ⟨rfl, HE.out⟩
  | false =>
    go_enter Tryd.func33, Tryd.ntmps33
    go_wp2_with fail
    refine (HP.out).mono ?_
    rintro e w1 ⟨rfl, hb⟩
    have HE := Lib.hid (HB.out.trans (hb.mono HB.out.size))
    have q0 := HBX.out w1 hb
    clear hb HBX HP
    go_wp2
    go_ret
    exact ⟨rfl, HE.out⟩
set_option maxRecDepth 100000 in
set_option maxHeartbeats 4000000 in
theorem deep_17 (px py : ByteArray) (A : Option Addr) (n C : Nat) (f : F) (w : World) (hf : Fs w (Lo w.heap.size) (.slice A n C) f) (p : Int) : Calls Tryd.prog 33 #[.agg #[.int .i64 17, .string px, .string py, .slice A n C], .int .i64 p] w fun e w' => e = .returned (.int .i64 ((if parenI 17 px f p then 1 else 0) + 1)) ∧ Below w.heap.size w w' := by
  have b1 := below1 w (.cells #[.int .i64 17, .string px, .string py, .slice A n C] 24)
  have HP := Lib.hid (paren_is (w.alloc (.cells #[.int .i64 17, .string px, .string py, .slice A n C] 24)) 17 px py A n C f p (hf.later b1))
  have HB := Lib.hid b1
  have HBX : Hid (∀ W, Below (w.alloc (.cells #[.int .i64 17, .string px, .string py, .slice A n C] 24)).heap.size (w.alloc (.cells #[.int .i64 17, .string px, .string py, .slice A n C] 24)) W → W.cell? ⟨w.heap.size, 0, none⟩ = some (.int .i64 17)) := fun W hW => by
    rw [hW.cell (p := ⟨w.heap.size, 0, none⟩) (by simp), World.cell?_alloc_at _ _ _ _ rfl]; rfl
  generalize parenI 17 px f p = pb at *
  clear b1 hf
  cases pb with
  | true =>
    go_enter Tryd.func33, Tryd.ntmps33
    go_wp2_with fail
    refine (HP.out).mono ?_
    rintro e w1 ⟨rfl, hb⟩
    have HE := Lib.hid (HB.out.trans (hb.mono HB.out.size))
    have q0 := HBX.out w1 hb
    clear hb HBX HP
    go_wp2
    go_ret
    exact ⟨rfl, HE.out⟩
  | false =>
    go_enter Tryd.func33, Tryd.ntmps33
    go_wp2_with fail
    refine (HP.out).mono ?_
    rintro e w1 ⟨rfl, hb⟩
    have HE := Lib.hid (HB.out.trans (hb.mono HB.out.size))
    have q0 := HBX.out w1 hb
    clear hb HBX HP
    go_wp2
    go_ret
    exact ⟨rfl, HE.out⟩
set_option maxRecDepth 100000 in
set_option maxHeartbeats 4000000 in
theorem deep_30a (px py : ByteArray) (A : Option Addr) (n C : Nat) (f : F) (w : World) (hf : Fs w (Lo w.heap.size) (.slice A n C) f) (p : Int) (hp : (0 : Int) < p) : Calls Tryd.prog 33 #[.agg #[.int .i64 30, .string px, .string py, .slice A n C], .int .i64 p] w fun e w' => e = .returned (.int .i64 ((if parenI 30 px f p then 1 else 0) + 1)) ∧ Below w.heap.size w w' := by
  have b1 := below1 w (.cells #[.int .i64 30, .string px, .string py, .slice A n C] 24)
  have HP := Lib.hid (paren_is (w.alloc (.cells #[.int .i64 30, .string px, .string py, .slice A n C] 24)) 30 px py A n C f p (hf.later b1))
  have HB := Lib.hid b1
  have HBX : Hid (∀ W, Below (w.alloc (.cells #[.int .i64 30, .string px, .string py, .slice A n C] 24)).heap.size (w.alloc (.cells #[.int .i64 30, .string px, .string py, .slice A n C] 24)) W → W.cell? ⟨w.heap.size, 0, none⟩ = some (.int .i64 30)) := fun W hW => by
    rw [hW.cell (p := ⟨w.heap.size, 0, none⟩) (by simp), World.cell?_alloc_at _ _ _ _ rfl]; rfl
  generalize parenI 30 px f p = pb at *
  clear b1 hf
  cases pb with
  | true =>
    go_enter Tryd.func33, Tryd.ntmps33
    go_wp2_with fail
    refine (HP.out).mono ?_
    rintro e w1 ⟨rfl, hb⟩
    have HE := Lib.hid (HB.out.trans (hb.mono HB.out.size))
    have q0 := HBX.out w1 hb
    clear hb HBX HP
    go_wp2
    go_ret
    exact ⟨rfl, HE.out⟩
  | false =>
    go_enter Tryd.func33, Tryd.ntmps33
    go_wp2_with fail
    refine (HP.out).mono ?_
    rintro e w1 ⟨rfl, hb⟩
    have HE := Lib.hid (HB.out.trans (hb.mono HB.out.size))
    have q0 := HBX.out w1 hb
    clear hb HBX HP
    go_wp2
    go_ret
    exact ⟨rfl, HE.out⟩
set_option maxRecDepth 100000 in
set_option maxHeartbeats 4000000 in
theorem deep_30b (px py : ByteArray) (A : Option Addr) (n C : Nat) (f : F) (w : World) (hf : Fs w (Lo w.heap.size) (.slice A n C) f) : Calls Tryd.prog 33 #[.agg #[.int .i64 30, .string px, .string py, .slice A n C], .int .i64 0] w fun e w' => e = .returned (.int .i64 ((if parenI 30 px f 0 then 1 else 0) + 0)) ∧ Below w.heap.size w w' := by
  have b1 := below1 w (.cells #[.int .i64 30, .string px, .string py, .slice A n C] 24)
  have HP := Lib.hid (paren_is (w.alloc (.cells #[.int .i64 30, .string px, .string py, .slice A n C] 24)) 30 px py A n C f 0 (hf.later b1))
  have HB := Lib.hid b1
  have HBX : Hid (∀ W, Below (w.alloc (.cells #[.int .i64 30, .string px, .string py, .slice A n C] 24)).heap.size (w.alloc (.cells #[.int .i64 30, .string px, .string py, .slice A n C] 24)) W → W.cell? ⟨w.heap.size, 0, none⟩ = some (.int .i64 30)) := fun W hW => by
    rw [hW.cell (p := ⟨w.heap.size, 0, none⟩) (by simp), World.cell?_alloc_at _ _ _ _ rfl]; rfl
  generalize parenI 30 px f 0 = pb at *
  clear b1 hf
  cases pb with
  | true =>
    go_enter Tryd.func33, Tryd.ntmps33
    go_wp2_with fail
    refine (HP.out).mono ?_
    rintro e w1 ⟨rfl, hb⟩
    have HE := Lib.hid (HB.out.trans (hb.mono HB.out.size))
    have q0 := HBX.out w1 hb
    clear hb HBX HP
    go_wp2
    go_ret
    exact ⟨rfl, HE.out⟩
  | false =>
    go_enter Tryd.func33, Tryd.ntmps33
    go_wp2_with fail
    refine (HP.out).mono ?_
    rintro e w1 ⟨rfl, hb⟩
    have HE := Lib.hid (HB.out.trans (hb.mono HB.out.size))
    have q0 := HBX.out w1 hb
    clear hb HBX HP
    go_wp2
    go_ret
    exact ⟨rfl, HE.out⟩
set_option maxRecDepth 100000 in
set_option maxHeartbeats 4000000 in
theorem deep_31a (px py : ByteArray) (A : Option Addr) (n C : Nat) (f : F) (w : World) (hf : Fs w (Lo w.heap.size) (.slice A n C) f) (p : Int) (hp : (0 : Int) < p) : Calls Tryd.prog 33 #[.agg #[.int .i64 31, .string px, .string py, .slice A n C], .int .i64 p] w fun e w' => e = .returned (.int .i64 ((if parenI 31 px f p then 1 else 0) + 1)) ∧ Below w.heap.size w w' := by
  have b1 := below1 w (.cells #[.int .i64 31, .string px, .string py, .slice A n C] 24)
  have HP := Lib.hid (paren_is (w.alloc (.cells #[.int .i64 31, .string px, .string py, .slice A n C] 24)) 31 px py A n C f p (hf.later b1))
  have HB := Lib.hid b1
  have HBX : Hid (∀ W, Below (w.alloc (.cells #[.int .i64 31, .string px, .string py, .slice A n C] 24)).heap.size (w.alloc (.cells #[.int .i64 31, .string px, .string py, .slice A n C] 24)) W → W.cell? ⟨w.heap.size, 0, none⟩ = some (.int .i64 31)) := fun W hW => by
    rw [hW.cell (p := ⟨w.heap.size, 0, none⟩) (by simp), World.cell?_alloc_at _ _ _ _ rfl]; rfl
  generalize parenI 31 px f p = pb at *
  clear b1 hf
  cases pb with
  | true =>
    go_enter Tryd.func33, Tryd.ntmps33
    go_wp2_with fail
    refine (HP.out).mono ?_
    rintro e w1 ⟨rfl, hb⟩
    have HE := Lib.hid (HB.out.trans (hb.mono HB.out.size))
    have q0 := HBX.out w1 hb
    clear hb HBX HP
    go_wp2
    go_ret
    exact ⟨rfl, HE.out⟩
  | false =>
    go_enter Tryd.func33, Tryd.ntmps33
    go_wp2_with fail
    refine (HP.out).mono ?_
    rintro e w1 ⟨rfl, hb⟩
    have HE := Lib.hid (HB.out.trans (hb.mono HB.out.size))
    have q0 := HBX.out w1 hb
    clear hb HBX HP
    go_wp2
    go_ret
    exact ⟨rfl, HE.out⟩
set_option maxRecDepth 100000 in
set_option maxHeartbeats 4000000 in
theorem deep_31b (px py : ByteArray) (A : Option Addr) (n C : Nat) (f : F) (w : World) (hf : Fs w (Lo w.heap.size) (.slice A n C) f) : Calls Tryd.prog 33 #[.agg #[.int .i64 31, .string px, .string py, .slice A n C], .int .i64 0] w fun e w' => e = .returned (.int .i64 ((if parenI 31 px f 0 then 1 else 0) + 0)) ∧ Below w.heap.size w w' := by
  have b1 := below1 w (.cells #[.int .i64 31, .string px, .string py, .slice A n C] 24)
  have HP := Lib.hid (paren_is (w.alloc (.cells #[.int .i64 31, .string px, .string py, .slice A n C] 24)) 31 px py A n C f 0 (hf.later b1))
  have HB := Lib.hid b1
  have HBX : Hid (∀ W, Below (w.alloc (.cells #[.int .i64 31, .string px, .string py, .slice A n C] 24)).heap.size (w.alloc (.cells #[.int .i64 31, .string px, .string py, .slice A n C] 24)) W → W.cell? ⟨w.heap.size, 0, none⟩ = some (.int .i64 31)) := fun W hW => by
    rw [hW.cell (p := ⟨w.heap.size, 0, none⟩) (by simp), World.cell?_alloc_at _ _ _ _ rfl]; rfl
  generalize parenI 31 px f 0 = pb at *
  clear b1 hf
  cases pb with
  | true =>
    go_enter Tryd.func33, Tryd.ntmps33
    go_wp2_with fail
    refine (HP.out).mono ?_
    rintro e w1 ⟨rfl, hb⟩
    have HE := Lib.hid (HB.out.trans (hb.mono HB.out.size))
    have q0 := HBX.out w1 hb
    clear hb HBX HP
    go_wp2
    go_ret
    exact ⟨rfl, HE.out⟩
  | false =>
    go_enter Tryd.func33, Tryd.ntmps33
    go_wp2_with fail
    refine (HP.out).mono ?_
    rintro e w1 ⟨rfl, hb⟩
    have HE := Lib.hid (HB.out.trans (hb.mono HB.out.size))
    have q0 := HBX.out w1 hb
    clear hb HBX HP
    go_wp2
    go_ret
    exact ⟨rfl, HE.out⟩
set_option maxRecDepth 100000 in
set_option maxHeartbeats 4000000 in
theorem deep_18n (px py : ByteArray) (A : Option Addr) (n C : Nat) (f : F) (w : World) (hf : Fs w (Lo w.heap.size) (.slice A n C) f) (p : Int) (hp : (p == 2) = false) : Calls Tryd.prog 33 #[.agg #[.int .i64 18, .string px, .string py, .slice A n C], .int .i64 p] w fun e w' => e = .returned (.int .i64 ((if parenI 18 px f p then 1 else 0) + 0)) ∧ Below w.heap.size w w' := by
  have b1 := below1 w (.cells #[.int .i64 18, .string px, .string py, .slice A n C] 24)
  have HP := Lib.hid (paren_is (w.alloc (.cells #[.int .i64 18, .string px, .string py, .slice A n C] 24)) 18 px py A n C f p (hf.later b1))
  have HB := Lib.hid b1
  have HBX : Hid (∀ W, Below (w.alloc (.cells #[.int .i64 18, .string px, .string py, .slice A n C] 24)).heap.size (w.alloc (.cells #[.int .i64 18, .string px, .string py, .slice A n C] 24)) W → W.cell? ⟨w.heap.size, 0, none⟩ = some (.int .i64 18)) := fun W hW => by
    rw [hW.cell (p := ⟨w.heap.size, 0, none⟩) (by simp), World.cell?_alloc_at _ _ _ _ rfl]; rfl
  generalize parenI 18 px f p = pb at *
  clear b1 hf
  cases pb with
  | true =>
    go_enter Tryd.func33, Tryd.ntmps33
    go_wp2_with fail
    refine (HP.out).mono ?_
    rintro e w1 ⟨rfl, hb⟩
    have HE := Lib.hid (HB.out.trans (hb.mono HB.out.size))
    have q0 := HBX.out w1 hb
    clear hb HBX HP
    go_wp2
    go_ret
    exact ⟨rfl, HE.out⟩
  | false =>
    go_enter Tryd.func33, Tryd.ntmps33
    go_wp2_with fail
    refine (HP.out).mono ?_
    rintro e w1 ⟨rfl, hb⟩
    have HE := Lib.hid (HB.out.trans (hb.mono HB.out.size))
    have q0 := HBX.out w1 hb
    clear hb HBX HP
    go_wp2
    go_ret
    exact ⟨rfl, HE.out⟩
set_option maxRecDepth 100000 in
set_option maxHeartbeats 4000000 in
theorem deep_18y (px py : ByteArray) (b off n C : Nat) (f : F) (w : World) (hf : Fs w (Lo w.heap.size) (.slice (some ⟨b, off, none⟩) n C) f) (kk : Int) (hkk : (kk == 18) = true) (hn : (2 : Int) < (n : Int)) (hbl : b < w.heap.size) (c0 : w.cell? ⟨b, off + 8, none⟩ = some (.int .i64 kk)) : Calls Tryd.prog 33 #[.agg #[.int .i64 18, .string px, .string py, .slice (some ⟨b, off, none⟩) n C], .int .i64 2] w fun e w' => e = .returned (.int .i64 ((if parenI 18 px f 2 then 1 else 0) + 1)) ∧ Below w.heap.size w w' := by
  have HC0 : Hid (∀ W, Below w.heap.size w W → W.cell? ⟨b, off + 8, none⟩ = some (.int .i64 kk)) := fun W hW => (hW.cell (p := ⟨b, off + 8, none⟩) hbl).trans c0
  have HBS : Hid (∀ W, Below (w.alloc (.cells #[.int .i64 18, .string px, .string py, .slice (some ⟨b, off, none⟩) n C] 24)).heap.size (w.alloc (.cells #[.int .i64 18, .string px, .string py, .slice (some ⟨b, off, none⟩) n C] 24)) W → W.cell? ⟨w.heap.size, 3, none⟩ = some (.slice (some ⟨b, off, none⟩) n C)) := fun W hW => by
    rw [hW.cell (p := ⟨w.heap.size, 3, none⟩) (by simp), World.cell?_alloc_at _ _ _ _ rfl]; rfl
  have b1 := below1 w (.cells #[.int .i64 18, .string px, .string py, .slice (some ⟨b, off, none⟩) n C] 24)
  have HP := Lib.hid (paren_is (w.alloc (.cells #[.int .i64 18, .string px, .string py, .slice (some ⟨b, off, none⟩) n C] 24)) 18 px py (some ⟨b, off, none⟩) n C f 2 (hf.later b1))
  have HB := Lib.hid b1
  have HBX : Hid (∀ W, Below (w.alloc (.cells #[.int .i64 18, .string px, .string py, .slice (some ⟨b, off, none⟩) n C] 24)).heap.size (w.alloc (.cells #[.int .i64 18, .string px, .string py, .slice (some ⟨b, off, none⟩) n C] 24)) W → W.cell? ⟨w.heap.size, 0, none⟩ = some (.int .i64 18)) := fun W hW => by
    rw [hW.cell (p := ⟨w.heap.size, 0, none⟩) (by simp), World.cell?_alloc_at _ _ _ _ rfl]; rfl
  generalize parenI 18 px f 2 = pb at *
  clear b1 hf
  clear c0
  cases pb with
  | true =>
    go_enter Tryd.func33, Tryd.ntmps33
    go_wp2_with fail
    refine (HP.out).mono ?_
    rintro e w1 ⟨rfl, hb⟩
    have HE := Lib.hid (HB.out.trans (hb.mono HB.out.size))
    have q0 := HBX.out w1 hb
    have q3 := HBS.out w1 hb
    have qk := HC0.out w1 HE.out
    clear hb HBX HP
    go_wp2
    go_ret
    exact ⟨rfl, HE.out⟩
  | false =>
    go_enter Tryd.func33, Tryd.ntmps33
    go_wp2_with fail
    refine (HP.out).mono ?_
    rintro e w1 ⟨rfl, hb⟩
    have HE := Lib.hid (HB.out.trans (hb.mono HB.out.size))
    have q0 := HBX.out w1 hb
    have q3 := HBS.out w1 hb
    have qk := HC0.out w1 HE.out
    clear hb HBX HP
    go_wp2
    go_ret
    exact ⟨rfl, HE.out⟩
set_option maxRecDepth 100000 in
set_option maxHeartbeats 4000000 in
theorem deep_18n2 (px py : ByteArray) (b off n C : Nat) (f : F) (w : World) (hf : Fs w (Lo w.heap.size) (.slice (some ⟨b, off, none⟩) n C) f) (kk : Int) (hkk : (kk == 18) = false) (hn : (2 : Int) < (n : Int)) (hbl : b < w.heap.size) (c0 : w.cell? ⟨b, off + 8, none⟩ = some (.int .i64 kk)) : Calls Tryd.prog 33 #[.agg #[.int .i64 18, .string px, .string py, .slice (some ⟨b, off, none⟩) n C], .int .i64 2] w fun e w' => e = .returned (.int .i64 ((if parenI 18 px f 2 then 1 else 0) + 0)) ∧ Below w.heap.size w w' := by
  have HC0 : Hid (∀ W, Below w.heap.size w W → W.cell? ⟨b, off + 8, none⟩ = some (.int .i64 kk)) := fun W hW => (hW.cell (p := ⟨b, off + 8, none⟩) hbl).trans c0
  have HBS : Hid (∀ W, Below (w.alloc (.cells #[.int .i64 18, .string px, .string py, .slice (some ⟨b, off, none⟩) n C] 24)).heap.size (w.alloc (.cells #[.int .i64 18, .string px, .string py, .slice (some ⟨b, off, none⟩) n C] 24)) W → W.cell? ⟨w.heap.size, 3, none⟩ = some (.slice (some ⟨b, off, none⟩) n C)) := fun W hW => by
    rw [hW.cell (p := ⟨w.heap.size, 3, none⟩) (by simp), World.cell?_alloc_at _ _ _ _ rfl]; rfl
  have b1 := below1 w (.cells #[.int .i64 18, .string px, .string py, .slice (some ⟨b, off, none⟩) n C] 24)
  have HP := Lib.hid (paren_is (w.alloc (.cells #[.int .i64 18, .string px, .string py, .slice (some ⟨b, off, none⟩) n C] 24)) 18 px py (some ⟨b, off, none⟩) n C f 2 (hf.later b1))
  have HB := Lib.hid b1
  have HBX : Hid (∀ W, Below (w.alloc (.cells #[.int .i64 18, .string px, .string py, .slice (some ⟨b, off, none⟩) n C] 24)).heap.size (w.alloc (.cells #[.int .i64 18, .string px, .string py, .slice (some ⟨b, off, none⟩) n C] 24)) W → W.cell? ⟨w.heap.size, 0, none⟩ = some (.int .i64 18)) := fun W hW => by
    rw [hW.cell (p := ⟨w.heap.size, 0, none⟩) (by simp), World.cell?_alloc_at _ _ _ _ rfl]; rfl
  generalize parenI 18 px f 2 = pb at *
  clear b1 hf
  clear c0
  cases pb with
  | true =>
    go_enter Tryd.func33, Tryd.ntmps33
    go_wp2_with fail
    refine (HP.out).mono ?_
    rintro e w1 ⟨rfl, hb⟩
    have HE := Lib.hid (HB.out.trans (hb.mono HB.out.size))
    have q0 := HBX.out w1 hb
    have q3 := HBS.out w1 hb
    have qk := HC0.out w1 HE.out
    clear hb HBX HP
    go_wp2
    go_ret
    exact ⟨rfl, HE.out⟩
  | false =>
    go_enter Tryd.func33, Tryd.ntmps33
    go_wp2_with fail
    refine (HP.out).mono ?_
    rintro e w1 ⟨rfl, hb⟩
    have HE := Lib.hid (HB.out.trans (hb.mono HB.out.size))
    have q0 := HBX.out w1 hb
    have q3 := HBS.out w1 hb
    have qk := HC0.out w1 HE.out
    clear hb HBX HP
    go_wp2
    go_ret
    exact ⟨rfl, HE.out⟩
set_option maxRecDepth 100000 in
set_option maxHeartbeats 4000000 in
theorem deep_none (px py : ByteArray) (A : Option Addr) (n C : Nat) (f : F) (w : World) (hf : Fs w (Lo w.heap.size) (.slice A n C) f) (k p : Int) (b28 : (k == 28) = false) (b10 : (k == 10) = false) (b11 : (k == 11) = false) (b12 : (k == 12) = false) (b13 : (k == 13) = false) (b15 : (k == 15) = false) (b17 : (k == 17) = false) (b30 : (k == 30) = false) (b31 : (k == 31) = false) (b18 : (k == 18) = false) : Calls Tryd.prog 33 #[.agg #[.int .i64 k, .string px, .string py, .slice A n C], .int .i64 p] w fun e w' => e = .returned (.int .i64 ((if parenI k px f p then 1 else 0) + 0)) ∧ Below w.heap.size w w' := by
  have b1 := below1 w (.cells #[.int .i64 k, .string px, .string py, .slice A n C] 24)
  have HP := Lib.hid (paren_is (w.alloc (.cells #[.int .i64 k, .string px, .string py, .slice A n C] 24)) k px py A n C f p (hf.later b1))
  have HB := Lib.hid b1
  have HBX : Hid (∀ W, Below (w.alloc (.cells #[.int .i64 k, .string px, .string py, .slice A n C] 24)).heap.size (w.alloc (.cells #[.int .i64 k, .string px, .string py, .slice A n C] 24)) W → W.cell? ⟨w.heap.size, 0, none⟩ = some (.int .i64 k)) := fun W hW => by
    rw [hW.cell (p := ⟨w.heap.size, 0, none⟩) (by simp), World.cell?_alloc_at _ _ _ _ rfl]; rfl
  generalize parenI k px f p = pb at *
  clear b1 hf
  cases pb with
  | true =>
    go_enter Tryd.func33, Tryd.ntmps33
    go_wp2_with fail
    refine (HP.out).mono ?_
    rintro e w1 ⟨rfl, hb⟩
    have HE := Lib.hid (HB.out.trans (hb.mono HB.out.size))
    have q0 := HBX.out w1 hb
    clear hb HBX HP
    go_wp2
    go_ret
    exact ⟨rfl, HE.out⟩
  | false =>
    go_enter Tryd.func33, Tryd.ntmps33
    go_wp2_with fail
    refine (HP.out).mono ?_
    rintro e w1 ⟨rfl, hb⟩
    have HE := Lib.hid (HB.out.trans (hb.mono HB.out.size))
    have q0 := HBX.out w1 hb
    clear hb HBX HP
    go_wp2
    go_ret
    exact ⟨rfl, HE.out⟩

/-- deeper at a Kid that is there. -/
theorem deeper_any (pk : Int) (px py : ByteArray) (A : Option Addr) (n C : Nat) (f : F) (i : Nat) (kk : Int) (kx ky : ByteArray) (kc kr : F) (w : World) (hf : Fs w (Lo w.heap.size) (.slice A n C) f) (hd : f.drop i = .cons kk kx ky kc kr) :
    Calls Tryd.prog 33 #[.agg #[.int .i64 pk, .string px, .string py, .slice A n C], .int .i64 (i : Int)] w fun e w' => e = .returned (.int .i64 ((down pk px i kk kx : Nat) : Int)) ∧ Below w.heap.size w w' := by
  have hp : parenI pk px f (i : Int) = paren pk px i kk kx := by
    unfold parenI
    rw [if_pos (by omega), Int.toNat_natCast, hd]
  have hdn : ((down pk px i kk kx : Nat) : Int) = (if parenI pk px f (i : Int) then 1 else 0) + ((more pk i kk : Nat) : Int) := by
    unfold down; rw [hp]; split <;> simp
  rw [hdn]
  clear hdn
  by_cases h28 : pk = 28
  · subst h28; rw [show more 28 i kk = 1 from rfl]; exact deep_28 px py A n C f w hf _
  by_cases h10 : pk = 10
  · subst h10; rw [show more 10 i kk = 1 from rfl]; exact deep_10 px py A n C f w hf _
  by_cases h11 : pk = 11
  · subst h11; rw [show more 11 i kk = 1 from rfl]; exact deep_11 px py A n C f w hf _
  by_cases h12 : pk = 12
  · subst h12; rw [show more 12 i kk = 1 from rfl]; exact deep_12 px py A n C f w hf _
  by_cases h13 : pk = 13
  · subst h13; rw [show more 13 i kk = 1 from rfl]; exact deep_13 px py A n C f w hf _
  by_cases h15 : pk = 15
  · subst h15; rw [show more 15 i kk = 1 from rfl]; exact deep_15 px py A n C f w hf _
  by_cases h17 : pk = 17
  · subst h17; rw [show more 17 i kk = 1 from rfl]; exact deep_17 px py A n C f w hf _
  by_cases h30 : pk = 30
  · subst h30
    by_cases hi : 0 < i
    · rw [show more 30 i kk = 1 by simp [more, hi]]; exact deep_30a px py A n C f w hf _ (by omega)
    · obtain rfl : i = 0 := by omega
      rw [show more 30 0 kk = 0 by simp [more]]; exact deep_30b px py A n C f w hf
  by_cases h31 : pk = 31
  · subst h31
    by_cases hi : 0 < i
    · rw [show more 31 i kk = 1 by simp [more, hi]]; exact deep_31a px py A n C f w hf _ (by omega)
    · obtain rfl : i = 0 := by omega
      rw [show more 31 0 kk = 0 by simp [more]]; exact deep_31b px py A n C f w hf
  by_cases h18 : pk = 18
  · subst h18
    by_cases hi : i = 2
    · subst hi
      obtain ⟨b, off, s, rfl, hb, hn, hat⟩ := hf.at_ hd
      have c0 := hat.c0
      rw [show off + 2 * 4 = off + 8 by omega] at c0
      by_cases hk : kk = 18
      · subst hk
        rw [show more 18 2 18 = 1 from rfl]
        exact deep_18y px py b off n C f w hf 18 rfl (by omega) hb c0
      · rw [show more 18 2 kk = 0 by simp [more, hk]]
        exact deep_18n2 px py b off n C f w hf kk (kno hk) (by omega) hb c0
    · rw [show more 18 i kk = 0 by simp [more, hi]]
      exact deep_18n px py A n C f w hf _ (by simpa using (show ¬ (i : Int) = 2 by omega))
  rw [show more pk i kk = 0 by simp [more, h28, h10, h11, h12, h13, h15, h17, h30, h31, h18]]
  exact deep_none px py A n C f w hf pk _ (kno h28) (kno h10) (kno h11) (kno h12) (kno h13) (kno h15) (kno h17) (kno h30) (kno h31) (kno h18)
end Go.Proofs.YtoecimgmghlfpaaDoor.Tree
