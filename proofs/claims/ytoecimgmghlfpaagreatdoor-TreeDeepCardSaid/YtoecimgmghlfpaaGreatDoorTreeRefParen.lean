/-
  Layer 5 (tree): the document's Level, low and Paren. Written by gen_treerefparen.py.
-/
import Derived.Test.YtoecimgmghlfpaaGreatDoorJoinParts
namespace Go.Proofs.YtoecimgmghlfpaaGreatDoor.Tree
open Go.ChangeShapes Go.WideShapes Go.ChangeAt Go.RowKit
set_option linter.unusedVariables false

set_option maxHeartbeats 4000000 in
theorem refLevel_any (s : ByteArray) (w : World) : Calls Tryz.prog 48 #[.string s] w fun e w' => e = .returned (.int .i64 (level s : Int)) ∧ w' = w := by
  have hl : level s = level s := rfl
  conv at hl => rhs; unfold level
  cases b0 : (s.toList == [124, 124]) with
  | true =>
    have hv : level s = 1 := by rw [hl]; simp [b0]
    rw [hv]; clear hv hl
    go_enter Tryz.func48, Tryz.ntmps48
    go_wp2
    go_ret
    exact ⟨rfl, rfl⟩
  | false =>
  cases b1 : (s.toList == [38, 38]) with
  | true =>
    have hv : level s = 2 := by rw [hl]; simp [b0, b1]
    rw [hv]; clear hv hl
    go_enter Tryz.func48, Tryz.ntmps48
    go_wp2
    go_ret
    exact ⟨rfl, rfl⟩
  | false =>
  cases b2 : (s.toList == [61, 61]) with
  | true =>
    have hv : level s = 3 := by rw [hl]; simp [b0, b1, b2]
    rw [hv]; clear hv hl
    go_enter Tryz.func48, Tryz.ntmps48
    go_wp2
    go_ret
    exact ⟨rfl, rfl⟩
  | false =>
  cases b3 : (s.toList == [33, 61]) with
  | true =>
    have hv : level s = 3 := by rw [hl]; simp [b0, b1, b2, b3]
    rw [hv]; clear hv hl
    go_enter Tryz.func48, Tryz.ntmps48
    go_wp2
    go_ret
    exact ⟨rfl, rfl⟩
  | false =>
  cases b4 : (s.toList == [60]) with
  | true =>
    have hv : level s = 3 := by rw [hl]; simp [b0, b1, b2, b3, b4]
    rw [hv]; clear hv hl
    go_enter Tryz.func48, Tryz.ntmps48
    go_wp2
    go_ret
    exact ⟨rfl, rfl⟩
  | false =>
  cases b5 : (s.toList == [60, 61]) with
  | true =>
    have hv : level s = 3 := by rw [hl]; simp [b0, b1, b2, b3, b4, b5]
    rw [hv]; clear hv hl
    go_enter Tryz.func48, Tryz.ntmps48
    go_wp2
    go_ret
    exact ⟨rfl, rfl⟩
  | false =>
  cases b6 : (s.toList == [62]) with
  | true =>
    have hv : level s = 3 := by rw [hl]; simp [b0, b1, b2, b3, b4, b5, b6]
    rw [hv]; clear hv hl
    go_enter Tryz.func48, Tryz.ntmps48
    go_wp2
    go_ret
    exact ⟨rfl, rfl⟩
  | false =>
  cases b7 : (s.toList == [62, 61]) with
  | true =>
    have hv : level s = 3 := by rw [hl]; simp [b0, b1, b2, b3, b4, b5, b6, b7]
    rw [hv]; clear hv hl
    go_enter Tryz.func48, Tryz.ntmps48
    go_wp2
    go_ret
    exact ⟨rfl, rfl⟩
  | false =>
  cases b8 : (s.toList == [43]) with
  | true =>
    have hv : level s = 4 := by rw [hl]; simp [b0, b1, b2, b3, b4, b5, b6, b7, b8]
    rw [hv]; clear hv hl
    go_enter Tryz.func48, Tryz.ntmps48
    go_wp2
    go_ret
    exact ⟨rfl, rfl⟩
  | false =>
  cases b9 : (s.toList == [45]) with
  | true =>
    have hv : level s = 4 := by rw [hl]; simp [b0, b1, b2, b3, b4, b5, b6, b7, b8, b9]
    rw [hv]; clear hv hl
    go_enter Tryz.func48, Tryz.ntmps48
    go_wp2
    go_ret
    exact ⟨rfl, rfl⟩
  | false =>
  cases b10 : (s.toList == [124]) with
  | true =>
    have hv : level s = 4 := by rw [hl]; simp [b0, b1, b2, b3, b4, b5, b6, b7, b8, b9, b10]
    rw [hv]; clear hv hl
    go_enter Tryz.func48, Tryz.ntmps48
    go_wp2
    go_ret
    exact ⟨rfl, rfl⟩
  | false =>
  cases b11 : (s.toList == [94]) with
  | true =>
    have hv : level s = 4 := by rw [hl]; simp [b0, b1, b2, b3, b4, b5, b6, b7, b8, b9, b10, b11]
    rw [hv]; clear hv hl
    go_enter Tryz.func48, Tryz.ntmps48
    go_wp2
    go_ret
    exact ⟨rfl, rfl⟩
  | false =>
  cases b12 : (s.toList == [42]) with
  | true =>
    have hv : level s = 5 := by rw [hl]; simp [b0, b1, b2, b3, b4, b5, b6, b7, b8, b9, b10, b11, b12]
    rw [hv]; clear hv hl
    go_enter Tryz.func48, Tryz.ntmps48
    go_wp2
    go_ret
    exact ⟨rfl, rfl⟩
  | false =>
  cases b13 : (s.toList == [47]) with
  | true =>
    have hv : level s = 5 := by rw [hl]; simp [b0, b1, b2, b3, b4, b5, b6, b7, b8, b9, b10, b11, b12, b13]
    rw [hv]; clear hv hl
    go_enter Tryz.func48, Tryz.ntmps48
    go_wp2
    go_ret
    exact ⟨rfl, rfl⟩
  | false =>
  cases b14 : (s.toList == [37]) with
  | true =>
    have hv : level s = 5 := by rw [hl]; simp [b0, b1, b2, b3, b4, b5, b6, b7, b8, b9, b10, b11, b12, b13, b14]
    rw [hv]; clear hv hl
    go_enter Tryz.func48, Tryz.ntmps48
    go_wp2
    go_ret
    exact ⟨rfl, rfl⟩
  | false =>
  cases b15 : (s.toList == [60, 60]) with
  | true =>
    have hv : level s = 5 := by rw [hl]; simp [b0, b1, b2, b3, b4, b5, b6, b7, b8, b9, b10, b11, b12, b13, b14, b15]
    rw [hv]; clear hv hl
    go_enter Tryz.func48, Tryz.ntmps48
    go_wp2
    go_ret
    exact ⟨rfl, rfl⟩
  | false =>
  cases b16 : (s.toList == [62, 62]) with
  | true =>
    have hv : level s = 5 := by rw [hl]; simp [b0, b1, b2, b3, b4, b5, b6, b7, b8, b9, b10, b11, b12, b13, b14, b15, b16]
    rw [hv]; clear hv hl
    go_enter Tryz.func48, Tryz.ntmps48
    go_wp2
    go_ret
    exact ⟨rfl, rfl⟩
  | false =>
  cases b17 : (s.toList == [38]) with
  | true =>
    have hv : level s = 5 := by rw [hl]; simp [b0, b1, b2, b3, b4, b5, b6, b7, b8, b9, b10, b11, b12, b13, b14, b15, b16, b17]
    rw [hv]; clear hv hl
    go_enter Tryz.func48, Tryz.ntmps48
    go_wp2
    go_ret
    exact ⟨rfl, rfl⟩
  | false =>
  cases b18 : (s.toList == [38, 94]) with
  | true =>
    have hv : level s = 5 := by rw [hl]; simp [b0, b1, b2, b3, b4, b5, b6, b7, b8, b9, b10, b11, b12, b13, b14, b15, b16, b17, b18]
    rw [hv]; clear hv hl
    go_enter Tryz.func48, Tryz.ntmps48
    go_wp2
    go_ret
    exact ⟨rfl, rfl⟩
  | false =>
  have hv : level s = 0 := by rw [hl]; simp [b0, b1, b2, b3, b4, b5, b6, b7, b8, b9, b10, b11, b12, b13, b14, b15, b16, b17, b18]
  rw [hv]; clear hv hl
  go_enter Tryz.func48, Tryz.ntmps48
  go_wp2
  go_ret
  exact ⟨rfl, rfl⟩


theorem low_any (k : Int) (x y : ByteArray) (A : Option Addr) (n C : Nat) (w : World) : Calls Tryz.prog 69 #[.agg #[.int .i64 k, .string x, .string y, .slice A n C]] w fun e w' => e = .returned (.bool (k == 29 || k == 28)) ∧ Below w.heap.size w w' := by
  by_cases h29 : k = 29
  · subst h29
    go_enter Tryz.func69, Tryz.ntmps69
    go_wp2
    go_ret
    exact ⟨rfl, below1 _ _⟩
  · have b29 := kno h29
    rw [b29]
    clear h29
    go_enter Tryz.func69, Tryz.ntmps69
    go_wp2
    go_ret
    exact ⟨rfl, below1 _ _⟩

theorem refParen_out (pk : Int) (px y : ByteArray) (A : Option Addr) (n C : Nat) (p : Int) (hp : p < 0 ∨ (n : Int) ≤ p) (w : World) :
    Calls Tryz.prog 50 #[.agg #[.int .i64 pk, .string px, .string y, .slice A n C], .int .i64 p] w fun e w' => e = .returned (.bool false) ∧ Below w.heap.size w w' := by
  by_cases h0 : p < 0
  · clear hp
    go_enter Tryz.func50, Tryz.ntmps50
    go_wp2
    go_ret
    exact ⟨rfl, (Below.refl _ _).alloc (Nat.le_refl _) _⟩
  · have hn : (n : Int) ≤ p := by omega
    clear hp
    go_enter Tryz.func50, Tryz.ntmps50
    go_wp2
    go_ret
    exact ⟨rfl, (Below.refl _ _).alloc (Nat.le_refl _) _⟩

set_option maxHeartbeats 4000000 in
theorem refParen_at0 (As : Option Addr) (ns Cs b off n C : Nat) (pk kk : Int) (px py kx ky : ByteArray) (w : World) (hb : b < w.heap.size) (hi : (0 : Int) < (n : Int)) (hC : n ≤ C) (hm : C ≤ 9223372036854775807) (c0 : w.cell? ⟨b, off, none⟩ = some (.int .i64 kk)) (c1 : w.cell? ⟨b, off + 1, none⟩ = some (.string kx)) (c2 : w.cell? ⟨b, off + 2, none⟩ = some (.string ky)) (c3 : w.cell? ⟨b, off + 3, none⟩ = some (.slice As ns Cs)) :
    Calls Tryz.prog 50 #[.agg #[.int .i64 pk, .string px, .string py, .slice (some ⟨b, off, none⟩) n C], .int .i64 0] w fun e w' => e = .returned (.bool (paren pk px 0 kk kx)) ∧ Below w.heap.size w w' := by
  have hn0 : ¬ (n : Int) ≤ 0 := by omega
  by_cases p29 : pk = 29
  · subst p29
    by_cases k29 : kk = 29
    · subst k29
      rw [paren_b0]
      have hL := Lib.hid (fun (s : ByteArray) (w : World) => refLevel_any s w)
      go_enter Tryz.func50, Tryz.ntmps50
      go_wp2
      go_quiet (first | (go_at_call 48; refine Calls.quiet_of_same (hL.out _ _)))
      go_wp2
      go_ret
      exact ⟨rfl, below2q _ _ _ _⟩
    · have k29' := kno k29
      have k29n : (kk != 29) = true := by simpa using k29
      rw [show paren 29 px 0 kk kx = false by simp [paren, k29]]
      clear k29
      go_enter Tryz.func50, Tryz.ntmps50
      go_wp2
      go_ret
      exact ⟨rfl, below2 _ _ _⟩
  have p29' := kno p29
  by_cases p28 : pk = 28
  · subst p28
    rw [show paren 28 px 0 kk kx = (kk == 29 || kk == 28) by simp [paren]]
    have HW := Lib.hid (low_any kk kx ky As ns Cs ((w.alloc (.cells #[.int .i64 28, .string px, .string py, .slice (some ⟨b, off, none⟩) n C] 24)).alloc (.cells #[.int .i64 kk, .string kx, .string ky, .slice As ns Cs] 24)))
    go_enter Tryz.func50, Tryz.ntmps50
    go_wp2_with fail
    refine HW.out.mono ?_
    rintro e w' ⟨rfl, hbw⟩
    have HE := Lib.hid ((below2 w _ _).trans (hbw.mono (below2 w (.cells #[.int .i64 28, .string px, .string py, .slice (some ⟨b, off, none⟩) n C] 24) (.cells #[.int .i64 kk, .string kx, .string ky, .slice As ns Cs] 24)).size))
    clear hbw
    go_wp2
    go_ret
    exact ⟨rfl, HE.out⟩
  have p28' := kno p28
  by_cases p30 : pk = 30
  · subst p30
    rw [show paren 30 px 0 kk kx = (kk == 29 || kk == 28) by simp [paren]]
    have HW := Lib.hid (low_any kk kx ky As ns Cs ((w.alloc (.cells #[.int .i64 30, .string px, .string py, .slice (some ⟨b, off, none⟩) n C] 24)).alloc (.cells #[.int .i64 kk, .string kx, .string ky, .slice As ns Cs] 24)))
    go_enter Tryz.func50, Tryz.ntmps50
    go_wp2_with fail
    refine HW.out.mono ?_
    rintro e w' ⟨rfl, hbw⟩
    have HE := Lib.hid ((below2 w _ _).trans (hbw.mono (below2 w (.cells #[.int .i64 30, .string px, .string py, .slice (some ⟨b, off, none⟩) n C] 24) (.cells #[.int .i64 kk, .string kx, .string ky, .slice As ns Cs] 24)).size))
    clear hbw
    go_wp2
    go_ret
    exact ⟨rfl, HE.out⟩
  have p30' := kno p30
  by_cases p31 : pk = 31
  · subst p31
    rw [show paren 31 px 0 kk kx = (kk == 29 || kk == 28) by simp [paren]]
    have HW := Lib.hid (low_any kk kx ky As ns Cs ((w.alloc (.cells #[.int .i64 31, .string px, .string py, .slice (some ⟨b, off, none⟩) n C] 24)).alloc (.cells #[.int .i64 kk, .string kx, .string ky, .slice As ns Cs] 24)))
    go_enter Tryz.func50, Tryz.ntmps50
    go_wp2_with fail
    refine HW.out.mono ?_
    rintro e w' ⟨rfl, hbw⟩
    have HE := Lib.hid ((below2 w _ _).trans (hbw.mono (below2 w (.cells #[.int .i64 31, .string px, .string py, .slice (some ⟨b, off, none⟩) n C] 24) (.cells #[.int .i64 kk, .string kx, .string ky, .slice As ns Cs] 24)).size))
    clear hbw
    go_wp2
    go_ret
    exact ⟨rfl, HE.out⟩
  have p31' := kno p31
  by_cases p32 : pk = 32
  · subst p32
    rw [show paren 32 px 0 kk kx = (kk == 29 || kk == 28) by simp [paren]]
    have HW := Lib.hid (low_any kk kx ky As ns Cs ((w.alloc (.cells #[.int .i64 32, .string px, .string py, .slice (some ⟨b, off, none⟩) n C] 24)).alloc (.cells #[.int .i64 kk, .string kx, .string ky, .slice As ns Cs] 24)))
    go_enter Tryz.func50, Tryz.ntmps50
    go_wp2_with fail
    refine HW.out.mono ?_
    rintro e w' ⟨rfl, hbw⟩
    have HE := Lib.hid ((below2 w _ _).trans (hbw.mono (below2 w (.cells #[.int .i64 32, .string px, .string py, .slice (some ⟨b, off, none⟩) n C] 24) (.cells #[.int .i64 kk, .string kx, .string ky, .slice As ns Cs] 24)).size))
    clear hbw
    go_wp2
    go_ret
    exact ⟨rfl, HE.out⟩
  have p32' := kno p32
  rw [show paren pk px 0 kk kx = false by simp [paren, p29, p28, p30, p31, p32]]
  clear p29 p28 p30 p31 p32
  go_enter Tryz.func50, Tryz.ntmps50
  go_wp2
  go_ret
  exact ⟨rfl, below2 _ _ _⟩

set_option maxHeartbeats 4000000 in
theorem refParen_at1 (As : Option Addr) (ns Cs b off n C : Nat) (pk kk : Int) (px py kx ky : ByteArray) (w : World) (hb : b < w.heap.size) (hi : (1 : Int) < (n : Int)) (hC : n ≤ C) (hm : C ≤ 9223372036854775807) (c0 : w.cell? ⟨b, off + 4, none⟩ = some (.int .i64 kk)) (c1 : w.cell? ⟨b, off + 5, none⟩ = some (.string kx)) (c2 : w.cell? ⟨b, off + 6, none⟩ = some (.string ky)) (c3 : w.cell? ⟨b, off + 7, none⟩ = some (.slice As ns Cs)) :
    Calls Tryz.prog 50 #[.agg #[.int .i64 pk, .string px, .string py, .slice (some ⟨b, off, none⟩) n C], .int .i64 1] w fun e w' => e = .returned (.bool (paren pk px 1 kk kx)) ∧ Below w.heap.size w w' := by
  have hn0 : ¬ (n : Int) ≤ 1 := by omega
  by_cases p29 : pk = 29
  · subst p29
    by_cases k29 : kk = 29
    · subst k29
      rw [paren_b1]
      have hL := Lib.hid (fun (s : ByteArray) (w : World) => refLevel_any s w)
      go_enter Tryz.func50, Tryz.ntmps50
      go_wp2
      go_quiet (first | (go_at_call 48; refine Calls.quiet_of_same (hL.out _ _)))
      go_wp2
      go_ret
      exact ⟨rfl, below2q _ _ _ _⟩
    · have k29' := kno k29
      have k29n : (kk != 29) = true := by simpa using k29
      rw [show paren 29 px 1 kk kx = false by simp [paren, k29]]
      clear k29
      go_enter Tryz.func50, Tryz.ntmps50
      go_wp2
      go_ret
      exact ⟨rfl, below2 _ _ _⟩
  have p29' := kno p29
  by_cases p28 : pk = 28
  · subst p28
    rw [show paren 28 px 1 kk kx = (kk == 29 || kk == 28) by simp [paren]]
    have HW := Lib.hid (low_any kk kx ky As ns Cs ((w.alloc (.cells #[.int .i64 28, .string px, .string py, .slice (some ⟨b, off, none⟩) n C] 24)).alloc (.cells #[.int .i64 kk, .string kx, .string ky, .slice As ns Cs] 24)))
    go_enter Tryz.func50, Tryz.ntmps50
    go_wp2_with fail
    refine HW.out.mono ?_
    rintro e w' ⟨rfl, hbw⟩
    have HE := Lib.hid ((below2 w _ _).trans (hbw.mono (below2 w (.cells #[.int .i64 28, .string px, .string py, .slice (some ⟨b, off, none⟩) n C] 24) (.cells #[.int .i64 kk, .string kx, .string ky, .slice As ns Cs] 24)).size))
    clear hbw
    go_wp2
    go_ret
    exact ⟨rfl, HE.out⟩
  have p28' := kno p28
  by_cases p30 : pk = 30
  · subst p30
    rw [show paren 30 px 1 kk kx = false by simp [paren]]
    go_enter Tryz.func50, Tryz.ntmps50
    go_wp2
    go_ret
    exact ⟨rfl, below2 _ _ _⟩
  have p30' := kno p30
  by_cases p31 : pk = 31
  · subst p31
    rw [show paren 31 px 1 kk kx = false by simp [paren]]
    go_enter Tryz.func50, Tryz.ntmps50
    go_wp2
    go_ret
    exact ⟨rfl, below2 _ _ _⟩
  have p31' := kno p31
  by_cases p32 : pk = 32
  · subst p32
    rw [show paren 32 px 1 kk kx = false by simp [paren]]
    go_enter Tryz.func50, Tryz.ntmps50
    go_wp2
    go_ret
    exact ⟨rfl, below2 _ _ _⟩
  have p32' := kno p32
  rw [show paren pk px 1 kk kx = false by simp [paren, p29, p28, p30, p31, p32]]
  clear p29 p28 p30 p31 p32
  go_enter Tryz.func50, Tryz.ntmps50
  go_wp2
  go_ret
  exact ⟨rfl, below2 _ _ _⟩

set_option maxHeartbeats 4000000 in
theorem refParen_ati (As : Option Addr) (ns Cs b off n C i : Nat) (pk kk : Int) (px py kx ky : ByteArray) (w : World) (hb : b < w.heap.size) (hi : (i : Int) < (n : Int)) (hC : n ≤ C) (hm : C ≤ 9223372036854775807) (c0 : w.cell? ⟨b, off + i * 4, none⟩ = some (.int .i64 kk)) (c1 : w.cell? ⟨b, off + i * 4 + 1, none⟩ = some (.string kx)) (c2 : w.cell? ⟨b, off + i * 4 + 2, none⟩ = some (.string ky)) (c3 : w.cell? ⟨b, off + i * 4 + 3, none⟩ = some (.slice As ns Cs)) (h0 : ((i : Int) == 0) = false) (h1 : ((i : Int) == 1) = false) :
    Calls Tryz.prog 50 #[.agg #[.int .i64 pk, .string px, .string py, .slice (some ⟨b, off, none⟩) n C], .int .i64 (i : Int)] w fun e w' => e = .returned (.bool (paren pk px i kk kx)) ∧ Below w.heap.size w w' := by
  have hn0 : ¬ (n : Int) ≤ (i : Int) := by omega
  have hi0 : ¬ (i : Int) < 0 := by omega
  have hip : (0 : Int) ≤ (i : Int) := by omega
  have i0 : ¬ i = 0 := by rintro rfl; simp at h0
  have i1 : ¬ i = 1 := by rintro rfl; simp at h1
  by_cases p28 : pk = 28
  · subst p28
    rw [show paren 28 px i kk kx = (kk == 29 || kk == 28) by simp [paren]]
    clear i0 i1
    have HW := Lib.hid (low_any kk kx ky As ns Cs ((w.alloc (.cells #[.int .i64 28, .string px, .string py, .slice (some ⟨b, off, none⟩) n C] 24)).alloc (.cells #[.int .i64 kk, .string kx, .string ky, .slice As ns Cs] 24)))
    go_enter Tryz.func50, Tryz.ntmps50
    go_wp2_with fail
    refine HW.out.mono ?_
    rintro e w' ⟨rfl, hbw⟩
    have HE := Lib.hid ((below2 w _ _).trans (hbw.mono (below2 w (.cells #[.int .i64 28, .string px, .string py, .slice (some ⟨b, off, none⟩) n C] 24) (.cells #[.int .i64 kk, .string kx, .string ky, .slice As ns Cs] 24)).size))
    clear hbw
    go_wp2
    go_ret
    exact ⟨rfl, HE.out⟩
  have p28' := kno p28
  rw [show paren pk px i kk kx = false by unfold paren; simp [p28, i0, i1]]
  by_cases p29 : pk = 29
  · subst p29
    clear i0 i1 p28
    by_cases k29 : kk = 29
    · subst k29
      go_enter Tryz.func50, Tryz.ntmps50
      go_wp2
      go_quiet (fail)
      go_wp2
      go_ret
      exact ⟨rfl, below2q _ _ _ _⟩
    · have k29' := kno k29
      have k29n : (kk != 29) = true := by simpa using k29
      clear k29
      go_enter Tryz.func50, Tryz.ntmps50
      go_wp2
      go_ret
      exact ⟨rfl, below2 _ _ _⟩
  have p29' := kno p29
  by_cases p30 : pk = 30
  · subst p30
    clear i0 i1 p28 p29
    go_enter Tryz.func50, Tryz.ntmps50
    go_wp2
    go_ret
    exact ⟨rfl, below2 _ _ _⟩
  have p30' := kno p30
  by_cases p31 : pk = 31
  · subst p31
    clear i0 i1 p28 p29
    go_enter Tryz.func50, Tryz.ntmps50
    go_wp2
    go_ret
    exact ⟨rfl, below2 _ _ _⟩
  have p31' := kno p31
  by_cases p32 : pk = 32
  · subst p32
    clear i0 i1 p28 p29
    go_enter Tryz.func50, Tryz.ntmps50
    go_wp2
    go_ret
    exact ⟨rfl, below2 _ _ _⟩
  have p32' := kno p32
  clear p28 p29 p30 p31 p32 i0 i1
  go_enter Tryz.func50, Tryz.ntmps50
  go_wp2
  go_ret
  exact ⟨rfl, below2 _ _ _⟩

theorem refParen_is (w : World) (pk : Int) (px py : ByteArray) (A : Option Addr) (n C : Nat) (f : F) (p : Int) {B : Nat} (hB : B ≤ w.heap.size) (hf : Fs w (Lo B) (.slice A n C) f) :
    Calls Tryz.prog 50 #[.agg #[.int .i64 pk, .string px, .string py, .slice A n C], .int .i64 p] w fun e w' => e = .returned (.bool (parenI pk px f p)) ∧ Below w.heap.size w w' := by
  obtain ⟨A', C', e, hnC, hCm⟩ := hf.slice
  injection e with e1 e2 e3
  subst e1; subst e2; subst e3
  by_cases hp : p < 0 ∨ ((f.len : Nat) : Int) ≤ p
  · have e : parenI pk px f p = false := by
      unfold parenI
      split
      · rw [F.drop_all _ _ (by omega)]
      · rfl
    rw [e]
    exact refParen_out pk px py A _ C p hp w
  · obtain ⟨i, rfl⟩ : ∃ i : Nat, p = (i : Int) := ⟨p.toNat, by omega⟩
    obtain ⟨k, x, y, c, r, hd, _⟩ := F.drop_cons (n := i) (f := f) (by omega)
    have e : parenI pk px f (i : Int) = paren pk px i k x := by
      unfold parenI
      rw [if_pos (by omega), Int.toNat_natCast, hd]
    rw [e]
    obtain ⟨b, off, s, rfl, hb, hi, hat⟩ := hf.at_ hd
    obtain ⟨As, Cs, rfl, _, _⟩ := hat.kids.slice
    have hb : b < w.heap.size := Nat.lt_of_lt_of_le hb hB
    have c0 := hat.c0; have c1 := hat.c1; have c2 := hat.c2; have c3 := hat.c3
    by_cases i0 : i = 0
    · subst i0
      simp only [Nat.zero_mul, Nat.add_zero] at c0 c1 c2 c3
      exact refParen_at0 As _ Cs b off _ C pk k px py x y w hb (by omega) hnC hCm c0 c1 c2 c3
    by_cases i1 : i = 1
    · subst i1
      exact refParen_at1 As _ Cs b off _ C pk k px py x y w hb (by omega) hnC hCm c0 c1 c2 c3
    exact refParen_ati As _ Cs b off _ C i pk k px py x y w hb (by omega) hnC hCm c0 c1 c2 c3 (by simpa using i0) (by simpa using (show ¬ (i : Int) = 1 by omega))
end Go.Proofs.YtoecimgmghlfpaaGreatDoor.Tree
