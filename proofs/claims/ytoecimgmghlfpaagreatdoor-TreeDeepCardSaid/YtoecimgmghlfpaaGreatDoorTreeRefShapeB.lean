/-
  Layer 5 (tree): the document's shape, the rest of the kinds. Written by gen_treerefshapeb.py.
-/
import Derived.Test.YtoecimgmghlfpaaGreatDoorTreeRefShape
namespace Go.Proofs.YtoecimgmghlfpaaGreatDoor.Tree
open Go.ChangeShapes Go.WideShapes Go.ChangeAt Go.RowKit Mem
set_option linter.unusedVariables false


theorem row33 (k1 : Int) (x1 y1 : ByteArray) (c1 : F) (k2 : Int) (x2 y2 : ByteArray) (c2 : F) : rowOK [.one [isOf [33]], .one [isOf [33]]] (.cons k1 x1 y1 c1 (.cons k2 x2 y2 c2 .nil)) = (k1 == 33 && k2 == 33) := by
  by_cases h1 : k1 = 33 <;> by_cases h2 : k2 = 33 <;> simp [rowOK, Pt.take, isOf, h1, h2]
theorem two_of {c : F} (h : rowOK [.one [isTyp, isOf [33]], .one [isVal, isOf [33]]] c = true) : ∃ k1 x1 y1 c1 k2 x2 y2 c2, c = .cons k1 x1 y1 c1 (.cons k2 x2 y2 c2 .nil) := by
  cases c with
  | nil => simp [rowOK, Pt.take] at h
  | cons k1 x1 y1 c1 r =>
    simp only [rowOK, Pt.take] at h
    by_cases h1 : ([isTyp, isOf [33]].any fun p => p k1 x1) = true
    · rw [if_pos h1] at h
      cases r with
      | nil => simp at h
      | cons k2 x2 y2 c2 r2 =>
        simp only at h
        by_cases h2 : ([isVal, isOf [33]].any fun p => p k2 x2) = true
        · rw [if_pos h2] at h
          cases r2 with
          | nil => exact ⟨_, _, _, _, _, _, _, _, rfl⟩
          | cons => simp [rowOK] at h
        · rw [if_neg h2] at h; simp at h
    · rw [if_neg h1] at h; simp at h

set_option maxRecDepth 100000 in
set_option maxHeartbeats 8000000 in
theorem shape_3 (x y : ByteArray) (A : Option Addr) (n C : Nat) (c : F) (w : World) (hf : Fs w (Lo w.heap.size) (.slice A n C) c) (hx : x.size ≤ 100000) : Calls Tryz.prog 30 #[.agg #[.int .i64 3, .string x, .string y, .slice A n C]] w fun e w' => e = .returned (.bool (shapeOK 3 x c)) ∧ Below w.heap.size w w' := by
  have b1 := below1 w (.cells #[.int .i64 3, .string x, .string y, .slice A n C] 24)
  have HN := Lib.hid (refNm_any x (by omega) (w.alloc (.cells #[.int .i64 3, .string x, .string y, .slice A n C] 24)))
  have HB := Lib.hid b1
  have HF := Lib.hid hf
  have HBX : Hid (∀ W, Below (w.alloc (.cells #[.int .i64 3, .string x, .string y, .slice A n C] 24)).heap.size (w.alloc (.cells #[.int .i64 3, .string x, .string y, .slice A n C] 24)) W → W.cell? ⟨w.heap.size, 0, none⟩ = some (.int .i64 3) ∧ W.cell? ⟨w.heap.size, 1, none⟩ = some (.string x) ∧ W.cell? ⟨w.heap.size, 3, none⟩ = some (.slice A n C)) := fun W hW => by
    have cel : ∀ i v, #[Value.int .i64 3, .string x, .string y, .slice A n C][i]? = some v → W.cell? ⟨w.heap.size, i, none⟩ = some v := fun i v hv => by
      rw [hW.cell (p := ⟨w.heap.size, i, none⟩) (by simp), World.cell?_alloc_at _ _ _ _ rfl]
      simpa using hv
    exact ⟨cel 0 _ rfl, cel 1 _ rfl, cel 3 _ rfl⟩
  obtain ⟨nb, hnb⟩ : ∃ nb, nmB x = nb := ⟨_, rfl⟩
  rw [hnb] at HN
  obtain ⟨eb, heb⟩ : ∃ eb, (x.toList == []) = eb := ⟨_, rfl⟩
  clear b1 hf
  clear heb
  obtain ⟨A0, C0, e, _, _⟩ := HF.out.slice
  injection e with e1 e2 e3
  have hlen : c.len = n := e2.symm
  clear e1 e2 e3
  have HTK := Lib.hid (fun W : World => refTk_any x 3 hx W)
  have HV0 : Hid (shapeOK 3 x c = (tkB x 3 && decide (c.len = 0))) := by show _ = _; unfold shapeOK textOK kidsOK; simp
  clear hnb
  cases htk : tkB x 3 with
  | false =>
    rw [htk] at HTK HV0
    have HV : Hid (shapeOK 3 x c = false) := by show _ = _; rw [HV0.out]; rfl
    clear HV0 hlen htk
    go_enter Tryz.func30, Tryz.ntmps30
    go_wp2_with fail
    refine HN.out.mono ?_
    rintro e w1 ⟨rfl, hb⟩
    obtain ⟨q0, q1, q3⟩ := HBX.out w1 hb
    have HB1 := Lib.hid (HB.out.trans (hb.mono HB.out.size))
    clear hb HN HBX
    go_wp2_with fail
    refine (HTK.out _).mono ?_
    rintro e w2 ⟨rfl, hb⟩
    have HB2 := Lib.hid (HB1.out.trans (hb.mono HB1.out.size))
    clear hb
    go_wp2
    go_ret
    exact ⟨by rw [HV.out]; rfl, HB2.out⟩
  | true =>
    rw [htk] at HTK HV0
    have HV : Hid (shapeOK 3 x c = ((n : Int) == 0)) := by
      show _ = _
      rw [HV0.out, hlen]
      by_cases hz : n = 0
      · subst hz; rfl
      · rw [decide_eq_false hz, kno (by omega)]; rfl
    clear HV0 hlen htk
    go_enter Tryz.func30, Tryz.ntmps30
    go_wp2_with fail
    refine HN.out.mono ?_
    rintro e w1 ⟨rfl, hb⟩
    obtain ⟨q0, q1, q3⟩ := HBX.out w1 hb
    have HB1 := Lib.hid (HB.out.trans (hb.mono HB.out.size))
    clear hb HN HBX
    go_wp2_with fail
    refine (HTK.out _).mono ?_
    rintro e w2 ⟨rfl, hb⟩
    have HB2 := Lib.hid (HB1.out.trans (hb.mono HB1.out.size))
    clear hb
    go_wp2
    go_ret
    exact ⟨by rw [HV.out]; rfl, HB2.out⟩
set_option maxRecDepth 100000 in
set_option maxHeartbeats 8000000 in
theorem shape_27 (x y : ByteArray) (A : Option Addr) (n C : Nat) (c : F) (w : World) (hf : Fs w (Lo w.heap.size) (.slice A n C) c) (hx : x.size ≤ 100000) : Calls Tryz.prog 30 #[.agg #[.int .i64 27, .string x, .string y, .slice A n C]] w fun e w' => e = .returned (.bool (shapeOK 27 x c)) ∧ Below w.heap.size w w' := by
  have b1 := below1 w (.cells #[.int .i64 27, .string x, .string y, .slice A n C] 24)
  have HN := Lib.hid (refNm_any x (by omega) (w.alloc (.cells #[.int .i64 27, .string x, .string y, .slice A n C] 24)))
  have HB := Lib.hid b1
  have HF := Lib.hid hf
  have HBX : Hid (∀ W, Below (w.alloc (.cells #[.int .i64 27, .string x, .string y, .slice A n C] 24)).heap.size (w.alloc (.cells #[.int .i64 27, .string x, .string y, .slice A n C] 24)) W → W.cell? ⟨w.heap.size, 0, none⟩ = some (.int .i64 27) ∧ W.cell? ⟨w.heap.size, 1, none⟩ = some (.string x) ∧ W.cell? ⟨w.heap.size, 3, none⟩ = some (.slice A n C)) := fun W hW => by
    have cel : ∀ i v, #[Value.int .i64 27, .string x, .string y, .slice A n C][i]? = some v → W.cell? ⟨w.heap.size, i, none⟩ = some v := fun i v hv => by
      rw [hW.cell (p := ⟨w.heap.size, i, none⟩) (by simp), World.cell?_alloc_at _ _ _ _ rfl]
      simpa using hv
    exact ⟨cel 0 _ rfl, cel 1 _ rfl, cel 3 _ rfl⟩
  obtain ⟨nb, hnb⟩ : ∃ nb, nmB x = nb := ⟨_, rfl⟩
  rw [hnb] at HN
  obtain ⟨eb, heb⟩ : ∃ eb, (x.toList == []) = eb := ⟨_, rfl⟩
  clear b1 hf
  clear heb
  obtain ⟨A0, C0, e, _, _⟩ := HF.out.slice
  injection e with e1 e2 e3
  have hlen : c.len = n := e2.symm
  clear e1 e2 e3
  have HTK := Lib.hid (fun W : World => refTk_any x 3 hx W)
  have HV0 : Hid (shapeOK 27 x c = (tkB x 3 && decide (c.len = 0))) := by show _ = _; unfold shapeOK textOK kidsOK; simp
  clear hnb
  cases htk : tkB x 3 with
  | false =>
    rw [htk] at HTK HV0
    have HV : Hid (shapeOK 27 x c = false) := by show _ = _; rw [HV0.out]; rfl
    clear HV0 hlen htk
    go_enter Tryz.func30, Tryz.ntmps30
    go_wp2_with fail
    refine HN.out.mono ?_
    rintro e w1 ⟨rfl, hb⟩
    obtain ⟨q0, q1, q3⟩ := HBX.out w1 hb
    have HB1 := Lib.hid (HB.out.trans (hb.mono HB.out.size))
    clear hb HN HBX
    go_wp2_with fail
    refine (HTK.out _).mono ?_
    rintro e w2 ⟨rfl, hb⟩
    have HB2 := Lib.hid (HB1.out.trans (hb.mono HB1.out.size))
    clear hb
    go_wp2
    go_ret
    exact ⟨by rw [HV.out]; rfl, HB2.out⟩
  | true =>
    rw [htk] at HTK HV0
    have HV : Hid (shapeOK 27 x c = ((n : Int) == 0)) := by
      show _ = _
      rw [HV0.out, hlen]
      by_cases hz : n = 0
      · subst hz; rfl
      · rw [decide_eq_false hz, kno (by omega)]; rfl
    clear HV0 hlen htk
    go_enter Tryz.func30, Tryz.ntmps30
    go_wp2_with fail
    refine HN.out.mono ?_
    rintro e w1 ⟨rfl, hb⟩
    obtain ⟨q0, q1, q3⟩ := HBX.out w1 hb
    have HB1 := Lib.hid (HB.out.trans (hb.mono HB.out.size))
    clear hb HN HBX
    go_wp2_with fail
    refine (HTK.out _).mono ?_
    rintro e w2 ⟨rfl, hb⟩
    have HB2 := Lib.hid (HB1.out.trans (hb.mono HB1.out.size))
    clear hb
    go_wp2
    go_ret
    exact ⟨by rw [HV.out]; rfl, HB2.out⟩
set_option maxRecDepth 100000 in
set_option maxHeartbeats 8000000 in
theorem shape_26 (x y : ByteArray) (A : Option Addr) (n C : Nat) (c : F) (w : World) (hf : Fs w (Lo w.heap.size) (.slice A n C) c) (hx : x.size ≤ 100000) : Calls Tryz.prog 30 #[.agg #[.int .i64 26, .string x, .string y, .slice A n C]] w fun e w' => e = .returned (.bool (shapeOK 26 x c)) ∧ Below w.heap.size w w' := by
  have b1 := below1 w (.cells #[.int .i64 26, .string x, .string y, .slice A n C] 24)
  have HN := Lib.hid (refNm_any x (by omega) (w.alloc (.cells #[.int .i64 26, .string x, .string y, .slice A n C] 24)))
  have HB := Lib.hid b1
  have HF := Lib.hid hf
  have HBX : Hid (∀ W, Below (w.alloc (.cells #[.int .i64 26, .string x, .string y, .slice A n C] 24)).heap.size (w.alloc (.cells #[.int .i64 26, .string x, .string y, .slice A n C] 24)) W → W.cell? ⟨w.heap.size, 0, none⟩ = some (.int .i64 26) ∧ W.cell? ⟨w.heap.size, 1, none⟩ = some (.string x) ∧ W.cell? ⟨w.heap.size, 3, none⟩ = some (.slice A n C)) := fun W hW => by
    have cel : ∀ i v, #[Value.int .i64 26, .string x, .string y, .slice A n C][i]? = some v → W.cell? ⟨w.heap.size, i, none⟩ = some v := fun i v hv => by
      rw [hW.cell (p := ⟨w.heap.size, i, none⟩) (by simp), World.cell?_alloc_at _ _ _ _ rfl]
      simpa using hv
    exact ⟨cel 0 _ rfl, cel 1 _ rfl, cel 3 _ rfl⟩
  obtain ⟨nb, hnb⟩ : ∃ nb, nmB x = nb := ⟨_, rfl⟩
  rw [hnb] at HN
  obtain ⟨eb, heb⟩ : ∃ eb, (x.toList == []) = eb := ⟨_, rfl⟩
  clear b1 hf
  clear heb
  obtain ⟨A0, C0, e, _, _⟩ := HF.out.slice
  injection e with e1 e2 e3
  have hlen : c.len = n := e2.symm
  clear e1 e2 e3
  have HTK := Lib.hid (fun W : World => refTk_any x 2 hx W)
  have HV0 : Hid (shapeOK 26 x c = (tkB x 2 && decide (c.len = 0))) := by show _ = _; unfold shapeOK textOK kidsOK; simp
  clear hnb
  cases htk : tkB x 2 with
  | false =>
    rw [htk] at HTK HV0
    have HV : Hid (shapeOK 26 x c = false) := by show _ = _; rw [HV0.out]; rfl
    clear HV0 hlen htk
    go_enter Tryz.func30, Tryz.ntmps30
    go_wp2_with fail
    refine HN.out.mono ?_
    rintro e w1 ⟨rfl, hb⟩
    obtain ⟨q0, q1, q3⟩ := HBX.out w1 hb
    have HB1 := Lib.hid (HB.out.trans (hb.mono HB.out.size))
    clear hb HN HBX
    go_wp2_with fail
    refine (HTK.out _).mono ?_
    rintro e w2 ⟨rfl, hb⟩
    have HB2 := Lib.hid (HB1.out.trans (hb.mono HB1.out.size))
    clear hb
    go_wp2
    go_ret
    exact ⟨by rw [HV.out]; rfl, HB2.out⟩
  | true =>
    rw [htk] at HTK HV0
    have HV : Hid (shapeOK 26 x c = ((n : Int) == 0)) := by
      show _ = _
      rw [HV0.out, hlen]
      by_cases hz : n = 0
      · subst hz; rfl
      · rw [decide_eq_false hz, kno (by omega)]; rfl
    clear HV0 hlen htk
    go_enter Tryz.func30, Tryz.ntmps30
    go_wp2_with fail
    refine HN.out.mono ?_
    rintro e w1 ⟨rfl, hb⟩
    obtain ⟨q0, q1, q3⟩ := HBX.out w1 hb
    have HB1 := Lib.hid (HB.out.trans (hb.mono HB.out.size))
    clear hb HN HBX
    go_wp2_with fail
    refine (HTK.out _).mono ?_
    rintro e w2 ⟨rfl, hb⟩
    have HB2 := Lib.hid (HB1.out.trans (hb.mono HB1.out.size))
    clear hb
    go_wp2
    go_ret
    exact ⟨by rw [HV.out]; rfl, HB2.out⟩
set_option maxRecDepth 100000 in
set_option maxHeartbeats 8000000 in
theorem shape_8 (x y : ByteArray) (A : Option Addr) (n C : Nat) (c : F) (w : World) (hf : Fs w (Lo w.heap.size) (.slice A n C) c) (hx : x.size ≤ 100000) : Calls Tryz.prog 30 #[.agg #[.int .i64 8, .string x, .string y, .slice A n C]] w fun e w' => e = .returned (.bool (shapeOK 8 x c)) ∧ Below w.heap.size w w' := by
  have b1 := below1 w (.cells #[.int .i64 8, .string x, .string y, .slice A n C] 24)
  have HN := Lib.hid (refNm_any x (by omega) (w.alloc (.cells #[.int .i64 8, .string x, .string y, .slice A n C] 24)))
  have HB := Lib.hid b1
  have HF := Lib.hid hf
  have HBX : Hid (∀ W, Below (w.alloc (.cells #[.int .i64 8, .string x, .string y, .slice A n C] 24)).heap.size (w.alloc (.cells #[.int .i64 8, .string x, .string y, .slice A n C] 24)) W → W.cell? ⟨w.heap.size, 0, none⟩ = some (.int .i64 8) ∧ W.cell? ⟨w.heap.size, 1, none⟩ = some (.string x) ∧ W.cell? ⟨w.heap.size, 3, none⟩ = some (.slice A n C)) := fun W hW => by
    have cel : ∀ i v, #[Value.int .i64 8, .string x, .string y, .slice A n C][i]? = some v → W.cell? ⟨w.heap.size, i, none⟩ = some v := fun i v hv => by
      rw [hW.cell (p := ⟨w.heap.size, i, none⟩) (by simp), World.cell?_alloc_at _ _ _ _ rfl]
      simpa using hv
    exact ⟨cel 0 _ rfl, cel 1 _ rfl, cel 3 _ rfl⟩
  obtain ⟨nb, hnb⟩ : ∃ nb, nmB x = nb := ⟨_, rfl⟩
  rw [hnb] at HN
  obtain ⟨eb, heb⟩ : ∃ eb, (x.toList == []) = eb := ⟨_, rfl⟩
  clear b1 hf
  clear heb
  obtain ⟨A0, C0, e, _, _⟩ := HF.out.slice
  injection e with e1 e2 e3
  have hlen : c.len = n := e2.symm
  clear e1 e2 e3
  have HTK := Lib.hid (fun W : World => refTk_any x 5 hx W)
  have HV0 : Hid (shapeOK 8 x c = (tkB x 5 && decide (c.len = 0))) := by show _ = _; unfold shapeOK textOK kidsOK; simp
  clear hnb
  cases htk : tkB x 5 with
  | false =>
    rw [htk] at HTK HV0
    have HV : Hid (shapeOK 8 x c = false) := by show _ = _; rw [HV0.out]; rfl
    clear HV0 hlen htk
    go_enter Tryz.func30, Tryz.ntmps30
    go_wp2_with fail
    refine HN.out.mono ?_
    rintro e w1 ⟨rfl, hb⟩
    obtain ⟨q0, q1, q3⟩ := HBX.out w1 hb
    have HB1 := Lib.hid (HB.out.trans (hb.mono HB.out.size))
    clear hb HN HBX
    go_wp2_with fail
    refine (HTK.out _).mono ?_
    rintro e w2 ⟨rfl, hb⟩
    have HB2 := Lib.hid (HB1.out.trans (hb.mono HB1.out.size))
    clear hb
    go_wp2
    go_ret
    exact ⟨by rw [HV.out]; rfl, HB2.out⟩
  | true =>
    rw [htk] at HTK HV0
    have HV : Hid (shapeOK 8 x c = ((n : Int) == 0)) := by
      show _ = _
      rw [HV0.out, hlen]
      by_cases hz : n = 0
      · subst hz; rfl
      · rw [decide_eq_false hz, kno (by omega)]; rfl
    clear HV0 hlen htk
    go_enter Tryz.func30, Tryz.ntmps30
    go_wp2_with fail
    refine HN.out.mono ?_
    rintro e w1 ⟨rfl, hb⟩
    obtain ⟨q0, q1, q3⟩ := HBX.out w1 hb
    have HB1 := Lib.hid (HB.out.trans (hb.mono HB.out.size))
    clear hb HN HBX
    go_wp2_with fail
    refine (HTK.out _).mono ?_
    rintro e w2 ⟨rfl, hb⟩
    have HB2 := Lib.hid (HB1.out.trans (hb.mono HB1.out.size))
    clear hb
    go_wp2
    go_ret
    exact ⟨by rw [HV.out]; rfl, HB2.out⟩
set_option maxRecDepth 100000 in
set_option maxHeartbeats 8000000 in
theorem shape_22 (x y : ByteArray) (A : Option Addr) (n C : Nat) (c : F) (w : World) (hf : Fs w (Lo w.heap.size) (.slice A n C) c) (hx : x.size ≤ 100000) : Calls Tryz.prog 30 #[.agg #[.int .i64 22, .string x, .string y, .slice A n C]] w fun e w' => e = .returned (.bool (shapeOK 22 x c)) ∧ Below w.heap.size w w' := by
  have b1 := below1 w (.cells #[.int .i64 22, .string x, .string y, .slice A n C] 24)
  have HN := Lib.hid (refNm_any x (by omega) (w.alloc (.cells #[.int .i64 22, .string x, .string y, .slice A n C] 24)))
  have HB := Lib.hid b1
  have HF := Lib.hid hf
  have HBX : Hid (∀ W, Below (w.alloc (.cells #[.int .i64 22, .string x, .string y, .slice A n C] 24)).heap.size (w.alloc (.cells #[.int .i64 22, .string x, .string y, .slice A n C] 24)) W → W.cell? ⟨w.heap.size, 0, none⟩ = some (.int .i64 22) ∧ W.cell? ⟨w.heap.size, 1, none⟩ = some (.string x) ∧ W.cell? ⟨w.heap.size, 3, none⟩ = some (.slice A n C)) := fun W hW => by
    have cel : ∀ i v, #[Value.int .i64 22, .string x, .string y, .slice A n C][i]? = some v → W.cell? ⟨w.heap.size, i, none⟩ = some v := fun i v hv => by
      rw [hW.cell (p := ⟨w.heap.size, i, none⟩) (by simp), World.cell?_alloc_at _ _ _ _ rfl]
      simpa using hv
    exact ⟨cel 0 _ rfl, cel 1 _ rfl, cel 3 _ rfl⟩
  obtain ⟨nb, hnb⟩ : ∃ nb, nmB x = nb := ⟨_, rfl⟩
  rw [hnb] at HN
  obtain ⟨eb, heb⟩ : ∃ eb, (x.toList == []) = eb := ⟨_, rfl⟩
  clear b1 hf
  clear heb hnb
  cases x0 : (x.toList == [43, 43]) with
  | true =>
    have HV : Hid (shapeOK 22 x c = rowOK [.one [isPlc]] c) := by show _ = _; unfold shapeOK textOK kidsOK; simp [x0]
    go_enter Tryz.func30, Tryz.ntmps30
    go_wp2_with fail
    refine HN.out.mono ?_
    rintro e w1 ⟨rfl, hb⟩
    obtain ⟨q0, q1, q3⟩ := HBX.out w1 hb
    have HB1 := Lib.hid (HB.out.trans (hb.mono HB.out.size))
    clear hb HN HBX
    have HR := Lib.hid (rr_p A n C c w1 (HF.out.later HB1.out))
    go_wp2_with fail
    refine HR.out.mono ?_
    rintro e w2 ⟨rfl, hb⟩
    have HB2 := Lib.hid (HB1.out.trans (hb.mono HB1.out.size))
    clear hb
    go_wp2
    go_ret
    exact ⟨by rw [HV.out]; rfl, HB2.out⟩
  | false =>
  cases x1 : (x.toList == [45, 45]) with
  | true =>
    have HV : Hid (shapeOK 22 x c = rowOK [.one [isPlc]] c) := by show _ = _; unfold shapeOK textOK kidsOK; simp [x0, x1]
    go_enter Tryz.func30, Tryz.ntmps30
    go_wp2_with fail
    refine HN.out.mono ?_
    rintro e w1 ⟨rfl, hb⟩
    obtain ⟨q0, q1, q3⟩ := HBX.out w1 hb
    have HB1 := Lib.hid (HB.out.trans (hb.mono HB.out.size))
    clear hb HN HBX
    have HR := Lib.hid (rr_p A n C c w1 (HF.out.later HB1.out))
    go_wp2_with fail
    refine HR.out.mono ?_
    rintro e w2 ⟨rfl, hb⟩
    have HB2 := Lib.hid (HB1.out.trans (hb.mono HB1.out.size))
    clear hb
    go_wp2
    go_ret
    exact ⟨by rw [HV.out]; rfl, HB2.out⟩
  | false =>
  have HV : Hid (shapeOK 22 x c = false) := by show _ = _; unfold shapeOK textOK kidsOK; simp [x0, x1]
  go_enter Tryz.func30, Tryz.ntmps30
  go_wp2_with fail
  refine HN.out.mono ?_
  rintro e w1 ⟨rfl, hb⟩
  obtain ⟨q0, q1, q3⟩ := HBX.out w1 hb
  have HB1 := Lib.hid (HB.out.trans (hb.mono HB.out.size))
  clear hb HN HBX
  go_wp2
  go_ret
  exact ⟨by rw [HV.out]; rfl, HB1.out⟩
set_option maxRecDepth 100000 in
set_option maxHeartbeats 8000000 in
theorem shape_28 (x y : ByteArray) (A : Option Addr) (n C : Nat) (c : F) (w : World) (hf : Fs w (Lo w.heap.size) (.slice A n C) c) (hx : x.size ≤ 100000) : Calls Tryz.prog 30 #[.agg #[.int .i64 28, .string x, .string y, .slice A n C]] w fun e w' => e = .returned (.bool (shapeOK 28 x c)) ∧ Below w.heap.size w w' := by
  have b1 := below1 w (.cells #[.int .i64 28, .string x, .string y, .slice A n C] 24)
  have HN := Lib.hid (refNm_any x (by omega) (w.alloc (.cells #[.int .i64 28, .string x, .string y, .slice A n C] 24)))
  have HB := Lib.hid b1
  have HF := Lib.hid hf
  have HBX : Hid (∀ W, Below (w.alloc (.cells #[.int .i64 28, .string x, .string y, .slice A n C] 24)).heap.size (w.alloc (.cells #[.int .i64 28, .string x, .string y, .slice A n C] 24)) W → W.cell? ⟨w.heap.size, 0, none⟩ = some (.int .i64 28) ∧ W.cell? ⟨w.heap.size, 1, none⟩ = some (.string x) ∧ W.cell? ⟨w.heap.size, 3, none⟩ = some (.slice A n C)) := fun W hW => by
    have cel : ∀ i v, #[Value.int .i64 28, .string x, .string y, .slice A n C][i]? = some v → W.cell? ⟨w.heap.size, i, none⟩ = some v := fun i v hv => by
      rw [hW.cell (p := ⟨w.heap.size, i, none⟩) (by simp), World.cell?_alloc_at _ _ _ _ rfl]
      simpa using hv
    exact ⟨cel 0 _ rfl, cel 1 _ rfl, cel 3 _ rfl⟩
  obtain ⟨nb, hnb⟩ : ∃ nb, nmB x = nb := ⟨_, rfl⟩
  rw [hnb] at HN
  obtain ⟨eb, heb⟩ : ∃ eb, (x.toList == []) = eb := ⟨_, rfl⟩
  clear b1 hf
  clear heb hnb
  cases x0 : (x.toList == [45]) with
  | true =>
    have HV : Hid (shapeOK 28 x c = rowOK [.one [isVal]] c) := by show _ = _; unfold shapeOK textOK kidsOK; simp [x0]
    go_enter Tryz.func30, Tryz.ntmps30
    go_wp2_with fail
    refine HN.out.mono ?_
    rintro e w1 ⟨rfl, hb⟩
    obtain ⟨q0, q1, q3⟩ := HBX.out w1 hb
    have HB1 := Lib.hid (HB.out.trans (hb.mono HB.out.size))
    clear hb HN HBX
    have HR := Lib.hid (rr_e A n C c w1 (HF.out.later HB1.out))
    go_wp2_with fail
    refine HR.out.mono ?_
    rintro e w2 ⟨rfl, hb⟩
    have HB2 := Lib.hid (HB1.out.trans (hb.mono HB1.out.size))
    clear hb
    go_wp2
    go_ret
    exact ⟨by rw [HV.out]; rfl, HB2.out⟩
  | false =>
  cases x1 : (x.toList == [33]) with
  | true =>
    have HV : Hid (shapeOK 28 x c = rowOK [.one [isVal]] c) := by show _ = _; unfold shapeOK textOK kidsOK; simp [x0, x1]
    go_enter Tryz.func30, Tryz.ntmps30
    go_wp2_with fail
    refine HN.out.mono ?_
    rintro e w1 ⟨rfl, hb⟩
    obtain ⟨q0, q1, q3⟩ := HBX.out w1 hb
    have HB1 := Lib.hid (HB.out.trans (hb.mono HB.out.size))
    clear hb HN HBX
    have HR := Lib.hid (rr_e A n C c w1 (HF.out.later HB1.out))
    go_wp2_with fail
    refine HR.out.mono ?_
    rintro e w2 ⟨rfl, hb⟩
    have HB2 := Lib.hid (HB1.out.trans (hb.mono HB1.out.size))
    clear hb
    go_wp2
    go_ret
    exact ⟨by rw [HV.out]; rfl, HB2.out⟩
  | false =>
  cases x2 : (x.toList == [94]) with
  | true =>
    have HV : Hid (shapeOK 28 x c = rowOK [.one [isVal]] c) := by show _ = _; unfold shapeOK textOK kidsOK; simp [x0, x1, x2]
    go_enter Tryz.func30, Tryz.ntmps30
    go_wp2_with fail
    refine HN.out.mono ?_
    rintro e w1 ⟨rfl, hb⟩
    obtain ⟨q0, q1, q3⟩ := HBX.out w1 hb
    have HB1 := Lib.hid (HB.out.trans (hb.mono HB.out.size))
    clear hb HN HBX
    have HR := Lib.hid (rr_e A n C c w1 (HF.out.later HB1.out))
    go_wp2_with fail
    refine HR.out.mono ?_
    rintro e w2 ⟨rfl, hb⟩
    have HB2 := Lib.hid (HB1.out.trans (hb.mono HB1.out.size))
    clear hb
    go_wp2
    go_ret
    exact ⟨by rw [HV.out]; rfl, HB2.out⟩
  | false =>
  cases x3 : (x.toList == [42]) with
  | true =>
    have HV : Hid (shapeOK 28 x c = rowOK [.one [isVal]] c) := by show _ = _; unfold shapeOK textOK kidsOK; simp [x0, x1, x2, x3]
    go_enter Tryz.func30, Tryz.ntmps30
    go_wp2_with fail
    refine HN.out.mono ?_
    rintro e w1 ⟨rfl, hb⟩
    obtain ⟨q0, q1, q3⟩ := HBX.out w1 hb
    have HB1 := Lib.hid (HB.out.trans (hb.mono HB.out.size))
    clear hb HN HBX
    have HR := Lib.hid (rr_e A n C c w1 (HF.out.later HB1.out))
    go_wp2_with fail
    refine HR.out.mono ?_
    rintro e w2 ⟨rfl, hb⟩
    have HB2 := Lib.hid (HB1.out.trans (hb.mono HB1.out.size))
    clear hb
    go_wp2
    go_ret
    exact ⟨by rw [HV.out]; rfl, HB2.out⟩
  | false =>
  cases x4 : (x.toList == [38]) with
  | true =>
    have HV : Hid (shapeOK 28 x c = rowOK [.one [isVal]] c) := by show _ = _; unfold shapeOK textOK kidsOK; simp [x0, x1, x2, x3, x4]
    go_enter Tryz.func30, Tryz.ntmps30
    go_wp2_with fail
    refine HN.out.mono ?_
    rintro e w1 ⟨rfl, hb⟩
    obtain ⟨q0, q1, q3⟩ := HBX.out w1 hb
    have HB1 := Lib.hid (HB.out.trans (hb.mono HB.out.size))
    clear hb HN HBX
    have HR := Lib.hid (rr_e A n C c w1 (HF.out.later HB1.out))
    go_wp2_with fail
    refine HR.out.mono ?_
    rintro e w2 ⟨rfl, hb⟩
    have HB2 := Lib.hid (HB1.out.trans (hb.mono HB1.out.size))
    clear hb
    go_wp2
    go_ret
    exact ⟨by rw [HV.out]; rfl, HB2.out⟩
  | false =>
  cases x5 : (x.toList == [43]) with
  | true =>
    have HV : Hid (shapeOK 28 x c = rowOK [.one [isVal]] c) := by show _ = _; unfold shapeOK textOK kidsOK; simp [x0, x1, x2, x3, x4, x5]
    go_enter Tryz.func30, Tryz.ntmps30
    go_wp2_with fail
    refine HN.out.mono ?_
    rintro e w1 ⟨rfl, hb⟩
    obtain ⟨q0, q1, q3⟩ := HBX.out w1 hb
    have HB1 := Lib.hid (HB.out.trans (hb.mono HB.out.size))
    clear hb HN HBX
    have HR := Lib.hid (rr_e A n C c w1 (HF.out.later HB1.out))
    go_wp2_with fail
    refine HR.out.mono ?_
    rintro e w2 ⟨rfl, hb⟩
    have HB2 := Lib.hid (HB1.out.trans (hb.mono HB1.out.size))
    clear hb
    go_wp2
    go_ret
    exact ⟨by rw [HV.out]; rfl, HB2.out⟩
  | false =>
  have HV : Hid (shapeOK 28 x c = false) := by show _ = _; unfold shapeOK textOK kidsOK; simp [x0, x1, x2, x3, x4, x5]
  go_enter Tryz.func30, Tryz.ntmps30
  go_wp2_with fail
  refine HN.out.mono ?_
  rintro e w1 ⟨rfl, hb⟩
  obtain ⟨q0, q1, q3⟩ := HBX.out w1 hb
  have HB1 := Lib.hid (HB.out.trans (hb.mono HB.out.size))
  clear hb HN HBX
  go_wp2
  go_ret
  exact ⟨by rw [HV.out]; rfl, HB1.out⟩
set_option maxRecDepth 100000 in
set_option maxHeartbeats 8000000 in
theorem shape_21n (x y : ByteArray) (A : Option Addr) (n C : Nat) (c : F) (w : World) (hf : Fs w (Lo w.heap.size) (.slice A n C) c) (hx : x.size ≤ 100000) (hp : (x.toList == [58, 61]) = false) : Calls Tryz.prog 30 #[.agg #[.int .i64 21, .string x, .string y, .slice A n C]] w fun e w' => e = .returned (.bool (shapeOK 21 x c)) ∧ Below w.heap.size w w' := by
  have b1 := below1 w (.cells #[.int .i64 21, .string x, .string y, .slice A n C] 24)
  have HN := Lib.hid (refNm_any x (by omega) (w.alloc (.cells #[.int .i64 21, .string x, .string y, .slice A n C] 24)))
  have HB := Lib.hid b1
  have HF := Lib.hid hf
  have HBX : Hid (∀ W, Below (w.alloc (.cells #[.int .i64 21, .string x, .string y, .slice A n C] 24)).heap.size (w.alloc (.cells #[.int .i64 21, .string x, .string y, .slice A n C] 24)) W → W.cell? ⟨w.heap.size, 0, none⟩ = some (.int .i64 21) ∧ W.cell? ⟨w.heap.size, 1, none⟩ = some (.string x) ∧ W.cell? ⟨w.heap.size, 3, none⟩ = some (.slice A n C)) := fun W hW => by
    have cel : ∀ i v, #[Value.int .i64 21, .string x, .string y, .slice A n C][i]? = some v → W.cell? ⟨w.heap.size, i, none⟩ = some v := fun i v hv => by
      rw [hW.cell (p := ⟨w.heap.size, i, none⟩) (by simp), World.cell?_alloc_at _ _ _ _ rfl]
      simpa using hv
    exact ⟨cel 0 _ rfl, cel 1 _ rfl, cel 3 _ rfl⟩
  obtain ⟨nb, hnb⟩ : ∃ nb, nmB x = nb := ⟨_, rfl⟩
  rw [hnb] at HN
  obtain ⟨eb, heb⟩ : ∃ eb, (x.toList == []) = eb := ⟨_, rfl⟩
  clear b1 hf
  clear heb hnb
  cases x0 : (x.toList == [61]) with
  | true =>
    have HV : Hid (shapeOK 21 x c = rowOK [.one [isPlc], .one [isVal]] c) := by show _ = _; unfold shapeOK textOK kidsOK; simp [hp, x0]
    go_enter Tryz.func30, Tryz.ntmps30
    go_wp2_with fail
    refine HN.out.mono ?_
    rintro e w1 ⟨rfl, hb⟩
    obtain ⟨q0, q1, q3⟩ := HBX.out w1 hb
    have HB1 := Lib.hid (HB.out.trans (hb.mono HB.out.size))
    clear hb HN HBX
    have HR := Lib.hid (rr_pe A n C c w1 (HF.out.later HB1.out))
    go_wp2_with fail
    refine HR.out.mono ?_
    rintro e w2 ⟨rfl, hb⟩
    have HB2 := Lib.hid (HB1.out.trans (hb.mono HB1.out.size))
    clear hb
    go_wp2
    go_ret
    exact ⟨by rw [HV.out]; rfl, HB2.out⟩
  | false =>
  cases x1 : (x.toList == [43, 61]) with
  | true =>
    have HV : Hid (shapeOK 21 x c = rowOK [.one [isPlc], .one [isVal]] c) := by show _ = _; unfold shapeOK textOK kidsOK; simp [hp, x0, x1]
    go_enter Tryz.func30, Tryz.ntmps30
    go_wp2_with fail
    refine HN.out.mono ?_
    rintro e w1 ⟨rfl, hb⟩
    obtain ⟨q0, q1, q3⟩ := HBX.out w1 hb
    have HB1 := Lib.hid (HB.out.trans (hb.mono HB.out.size))
    clear hb HN HBX
    have HR := Lib.hid (rr_pe A n C c w1 (HF.out.later HB1.out))
    go_wp2_with fail
    refine HR.out.mono ?_
    rintro e w2 ⟨rfl, hb⟩
    have HB2 := Lib.hid (HB1.out.trans (hb.mono HB1.out.size))
    clear hb
    go_wp2
    go_ret
    exact ⟨by rw [HV.out]; rfl, HB2.out⟩
  | false =>
  cases x2 : (x.toList == [45, 61]) with
  | true =>
    have HV : Hid (shapeOK 21 x c = rowOK [.one [isPlc], .one [isVal]] c) := by show _ = _; unfold shapeOK textOK kidsOK; simp [hp, x0, x1, x2]
    go_enter Tryz.func30, Tryz.ntmps30
    go_wp2_with fail
    refine HN.out.mono ?_
    rintro e w1 ⟨rfl, hb⟩
    obtain ⟨q0, q1, q3⟩ := HBX.out w1 hb
    have HB1 := Lib.hid (HB.out.trans (hb.mono HB.out.size))
    clear hb HN HBX
    have HR := Lib.hid (rr_pe A n C c w1 (HF.out.later HB1.out))
    go_wp2_with fail
    refine HR.out.mono ?_
    rintro e w2 ⟨rfl, hb⟩
    have HB2 := Lib.hid (HB1.out.trans (hb.mono HB1.out.size))
    clear hb
    go_wp2
    go_ret
    exact ⟨by rw [HV.out]; rfl, HB2.out⟩
  | false =>
  cases x3 : (x.toList == [42, 61]) with
  | true =>
    have HV : Hid (shapeOK 21 x c = rowOK [.one [isPlc], .one [isVal]] c) := by show _ = _; unfold shapeOK textOK kidsOK; simp [hp, x0, x1, x2, x3]
    go_enter Tryz.func30, Tryz.ntmps30
    go_wp2_with fail
    refine HN.out.mono ?_
    rintro e w1 ⟨rfl, hb⟩
    obtain ⟨q0, q1, q3⟩ := HBX.out w1 hb
    have HB1 := Lib.hid (HB.out.trans (hb.mono HB.out.size))
    clear hb HN HBX
    have HR := Lib.hid (rr_pe A n C c w1 (HF.out.later HB1.out))
    go_wp2_with fail
    refine HR.out.mono ?_
    rintro e w2 ⟨rfl, hb⟩
    have HB2 := Lib.hid (HB1.out.trans (hb.mono HB1.out.size))
    clear hb
    go_wp2
    go_ret
    exact ⟨by rw [HV.out]; rfl, HB2.out⟩
  | false =>
  cases x4 : (x.toList == [47, 61]) with
  | true =>
    have HV : Hid (shapeOK 21 x c = rowOK [.one [isPlc], .one [isVal]] c) := by show _ = _; unfold shapeOK textOK kidsOK; simp [hp, x0, x1, x2, x3, x4]
    go_enter Tryz.func30, Tryz.ntmps30
    go_wp2_with fail
    refine HN.out.mono ?_
    rintro e w1 ⟨rfl, hb⟩
    obtain ⟨q0, q1, q3⟩ := HBX.out w1 hb
    have HB1 := Lib.hid (HB.out.trans (hb.mono HB.out.size))
    clear hb HN HBX
    have HR := Lib.hid (rr_pe A n C c w1 (HF.out.later HB1.out))
    go_wp2_with fail
    refine HR.out.mono ?_
    rintro e w2 ⟨rfl, hb⟩
    have HB2 := Lib.hid (HB1.out.trans (hb.mono HB1.out.size))
    clear hb
    go_wp2
    go_ret
    exact ⟨by rw [HV.out]; rfl, HB2.out⟩
  | false =>
  cases x5 : (x.toList == [37, 61]) with
  | true =>
    have HV : Hid (shapeOK 21 x c = rowOK [.one [isPlc], .one [isVal]] c) := by show _ = _; unfold shapeOK textOK kidsOK; simp [hp, x0, x1, x2, x3, x4, x5]
    go_enter Tryz.func30, Tryz.ntmps30
    go_wp2_with fail
    refine HN.out.mono ?_
    rintro e w1 ⟨rfl, hb⟩
    obtain ⟨q0, q1, q3⟩ := HBX.out w1 hb
    have HB1 := Lib.hid (HB.out.trans (hb.mono HB.out.size))
    clear hb HN HBX
    have HR := Lib.hid (rr_pe A n C c w1 (HF.out.later HB1.out))
    go_wp2_with fail
    refine HR.out.mono ?_
    rintro e w2 ⟨rfl, hb⟩
    have HB2 := Lib.hid (HB1.out.trans (hb.mono HB1.out.size))
    clear hb
    go_wp2
    go_ret
    exact ⟨by rw [HV.out]; rfl, HB2.out⟩
  | false =>
  have HV : Hid (shapeOK 21 x c = false) := by show _ = _; unfold shapeOK textOK kidsOK; simp [hp, x0, x1, x2, x3, x4, x5]
  go_enter Tryz.func30, Tryz.ntmps30
  go_wp2_with fail
  refine HN.out.mono ?_
  rintro e w1 ⟨rfl, hb⟩
  obtain ⟨q0, q1, q3⟩ := HBX.out w1 hb
  have HB1 := Lib.hid (HB.out.trans (hb.mono HB.out.size))
  clear hb HN HBX
  go_wp2
  go_ret
  exact ⟨by rw [HV.out]; rfl, HB1.out⟩
set_option maxRecDepth 100000 in
set_option maxHeartbeats 8000000 in
theorem shape_21y (x y : ByteArray) (A : Option Addr) (n C : Nat) (c : F) (w : World) (hf : Fs w (Lo w.heap.size) (.slice A n C) c) (hx : x.size ≤ 100000) (hp : (x.toList == [58, 61]) = true) : Calls Tryz.prog 30 #[.agg #[.int .i64 21, .string x, .string y, .slice A n C]] w fun e w' => e = .returned (.bool (shapeOK 21 x c)) ∧ Below w.heap.size w w' := by
  have b1 := below1 w (.cells #[.int .i64 21, .string x, .string y, .slice A n C] 24)
  have HN := Lib.hid (refNm_any x (by omega) (w.alloc (.cells #[.int .i64 21, .string x, .string y, .slice A n C] 24)))
  have HB := Lib.hid b1
  have HF := Lib.hid hf
  have HBX : Hid (∀ W, Below (w.alloc (.cells #[.int .i64 21, .string x, .string y, .slice A n C] 24)).heap.size (w.alloc (.cells #[.int .i64 21, .string x, .string y, .slice A n C] 24)) W → W.cell? ⟨w.heap.size, 0, none⟩ = some (.int .i64 21) ∧ W.cell? ⟨w.heap.size, 1, none⟩ = some (.string x) ∧ W.cell? ⟨w.heap.size, 3, none⟩ = some (.slice A n C)) := fun W hW => by
    have cel : ∀ i v, #[Value.int .i64 21, .string x, .string y, .slice A n C][i]? = some v → W.cell? ⟨w.heap.size, i, none⟩ = some v := fun i v hv => by
      rw [hW.cell (p := ⟨w.heap.size, i, none⟩) (by simp), World.cell?_alloc_at _ _ _ _ rfl]
      simpa using hv
    exact ⟨cel 0 _ rfl, cel 1 _ rfl, cel 3 _ rfl⟩
  obtain ⟨nb, hnb⟩ : ∃ nb, nmB x = nb := ⟨_, rfl⟩
  rw [hnb] at HN
  obtain ⟨eb, heb⟩ : ∃ eb, (x.toList == []) = eb := ⟨_, rfl⟩
  clear b1 hf
  clear heb hnb
  have HV : Hid (shapeOK 21 x c = rowOK [.one [isOf [9]], .one [isVal]] c) := by show _ = _; unfold shapeOK textOK kidsOK; simp [hp]
  go_enter Tryz.func30, Tryz.ntmps30
  go_wp2_with fail
  refine HN.out.mono ?_
  rintro e w1 ⟨rfl, hb⟩
  obtain ⟨q0, q1, q3⟩ := HBX.out w1 hb
  have HB1 := Lib.hid (HB.out.trans (hb.mono HB.out.size))
  clear hb HN HBX
  have HR := Lib.hid (rr_Ne A n C c w1 (HF.out.later HB1.out))
  go_wp2_with fail
  refine HR.out.mono ?_
  rintro e w2 ⟨rfl, hb⟩
  have HB2 := Lib.hid (HB1.out.trans (hb.mono HB1.out.size))
  clear hb
  go_wp2
  go_ret
  exact ⟨by rw [HV.out]; rfl, HB2.out⟩
set_option maxRecDepth 100000 in
set_option maxHeartbeats 8000000 in
theorem shape_29 (x y : ByteArray) (A : Option Addr) (n C : Nat) (c : F) (w : World) (hf : Fs w (Lo w.heap.size) (.slice A n C) c) (hx : x.size ≤ 100000) : Calls Tryz.prog 30 #[.agg #[.int .i64 29, .string x, .string y, .slice A n C]] w fun e w' => e = .returned (.bool (shapeOK 29 x c)) ∧ Below w.heap.size w w' := by
  have b1 := below1 w (.cells #[.int .i64 29, .string x, .string y, .slice A n C] 24)
  have HN := Lib.hid (refNm_any x (by omega) (w.alloc (.cells #[.int .i64 29, .string x, .string y, .slice A n C] 24)))
  have HB := Lib.hid b1
  have HF := Lib.hid hf
  have HBX : Hid (∀ W, Below (w.alloc (.cells #[.int .i64 29, .string x, .string y, .slice A n C] 24)).heap.size (w.alloc (.cells #[.int .i64 29, .string x, .string y, .slice A n C] 24)) W → W.cell? ⟨w.heap.size, 0, none⟩ = some (.int .i64 29) ∧ W.cell? ⟨w.heap.size, 1, none⟩ = some (.string x) ∧ W.cell? ⟨w.heap.size, 3, none⟩ = some (.slice A n C)) := fun W hW => by
    have cel : ∀ i v, #[Value.int .i64 29, .string x, .string y, .slice A n C][i]? = some v → W.cell? ⟨w.heap.size, i, none⟩ = some v := fun i v hv => by
      rw [hW.cell (p := ⟨w.heap.size, i, none⟩) (by simp), World.cell?_alloc_at _ _ _ _ rfl]
      simpa using hv
    exact ⟨cel 0 _ rfl, cel 1 _ rfl, cel 3 _ rfl⟩
  obtain ⟨nb, hnb⟩ : ∃ nb, nmB x = nb := ⟨_, rfl⟩
  rw [hnb] at HN
  obtain ⟨eb, heb⟩ : ∃ eb, (x.toList == []) = eb := ⟨_, rfl⟩
  clear b1 hf
  clear heb hnb
  have HL := Lib.hid (fun W : World => refLevel_any x W)
  by_cases hl : 0 < level x
  · have hli : (0 : Int) < ((level x : Nat) : Int) := by omega
    have HV : Hid (shapeOK 29 x c = rowOK [.one [isVal], .one [isVal]] c) := by show _ = _; unfold shapeOK textOK kidsOK; simp [hl]
    clear hl
    generalize level x = lx at *
    go_enter Tryz.func30, Tryz.ntmps30
    go_wp2_with fail
    refine HN.out.mono ?_
    rintro e w1 ⟨rfl, hb⟩
    obtain ⟨q0, q1, q3⟩ := HBX.out w1 hb
    have HB1 := Lib.hid (HB.out.trans (hb.mono HB.out.size))
    clear hb HN HBX
    go_wp2_with fail
    refine (HL.out _).mono ?_
    rintro e w' ⟨rfl, hw⟩
    subst hw
    have HR := Lib.hid (rr_ee A n C c _ (HF.out.later HB1.out))
    go_wp2_with fail
    refine HR.out.mono ?_
    rintro e w2 ⟨rfl, hb⟩
    have HB2 := Lib.hid (HB1.out.trans (hb.mono HB1.out.size))
    clear hb
    go_wp2
    go_ret
    exact ⟨by rw [HV.out]; rfl, HB2.out⟩
  · have hli : ¬ (0 : Int) < ((level x : Nat) : Int) := by omega
    have HV : Hid (shapeOK 29 x c = false) := by show _ = _; unfold shapeOK textOK kidsOK; simp [hl]
    clear hl
    generalize level x = lx at *
    go_enter Tryz.func30, Tryz.ntmps30
    go_wp2_with fail
    refine HN.out.mono ?_
    rintro e w1 ⟨rfl, hb⟩
    obtain ⟨q0, q1, q3⟩ := HBX.out w1 hb
    have HB1 := Lib.hid (HB.out.trans (hb.mono HB.out.size))
    clear hb HN HBX
    go_wp2_with fail
    refine (HL.out _).mono ?_
    rintro e w' ⟨rfl, hw⟩
    subst hw
    go_wp2
    go_ret
    exact ⟨by rw [HV.out]; rfl, HB1.out⟩
set_option maxRecDepth 100000 in
set_option maxHeartbeats 8000000 in
theorem shape_5 (x y : ByteArray) (A : Option Addr) (n C : Nat) (c : F) (w : World) (hf : Fs w (Lo w.heap.size) (.slice A n C) c) (hx : x.size ≤ 100000) : Calls Tryz.prog 30 #[.agg #[.int .i64 5, .string x, .string y, .slice A n C]] w fun e w' => e = .returned (.bool (shapeOK 5 x c)) ∧ Below w.heap.size w w' := by
  have b1 := below1 w (.cells #[.int .i64 5, .string x, .string y, .slice A n C] 24)
  have HN := Lib.hid (refNm_any x (by omega) (w.alloc (.cells #[.int .i64 5, .string x, .string y, .slice A n C] 24)))
  have HB := Lib.hid b1
  have HF := Lib.hid hf
  have HBX : Hid (∀ W, Below (w.alloc (.cells #[.int .i64 5, .string x, .string y, .slice A n C] 24)).heap.size (w.alloc (.cells #[.int .i64 5, .string x, .string y, .slice A n C] 24)) W → W.cell? ⟨w.heap.size, 0, none⟩ = some (.int .i64 5) ∧ W.cell? ⟨w.heap.size, 1, none⟩ = some (.string x) ∧ W.cell? ⟨w.heap.size, 3, none⟩ = some (.slice A n C)) := fun W hW => by
    have cel : ∀ i v, #[Value.int .i64 5, .string x, .string y, .slice A n C][i]? = some v → W.cell? ⟨w.heap.size, i, none⟩ = some v := fun i v hv => by
      rw [hW.cell (p := ⟨w.heap.size, i, none⟩) (by simp), World.cell?_alloc_at _ _ _ _ rfl]
      simpa using hv
    exact ⟨cel 0 _ rfl, cel 1 _ rfl, cel 3 _ rfl⟩
  obtain ⟨nb, hnb⟩ : ∃ nb, nmB x = nb := ⟨_, rfl⟩
  rw [hnb] at HN
  obtain ⟨eb, heb⟩ : ∃ eb, (x.toList == []) = eb := ⟨_, rfl⟩
  clear b1 hf
  clear heb
  have HV0 : Hid (shapeOK 5 x c = (nb && (rowOK [.one [isTyp, isOf [33]], .one [isVal, isOf [33]]] c && !rowOK [.one [isOf [33]], .one [isOf [33]]] c))) := by show _ = _; rw [← hnb]; unfold shapeOK textOK kidsOK; simp
  clear hnb
  cases nb with
  | false =>
    have HV : Hid (shapeOK 5 x c = false) := by show _ = _; rw [HV0.out]; rfl
    clear HV0
    go_enter Tryz.func30, Tryz.ntmps30
    go_wp2_with fail
    refine HN.out.mono ?_
    rintro e w1 ⟨rfl, hb⟩
    obtain ⟨q0, q1, q3⟩ := HBX.out w1 hb
    have HB1 := Lib.hid (HB.out.trans (hb.mono HB.out.size))
    clear hb HN HBX
    go_wp2
    go_ret
    exact ⟨by rw [HV.out]; rfl, HB1.out⟩
  | true =>
    cases hrow : rowOK [.one [isTyp, isOf [33]], .one [isVal, isOf [33]]] c with
    | false =>
      have HV : Hid (shapeOK 5 x c = false) := by show _ = _; rw [HV0.out, hrow]; rfl
      clear HV0
      go_enter Tryz.func30, Tryz.ntmps30
      go_wp2_with fail
      refine HN.out.mono ?_
      rintro e w1 ⟨rfl, hb⟩
      obtain ⟨q0, q1, q3⟩ := HBX.out w1 hb
      have HB1 := Lib.hid (HB.out.trans (hb.mono HB.out.size))
      clear hb HN HBX
      have HR := Lib.hid (rr_TE A n C c w1 (HF.out.later HB1.out))
      rw [hrow] at HR
      clear hrow
      go_wp2_with fail
      refine HR.out.mono ?_
      rintro e w2 ⟨rfl, hb⟩
      have HB2 := Lib.hid (HB1.out.trans (hb.mono HB1.out.size))
      clear hb
      go_wp2
      go_ret
      exact ⟨by rw [HV.out]; rfl, HB2.out⟩
    | true =>
      obtain ⟨k1, x1, y1, c1, k2, x2, y2, c2, hc⟩ := two_of hrow
      have HVV : Hid (shapeOK 5 x c = !(k1 == 33 && k2 == 33)) := by
        show _ = _
        rw [HV0.out, hrow, hc, row33]; rfl
      obtain ⟨b, off, s1, rfl, hbS, hi0, hat1⟩ := HF.out.at_ (i := 0) (by rw [hc]; rfl)
      obtain ⟨b', off', s2, e, _, hi1, hat2⟩ := HF.out.at_ (i := 1) (by rw [hc]; rfl)
      injection e with e
      injection e with e1 e2
      subst e1; subst e2
      have hb1 : b < w.heap.size := hbS
      have c0 := hat1.c0
      have c4 := hat2.c0
      simp only [Nat.zero_mul, Nat.add_zero, Nat.one_mul] at c0 c4
      have h0n : (0 : Int) < (n : Int) := by omega
      have h1n : (1 : Int) < (n : Int) := by omega
      have HC : Hid (∀ W, Below w.heap.size w W → W.cell? ⟨b, off, none⟩ = some (.int .i64 k1) ∧ W.cell? ⟨b, off + 4, none⟩ = some (.int .i64 k2)) := fun W hW => ⟨(hW.cell (p := ⟨b, off, none⟩) hb1).trans c0, (hW.cell (p := ⟨b, off + 4, none⟩) hb1).trans c4⟩
      clear HV0 hat1 hat2 c0 c4 hbS
      by_cases z1 : k1 = 33
      · subst z1
        by_cases z2 : k2 = 33
        · subst z2
          have HV : Hid (shapeOK 5 x c = false) := by show _ = _; rw [HVV.out]; simp
          clear HVV
          go_enter Tryz.func30, Tryz.ntmps30
          go_wp2_with fail
          refine HN.out.mono ?_
          rintro e w1 ⟨rfl, hb⟩
          obtain ⟨q0, q1, q3⟩ := HBX.out w1 hb
          have HB1 := Lib.hid (HB.out.trans (hb.mono HB.out.size))
          clear hb HN HBX
          have HR := Lib.hid (rr_TE (some ⟨b, off, none⟩) n C c w1 (HF.out.later HB1.out))
          rw [hrow] at HR
          clear hrow
          go_wp2_with fail
          refine HR.out.mono ?_
          rintro e w2 ⟨rfl, hb⟩
          have HB2 := Lib.hid (HB1.out.trans (hb.mono HB1.out.size))
          obtain ⟨m0, m4⟩ := HC.out w2 HB2.out
          clear hb
          go_wp2
          go_ret
          exact ⟨by rw [HV.out]; rfl, HB2.out⟩
        · have z2' : (k2 != 33) = true := by simpa using z2
          have z2'' := kno z2
          have HV : Hid (shapeOK 5 x c = true) := by show _ = _; rw [HVV.out]; simp [z2]
          clear HVV
          go_enter Tryz.func30, Tryz.ntmps30
          go_wp2_with fail
          refine HN.out.mono ?_
          rintro e w1 ⟨rfl, hb⟩
          obtain ⟨q0, q1, q3⟩ := HBX.out w1 hb
          have HB1 := Lib.hid (HB.out.trans (hb.mono HB.out.size))
          clear hb HN HBX
          have HR := Lib.hid (rr_TE (some ⟨b, off, none⟩) n C c w1 (HF.out.later HB1.out))
          rw [hrow] at HR
          clear hrow
          go_wp2_with fail
          refine HR.out.mono ?_
          rintro e w2 ⟨rfl, hb⟩
          have HB2 := Lib.hid (HB1.out.trans (hb.mono HB1.out.size))
          obtain ⟨m0, m4⟩ := HC.out w2 HB2.out
          clear hb
          go_wp2
          go_ret
          exact ⟨by rw [HV.out]; rfl, HB2.out⟩
      · have z1' : (k1 != 33) = true := by simpa using z1
        have z1'' := kno z1
        have HV : Hid (shapeOK 5 x c = true) := by show _ = _; rw [HVV.out]; simp [z1]
        clear HVV
        go_enter Tryz.func30, Tryz.ntmps30
        go_wp2_with fail
        refine HN.out.mono ?_
        rintro e w1 ⟨rfl, hb⟩
        obtain ⟨q0, q1, q3⟩ := HBX.out w1 hb
        have HB1 := Lib.hid (HB.out.trans (hb.mono HB.out.size))
        clear hb HN HBX
        have HR := Lib.hid (rr_TE (some ⟨b, off, none⟩) n C c w1 (HF.out.later HB1.out))
        rw [hrow] at HR
        clear hrow
        go_wp2_with fail
        refine HR.out.mono ?_
        rintro e w2 ⟨rfl, hb⟩
        have HB2 := Lib.hid (HB1.out.trans (hb.mono HB1.out.size))
        obtain ⟨m0, m4⟩ := HC.out w2 HB2.out
        clear hb
        go_wp2
        go_ret
        exact ⟨by rw [HV.out]; rfl, HB2.out⟩
set_option maxRecDepth 100000 in
set_option maxHeartbeats 8000000 in
theorem shape_none (k : Int) (x y : ByteArray) (A : Option Addr) (n C : Nat) (c : F) (w : World) (hf : Fs w (Lo w.heap.size) (.slice A n C) c) (hx : x.size ≤ 100000) (b1 : (k == 1) = false) (b2 : (k == 2) = false) (b3 : (k == 3) = false) (b4 : (k == 4) = false) (b5 : (k == 5) = false) (b6 : (k == 6) = false) (b7 : (k == 7) = false) (b8 : (k == 8) = false) (b9 : (k == 9) = false) (b10 : (k == 10) = false) (b11 : (k == 11) = false) (b12 : (k == 12) = false) (b13 : (k == 13) = false) (b14 : (k == 14) = false) (b15 : (k == 15) = false) (b16 : (k == 16) = false) (b17 : (k == 17) = false) (b18 : (k == 18) = false) (b19 : (k == 19) = false) (b20 : (k == 20) = false) (b21 : (k == 21) = false) (b22 : (k == 22) = false) (b23 : (k == 23) = false) (b24 : (k == 24) = false) (b25 : (k == 25) = false) (b26 : (k == 26) = false) (b27 : (k == 27) = false) (b28 : (k == 28) = false) (b29 : (k == 29) = false) (b30 : (k == 30) = false) (b31 : (k == 31) = false) (b32 : (k == 32) = false) (b33 : (k == 33) = false) : Calls Tryz.prog 30 #[.agg #[.int .i64 k, .string x, .string y, .slice A n C]] w fun e w' => e = .returned (.bool false) ∧ Below w.heap.size w w' := by
  have HN := Lib.hid (refNm_any x (by omega) (w.alloc (.cells #[.int .i64 k, .string x, .string y, .slice A n C] 24)))
  have HB := Lib.hid (below1 w (.cells #[.int .i64 k, .string x, .string y, .slice A n C] 24))
  obtain ⟨nb, hnb⟩ : ∃ nb, nmB x = nb := ⟨_, rfl⟩
  rw [hnb] at HN
  clear hf hnb
  go_enter Tryz.func30, Tryz.ntmps30
  go_wp2_with fail
  refine HN.out.mono ?_
  rintro e w1 ⟨rfl, hb⟩
  have q0 : w1.cell? ⟨w.heap.size, 0, none⟩ = some (.int .i64 k) := by rw [hb.cell (p := ⟨w.heap.size, 0, none⟩) (by simp), World.cell?_alloc_at _ _ _ _ rfl]; rfl
  have HB1 := Lib.hid (HB.out.trans (hb.mono HB.out.size))
  clear hb HN
  go_wp2
  go_ret
  exact ⟨rfl, HB1.out⟩

theorem shape_any (k : Int) (x y : ByteArray) (A : Option Addr) (n C : Nat) (c : F) (w : World) (hf : Fs w (Lo w.heap.size) (.slice A n C) c) (hx : x.size ≤ 100000) : Calls Tryz.prog 30 #[.agg #[.int .i64 k, .string x, .string y, .slice A n C]] w fun e w' => e = .returned (.bool (shapeOK k x c)) ∧ Below w.heap.size w w' := by
  by_cases h1 : k = 1
  · subst h1; exact shape_1 x y A n C c w hf hx
  by_cases h2 : k = 2
  · subst h2; exact shape_2 x y A n C c w hf hx
  by_cases h3 : k = 3
  · subst h3; exact shape_3 x y A n C c w hf hx
  by_cases h4 : k = 4
  · subst h4; exact shape_4 x y A n C c w hf hx
  by_cases h5 : k = 5
  · subst h5; exact shape_5 x y A n C c w hf hx
  by_cases h6 : k = 6
  · subst h6; exact shape_6 x y A n C c w hf hx
  by_cases h7 : k = 7
  · subst h7; exact shape_7 x y A n C c w hf hx
  by_cases h8 : k = 8
  · subst h8; exact shape_8 x y A n C c w hf hx
  by_cases h9 : k = 9
  · subst h9; exact shape_9 x y A n C c w hf hx
  by_cases h10 : k = 10
  · subst h10; exact shape_10 x y A n C c w hf hx
  by_cases h11 : k = 11
  · subst h11; exact shape_11 x y A n C c w hf hx
  by_cases h12 : k = 12
  · subst h12; exact shape_12 x y A n C c w hf hx
  by_cases h13 : k = 13
  · subst h13; exact shape_13 x y A n C c w hf hx
  by_cases h14 : k = 14
  · subst h14; exact shape_14 x y A n C c w hf hx
  by_cases h15 : k = 15
  · subst h15; exact shape_15 x y A n C c w hf hx
  by_cases h16 : k = 16
  · subst h16; exact shape_16 x y A n C c w hf hx
  by_cases h17 : k = 17
  · subst h17; exact shape_17 x y A n C c w hf hx
  by_cases h18 : k = 18
  · subst h18; exact shape_18 x y A n C c w hf hx
  by_cases h19 : k = 19
  · subst h19; exact shape_19 x y A n C c w hf hx
  by_cases h20 : k = 20
  · subst h20; exact shape_20 x y A n C c w hf hx
  by_cases h21 : k = 21
  · subst h21
    cases hp : (x.toList == [58, 61]) with
    | true => exact shape_21y x y A n C c w hf hx hp
    | false => exact shape_21n x y A n C c w hf hx hp
  by_cases h22 : k = 22
  · subst h22; exact shape_22 x y A n C c w hf hx
  by_cases h23 : k = 23
  · subst h23; exact shape_23 x y A n C c w hf hx
  by_cases h24 : k = 24
  · subst h24; exact shape_24 x y A n C c w hf hx
  by_cases h25 : k = 25
  · subst h25; exact shape_25 x y A n C c w hf hx
  by_cases h26 : k = 26
  · subst h26; exact shape_26 x y A n C c w hf hx
  by_cases h27 : k = 27
  · subst h27; exact shape_27 x y A n C c w hf hx
  by_cases h28 : k = 28
  · subst h28; exact shape_28 x y A n C c w hf hx
  by_cases h29 : k = 29
  · subst h29; exact shape_29 x y A n C c w hf hx
  by_cases h30 : k = 30
  · subst h30; exact shape_30 x y A n C c w hf hx
  by_cases h31 : k = 31
  · subst h31; exact shape_31 x y A n C c w hf hx
  by_cases h32 : k = 32
  · subst h32; exact shape_32 x y A n C c w hf hx
  by_cases h33 : k = 33
  · subst h33; exact shape_33 x y A n C c w hf hx
  rw [show shapeOK k x c = false by unfold shapeOK kidsOK; simp only [h1, h2, h3, h4, h5, h6, h7, h8, h9, h10, h11, h12, h13, h14, h15, h16, h17, h18, h19, h20, h21, h22, h23, h24, h25, h26, h27, h28, h29, h30, h31, h32, h33, or_self, if_false, Bool.and_false]]
  exact shape_none k x y A n C c w hf hx (kno h1) (kno h2) (kno h3) (kno h4) (kno h5) (kno h6) (kno h7) (kno h8) (kno h9) (kno h10) (kno h11) (kno h12) (kno h13) (kno h14) (kno h15) (kno h16) (kno h17) (kno h18) (kno h19) (kno h20) (kno h21) (kno h22) (kno h23) (kno h24) (kno h25) (kno h26) (kno h27) (kno h28) (kno h29) (kno h30) (kno h31) (kno h32) (kno h33)
end Go.Proofs.YtoecimgmghlfpaaGreatDoor.Tree
