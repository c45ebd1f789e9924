/-
  Layer 5 (tree): the chapter's examples hold in the program. Written by gen_treeknown.py.
-/
import Derived.Test.YtoecimgmghlfpaaDoorTreeMake
namespace Go.Proofs.YtoecimgmghlfpaaDoor.Tree
open Go.ChangeShapes Go.WideShapes Go.ChangeAt Go.RowKit Mem
set_option linter.unusedVariables false

def cNode (k : Int) (x : ByteArray) (c : F) : Cd TB := ⟨fun v W => NodeIs W v k x c, fun v W W' hb h => h.later hb⟩
/-- A slice of one element, at the front of its array. -/
def Row1 (c : F) (v : Value) (W : World) : Prop := ∃ g, v = .slice (some ⟨g, 0, none⟩) 1 1 ∧ Fs W (Lo W.heap.size) (.slice (some ⟨g, 0, none⟩) 1 1) c
def cRow1 (c : F) : Cd TB := ⟨Row1 c, fun v W W' hb ⟨g, e, h⟩ => ⟨g, e, h.later hb⟩⟩

def xF : F := .cons 9 ⟨#[98]⟩ ⟨#[]⟩ .nil (.cons 9 ⟨#[99]⟩ ⟨#[]⟩ .nil .nil)
def mF : F := .cons 28 ⟨#[45]⟩ ⟨#[]⟩ (.cons 9 ⟨#[120]⟩ ⟨#[]⟩ .nil .nil) .nil
theorem p1 : parenI 29 ⟨#[45]⟩ (.cons 9 ⟨#[97]⟩ ⟨#[]⟩ .nil (.cons 29 ⟨#[45]⟩ ⟨#[]⟩ xF .nil)) 1 = true := by decide +kernel
theorem p2 : parenI 29 ⟨#[45]⟩ (.cons 29 ⟨#[45]⟩ ⟨#[]⟩ xF (.cons 9 ⟨#[97]⟩ ⟨#[]⟩ .nil .nil)) 0 = false := by decide +kernel
theorem p3 : parenI 28 ⟨#[45]⟩ mF 0 = true := by decide +kernel
theorem r1 : rightT nmB tkB 1 ⟨#[]⟩ ⟨#[]⟩ .nil = false := by decide +kernel
theorem r2 : rightT nmB tkB 1 ⟨#[]⟩ ⟨#[]⟩ (.cons 2 ⟨#[112]⟩ ⟨#[]⟩ .nil (.cons 4 ⟨#[97]⟩ ⟨#[]⟩ (.cons 29 ⟨#[45]⟩ ⟨#[]⟩ xF .nil) .nil)) = true := by decide +kernel
theorem l1 : level ⟨#[60, 60]⟩ = 5 := by decide +kernel
theorem sm2 : Small (.cons 2 ⟨#[112]⟩ ⟨#[]⟩ .nil (.cons 4 ⟨#[97]⟩ ⟨#[]⟩ (.cons 29 ⟨#[45]⟩ ⟨#[]⟩ xF .nil) .nil)) := by
  simp only [Small, xF]; decide

set_option maxRecDepth 100000 in
set_option maxHeartbeats 16000000 in
theorem known_any (w : World) (hT : Lex.Tab w) : Calls Tryd.prog 6 #[] w fun e w' => e = .returned (.bool true) ∧ Below w.heap.size w w' := by
  have HTW := Lib.hid hT
  have HN1 := Lib.hid (lawName_any ⟨#[98]⟩ w)
  clear hT
  go_enter Tryd.func6, Tryd.ntmps6
  go_wp2_with fail
  refine HN1.out.mono ?_
  rintro e w1 ⟨hb1, v1, rfl, A1, n1, C1, rfl, hf1⟩
  have HB1 := Lib.hid hb1; have HF1 := Lib.hid hf1
  have HN2 := Lib.hid (lawName_any ⟨#[99]⟩ w1)
  clear hb1 hf1 HN1
  go_wp2_with fail
  refine HN2.out.mono ?_
  rintro e w2 ⟨hb2, v2, rfl, A2, n2, C2, rfl, hf2⟩
  have HB2 := Lib.hid (HB1.out.trans (hb2.mono HB1.out.size))
  have HN3 := Lib.hid (lawBin_any ⟨#[45]⟩ 9 9 ⟨#[98]⟩ ⟨#[99]⟩ A1 A2 n1 C1 n2 C2 .nil .nil w2 (HF1.out.later hb2) hf2)
  clear hb2 hf2 HN2 HF1
  go_wp2_with fail
  refine HN3.out.mono ?_
  rintro e w3 ⟨hb3, v3, rfl, Ax, nx, Cx, rfl, hf3⟩
  have HB3 := Lib.hid (HB2.out.trans (hb3.mono HB2.out.size))
  have HF3 := Lib.hid (show Fs w3 (Lo w3.heap.size) (.slice Ax nx Cx) xF from hf3)
  have b4 := below1 w3 (.cells #[.int .i64 29, .string ⟨#[45]⟩, .string ⟨#[]⟩, .slice Ax nx Cx] 24)
  have HB4 := Lib.hid b4
  have HN4 := Lib.hid (lawName_any ⟨#[120]⟩ (w3.alloc (.cells #[.int .i64 29, .string ⟨#[45]⟩, .string ⟨#[]⟩, .slice Ax nx Cx] 24)))
  clear hb3 hf3 HN3 b4
  go_wp2_with fail
  refine HN4.out.mono ?_
  rintro e w5 ⟨hb5, v5, rfl, A5, n5, C5, rfl, hf5⟩
  have HB5 := Lib.hid hb5; have HF5 := Lib.hid hf5
  clear hb5 hf5 HN4
  go_wp2
  obtain ⟨WM, hWM⟩ : ∃ WM, (((w5.alloc (.cells #[.int .i64 9, .string ⟨#[120]⟩, .string ⟨#[]⟩, .slice A5 n5 C5] 24)).alloc (.cells #[.int .i64 28, .string ⟨#[45]⟩, .string ⟨#[]⟩, .slice (some ⟨w5.heap.size, 0, none⟩) 1 1] 24)).alloc (.cells #[.int .i64 28, .string ⟨#[45]⟩, .string ⟨#[]⟩, .slice (some ⟨w5.heap.size + 1, 0, none⟩) 1 1] 24)) = WM := ⟨_, rfl⟩
  rw [hWM]
  have hfa := fs_one w5 9 ⟨#[120]⟩ A5 n5 C5 .nil HF5.out
  have c1 := below1 w5 (.cells #[.int .i64 9, .string ⟨#[120]⟩, .string ⟨#[]⟩, .slice A5 n5 C5] 24)
  have hfb := fs_one (w5.alloc (.cells #[.int .i64 9, .string ⟨#[120]⟩, .string ⟨#[]⟩, .slice A5 n5 C5] 24)) 28 ⟨#[45]⟩ (some ⟨w5.heap.size, 0, none⟩) 1 1 (.cons 9 ⟨#[120]⟩ ⟨#[]⟩ .nil .nil) (by simpa using hfa)
  have c2 := below2 w5 (.cells #[.int .i64 9, .string ⟨#[120]⟩, .string ⟨#[]⟩, .slice A5 n5 C5] 24) (.cells #[.int .i64 28, .string ⟨#[45]⟩, .string ⟨#[]⟩, .slice (some ⟨w5.heap.size, 0, none⟩) 1 1] 24)
  have c3 : Below w5.heap.size w5 WM := by rw [← hWM]; exact below3 _ _ _ _
  have c33 : Below ((w5.alloc (.cells #[.int .i64 9, .string ⟨#[120]⟩, .string ⟨#[]⟩, .slice A5 n5 C5] 24)).alloc (.cells #[.int .i64 28, .string ⟨#[45]⟩, .string ⟨#[]⟩, .slice (some ⟨w5.heap.size, 0, none⟩) 1 1] 24)).heap.size ((w5.alloc (.cells #[.int .i64 9, .string ⟨#[120]⟩, .string ⟨#[]⟩, .slice A5 n5 C5] 24)).alloc (.cells #[.int .i64 28, .string ⟨#[45]⟩, .string ⟨#[]⟩, .slice (some ⟨w5.heap.size, 0, none⟩) 1 1] 24)) WM := by rw [← hWM]; exact below1 _ _
  have hmb : Boxed WM (w5.heap.size + 1 + 1) 28 ⟨#[45]⟩ ⟨#[]⟩ (.slice (some ⟨w5.heap.size + 1, 0, none⟩) 1 1) := by
    have := boxed_new ((w5.alloc (.cells #[.int .i64 9, .string ⟨#[120]⟩, .string ⟨#[]⟩, .slice A5 n5 C5] 24)).alloc (.cells #[.int .i64 28, .string ⟨#[45]⟩, .string ⟨#[]⟩, .slice (some ⟨w5.heap.size, 0, none⟩) 1 1] 24)) 28 ⟨#[45]⟩ ⟨#[]⟩ (.slice (some ⟨w5.heap.size + 1, 0, none⟩) 1 1)
    rw [hWM] at this
    simpa using this
  have hmf : Fs WM (Lo WM.heap.size) (.slice (some ⟨w5.heap.size + 1, 0, none⟩) 1 1) mF := by
    have h0 : Fs ((w5.alloc (.cells #[.int .i64 9, .string ⟨#[120]⟩, .string ⟨#[]⟩, .slice A5 n5 C5] 24)).alloc (.cells #[.int .i64 28, .string ⟨#[45]⟩, .string ⟨#[]⟩, .slice (some ⟨w5.heap.size, 0, none⟩) 1 1] 24)) (Lo ((w5.alloc (.cells #[.int .i64 9, .string ⟨#[120]⟩, .string ⟨#[]⟩, .slice A5 n5 C5] 24)).alloc (.cells #[.int .i64 28, .string ⟨#[45]⟩, .string ⟨#[]⟩, .slice (some ⟨w5.heap.size, 0, none⟩) 1 1] 24)).heap.size) (.slice (some ⟨w5.heap.size + 1, 0, none⟩) 1 1) mF := by simpa [mF] using hfb
    exact (h0.below c33 (Nat.le_refl _)).up c33.size
  have hxb : Boxed WM w3.heap.size 29 ⟨#[45]⟩ ⟨#[]⟩ (.slice Ax nx Cx) := ((boxed_new w3 _ _ _ _).below HB5.out (by simp)).below c3 (Nat.lt_of_lt_of_le (by simp) HB5.out.size)
  have hw3 : Below w3.heap.size w3 WM := HB4.out.trans ((HB5.out.trans (c3.mono HB5.out.size)).mono HB4.out.size)
  have hxf := (HF3.out.below hw3 (Nat.le_refl _)).up hw3.size
  have hwm : Below w.heap.size w WM := HB3.out.trans (hw3.mono HB3.out.size)
  have HWM := Lib.hid hwm
  have HV : Hid (∀ W, Below WM.heap.size WM W → (W.cell? ⟨w3.heap.size, 0, none⟩ = some (.int .i64 29) ∧ W.cell? ⟨w3.heap.size, 1, none⟩ = some (.string ⟨#[45]⟩) ∧ W.cell? ⟨w3.heap.size, 2, none⟩ = some (.string ⟨#[]⟩) ∧ W.cell? ⟨w3.heap.size, 3, none⟩ = some (.slice Ax nx Cx)) ∧
      (W.cell? ⟨w5.heap.size + 1 + 1, 0, none⟩ = some (.int .i64 28) ∧ W.cell? ⟨w5.heap.size + 1 + 1, 1, none⟩ = some (.string ⟨#[45]⟩) ∧ W.cell? ⟨w5.heap.size + 1 + 1, 2, none⟩ = some (.string ⟨#[]⟩) ∧ W.cell? ⟨w5.heap.size + 1 + 1, 3, none⟩ = some (.slice (some ⟨w5.heap.size + 1, 0, none⟩) 1 1))) := fun W hW =>
    ⟨(hxb.below hW hxb.lt).cells, (hmb.below hW hmb.lt).cells⟩
  have HXF : Hid (∀ W, Below WM.heap.size WM W → Fs W (Lo W.heap.size) (.slice Ax nx Cx) xF) := fun W hW => hxf.later hW
  have HMF : Hid (∀ W, Below WM.heap.size WM W → Fs W (Lo W.heap.size) (.slice (some ⟨w5.heap.size + 1, 0, none⟩) 1 1) mF) := fun W hW => hmf.later hW
  have HT : Hid (∀ W, Below WM.heap.size WM W → Lex.Tab W) := fun W hW => (HTW.out.below hwm HTW.out.pos).below hW (Nat.lt_of_lt_of_le HTW.out.pos hwm.size)
  have HSZ : Hid (∀ W, Below WM.heap.size WM W → Calls Tryd.prog 10 #[.agg #[.int .i64 29, .string ⟨#[45]⟩, .string ⟨#[]⟩, .slice Ax nx Cx]] W fun e w' => e = .returned (.int .i64 3) ∧ Below W.heap.size W w') := fun W hW => size_any 2 29 ⟨#[45]⟩ ⟨#[]⟩ Ax nx Cx xF W (by decide) (by decide) (hxf.later hW)
  have PM := Lib.hid p3
  have HSM := Lib.hid sm2
  have HR := Lib.hid r2
  clear hWM hfa c1 hfb c2 c3 c33 hmb hmf hxb hw3 hxf hwm HF5 HB5 HB4 HF3 HB3 HB2 HB1 HTW
  refine region_rel (fun W W' => Below W.heap.size W W') [cNode 9 ⟨#[97]⟩ .nil, Cd.is (Value.agg #[.int .i64 29, .string ⟨#[45]⟩, .string ⟨#[]⟩, .slice Ax nx Cx]), cNode 29 ⟨#[45]⟩ (.cons 9 ⟨#[97]⟩ ⟨#[]⟩ .nil (.cons 29 ⟨#[45]⟩ ⟨#[]⟩ xF .nil)), Cd.is (Value.bool true), Cd.is (Value.bool true), Cd.is (Value.agg #[.int .i64 29, .string ⟨#[45]⟩, .string ⟨#[]⟩, .slice Ax nx Cx]), cNode 9 ⟨#[97]⟩ .nil, cNode 29 ⟨#[45]⟩ (.cons 29 ⟨#[45]⟩ ⟨#[]⟩ xF (.cons 9 ⟨#[97]⟩ ⟨#[]⟩ .nil .nil)), Cd.is (Value.bool false), Cd.is (Value.bool true), Cd.is (Value.bool true), Cd.is (Value.bool true), Cd.is (Value.agg #[.int .i64 28, .string ⟨#[45]⟩, .string ⟨#[]⟩, .slice (some ⟨w5.heap.size + 1, 0, none⟩) 1 1]), Cd.is (Value.bool true), Cd.is (Value.bool true), Cd.is (Value.bool true), Cd.is (Value.agg #[.int .i64 1, .string ⟨#[]⟩, .string ⟨#[]⟩, .slice none 0 0]), Cd.is (Value.bool false), Cd.is (Value.bool true), Cd.is (Value.bool true), Cd.is (Value.bool true), Cd.is (Value.agg #[.int .i64 29, .string ⟨#[45]⟩, .string ⟨#[]⟩, .slice Ax nx Cx]), cNode 4 ⟨#[97]⟩ (.cons 29 ⟨#[45]⟩ ⟨#[]⟩ xF .nil), cRow1 (.cons 4 ⟨#[97]⟩ ⟨#[]⟩ (.cons 29 ⟨#[45]⟩ ⟨#[]⟩ xF .nil) .nil), cNode 1 ⟨#[]⟩ (.cons 2 ⟨#[112]⟩ ⟨#[]⟩ .nil (.cons 4 ⟨#[97]⟩ ⟨#[]⟩ (.cons 29 ⟨#[45]⟩ ⟨#[]⟩ xF .nil) .nil)), Cd.is (Value.bool true), Cd.is (Value.bool true), Cd.is (Value.bool true), Cd.is (Value.agg #[.int .i64 29, .string ⟨#[45]⟩, .string ⟨#[]⟩, .slice Ax nx Cx]), Cd.is (Value.int .i64 3), Cd.is (Value.bool true), Cd.is (Value.bool true), Cd.is (Value.bool true), Cd.is (Value.int .i64 5), Cd.is (Value.bool true), Cd.is (Value.bool true), Cd.is (Value.bool true)] (by kernel_rfl) (by decide) (by kernel_rfl) (Below.refl _ _) (fun _ _ _ h k => h.trans (k.mono h.size)) ?steps ?behind
  case steps =>
    intro xv W hW a ha
    replace hW := undrew hW
    simp only [fillA] at ha
    simp only [List.setIfInBounds_toArray, List.set_cons_succ, List.set_cons_zero, Nat.zero_add, Nat.reduceAdd] at ha
    subst ha
    refine ⟨fun hd K hK => ?s0, fun hd K hK => ?s1, fun hd K hK => ?s2, fun hd K hK => ?s3, fun hd K hK => ?s4, fun hd K hK => ?s5, fun hd K hK => ?s6, fun hd K hK => ?s7, fun hd K hK => ?s8, fun hd K hK => ?s9, fun hd K hK => ?s10, fun hd K hK => ?s11, fun hd K hK => ?s12, fun hd K hK => ?s13, fun hd K hK => ?s14, fun hd K hK => ?s15, fun hd K hK => ?s16, fun hd K hK => ?s17, fun hd K hK => ?s18, fun hd K hK => ?s19, fun hd K hK => ?s20, fun hd K hK => ?s21, fun hd K hK => ?s22, fun hd K hK => ?s23, fun hd K hK => ?s24, fun hd K hK => ?s25, fun hd K hK => ?s26, fun hd K hK => ?s27, fun hd K hK => ?s28, fun hd K hK => ?s29, fun hd K hK => ?s30, fun hd K hK => ?s31, fun hd K hK => ?s32, fun hd K hK => ?s33, fun hd K hK => ?s34, fun hd K hK => ?s35, fun hd K hK => ?s36, trivial⟩
    case s0 =>
      clear hd
      simp only [Act.put, List.setIfInBounds_toArray, List.set_cons_succ, List.set_cons_zero] at hK
      refine (if_pos (by rfl)).mpr ?_
      go_simp
      go_at_call 20
      refine (lawName_any ⟨#[97]⟩ W).mono ?_
      rintro e w' ⟨hb, v, rfl, hn⟩
      exact hK.out _ _ hb hn
    case s1 =>
      clear hd
      simp only [Act.put, List.setIfInBounds_toArray, List.set_cons_succ, List.set_cons_zero] at hK
      refine (if_pos (by rfl)).mpr ?_
      obtain ⟨⟨hq0, hq1, hq2, hq3⟩, _⟩ := HV.out W hW
      go_simp
      exact hK.out _ _ (Below.refl _ _) rfl
    case s2 =>
      have hx0 : NodeIs W (xv 0) 9 ⟨#[97]⟩ (.nil) := hd 0 (by kernel_rfl)
      have hx1 : xv 1 = Value.agg #[.int .i64 29, .string ⟨#[45]⟩, .string ⟨#[]⟩, .slice Ax nx Cx] := hd 1 (by kernel_rfl)
      clear hd
      simp only [Act.put, List.setIfInBounds_toArray, List.set_cons_succ, List.set_cons_zero] at hK
      rw [hx1] at hK ⊢
      refine (if_pos (by rfl)).mpr ?_
      obtain ⟨A0, n0, C0, e0, hf0⟩ := hx0
      rw [e0]
      rw [e0] at hK
      have HF0 := Lib.hid hf0
      clear e0 hf0
      go_simp
      go_at_call 19
      refine (lawBin_any ⟨#[45]⟩ 9 29 ⟨#[97]⟩ ⟨#[45]⟩ A0 Ax n0 C0 nx Cx .nil xF W HF0.out (HXF.out W hW)).mono ?_
      rintro e w' ⟨hb, v, rfl, hn⟩
      exact hK.out _ _ hb hn
    case s3 =>
      have hx2 : NodeIs W (xv 2) 29 ⟨#[45]⟩ (.cons 9 ⟨#[97]⟩ ⟨#[]⟩ .nil (.cons 29 ⟨#[45]⟩ ⟨#[]⟩ xF .nil)) := hd 2 (by kernel_rfl)
      clear hd
      simp only [Act.put, List.setIfInBounds_toArray, List.set_cons_succ, List.set_cons_zero] at hK
      refine (if_pos (by rfl)).mpr ?_
      obtain ⟨A2, n2, C2, e2, hf2⟩ := hx2
      rw [e2]
      rw [e2] at hK
      have HF2 := Lib.hid hf2
      clear e2 hf2
      go_simp
      go_at_call 15
      refine (paren_is W 29 ⟨#[45]⟩ ⟨#[]⟩ A2 n2 C2 _ 1 HF2.out).mono ?_
      rintro e w' ⟨rfl, hb⟩
      exact hK.out _ _ hb (by rw [p1]; rfl)
    case s4 =>
      have hx3 : xv 3 = Value.bool true := hd 3 (by kernel_rfl)
      clear hd
      simp only [Act.put, List.setIfInBounds_toArray, List.set_cons_succ, List.set_cons_zero] at hK
      rw [hx3] at hK ⊢
      refine (if_pos (by rfl)).mpr ?_
      go_simp
      exact hK.out _ _ (Below.refl _ _) rfl
    case s5 =>
      have hx4 : xv 4 = Value.bool true := hd 4 (by kernel_rfl)
      clear hd
      simp only [Act.put, List.setIfInBounds_toArray, List.set_cons_succ, List.set_cons_zero] at hK
      rw [hx4] at hK ⊢
      refine (if_pos (by rfl)).mpr ?_
      obtain ⟨⟨hq0, hq1, hq2, hq3⟩, _⟩ := HV.out W hW
      go_simp
      exact hK.out _ _ (Below.refl _ _) rfl
    case s6 =>
      have hx4 : xv 4 = Value.bool true := hd 4 (by kernel_rfl)
      clear hd
      simp only [Act.put, List.setIfInBounds_toArray, List.set_cons_succ, List.set_cons_zero] at hK
      rw [hx4] at hK ⊢
      refine (if_pos (by rfl)).mpr ?_
      go_simp
      go_at_call 20
      refine (lawName_any ⟨#[97]⟩ W).mono ?_
      rintro e w' ⟨hb, v, rfl, hn⟩
      exact hK.out _ _ hb hn
    case s7 =>
      have hx4 : xv 4 = Value.bool true := hd 4 (by kernel_rfl)
      have hx6 : NodeIs W (xv 6) 9 ⟨#[97]⟩ (.nil) := hd 6 (by kernel_rfl)
      have hx5 : xv 5 = Value.agg #[.int .i64 29, .string ⟨#[45]⟩, .string ⟨#[]⟩, .slice Ax nx Cx] := hd 5 (by kernel_rfl)
      clear hd
      simp only [Act.put, List.setIfInBounds_toArray, List.set_cons_succ, List.set_cons_zero] at hK
      rw [hx4] at hK ⊢
      rw [hx5] at hK ⊢
      refine (if_pos (by rfl)).mpr ?_
      obtain ⟨A6, n6, C6, e6, hf6⟩ := hx6
      rw [e6]
      rw [e6] at hK
      have HF6 := Lib.hid hf6
      clear e6 hf6
      go_simp
      go_at_call 19
      refine (lawBin_any ⟨#[45]⟩ 29 9 ⟨#[45]⟩ ⟨#[97]⟩ Ax A6 nx Cx n6 C6 xF .nil W (HXF.out W hW) HF6.out).mono ?_
      rintro e w' ⟨hb, v, rfl, hn⟩
      exact hK.out _ _ hb hn
    case s8 =>
      have hx4 : xv 4 = Value.bool true := hd 4 (by kernel_rfl)
      have hx7 : NodeIs W (xv 7) 29 ⟨#[45]⟩ (.cons 29 ⟨#[45]⟩ ⟨#[]⟩ xF (.cons 9 ⟨#[97]⟩ ⟨#[]⟩ .nil .nil)) := hd 7 (by kernel_rfl)
      clear hd
      simp only [Act.put, List.setIfInBounds_toArray, List.set_cons_succ, List.set_cons_zero] at hK
      rw [hx4] at hK ⊢
      refine (if_pos (by rfl)).mpr ?_
      obtain ⟨A7, n7, C7, e7, hf7⟩ := hx7
      rw [e7]
      rw [e7] at hK
      have HF7 := Lib.hid hf7
      clear e7 hf7
      go_simp
      go_at_call 15
      refine (paren_is W 29 ⟨#[45]⟩ ⟨#[]⟩ A7 n7 C7 _ 0 HF7.out).mono ?_
      rintro e w' ⟨rfl, hb⟩
      exact hK.out _ _ hb (by rw [p2]; rfl)
    case s9 =>
      have hx4 : xv 4 = Value.bool true := hd 4 (by kernel_rfl)
      have hx8 : xv 8 = Value.bool false := hd 8 (by kernel_rfl)
      clear hd
      simp only [Act.put, List.setIfInBounds_toArray, List.set_cons_succ, List.set_cons_zero] at hK
      rw [hx4] at hK ⊢
      rw [hx8] at hK ⊢
      refine (if_pos (by rfl)).mpr ?_
      go_simp
      exact hK.out _ _ (Below.refl _ _) rfl
    case s10 =>
      have hx4 : xv 4 = Value.bool true := hd 4 (by kernel_rfl)
      have hx9 : xv 9 = Value.bool true := hd 9 (by kernel_rfl)
      clear hd
      simp only [Act.put, List.setIfInBounds_toArray, List.set_cons_succ, List.set_cons_zero] at hK
      rw [hx4] at hK ⊢
      rw [hx9] at hK ⊢
      refine (if_pos (by rfl)).mpr ?_
      go_simp
      exact hK.out _ _ (Below.refl _ _) rfl
    case s11 =>
      have hx10 : xv 10 = Value.bool true := hd 10 (by kernel_rfl)
      clear hd
      simp only [Act.put, List.setIfInBounds_toArray, List.set_cons_succ, List.set_cons_zero] at hK
      rw [hx10] at hK ⊢
      refine (if_pos (by rfl)).mpr ?_
      go_simp
      exact hK.out _ _ (Below.refl _ _) rfl
    case s12 =>
      have hx11 : xv 11 = Value.bool true := hd 11 (by kernel_rfl)
      clear hd
      simp only [Act.put, List.setIfInBounds_toArray, List.set_cons_succ, List.set_cons_zero] at hK
      rw [hx11] at hK ⊢
      refine (if_pos (by rfl)).mpr ?_
      obtain ⟨_, ⟨hq0, hq1, hq2, hq3⟩⟩ := HV.out W hW
      go_simp
      exact hK.out _ _ (Below.refl _ _) rfl
    case s13 =>
      have hx11 : xv 11 = Value.bool true := hd 11 (by kernel_rfl)
      have hx12 : xv 12 = Value.agg #[.int .i64 28, .string ⟨#[45]⟩, .string ⟨#[]⟩, .slice (some ⟨w5.heap.size + 1, 0, none⟩) 1 1] := hd 12 (by kernel_rfl)
      clear hd
      simp only [Act.put, List.setIfInBounds_toArray, List.set_cons_succ, List.set_cons_zero] at hK
      rw [hx11] at hK ⊢
      rw [hx12] at hK ⊢
      refine (if_pos (by rfl)).mpr ?_
      go_simp
      go_at_call 15
      refine (paren_is W 28 ⟨#[45]⟩ ⟨#[]⟩ (some ⟨w5.heap.size + 1, 0, none⟩) 1 1 mF 0 (HMF.out W hW)).mono ?_
      rintro e w' ⟨rfl, hb⟩
      exact hK.out _ _ hb (by rw [PM.out]; rfl)
    case s14 =>
      have hx11 : xv 11 = Value.bool true := hd 11 (by kernel_rfl)
      have hx13 : xv 13 = Value.bool true := hd 13 (by kernel_rfl)
      clear hd
      simp only [Act.put, List.setIfInBounds_toArray, List.set_cons_succ, List.set_cons_zero] at hK
      rw [hx11] at hK ⊢
      rw [hx13] at hK ⊢
      refine (if_pos (by rfl)).mpr ?_
      go_simp
      exact hK.out _ _ (Below.refl _ _) rfl
    case s15 =>
      have hx14 : xv 14 = Value.bool true := hd 14 (by kernel_rfl)
      clear hd
      simp only [Act.put, List.setIfInBounds_toArray, List.set_cons_succ, List.set_cons_zero] at hK
      rw [hx14] at hK ⊢
      refine (if_pos (by rfl)).mpr ?_
      go_simp
      exact hK.out _ _ (Below.refl _ _) rfl
    case s16 =>
      have hx15 : xv 15 = Value.bool true := hd 15 (by kernel_rfl)
      clear hd
      simp only [Act.put, List.setIfInBounds_toArray, List.set_cons_succ, List.set_cons_zero] at hK
      rw [hx15] at hK ⊢
      refine (if_pos (by rfl)).mpr ?_
      go_simp
      exact hK.out _ _ (Below.refl _ _) rfl
    case s17 =>
      have hx15 : xv 15 = Value.bool true := hd 15 (by kernel_rfl)
      have hx16 : xv 16 = Value.agg #[.int .i64 1, .string ⟨#[]⟩, .string ⟨#[]⟩, .slice none 0 0] := hd 16 (by kernel_rfl)
      clear hd
      simp only [Act.put, List.setIfInBounds_toArray, List.set_cons_succ, List.set_cons_zero] at hK
      rw [hx15] at hK ⊢
      rw [hx16] at hK ⊢
      refine (if_pos (by rfl)).mpr ?_
      go_simp
      go_at_call 21
      refine (right_any 1 ⟨#[]⟩ ⟨#[]⟩ none 0 0 .nil W (fs_empty _ _) (by decide) (by decide) trivial (HT.out W hW)).mono ?_
      rintro e w' ⟨rfl, hb⟩
      exact hK.out _ _ hb (by rw [r1]; rfl)
    case s18 =>
      have hx15 : xv 15 = Value.bool true := hd 15 (by kernel_rfl)
      have hx17 : xv 17 = Value.bool false := hd 17 (by kernel_rfl)
      clear hd
      simp only [Act.put, List.setIfInBounds_toArray, List.set_cons_succ, List.set_cons_zero] at hK
      rw [hx15] at hK ⊢
      rw [hx17] at hK ⊢
      refine (if_pos (by rfl)).mpr ?_
      go_simp
      exact hK.out _ _ (Below.refl _ _) rfl
    case s19 =>
      have hx15 : xv 15 = Value.bool true := hd 15 (by kernel_rfl)
      have hx18 : xv 18 = Value.bool true := hd 18 (by kernel_rfl)
      clear hd
      simp only [Act.put, List.setIfInBounds_toArray, List.set_cons_succ, List.set_cons_zero] at hK
      rw [hx15] at hK ⊢
      rw [hx18] at hK ⊢
      refine (if_pos (by rfl)).mpr ?_
      go_simp
      exact hK.out _ _ (Below.refl _ _) rfl
    case s20 =>
      have hx19 : xv 19 = Value.bool true := hd 19 (by kernel_rfl)
      clear hd
      simp only [Act.put, List.setIfInBounds_toArray, List.set_cons_succ, List.set_cons_zero] at hK
      rw [hx19] at hK ⊢
      refine (if_pos (by rfl)).mpr ?_
      go_simp
      exact hK.out _ _ (Below.refl _ _) rfl
    case s21 =>
      have hx20 : xv 20 = Value.bool true := hd 20 (by kernel_rfl)
      clear hd
      simp only [Act.put, List.setIfInBounds_toArray, List.set_cons_succ, List.set_cons_zero] at hK
      rw [hx20] at hK ⊢
      refine (if_pos (by rfl)).mpr ?_
      obtain ⟨⟨hq0, hq1, hq2, hq3⟩, _⟩ := HV.out W hW
      go_simp
      exact hK.out _ _ (Below.refl _ _) rfl
    case s22 =>
      have hx20 : xv 20 = Value.bool true := hd 20 (by kernel_rfl)
      have hx21 : xv 21 = Value.agg #[.int .i64 29, .string ⟨#[45]⟩, .string ⟨#[]⟩, .slice Ax nx Cx] := hd 21 (by kernel_rfl)
      clear hd
      simp only [Act.put, List.setIfInBounds_toArray, List.set_cons_succ, List.set_cons_zero] at hK
      rw [hx20] at hK ⊢
      rw [hx21] at hK ⊢
      refine (if_pos (by rfl)).mpr ?_
      go_simp
      go_at_call 23
      refine (lawConst_any ⟨#[97]⟩ 29 ⟨#[45]⟩ Ax nx Cx xF W (HXF.out W hW)).mono ?_
      rintro e w' ⟨hb, v, rfl, hn⟩
      exact hK.out _ _ hb hn
    case s23 =>
      have hx20 : xv 20 = Value.bool true := hd 20 (by kernel_rfl)
      have hx22 : NodeIs W (xv 22) 4 ⟨#[97]⟩ (.cons 29 ⟨#[45]⟩ ⟨#[]⟩ xF .nil) := hd 22 (by kernel_rfl)
      clear hd
      simp only [Act.put, List.setIfInBounds_toArray, List.set_cons_succ, List.set_cons_zero] at hK
      rw [hx20] at hK ⊢
      refine (if_pos (by rfl)).mpr ?_
      obtain ⟨A22, n22, C22, e22, hf22⟩ := hx22
      rw [e22]
      rw [e22] at hK
      have HF22 := Lib.hid hf22
      clear e22 hf22
      go_simp
      exact hK.out _ _ (below1 _ _) ⟨W.heap.size, rfl, by have := fs_one W 4 ⟨#[97]⟩ A22 n22 C22 _ HF22.out; simpa using this⟩
    case s24 =>
      have hx20 : xv 20 = Value.bool true := hd 20 (by kernel_rfl)
      have hx23 : Row1 (.cons 4 ⟨#[97]⟩ ⟨#[]⟩ (.cons 29 ⟨#[45]⟩ ⟨#[]⟩ xF .nil) .nil) (xv 23) W := hd 23 (by kernel_rfl)
      clear hd
      simp only [Act.put, List.setIfInBounds_toArray, List.set_cons_succ, List.set_cons_zero] at hK
      rw [hx20] at hK ⊢
      refine (if_pos (by rfl)).mpr ?_
      obtain ⟨g23, e23, hf23⟩ := hx23
      rw [e23]
      rw [e23] at hK
      have HF23 := Lib.hid hf23
      clear e23 hf23
      go_simp
      go_at_call 22
      refine (lawFile_any g23 1 _ W (by omega) HF23.out).mono ?_
      rintro e w' ⟨hb, v, rfl, hn⟩
      exact hK.out _ _ hb hn
    case s25 =>
      have hx20 : xv 20 = Value.bool true := hd 20 (by kernel_rfl)
      have hx24 : NodeIs W (xv 24) 1 ⟨#[]⟩ (.cons 2 ⟨#[112]⟩ ⟨#[]⟩ .nil (.cons 4 ⟨#[97]⟩ ⟨#[]⟩ (.cons 29 ⟨#[45]⟩ ⟨#[]⟩ xF .nil) .nil)) := hd 24 (by kernel_rfl)
      clear hd
      simp only [Act.put, List.setIfInBounds_toArray, List.set_cons_succ, List.set_cons_zero] at hK
      rw [hx20] at hK ⊢
      refine (if_pos (by rfl)).mpr ?_
      obtain ⟨A24, n24, C24, e24, hf24⟩ := hx24
      rw [e24]
      rw [e24] at hK
      have HF24 := Lib.hid hf24
      clear e24 hf24
      go_simp
      go_at_call 21
      refine (right_any 1 ⟨#[]⟩ ⟨#[]⟩ A24 n24 C24 _ W HF24.out (by decide) (by decide) (HSM.out) (HT.out W hW)).mono ?_
      rintro e w' ⟨rfl, hb⟩
      exact hK.out _ _ hb (by rw [HR.out]; rfl)
    case s26 =>
      have hx20 : xv 20 = Value.bool true := hd 20 (by kernel_rfl)
      have hx25 : xv 25 = Value.bool true := hd 25 (by kernel_rfl)
      clear hd
      simp only [Act.put, List.setIfInBounds_toArray, List.set_cons_succ, List.set_cons_zero] at hK
      rw [hx20] at hK ⊢
      rw [hx25] at hK ⊢
      refine (if_pos (by rfl)).mpr ?_
      go_simp
      exact hK.out _ _ (Below.refl _ _) rfl
    case s27 =>
      have hx26 : xv 26 = Value.bool true := hd 26 (by kernel_rfl)
      clear hd
      simp only [Act.put, List.setIfInBounds_toArray, List.set_cons_succ, List.set_cons_zero] at hK
      rw [hx26] at hK ⊢
      refine (if_pos (by rfl)).mpr ?_
      go_simp
      exact hK.out _ _ (Below.refl _ _) rfl
    case s28 =>
      have hx27 : xv 27 = Value.bool true := hd 27 (by kernel_rfl)
      clear hd
      simp only [Act.put, List.setIfInBounds_toArray, List.set_cons_succ, List.set_cons_zero] at hK
      rw [hx27] at hK ⊢
      refine (if_pos (by rfl)).mpr ?_
      obtain ⟨⟨hq0, hq1, hq2, hq3⟩, _⟩ := HV.out W hW
      go_simp
      exact hK.out _ _ (Below.refl _ _) rfl
    case s29 =>
      have hx27 : xv 27 = Value.bool true := hd 27 (by kernel_rfl)
      have hx28 : xv 28 = Value.agg #[.int .i64 29, .string ⟨#[45]⟩, .string ⟨#[]⟩, .slice Ax nx Cx] := hd 28 (by kernel_rfl)
      clear hd
      simp only [Act.put, List.setIfInBounds_toArray, List.set_cons_succ, List.set_cons_zero] at hK
      rw [hx27] at hK ⊢
      rw [hx28] at hK ⊢
      refine (if_pos (by rfl)).mpr ?_
      go_simp
      go_at_call 10
      refine (HSZ.out W hW).mono ?_
      rintro e w' ⟨rfl, hb⟩
      exact hK.out _ _ hb rfl
    case s30 =>
      have hx27 : xv 27 = Value.bool true := hd 27 (by kernel_rfl)
      have hx29 : xv 29 = Value.int .i64 3 := hd 29 (by kernel_rfl)
      clear hd
      simp only [Act.put, List.setIfInBounds_toArray, List.set_cons_succ, List.set_cons_zero] at hK
      rw [hx27] at hK ⊢
      rw [hx29] at hK ⊢
      refine (if_pos (by rfl)).mpr ?_
      go_simp
      exact hK.out _ _ (Below.refl _ _) rfl
    case s31 =>
      have hx27 : xv 27 = Value.bool true := hd 27 (by kernel_rfl)
      have hx30 : xv 30 = Value.bool true := hd 30 (by kernel_rfl)
      clear hd
      simp only [Act.put, List.setIfInBounds_toArray, List.set_cons_succ, List.set_cons_zero] at hK
      rw [hx27] at hK ⊢
      rw [hx30] at hK ⊢
      refine (if_pos (by rfl)).mpr ?_
      go_simp
      exact hK.out _ _ (Below.refl _ _) rfl
    case s32 =>
      have hx31 : xv 31 = Value.bool true := hd 31 (by kernel_rfl)
      clear hd
      simp only [Act.put, List.setIfInBounds_toArray, List.set_cons_succ, List.set_cons_zero] at hK
      rw [hx31] at hK ⊢
      refine (if_pos (by rfl)).mpr ?_
      go_simp
      exact hK.out _ _ (Below.refl _ _) rfl
    case s33 =>
      have hx32 : xv 32 = Value.bool true := hd 32 (by kernel_rfl)
      clear hd
      simp only [Act.put, List.setIfInBounds_toArray, List.set_cons_succ, List.set_cons_zero] at hK
      rw [hx32] at hK ⊢
      refine (if_pos (by rfl)).mpr ?_
      go_simp
      go_at_call 17
      refine (level_any ⟨#[60, 60]⟩ W).mono ?_
      rintro e w' ⟨rfl, hb⟩
      exact hK.out _ _ (by rw [hb]; exact Below.refl _ _) (by rw [l1]; rfl)
    case s34 =>
      have hx32 : xv 32 = Value.bool true := hd 32 (by kernel_rfl)
      have hx33 : xv 33 = Value.int .i64 5 := hd 33 (by kernel_rfl)
      clear hd
      simp only [Act.put, List.setIfInBounds_toArray, List.set_cons_succ, List.set_cons_zero] at hK
      rw [hx32] at hK ⊢
      rw [hx33] at hK ⊢
      refine (if_pos (by rfl)).mpr ?_
      go_simp
      exact hK.out _ _ (Below.refl _ _) rfl
    case s35 =>
      have hx32 : xv 32 = Value.bool true := hd 32 (by kernel_rfl)
      have hx34 : xv 34 = Value.bool true := hd 34 (by kernel_rfl)
      clear hd
      simp only [Act.put, List.setIfInBounds_toArray, List.set_cons_succ, List.set_cons_zero] at hK
      rw [hx32] at hK ⊢
      rw [hx34] at hK ⊢
      refine (if_pos (by rfl)).mpr ?_
      go_simp
      exact hK.out _ _ (Below.refl _ _) rfl
    case s36 =>
      have hx35 : xv 35 = Value.bool true := hd 35 (by kernel_rfl)
      clear hd
      simp only [Act.put, List.setIfInBounds_toArray, List.set_cons_zero] at hK
      rw [hx35] at hK ⊢
      refine (if_pos (by rfl)).mpr ?_
      go_simp
      exact hK.out _ _ (Below.refl _ _) rfl
  case behind =>
    intro xv W hW hx a ha
    replace hW := undrew hW
    simp only [fillA] at ha
    simp only [List.setIfInBounds_toArray, List.set_cons_succ, List.set_cons_zero, Nat.zero_add, Nat.reduceAdd] at ha
    subst ha
    have h36 : xv 36 = Value.bool true := hx 36 (by decide)
    rw [h36]
    have HE := Lib.hid (HWM.out.trans (hW.mono HWM.out.size))
    clear hx h36 hW
    go_wp2
    go_ret
    exact ⟨rfl, HE.out⟩
end Go.Proofs.YtoecimgmghlfpaaDoor.Tree
