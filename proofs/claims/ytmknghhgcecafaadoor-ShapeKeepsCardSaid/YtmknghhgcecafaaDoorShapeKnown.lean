/-
  Layer 10 (shape): the chapter's example, which each law asks. Written by gen_shapeknown.py.
-/
import Derived.Test.YtmknghhgcecafaaDoorShapeSpec
namespace Go.Proofs.YtmknghhgcecafaaDoor.Shape
open Go.ChangeShapes Go.WideShapes Go.ChangeAt Go.RowKit Mem Tree MemC
set_option linter.unusedVariables false

def exC : F := .cons 9 ⟨#[120]⟩ ⟨#[]⟩ .nil (.cons 9 ⟨#[120]⟩ ⟨#[]⟩ .nil .nil)
def exT : F := one 29 ⟨#[43]⟩ ⟨#[]⟩ exC
theorem ex_marks : marksI exT = [[0, 1, 1]] := by
  have h1 : sameN ⟨29, ⟨#[43]⟩, ⟨#[]⟩, exC⟩ ⟨9, ⟨#[120]⟩, ⟨#[]⟩, .nil⟩ = false := by simp [sameN]
  have h2 : sameN ⟨9, ⟨#[120]⟩, ⟨#[]⟩, .nil⟩ ⟨9, ⟨#[120]⟩, ⟨#[]⟩, .nil⟩ = true := sameN_iff.2 rfl
  have e : nodes exT = [⟨29, ⟨#[43]⟩, ⟨#[]⟩, exC⟩, ⟨9, ⟨#[120]⟩, ⟨#[]⟩, .nil⟩, ⟨9, ⟨#[120]⟩, ⟨#[]⟩, .nil⟩] := rfl
  have e2 : marksF [] exT = [[0, 1, 1]] := by
    show (markL [] (nodes exT)).1 :: marksF (markL [] (nodes exT)).2 .nil = _
    rw [e]
    simp [markL, marksF, firstAt, seeN, List.findIdx_cons, h1, h2]
  unfold marksI
  rw [e2]
  rfl
theorem ex_kinds : Kinds exT := ⟨⟨by decide, by decide⟩, ⟨⟨by decide, by decide⟩, trivial, ⟨by decide, by decide⟩, trivial, trivial⟩, trivial⟩
theorem ex_texts : Small exT := ⟨by decide, by decide, ⟨by decide, by decide, trivial, ⟨by decide, by decide, trivial, trivial⟩⟩, trivial⟩
/-- A row that has just been laid out of constants, as the document's Same reads it. -/
theorem ri_new {w : World} {xs : List Int} (T : TypeId) : RI (w.alloc (.cells (xs.map iv).toArray T)) (w.heap.size + 1) (some ⟨w.heap.size, 0, none⟩) xs :=
  rc_new w xs T
theorem ri_of {w : World} {S : Nat → Prop} {B : Nat} {v : Value} {xs : List Int} (h : SlAt w S v (xs.map iv)) (hS : ∀ b, S b → b < B) : ∃ A c, v = .slice A xs.length c ∧ RI w B A xs := by
  obtain ⟨A, c, e, _, _, hr⟩ := h
  refine ⟨A, c, by rw [e, List.length_map], ?_⟩
  rcases hr with hr | ⟨b, off, e2, hb, hc⟩
  · exact .inl (by simpa using hr)
  · refine .inr ⟨b, off, e2, hS b hb, fun i hi => hc i _ ?_⟩
    rw [List.getElem?_map, List.getElem?_eq_getElem hi, List.getD_eq_getElem?_getD, List.getElem?_eq_getElem hi]
    rfl
theorem one_of_len {α : Type} : ∀ {l : List α}, l.length = 1 → ∃ u, l = [u]
  | [u], _ => ⟨u, rfl⟩
abbrev TB (W W' : World) : Prop := Below W.heap.size W W'
def cRow (xs : List Int) : Cd TB := ⟨fun v W => ∃ A c, v = .slice A xs.length c ∧ RI W W.heap.size A xs, fun v W W' h hp => by
  obtain ⟨A, c, e, hr⟩ := hp
  exact ⟨A, c, e, (hr.below h (Nat.le_refl _)).more h.size⟩⟩
def cNode (k : Int) (x y : ByteArray) (c : F) : Cd TB := ⟨fun v W => ∃ A n C, v = .agg #[.int .i64 k, .string x, .string y, .slice A n C] ∧ Fs W (Lo W.heap.size) (.slice A n C) c, fun v W W' h hp => by
  obtain ⟨A, n, C, e, hr⟩ := hp
  exact ⟨A, n, C, e, hr.later h⟩⟩
theorem plan_later {w W : World} {S : Nat → Prop} {T : F} {v : Value} (h : PlanRd w S T v) (hS : ∀ b, S b → b < w.heap.size) (hb : Below w.heap.size w W) : PlanRd W (Lo W.heap.size) T v :=
  (h.keep fun b hb' => hb.block b (hS b hb')).more fun b hb' => Nat.lt_of_lt_of_le (hS b hb') hb.size
set_option maxRecDepth 100000 in
set_option maxHeartbeats 16000000 in
theorem known_any (HO : OfSpec) (HMk : MarksSpec) (HTr : TreeSpec) (w : World) (hP : Pow w) :
    Calls Tryd.prog 9 #[] w fun e w' => e = .returned (.bool true) ∧ Below w.heap.size w w' := by
  have HO := Lib.hid HO
  have HMk := Lib.hid HMk
  have HPW := Lib.hid hP
  clear hP
  have HTr := Lib.hid HTr
  have H1 := Lib.hid (lawName_any ⟨#[120]⟩ w)
  go_enter Tryd.func9, Tryd.ntmps9
  go_wp2_with fail
  refine H1.out.mono ?_
  rintro e w1 ⟨hb1, v1, rfl, A1, n1, C1, rfl, hf1⟩
  have HB1 := Lib.hid hb1
  have HF1 := Lib.hid hf1
  have H2 := Lib.hid (lawName_any ⟨#[120]⟩ w1)
  clear hb1 hf1 H1
  go_wp2_with fail
  refine H2.out.mono ?_
  rintro e w2 ⟨hb2, v2, rfl, A2, n2, C2, rfl, hf2⟩
  have HB2 := Lib.hid (HB1.out.trans (hb2.mono HB1.out.size))
  have H3 := Lib.hid (lawBin_any ⟨#[43]⟩ 9 9 ⟨#[120]⟩ ⟨#[120]⟩ A1 A2 n1 C1 n2 C2 .nil .nil w2 (HF1.out.later hb2) hf2)
  clear hb2 hf2 HB1 HF1 H2
  go_wp2_with fail
  refine H3.out.mono ?_
  rintro e w3 ⟨hb3, v3, rfl, A3, n3, C3, rfl, hf3⟩
  have hn3 : n3 = 2 := fs_len' hf3
  subst hn3
  have hb4 := bel1 w3 (.cells #[.int .i64 29, .string ⟨#[43]⟩, .string ⟨#[]⟩, .slice A3 2 C3] 24)
  have HB4 := Lib.hid ((HB2.out.trans (hb3.mono HB2.out.size)).trans (hb4.mono (HB2.out.trans (hb3.mono HB2.out.size)).size))
  have HF4 := Lib.hid (hf3.later hb4)
  have HX := Lib.hid (box_cl' w3 29 ⟨#[43]⟩ ⟨#[]⟩ (.slice A3 2 C3))
  have H5 := Lib.hid (HO.out 29 ⟨#[43]⟩ ⟨#[]⟩ A3 2 C3 exC _ (hf3.later hb4) (by decide))
  obtain ⟨q0, q1, q2, q3⟩ := HX.out _ (Below.refl _ _)
  clear hb3 hf3 hb4 HB2 H3
  go_wp2_with fail
  obtain ⟨w4, hw4⟩ : ∃ w4, w3.alloc (.cells #[.int .i64 29, .string ⟨#[43]⟩, .string ⟨#[]⟩, .slice A3 2 C3] 24) = w4 := ⟨_, rfl⟩
  rw [hw4] at HB4 HF4 HX H5 ⊢
  refine H5.out.mono ?_
  rintro e w5 ⟨hb5, v5, rfl, hp⟩
  obtain ⟨vN, vP, vS, vK, rfl, pN, pP, pS, pK⟩ := id hp
  obtain ⟨aN, cN, rfl, _, _⟩ := pN.slice
  obtain ⟨aP, cP, rfl, _, _, rP⟩ := id pP
  obtain ⟨aS, cS, rfl, _, _, rS⟩ := id pS
  obtain ⟨us, hus, ⟨aK, cK, rfl, _, _, rK⟩, _⟩ := pK
  have hus3 : us.length = 3 := hus
  have e1 : (ofL (nodes (one 29 ⟨#[43]⟩ ⟨#[]⟩ exC))).len = 3 := rfl
  have e2 : ((parF (-1) 0 (one 29 ⟨#[43]⟩ ⟨#[]⟩ exC)).map iv).length = 3 := rfl
  have e3 : ((sizF (one 29 ⟨#[43]⟩ ⟨#[]⟩ exC)).map iv).length = 3 := rfl
  rw [e1, e2, e3, hus3] at hp ⊢
  have hIn : ∀ b, In w4.heap.size w5.heap.size b → b < w5.heap.size := fun b h => h.2
  have HRP : Hid (∀ W, Below w5.heap.size w5 W → RI W W.heap.size aP [-1, 0, 0]) := fun W hW => by
    obtain ⟨A', c', e, hr⟩ := ri_of (B := w5.heap.size) (xs := [-1, 0, 0]) pP hIn
    injection e with e _ _
    subst e
    exact (hr.below hW (Nat.le_refl _)).more hW.size
  have HRS : Hid (∀ W, Below w5.heap.size w5 W → RI W W.heap.size aS [3, 1, 1]) := fun W hW => by
    obtain ⟨A', c', e, hr⟩ := ri_of (B := w5.heap.size) (xs := [3, 1, 1]) pS hIn
    injection e with e _ _
    subst e
    exact (hr.below hW (Nat.le_refl _)).more hW.size
  have HPL : Hid (∀ W, Below w5.heap.size w5 W → PlanRd W (Lo W.heap.size) exT (.agg #[.slice aN 3 cN, .slice aP 3 cP, .slice aS 3 cS, .slice aK 3 cK])) := fun W hW => plan_later hp hIn hW
  have HB5 := Lib.hid (HB4.out.trans (hb5.mono HB4.out.size))
  have hb6 := bel1 w5 (.cells #[.slice aN 3 cN, .slice aP 3 cP, .slice aS 3 cS, .slice aK 3 cK] 30)
  have HY : Hid (∀ W, Below (w5.alloc (.cells #[.slice aN 3 cN, .slice aP 3 cP, .slice aS 3 cS, .slice aK 3 cK] 30)).heap.size (w5.alloc (.cells #[.slice aN 3 cN, .slice aP 3 cP, .slice aS 3 cS, .slice aK 3 cK] 30)) W → W.cell? ⟨w5.heap.size, 0, none⟩ = some (.slice aN 3 cN) ∧ W.cell? ⟨w5.heap.size, 1, none⟩ = some (.slice aP 3 cP) ∧ W.cell? ⟨w5.heap.size, 2, none⟩ = some (.slice aS 3 cS) ∧ W.cell? ⟨w5.heap.size, 3, none⟩ = some (.slice aK 3 cK)) := fun W hW => by
    have h : W.heap[w5.heap.size]? = _ := (hW.block w5.heap.size (by simp)).trans (heap_alloc_new w5 _)
    refine ⟨?_, ?_, ?_, ?_⟩ <;> simp [World.cell?, h]
  obtain ⟨w6, hw6⟩ : ∃ w6, w5.alloc (.cells #[.slice aN 3 cN, .slice aP 3 cP, .slice aS 3 cS, .slice aK 3 cK] 30) = w6 := ⟨_, rfl⟩
  rw [hw6] at hb6 HY
  have HW6 := Lib.hid hw6
  have HB56 := Lib.hid hb6
  have HB6 := Lib.hid (HB5.out.trans (hb6.mono HB5.out.size))
  have HB46 := Lib.hid (hb5.trans (hb6.mono hb5.size))
  have h7 := bel1 w6 (.cells #[.int .i64 29, .string ⟨#[43]⟩, .string ⟨#[]⟩, .slice A3 2 C3] 24)
  have HB7 := Lib.hid (HB6.out.trans (h7.mono HB6.out.size))
  have H8 := Lib.hid (HMk.out (some ⟨w6.heap.size, 0, none⟩) 1 1 exT _ (HPW.out.on HB7.out) ((fs_one w6 29 ⟨#[43]⟩ A3 2 C3 exC (HF4.out.later HB46.out)).up (by simp)) (by decide) ex_texts ex_kinds)
  have HB67 := Lib.hid h7
  obtain ⟨g2, hg2⟩ : ∃ g2, w5.heap.size = g2 := ⟨_, rfl⟩
  obtain ⟨g1, hg1⟩ : ∃ g1, w3.heap.size = g1 := ⟨_, rfl⟩
  rw [hg2] at HY
  have hz6 : w6.heap.size = g2 + 1 := by rw [← hw6, ← hg2]; simp
  rw [hz6] at H8
  rw [hg1] at HX
  obtain ⟨q0', q1', q2', q3'⟩ := HX.out w6 HB46.out
  rw [← hw6] at q0' q1' q2' q3'
  clear hz6 hb5 hp pN pP pS rP rS rK hus hus3 hb6 hw4 h7 hw6 q0 q1 q2 q3 HO H5 e1 e2 e3 hIn HB4 HB5 HMk
  go_wp2_with fail
  rw [HW6.out]
  refine H8.out.mono ?_
  rintro e w8 ⟨hb8, v8, rfl, hm⟩
  rw [ex_marks] at hm
  obtain ⟨um, hum, hsm, hrm⟩ := hm
  have hum1 : um.length = 1 := hum
  obtain ⟨u, rfl⟩ := one_of_len hum1
  obtain ⟨aM, cM, rfl, hcM, _, rM⟩ := hsm
  rw [show ([u] : List Value).length = 1 from rfl]
  obtain ⟨bM, oM, rfl, hSM, hcu⟩ := rM.at_ (i := 0) (u := u) rfl
  have hru := hrm 0 u [0, 1, 1] rfl rfl
  obtain ⟨aU, cU, rfl, hRU⟩ := ri_of (B := w8.heap.size) (xs := [0, 1, 1]) hru (fun b h => h.2)
  have HB8 := Lib.hid (HB7.out.trans (hb8.mono HB7.out.size))
  have HB68 := Lib.hid (HB67.out.trans (hb8.mono HB67.out.size))
  have HB58 := Lib.hid (HB56.out.trans (HB68.out.mono HB56.out.size))
  have HCU := Lib.hid hcu
  have HRU := Lib.hid hRU
  have HSM : Hid (bM < w8.heap.size) := hSM.2
  clear hb8 hum hum1 hrm rM hcu hru hRU hSM H8 q0' q1' q2' q3' HB6 HB7 HB67 HB56 hg2 hg1
  rw [show ([0, 1, 1] : List Int).length = 3 from rfl] at HCU
  go_wp2
  refine region_rel (TB) [Cd.is (.pointer (some ⟨g2, 0, none⟩)), Cd.is (.slice aN 3 cN), Cd.is (.int .i64 3), Cd.is (.bool true), Cd.is (.bool true), Cd.is (.pointer (some ⟨g2, 1, none⟩)), Cd.is (.slice aP 3 cP), cRow [-1, 0, 0], Cd.is (.bool true), Cd.is (.bool true), Cd.is (.bool true), Cd.is (.pointer (some ⟨g2, 2, none⟩)), Cd.is (.slice aS 3 cS), cRow [3, 1, 1], Cd.is (.bool true), Cd.is (.bool true), Cd.is (.bool true), Cd.is (.slice (some ⟨bM, oM, none⟩) 1 cM), Cd.is (.int .i64 1), Cd.is (.bool true), Cd.is (.bool true), Cd.is (.bool true), Cd.is (.slice (some ⟨bM, oM, none⟩) 1 cM), Cd.is (.pointer (some ⟨bM, oM, none⟩)), Cd.is (.slice aU 3 cU), cRow [0, 1, 1], Cd.is (.bool true), Cd.is (.bool true), Cd.is (.bool true), Cd.is (.agg #[.slice aN 3 cN, .slice aP 3 cP, .slice aS 3 cS, .slice aK 3 cK]), cNode 29 ⟨#[43]⟩ ⟨#[]⟩ exC, Cd.is (.agg #[.int .i64 29, .string ⟨#[43]⟩, .string ⟨#[]⟩, .slice A3 2 C3]), Cd.is (.bool true), Cd.is (.bool true), Cd.is (.bool true)] (by kernel_rfl) (by decide) (by kernel_rfl) (Below.refl _ _) (fun _ _ _ h k => h.trans (k.mono h.size)) ?steps ?behind
  case steps =>
    intro xv W hW a ha
    replace hW := undrew hW
    simp only [fillA] at ha
    simp only [List.setIfInBounds_toArray, List.set_cons_succ, List.set_cons_zero, Nat.zero_add, Nat.reduceAdd] at ha
    subst ha
    refine ⟨fun hd K hK => ?s0, fun hd K hK => ?s1, fun hd K hK => ?s2, fun hd K hK => ?s3, fun hd K hK => ?s4, fun hd K hK => ?s5, fun hd K hK => ?s6, fun hd K hK => ?s7, fun hd K hK => ?s8, fun hd K hK => ?s9, fun hd K hK => ?s10, fun hd K hK => ?s11, fun hd K hK => ?s12, fun hd K hK => ?s13, fun hd K hK => ?s14, fun hd K hK => ?s15, fun hd K hK => ?s16, fun hd K hK => ?s17, fun hd K hK => ?s18, fun hd K hK => ?s19, fun hd K hK => ?s20, fun hd K hK => ?s21, fun hd K hK => ?s22, fun hd K hK => ?s23, fun hd K hK => ?s24, fun hd K hK => ?s25, fun hd K hK => ?s26, fun hd K hK => ?s27, fun hd K hK => ?s28, fun hd K hK => ?s29, fun hd K hK => ?s30, fun hd K hK => ?s31, fun hd K hK => ?s32, fun hd K hK => ?s33, fun hd K hK => ?s34, trivial⟩
    case s0 =>
      clear hd
      simp only [Act.put, List.setIfInBounds_toArray, List.set_cons_succ, List.set_cons_zero] at hK
      refine (if_pos (by rfl)).mpr ?_
      go_simp
      exact hK.out _ _ (Below.refl _ _) rfl
    case s1 =>
      have hx0 : xv 0 = .pointer (some ⟨g2, 0, none⟩) := hd 0 (by kernel_rfl)
      clear hd
      simp only [Act.put, List.setIfInBounds_toArray, List.set_cons_succ, List.set_cons_zero] at hK
      rw [hx0] at hK ⊢
      refine (if_pos (by rfl)).mpr ?_
      obtain ⟨p0, p1, p2, p3⟩ := HY.out W (HB68.out.trans (hW.mono HB68.out.size))
      go_simp
      exact hK.out _ _ (Below.refl _ _) rfl
    case s2 =>
      have hx1 : xv 1 = .slice aN 3 cN := hd 1 (by kernel_rfl)
      clear hd
      simp only [Act.put, List.setIfInBounds_toArray, List.set_cons_succ, List.set_cons_zero] at hK
      rw [hx1] at hK ⊢
      refine (if_pos (by rfl)).mpr ?_
      go_simp
      exact hK.out _ _ (Below.refl _ _) rfl
    case s3 =>
      have hx2 : xv 2 = .int .i64 3 := hd 2 (by kernel_rfl)
      clear hd
      simp only [Act.put, List.setIfInBounds_toArray, List.set_cons_succ, List.set_cons_zero] at hK
      rw [hx2] at hK ⊢
      refine (if_pos (by rfl)).mpr ?_
      go_simp
      exact hK.out _ _ (Below.refl _ _) rfl
    case s4 =>
      have hx3 : xv 3 = .bool true := hd 3 (by kernel_rfl)
      clear hd
      simp only [Act.put, List.setIfInBounds_toArray, List.set_cons_succ, List.set_cons_zero] at hK
      rw [hx3] at hK ⊢
      refine (if_pos (by rfl)).mpr ?_
      go_simp
      exact hK.out _ _ (Below.refl _ _) rfl
    case s5 =>
      have hx4 : xv 4 = .bool true := hd 4 (by kernel_rfl)
      clear hd
      simp only [Act.put, List.setIfInBounds_toArray, List.set_cons_succ, List.set_cons_zero] at hK
      rw [hx4] at hK ⊢
      refine (if_pos (by rfl)).mpr ?_
      go_simp
      exact hK.out _ _ (Below.refl _ _) rfl
    case s6 =>
      have hx4 : xv 4 = .bool true := hd 4 (by kernel_rfl)
      have hx5 : xv 5 = .pointer (some ⟨g2, 1, none⟩) := hd 5 (by kernel_rfl)
      clear hd
      simp only [Act.put, List.setIfInBounds_toArray, List.set_cons_succ, List.set_cons_zero] at hK
      rw [hx4] at hK ⊢
      rw [hx5] at hK ⊢
      refine (if_pos (by rfl)).mpr ?_
      obtain ⟨p0, p1, p2, p3⟩ := HY.out W (HB68.out.trans (hW.mono HB68.out.size))
      go_simp
      exact hK.out _ _ (Below.refl _ _) rfl
    case s7 =>
      have hx4 : xv 4 = .bool true := hd 4 (by kernel_rfl)
      clear hd
      simp only [Act.put, List.setIfInBounds_toArray, List.set_cons_succ, List.set_cons_zero] at hK
      rw [hx4] at hK ⊢
      refine (if_pos (by rfl)).mpr ?_
      have hbn := bel1 W (.cells #[.int .i64 (-1), .int .i64 0, .int .i64 0] 3)
      have hrn := ri_new (w := W) (xs := [-1, 0, 0]) 3
      go_simp
      exact hK.out _ _ hbn ⟨_, _, rfl, hrn.more (by simp)⟩
    case s8 =>
      have hx4 : xv 4 = .bool true := hd 4 (by kernel_rfl)
      have hx6 : xv 6 = .slice aP 3 cP := hd 6 (by kernel_rfl)
      have hx7 : ∃ A c, xv 7 = .slice A 3 c ∧ RI W W.heap.size A [-1, 0, 0] := hd 7 (by kernel_rfl)
      clear hd
      simp only [Act.put, List.setIfInBounds_toArray, List.set_cons_succ, List.set_cons_zero] at hK
      rw [hx4] at hK ⊢
      rw [hx6] at hK ⊢
      refine (if_pos (by rfl)).mpr ?_
      obtain ⟨A7, c7, e7, r7⟩ := hx7
      rw [e7] at hK ⊢
      go_simp
      go_at_call 12
      refine (refInts_any _ _ _ _ _ _ _ _ W _ _ (HRP.out W (HB58.out.trans (hW.mono HB58.out.size))) r7 rfl rfl (by decide)).mono ?_
      rintro e W' ⟨he, hb⟩
      rw [decide_eq_true rfl] at he
      subst he
      exact hK.out _ _ hb rfl
    case s9 =>
      have hx4 : xv 4 = .bool true := hd 4 (by kernel_rfl)
      have hx8 : xv 8 = .bool true := hd 8 (by kernel_rfl)
      clear hd
      simp only [Act.put, List.setIfInBounds_toArray, List.set_cons_succ, List.set_cons_zero] at hK
      rw [hx4] at hK ⊢
      rw [hx8] at hK ⊢
      refine (if_pos (by rfl)).mpr ?_
      go_simp
      exact hK.out _ _ (Below.refl _ _) rfl
    case s10 =>
      have hx9 : xv 9 = .bool true := hd 9 (by kernel_rfl)
      clear hd
      simp only [Act.put, List.setIfInBounds_toArray, List.set_cons_succ, List.set_cons_zero] at hK
      rw [hx9] at hK ⊢
      refine (if_pos (by rfl)).mpr ?_
      go_simp
      exact hK.out _ _ (Below.refl _ _) rfl
    case s11 =>
      have hx10 : xv 10 = .bool true := hd 10 (by kernel_rfl)
      clear hd
      simp only [Act.put, List.setIfInBounds_toArray, List.set_cons_succ, List.set_cons_zero] at hK
      rw [hx10] at hK ⊢
      refine (if_pos (by rfl)).mpr ?_
      go_simp
      exact hK.out _ _ (Below.refl _ _) rfl
    case s12 =>
      have hx10 : xv 10 = .bool true := hd 10 (by kernel_rfl)
      have hx11 : xv 11 = .pointer (some ⟨g2, 2, none⟩) := hd 11 (by kernel_rfl)
      clear hd
      simp only [Act.put, List.setIfInBounds_toArray, List.set_cons_succ, List.set_cons_zero] at hK
      rw [hx10] at hK ⊢
      rw [hx11] at hK ⊢
      refine (if_pos (by rfl)).mpr ?_
      obtain ⟨p0, p1, p2, p3⟩ := HY.out W (HB68.out.trans (hW.mono HB68.out.size))
      go_simp
      exact hK.out _ _ (Below.refl _ _) rfl
    case s13 =>
      have hx10 : xv 10 = .bool true := hd 10 (by kernel_rfl)
      clear hd
      simp only [Act.put, List.setIfInBounds_toArray, List.set_cons_succ, List.set_cons_zero] at hK
      rw [hx10] at hK ⊢
      refine (if_pos (by rfl)).mpr ?_
      have hbn := bel1 W (.cells #[.int .i64 3, .int .i64 1, .int .i64 1] 3)
      have hrn := ri_new (w := W) (xs := [3, 1, 1]) 3
      go_simp
      exact hK.out _ _ hbn ⟨_, _, rfl, hrn.more (by simp)⟩
    case s14 =>
      have hx10 : xv 10 = .bool true := hd 10 (by kernel_rfl)
      have hx12 : xv 12 = .slice aS 3 cS := hd 12 (by kernel_rfl)
      have hx13 : ∃ A c, xv 13 = .slice A 3 c ∧ RI W W.heap.size A [3, 1, 1] := hd 13 (by kernel_rfl)
      clear hd
      simp only [Act.put, List.setIfInBounds_toArray, List.set_cons_succ, List.set_cons_zero] at hK
      rw [hx10] at hK ⊢
      rw [hx12] at hK ⊢
      refine (if_pos (by rfl)).mpr ?_
      obtain ⟨A7, c7, e7, r7⟩ := hx13
      rw [e7] at hK ⊢
      go_simp
      go_at_call 12
      refine (refInts_any _ _ _ _ _ _ _ _ W _ _ (HRS.out W (HB58.out.trans (hW.mono HB58.out.size))) r7 rfl rfl (by decide)).mono ?_
      rintro e W' ⟨he, hb⟩
      rw [decide_eq_true rfl] at he
      subst he
      exact hK.out _ _ hb rfl
    case s15 =>
      have hx10 : xv 10 = .bool true := hd 10 (by kernel_rfl)
      have hx14 : xv 14 = .bool true := hd 14 (by kernel_rfl)
      clear hd
      simp only [Act.put, List.setIfInBounds_toArray, List.set_cons_succ, List.set_cons_zero] at hK
      rw [hx10] at hK ⊢
      rw [hx14] at hK ⊢
      refine (if_pos (by rfl)).mpr ?_
      go_simp
      exact hK.out _ _ (Below.refl _ _) rfl
    case s16 =>
      have hx15 : xv 15 = .bool true := hd 15 (by kernel_rfl)
      clear hd
      simp only [Act.put, List.setIfInBounds_toArray, List.set_cons_succ, List.set_cons_zero] at hK
      rw [hx15] at hK ⊢
      refine (if_pos (by rfl)).mpr ?_
      go_simp
      exact hK.out _ _ (Below.refl _ _) rfl
    case s17 =>
      have hx16 : xv 16 = .bool true := hd 16 (by kernel_rfl)
      clear hd
      simp only [Act.put, List.setIfInBounds_toArray, List.set_cons_succ, List.set_cons_zero] at hK
      rw [hx16] at hK ⊢
      refine (if_pos (by rfl)).mpr ?_
      go_simp
      exact hK.out _ _ (Below.refl _ _) rfl
    case s18 =>
      have hx16 : xv 16 = .bool true := hd 16 (by kernel_rfl)
      have hx17 : xv 17 = .slice (some ⟨bM, oM, none⟩) 1 cM := hd 17 (by kernel_rfl)
      clear hd
      simp only [Act.put, List.setIfInBounds_toArray, List.set_cons_succ, List.set_cons_zero] at hK
      rw [hx16] at hK ⊢
      rw [hx17] at hK ⊢
      refine (if_pos (by rfl)).mpr ?_
      go_simp
      exact hK.out _ _ (Below.refl _ _) rfl
    case s19 =>
      have hx16 : xv 16 = .bool true := hd 16 (by kernel_rfl)
      have hx18 : xv 18 = .int .i64 1 := hd 18 (by kernel_rfl)
      clear hd
      simp only [Act.put, List.setIfInBounds_toArray, List.set_cons_succ, List.set_cons_zero] at hK
      rw [hx16] at hK ⊢
      rw [hx18] at hK ⊢
      refine (if_pos (by rfl)).mpr ?_
      go_simp
      exact hK.out _ _ (Below.refl _ _) rfl
    case s20 =>
      have hx16 : xv 16 = .bool true := hd 16 (by kernel_rfl)
      have hx19 : xv 19 = .bool true := hd 19 (by kernel_rfl)
      clear hd
      simp only [Act.put, List.setIfInBounds_toArray, List.set_cons_succ, List.set_cons_zero] at hK
      rw [hx16] at hK ⊢
      rw [hx19] at hK ⊢
      refine (if_pos (by rfl)).mpr ?_
      go_simp
      exact hK.out _ _ (Below.refl _ _) rfl
    case s21 =>
      have hx20 : xv 20 = .bool true := hd 20 (by kernel_rfl)
      clear hd
      simp only [Act.put, List.setIfInBounds_toArray, List.set_cons_succ, List.set_cons_zero] at hK
      rw [hx20] at hK ⊢
      refine (if_pos (by rfl)).mpr ?_
      go_simp
      exact hK.out _ _ (Below.refl _ _) rfl
    case s22 =>
      have hx21 : xv 21 = .bool true := hd 21 (by kernel_rfl)
      clear hd
      simp only [Act.put, List.setIfInBounds_toArray, List.set_cons_succ, List.set_cons_zero] at hK
      rw [hx21] at hK ⊢
      refine (if_pos (by rfl)).mpr ?_
      go_simp
      exact hK.out _ _ (Below.refl _ _) rfl
    case s23 =>
      have hx21 : xv 21 = .bool true := hd 21 (by kernel_rfl)
      have hx22 : xv 22 = .slice (some ⟨bM, oM, none⟩) 1 cM := hd 22 (by kernel_rfl)
      clear hd
      simp only [Act.put, List.setIfInBounds_toArray, List.set_cons_succ, List.set_cons_zero] at hK
      rw [hx21] at hK ⊢
      rw [hx22] at hK ⊢
      refine (if_pos (by rfl)).mpr ?_
      go_simp
      exact hK.out _ _ (Below.refl _ _) rfl
    case s24 =>
      have hx21 : xv 21 = .bool true := hd 21 (by kernel_rfl)
      have hx23 : xv 23 = .pointer (some ⟨bM, oM, none⟩) := hd 23 (by kernel_rfl)
      clear hd
      simp only [Act.put, List.setIfInBounds_toArray, List.set_cons_succ, List.set_cons_zero] at hK
      rw [hx21] at hK ⊢
      rw [hx23] at hK ⊢
      refine (if_pos (by rfl)).mpr ?_
      have hcu := (hW.cell (p := ⟨bM, oM + 0, none⟩) HSM.out).trans HCU.out
      simp only [Nat.add_zero] at hcu
      go_simp
      exact hK.out _ _ (Below.refl _ _) rfl
    case s25 =>
      have hx21 : xv 21 = .bool true := hd 21 (by kernel_rfl)
      clear hd
      simp only [Act.put, List.setIfInBounds_toArray, List.set_cons_succ, List.set_cons_zero] at hK
      rw [hx21] at hK ⊢
      refine (if_pos (by rfl)).mpr ?_
      have hbn := bel1 W (.cells #[.int .i64 0, .int .i64 1, .int .i64 1] 3)
      have hrn := ri_new (w := W) (xs := [0, 1, 1]) 3
      go_simp
      exact hK.out _ _ hbn ⟨_, _, rfl, hrn.more (by simp)⟩
    case s26 =>
      have hx21 : xv 21 = .bool true := hd 21 (by kernel_rfl)
      have hx24 : xv 24 = .slice aU 3 cU := hd 24 (by kernel_rfl)
      have hx25 : ∃ A c, xv 25 = .slice A 3 c ∧ RI W W.heap.size A [0, 1, 1] := hd 25 (by kernel_rfl)
      clear hd
      simp only [Act.put, List.setIfInBounds_toArray, List.set_cons_succ, List.set_cons_zero] at hK
      rw [hx21] at hK ⊢
      rw [hx24] at hK ⊢
      refine (if_pos (by rfl)).mpr ?_
      obtain ⟨A7, c7, e7, r7⟩ := hx25
      rw [e7] at hK ⊢
      go_simp
      go_at_call 12
      refine (refInts_any _ _ _ _ _ _ _ _ W _ _ ((HRU.out.below hW (Nat.le_refl _)).more hW.size) r7 rfl rfl (by decide)).mono ?_
      rintro e W' ⟨he, hb⟩
      rw [decide_eq_true rfl] at he
      subst he
      exact hK.out _ _ hb rfl
    case s27 =>
      have hx21 : xv 21 = .bool true := hd 21 (by kernel_rfl)
      have hx26 : xv 26 = .bool true := hd 26 (by kernel_rfl)
      clear hd
      simp only [Act.put, List.setIfInBounds_toArray, List.set_cons_succ, List.set_cons_zero] at hK
      rw [hx21] at hK ⊢
      rw [hx26] at hK ⊢
      refine (if_pos (by rfl)).mpr ?_
      go_simp
      exact hK.out _ _ (Below.refl _ _) rfl
    case s28 =>
      have hx27 : xv 27 = .bool true := hd 27 (by kernel_rfl)
      clear hd
      simp only [Act.put, List.setIfInBounds_toArray, List.set_cons_succ, List.set_cons_zero] at hK
      rw [hx27] at hK ⊢
      refine (if_pos (by rfl)).mpr ?_
      go_simp
      exact hK.out _ _ (Below.refl _ _) rfl
    case s29 =>
      have hx28 : xv 28 = .bool true := hd 28 (by kernel_rfl)
      clear hd
      simp only [Act.put, List.setIfInBounds_toArray, List.set_cons_succ, List.set_cons_zero] at hK
      rw [hx28] at hK ⊢
      refine (if_pos (by rfl)).mpr ?_
      obtain ⟨p0, p1, p2, p3⟩ := HY.out W (HB68.out.trans (hW.mono HB68.out.size))
      go_simp
      exact hK.out _ _ (Below.refl _ _) rfl
    case s30 =>
      have hx28 : xv 28 = .bool true := hd 28 (by kernel_rfl)
      have hx29 : xv 29 = .agg #[.slice aN 3 cN, .slice aP 3 cP, .slice aS 3 cS, .slice aK 3 cK] := hd 29 (by kernel_rfl)
      clear hd
      simp only [Act.put, List.setIfInBounds_toArray, List.set_cons_succ, List.set_cons_zero] at hK
      rw [hx28] at hK ⊢
      rw [hx29] at hK ⊢
      refine (if_pos (by rfl)).mpr ?_
      go_simp
      go_at_call 14
      refine (HTr.out 29 ⟨#[43]⟩ ⟨#[]⟩ exC _ W (HPL.out W (HB58.out.trans (hW.mono HB58.out.size))) (by decide)).mono ?_
      rintro e W' ⟨hb, A7, n7, C7, rfl, hf7⟩
      exact hK.out _ _ hb ⟨A7, n7, C7, rfl, hf7.more fun b h => h.2⟩
    case s31 =>
      have hx28 : xv 28 = .bool true := hd 28 (by kernel_rfl)
      clear hd
      simp only [Act.put, List.setIfInBounds_toArray, List.set_cons_succ, List.set_cons_zero] at hK
      rw [hx28] at hK ⊢
      refine (if_pos (by rfl)).mpr ?_
      obtain ⟨p0, p1, p2, p3⟩ := HX.out W (HB46.out.trans ((HB68.out.trans (hW.mono HB68.out.size)).mono HB46.out.size))
      go_simp
      exact hK.out _ _ (Below.refl _ _) rfl
    case s32 =>
      have hx28 : xv 28 = .bool true := hd 28 (by kernel_rfl)
      have hx31 : xv 31 = .agg #[.int .i64 29, .string ⟨#[43]⟩, .string ⟨#[]⟩, .slice A3 2 C3] := hd 31 (by kernel_rfl)
      have hx30 : ∃ A n C, xv 30 = .agg #[.int .i64 29, .string ⟨#[43]⟩, .string ⟨#[]⟩, .slice A n C] ∧ Fs W (Lo W.heap.size) (.slice A n C) exC := hd 30 (by kernel_rfl)
      clear hd
      simp only [Act.put, List.setIfInBounds_toArray, List.set_cons_succ, List.set_cons_zero] at hK
      rw [hx28] at hK ⊢
      rw [hx31] at hK ⊢
      refine (if_pos (by rfl)).mpr ?_
      obtain ⟨A7, n7, C7, e7, r7⟩ := hx30
      rw [e7] at hK ⊢
      go_simp
      go_at_call 13
      have hsm := rsame_any exC.size 29 ⟨#[43]⟩ ⟨#[]⟩ A7 n7 C7 exC 29 ⟨#[43]⟩ ⟨#[]⟩ A3 2 C3 exC W (Nat.le_refl _) (by decide) r7 (HF4.out.later (HB46.out.trans ((HB68.out.trans (hW.mono HB68.out.size)).mono HB46.out.size)))
      rw [sameT_refl] at hsm
      refine hsm.mono ?_
      rintro e W' ⟨rfl, hb⟩
      exact hK.out _ _ hb rfl
    case s33 =>
      have hx28 : xv 28 = .bool true := hd 28 (by kernel_rfl)
      have hx32 : xv 32 = .bool true := hd 32 (by kernel_rfl)
      clear hd
      simp only [Act.put, List.setIfInBounds_toArray, List.set_cons_succ, List.set_cons_zero] at hK
      rw [hx28] at hK ⊢
      rw [hx32] at hK ⊢
      refine (if_pos (by rfl)).mpr ?_
      go_simp
      exact hK.out _ _ (Below.refl _ _) rfl
    case s34 =>
      have hx33 : xv 33 = .bool true := hd 33 (by kernel_rfl)
      clear hd
      simp only [Act.put, List.setIfInBounds_toArray, List.set_cons_zero] at hK
      rw [hx33] at hK ⊢
      refine (if_pos (by rfl)).mpr ?_
      go_simp
      exact hK.out _ _ (Below.refl _ _) rfl
  case behind =>
    intro xv W hW hx a ha
    replace hW := undrew hW
    simp only [fillA] at ha
    simp only [List.setIfInBounds_toArray, List.set_cons_succ, List.set_cons_zero, Nat.zero_add, Nat.reduceAdd] at ha
    subst ha
    have hx34 : xv 34 = .bool true := hx 34 (by decide)
    rw [hx34]
    have HBF := Lib.hid (HB8.out.trans (hW.mono HB8.out.size))
    clear hx hW
    go_wp2
    go_ret
    exact ⟨rfl, HBF.out⟩
end Go.Proofs.YtmknghhgcecafaaDoor.Shape
