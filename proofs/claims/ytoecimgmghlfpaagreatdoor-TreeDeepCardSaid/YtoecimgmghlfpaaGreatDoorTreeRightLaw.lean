/-
  Layer 5 (tree): the walk of TreeRight: which trees are programs. Written by gen_treerightlaw.py.
-/
import Derived.Test.YtoecimgmghlfpaaGreatDoorJoinKnown
import Derived.Test.YtoecimgmghlfpaaGreatDoorTreeRightAll
import Derived.Test.YtoecimgmghlfpaaGreatDoorTreeRefIn
import Derived.Test.YtoecimgmghlfpaaGreatDoorJoinRows
import Derived.Test.YtoecimgmghlfpaaGreatDoorTreeOpen
namespace Go.Proofs.YtoecimgmghlfpaaGreatDoor.Tree
open Go.ChangeShapes Go.WideShapes Go.ChangeAt Go.RowKit Mem
set_option linter.unusedVariables false

theorem smallT_of : ∀ (c : F), (∀ nd ∈ nodes c, wt nd ≤ 50000) → SmallT c
  | .nil, _ => trivial
  | .cons k x y c r, h => by
    have h0 := h ⟨k, x, y, c⟩ (by simp [nodes])
    simp only [wt] at h0
    exact ⟨by omega, by omega, smallT_of c fun nd hn => h nd (by simp [nodes, hn]), smallT_of r fun nd hn => h nd (by simp [nodes, hn])⟩
theorem few_smallT {k : Int} {x y : ByteArray} {c : F} (h : fewB k x y c = true) : SmallT c := by
  unfold fewB at h
  rw [Bool.and_eq_true, decide_eq_true_eq, decide_eq_true_eq] at h
  obtain ⟨h1, h2⟩ := h
  have hl : (((⟨k, x, y, c⟩ : Nd) :: nodes c)).length = c.size + 1 := by rw [List.length_cons, nodes_len]
  rw [List.length_take, hl] at h2
  rw [List.take_of_length_le (by omega)] at h1
  exact smallT_of c fun nd hn => Nat.le_trans (sumW_mem (List.mem_cons_of_mem _ hn)) h1

set_option maxRecDepth 100000 in
set_option maxHeartbeats 16000000 in
theorem treeRight_walk (k : Int) (x y : ByteArray) (A : Option Addr) (n C : Nat) (c : F) (w : World) (hf : Fs w (Lo w.heap.size) (.slice A n C) c) (hT : Lex.Tab w) :
    Calls Tryz.prog 3 #[.agg #[.int .i64 k, .string x, .string y, .slice A n C]] w fun e w' => e = .returned (.bool true) ∧ Below w.heap.size w w' := by
  have b1 := below1 w (.cells #[.int .i64 k, .string x, .string y, .slice A n C] 24)
  have HFW := Lib.hid (few_any k x y A n C c (w.alloc (.cells #[.int .i64 k, .string x, .string y, .slice A n C] 24)) (hf.later b1))
  have HT0 : Hid (∀ W, Below w.heap.size w W → Lex.Tab W) := fun W hW => hT.below hW hT.pos
  have HF0 : Hid (∀ W, Below w.heap.size w W → Fs W (Lo W.heap.size) (.slice A n C) c) := fun W hW => hf.later hW
  have HBX0 : Hid (∀ W, Below (w.alloc (.cells #[.int .i64 k, .string x, .string y, .slice A n C] 24)).heap.size (w.alloc (.cells #[.int .i64 k, .string x, .string y, .slice A n C] 24)) W → W.cell? ⟨w.heap.size, 0, none⟩ = some (.int .i64 k) ∧ W.cell? ⟨w.heap.size, 1, none⟩ = some (.string x) ∧ W.cell? ⟨w.heap.size, 2, none⟩ = some (.string y) ∧ W.cell? ⟨w.heap.size, 3, none⟩ = some (.slice A n C)) := fun W hW => ((boxed_new w k x y (.slice A n C)).below hW (by simp)).cells
  have HB1 := Lib.hid b1
  clear hf hT b1
  cases hfb : fewB k x y c with
  | false =>
    rw [hfb] at HFW
    clear hfb
    go_enter Tryz.func3, Tryz.ntmps3
    go_wp2_with fail
    refine HFW.out.mono ?_
    rintro e w1 ⟨rfl, hb⟩
    have HB := Lib.hid (HB1.out.trans (hb.mono HB1.out.size))
    have HK := Lib.hid (known_any w1 (HT0.out w1 HB.out))
    clear hb
    go_wp2_with fail
    refine HK.out.mono ?_
    rintro e w2 ⟨rfl, hb⟩
    have HB2 := Lib.hid (HB.out.trans (hb.mono HB.out.size))
    clear hb
    go_wp2
    go_ret
    exact ⟨rfl, HB2.out⟩
  | true =>
    rw [hfb] at HFW
    have HIS := Lib.hid (few_is hfb)
    have HST := Lib.hid (few_smallT hfb)
    clear hfb
    go_enter Tryz.func3, Tryz.ntmps3
    go_wp2_with fail
    refine HFW.out.mono ?_
    rintro e w1 ⟨rfl, hb⟩
    have HBA := Lib.hid (HB1.out.trans (hb.mono HB1.out.size))
    have HBX : Hid (∀ W, Below w1.heap.size w1 W → W.cell? ⟨w.heap.size, 0, none⟩ = some (.int .i64 k) ∧ W.cell? ⟨w.heap.size, 1, none⟩ = some (.string x) ∧ W.cell? ⟨w.heap.size, 2, none⟩ = some (.string y) ∧ W.cell? ⟨w.heap.size, 3, none⟩ = some (.slice A n C)) := fun W hW => HBX0.out W (hb.trans (hW.mono hb.size))
    have HT : Hid (∀ W, Below w1.heap.size w1 W → Lex.Tab W) := fun W hW => HT0.out W (HBA.out.trans (hW.mono HBA.out.size))
    have HRT : Hid (∀ W, Below w1.heap.size w1 W → Calls Tryz.prog 9 #[.agg #[.int .i64 k, .string x, .string y, .slice A n C]] W fun e w' => e = .returned (.bool (rightT nmB tkB k x y c)) ∧ Below W.heap.size W w') := fun W hW =>
      right_any k x y A n C c W (HF0.out W (HBA.out.trans (hW.mono HBA.out.size))) (by have := HIS.out.hx; omega) (by have := HIS.out.hy; omega) HIS.out.sm (HT.out W hW)
    have HRR : Hid (∀ W, Below w1.heap.size w1 W → Calls Tryz.prog 10 #[.agg #[.int .i64 k, .string x, .string y, .slice A n C]] W fun e w' => e = .returned (.bool (rightT nmB tkB k x y c)) ∧ Below W.heap.size W w') := fun W hW =>
      refRight_any k x y A n C c W (HF0.out W (HBA.out.trans (hW.mono HBA.out.size))) (by have := HIS.out.hx; omega) (by have := HIS.out.hy; omega) HST.out
    generalize rightT nmB tkB k x y c = rb at *
    obtain ⟨q0, q1, q2, q3⟩ := HBX.out w1 (Below.refl _ _)
    clear hb HFW HBX0 HB1 HT0 HF0
    go_wp2
    refine region_rel (fun W W' => Below W.heap.size W W') [Cd.is (Value.bool true), Cd.is (Value.bool true), Cd.is (Value.agg #[.int .i64 k, .string x, .string y, .slice A n C]), Cd.is (Value.bool rb), Cd.is (Value.agg #[.int .i64 k, .string x, .string y, .slice A n C]), Cd.is (Value.bool rb), Cd.is (Value.bool true), Cd.is (Value.bool true), Cd.is (Value.bool true)] (by kernel_rfl) (by decide) (by kernel_rfl) (Below.refl _ _) (fun _ _ _ h k => h.trans (k.mono h.size)) ?steps ?behind
    case steps =>
      intro xv W hW a ha
      replace hW := undrew hW
      simp only [fillA] at ha
      simp only [List.setIfInBounds_toArray, List.set_cons_succ, List.set_cons_zero, Nat.zero_add, Nat.reduceAdd] at ha
      subst ha
      refine ⟨fun hd K hK => ?s0, fun hd K hK => ?s1, fun hd K hK => ?s2, fun hd K hK => ?s3, fun hd K hK => ?s4, fun hd K hK => ?s5, fun hd K hK => ?s6, fun hd K hK => ?s7, fun hd K hK => ?s8, trivial⟩
      case s0 =>
        clear hd
        simp only [Act.put, List.setIfInBounds_toArray, List.set_cons_succ, List.set_cons_zero] at hK
        refine (if_pos (by rfl)).mpr ?_
        go_simp
        go_at_call 8
        refine (known_any W (HT.out W hW)).mono ?_
        rintro e w' ⟨rfl, hb⟩
        exact hK.out _ _ hb rfl
      case s1 =>
        have hx0 : xv 0 = Value.bool true := hd 0 (by kernel_rfl)
        clear hd
        simp only [Act.put, List.setIfInBounds_toArray, List.set_cons_succ, List.set_cons_zero] at hK
        rw [hx0] at hK ⊢
        refine (if_pos (by rfl)).mpr ?_
        go_simp
        exact hK.out _ _ (Below.refl _ _) rfl
      case s2 =>
        have hx1 : xv 1 = Value.bool true := hd 1 (by kernel_rfl)
        clear hd
        simp only [Act.put, List.setIfInBounds_toArray, List.set_cons_succ, List.set_cons_zero] at hK
        rw [hx1] at hK ⊢
        refine (if_pos (by rfl)).mpr ?_
        obtain ⟨hq0, hq1, hq2, hq3⟩ := HBX.out W hW
        go_simp
        exact hK.out _ _ (Below.refl _ _) rfl
      case s3 =>
        have hx1 : xv 1 = Value.bool true := hd 1 (by kernel_rfl)
        have hx2 : xv 2 = Value.agg #[.int .i64 k, .string x, .string y, .slice A n C] := hd 2 (by kernel_rfl)
        clear hd
        simp only [Act.put, List.setIfInBounds_toArray, List.set_cons_succ, List.set_cons_zero] at hK
        rw [hx1] at hK ⊢
        rw [hx2] at hK ⊢
        refine (if_pos (by rfl)).mpr ?_
        go_simp
        go_at_call 9
        refine (HRT.out W hW).mono ?_
        rintro e w' ⟨rfl, hb⟩
        exact hK.out _ _ hb rfl
      case s4 =>
        have hx1 : xv 1 = Value.bool true := hd 1 (by kernel_rfl)
        clear hd
        simp only [Act.put, List.setIfInBounds_toArray, List.set_cons_succ, List.set_cons_zero] at hK
        rw [hx1] at hK ⊢
        refine (if_pos (by rfl)).mpr ?_
        obtain ⟨hq0, hq1, hq2, hq3⟩ := HBX.out W hW
        go_simp
        exact hK.out _ _ (Below.refl _ _) rfl
      case s5 =>
        have hx1 : xv 1 = Value.bool true := hd 1 (by kernel_rfl)
        have hx4 : xv 4 = Value.agg #[.int .i64 k, .string x, .string y, .slice A n C] := hd 4 (by kernel_rfl)
        clear hd
        simp only [Act.put, List.setIfInBounds_toArray, List.set_cons_succ, List.set_cons_zero] at hK
        rw [hx1] at hK ⊢
        rw [hx4] at hK ⊢
        refine (if_pos (by rfl)).mpr ?_
        go_simp
        go_at_call 10
        refine (HRR.out W hW).mono ?_
        rintro e w' ⟨rfl, hb⟩
        exact hK.out _ _ hb rfl
      case s6 =>
        have hx1 : xv 1 = Value.bool true := hd 1 (by kernel_rfl)
        have hx3 : xv 3 = Value.bool rb := hd 3 (by kernel_rfl)
        have hx5 : xv 5 = Value.bool rb := hd 5 (by kernel_rfl)
        clear hd
        simp only [Act.put, List.setIfInBounds_toArray, List.set_cons_succ, List.set_cons_zero] at hK
        rw [hx1] at hK ⊢
        rw [hx3] at hK ⊢
        rw [hx5] at hK ⊢
        refine (if_pos (by rfl)).mpr ?_
        have hne : (rb == rb) = true := by simp
        go_simp
        exact hK.out _ _ (Below.refl _ _) rfl
      case s7 =>
        have hx1 : xv 1 = Value.bool true := hd 1 (by kernel_rfl)
        have hx6 : xv 6 = Value.bool true := hd 6 (by kernel_rfl)
        clear hd
        simp only [Act.put, List.setIfInBounds_toArray, List.set_cons_succ, List.set_cons_zero] at hK
        rw [hx1] at hK ⊢
        rw [hx6] at hK ⊢
        refine (if_pos (by rfl)).mpr ?_
        go_simp
        exact hK.out _ _ (Below.refl _ _) rfl
      case s8 =>
        have hx7 : xv 7 = Value.bool true := hd 7 (by kernel_rfl)
        clear hd
        simp only [Act.put, List.setIfInBounds_toArray, List.set_cons_succ, List.set_cons_zero] at hK
        rw [hx7] at hK ⊢
        refine (if_pos (by rfl)).mpr ?_
        go_simp
        exact hK.out _ _ (Below.refl _ _) rfl
    case behind =>
      intro xv W hW hx a ha
      replace hW := undrew hW
      simp only [fillA] at ha
      simp only [List.setIfInBounds_toArray, List.set_cons_succ, List.set_cons_zero, Nat.zero_add, Nat.reduceAdd] at ha
      subst ha
      have h8 : xv 8 = Value.bool true := hx 8 (by decide)
      rw [h8]
      have HW := Lib.hid (HBA.out.trans (hW.mono HBA.out.size))
      clear hx h8 hW
      go_wp2
      go_ret
      exact ⟨rfl, HW.out⟩
end Go.Proofs.YtoecimgmghlfpaaGreatDoor.Tree
