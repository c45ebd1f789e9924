/-
  Layer 5 (tree): the walk of TreeParens: how strongly operators bind, and which Kids stand in parentheses. Written by gen_treeparenslaw.py.
-/
import Derived.Test.YtoecimgmghlfpaaDoorTreeKnown
import Derived.Test.YtoecimgmghlfpaaDoorTreeRefParen
import Derived.Test.YtoecimgmghlfpaaDoorTreeOpen
namespace Go.Proofs.YtoecimgmghlfpaaDoor.Tree
open Go.ChangeShapes Go.WideShapes Go.ChangeAt Go.RowKit Mem
set_option linter.unusedVariables false

set_option maxRecDepth 100000 in
set_option maxHeartbeats 16000000 in
theorem treeParens_walk (k : Int) (x y : ByteArray) (A : Option Addr) (n C : Nat) (c : F) (place : Int) (op : ByteArray) (w : World) (hf : Fs w (Lo w.heap.size) (.slice A n C) c) (hT : Lex.Tab w) :
    Calls Tryd.prog 4 #[.agg #[.int .i64 k, .string x, .string y, .slice A n C], .int .i64 place, .string op] w fun e w' => e = .returned (.bool true) ∧ Below w.heap.size w w' := by
  have b1 := below1 w (.cells #[.int .i64 k, .string x, .string y, .slice A n C] 24)
  have HFW := Lib.hid (few_any k x y A n C c (w.alloc (.cells #[.int .i64 k, .string x, .string y, .slice A n C] 24)) (hf.later b1))
  have HT : Hid (∀ W, Below w.heap.size w W → Lex.Tab W) := fun W hW => hT.below hW hT.pos
  have HF : Hid (∀ W, Below w.heap.size w W → Fs W (Lo W.heap.size) (.slice A n C) c) := fun W hW => hf.later hW
  have HBX0 : Hid (∀ W, Below (w.alloc (.cells #[.int .i64 k, .string x, .string y, .slice A n C] 24)).heap.size (w.alloc (.cells #[.int .i64 k, .string x, .string y, .slice A n C] 24)) W → W.cell? ⟨w.heap.size, 0, none⟩ = some (.int .i64 k) ∧ W.cell? ⟨w.heap.size, 1, none⟩ = some (.string x) ∧ W.cell? ⟨w.heap.size, 2, none⟩ = some (.string y) ∧ W.cell? ⟨w.heap.size, 3, none⟩ = some (.slice A n C)) := fun W hW => ((boxed_new w k x y (.slice A n C)).below hW (by simp)).cells
  have HB1 := Lib.hid b1
  obtain ⟨_, _, e, hnC, hCm⟩ := hf.slice
  clear hf hT b1 e hnC hCm
  cases hfb : fewB k x y c with
  | false =>
    rw [hfb] at HFW
    clear hfb
    go_enter Tryd.func4, Tryd.ntmps4
    go_wp2_with fail
    refine HFW.out.mono ?_
    rintro e w1 ⟨rfl, hb⟩
    have HB := Lib.hid (HB1.out.trans (hb.mono HB1.out.size))
    have HK := Lib.hid (known_any w1 (HT.out w1 HB.out))
    clear hb
    go_wp2_with fail
    refine HK.out.mono ?_
    rintro e w2 ⟨rfl, hb⟩
    have HB2 := Lib.hid (HB.out.trans (hb.mono HB.out.size))
    clear hb
    go_wp2
    go_ret
    exact ⟨rfl, HB2.out⟩
  | true =>
    rw [hfb] at HFW
    have HIS := Lib.hid (few_is hfb)
    clear hfb
    by_cases hop : 100 < op.size
    · have hop' : (100 : Int) < (op.size : Int) := by omega
      go_enter Tryd.func4, Tryd.ntmps4
      go_wp2_with fail
      refine HFW.out.mono ?_
      rintro e w1 ⟨rfl, hb⟩
      have HB := Lib.hid (HB1.out.trans (hb.mono HB1.out.size))
      have HK := Lib.hid (known_any w1 (HT.out w1 HB.out))
      clear hb
      go_wp2_with fail
      refine HK.out.mono ?_
      rintro e w2 ⟨rfl, hb⟩
      have HB2 := Lib.hid (HB.out.trans (hb.mono HB.out.size))
      clear hb
      go_wp2
      go_ret
      exact ⟨rfl, HB2.out⟩
    · have hop' : ¬ (100 : Int) < (op.size : Int) := by omega
      clear hop
      go_enter Tryd.func4, Tryd.ntmps4
      go_wp2_with fail
      refine HFW.out.mono ?_
      rintro e w1 ⟨rfl, hb⟩
      have HBA := Lib.hid (HB1.out.trans (hb.mono HB1.out.size))
      have HBX : Hid (∀ W, Below w1.heap.size w1 W → W.cell? ⟨w.heap.size, 0, none⟩ = some (.int .i64 k) ∧ W.cell? ⟨w.heap.size, 1, none⟩ = some (.string x) ∧ W.cell? ⟨w.heap.size, 2, none⟩ = some (.string y) ∧ W.cell? ⟨w.heap.size, 3, none⟩ = some (.slice A n C)) := fun W hW => HBX0.out W (hb.trans (hW.mono hb.size))
      have HT1 : Hid (∀ W, Below w1.heap.size w1 W → Lex.Tab W) := fun W hW => HT.out W (HBA.out.trans (hW.mono HBA.out.size))
      have HF1 : Hid (∀ W, Below w1.heap.size w1 W → Fs W (Lo W.heap.size) (.slice A n C) c) := fun W hW => HF.out W (HBA.out.trans (hW.mono HBA.out.size))
      clear hb HFW HBX0 HB1 HT HF
      have HT := HT1; have HF := HF1
      clear HT1 HF1
      go_wp2
      go_loopw [7] (fun s7 wr => ∃ i : Int, -1 ≤ i ∧ i ≤ 50 ∧ s7 = .int .i64 i ∧ Hid (Below w1.heap.size w1 wr)) (fun s7 _ => (60 - intOf s7).toNat)
      case atStart => exact ⟨-1, by omega, by omega, rfl, Below.refl _ _⟩
      case round =>
        obtain ⟨i, hi1, hi2, rfl, HB⟩ := hrel
        obtain ⟨z0, z1, z2, z3⟩ := HBX.out wr HB.out
        by_cases hin : i ≤ (n : Int)
        · by_cases h50 : i < 50
          · go_wp2
            refine region_rel (fun W W' => Below W.heap.size W W') [Cd.is (Value.agg #[.int .i64 k, .string x, .string y, .slice A n C]), Cd.is (Value.int .i64 i), Cd.is (Value.bool (parenI k x c i)), Cd.is (Value.agg #[.int .i64 k, .string x, .string y, .slice A n C]), Cd.is (Value.int .i64 i), Cd.is (Value.bool (parenI k x c i)), Cd.is (Value.bool false)] (by kernel_rfl) (by decide) (by kernel_rfl) (Below.refl _ _) (fun _ _ _ h k => h.trans (k.mono h.size)) ?steps ?behind
            case steps =>
              intro xv W hW a ha
              replace hW := undrew hW
              simp only [fillA] at ha
              simp only [List.setIfInBounds_toArray, List.set_cons_succ, List.set_cons_zero, Nat.zero_add, Nat.reduceAdd] at ha
              subst ha
              refine ⟨fun hd K hK => ?s0, fun hd K hK => ?s1, fun hd K hK => ?s2, fun hd K hK => ?s3, fun hd K hK => ?s4, fun hd K hK => ?s5, fun hd K hK => ?s6, trivial⟩
              case s0 =>
                clear hd
                simp only [Act.put, List.setIfInBounds_toArray, List.set_cons_succ, List.set_cons_zero] at hK
                refine (if_pos (by rfl)).mpr ?_
                obtain ⟨hq0, hq1, hq2, hq3⟩ := HBX.out W (HB.out.trans (hW.mono HB.out.size))
                go_simp
                exact hK.out _ _ (Below.refl _ _) rfl
              case s1 =>
                clear hd
                simp only [Act.put, List.setIfInBounds_toArray, List.set_cons_succ, List.set_cons_zero] at hK
                refine (if_pos (by rfl)).mpr ?_
                go_simp
                exact hK.out _ _ (Below.refl _ _) rfl
              case s2 =>
                have hx0 : xv 0 = Value.agg #[.int .i64 k, .string x, .string y, .slice A n C] := hd 0 (by kernel_rfl)
                have hx1 : xv 1 = Value.int .i64 i := hd 1 (by kernel_rfl)
                clear hd
                simp only [Act.put, List.setIfInBounds_toArray, List.set_cons_succ, List.set_cons_zero] at hK
                rw [hx0] at hK ⊢
                rw [hx1] at hK ⊢
                refine (if_pos (by rfl)).mpr ?_
                go_simp
                go_at_call 15
                refine (paren_is W k x y A n C c i (HF.out W (HB.out.trans (hW.mono HB.out.size)))).mono ?_
                rintro e w' ⟨rfl, hb⟩
                exact hK.out _ _ hb rfl
              case s3 =>
                clear hd
                simp only [Act.put, List.setIfInBounds_toArray, List.set_cons_succ, List.set_cons_zero] at hK
                refine (if_pos (by rfl)).mpr ?_
                obtain ⟨hq0, hq1, hq2, hq3⟩ := HBX.out W (HB.out.trans (hW.mono HB.out.size))
                go_simp
                exact hK.out _ _ (Below.refl _ _) rfl
              case s4 =>
                clear hd
                simp only [Act.put, List.setIfInBounds_toArray, List.set_cons_succ, List.set_cons_zero] at hK
                refine (if_pos (by rfl)).mpr ?_
                go_simp
                exact hK.out _ _ (Below.refl _ _) rfl
              case s5 =>
                have hx3 : xv 3 = Value.agg #[.int .i64 k, .string x, .string y, .slice A n C] := hd 3 (by kernel_rfl)
                have hx4 : xv 4 = Value.int .i64 i := hd 4 (by kernel_rfl)
                clear hd
                simp only [Act.put, List.setIfInBounds_toArray, List.set_cons_succ, List.set_cons_zero] at hK
                rw [hx3] at hK ⊢
                rw [hx4] at hK ⊢
                refine (if_pos (by rfl)).mpr ?_
                go_simp
                go_at_call 16
                refine (refParen_is W k x y A n C c i (Nat.le_refl _) (HF.out W (HB.out.trans (hW.mono HB.out.size)))).mono ?_
                rintro e w' ⟨rfl, hb⟩
                exact hK.out _ _ hb rfl
              case s6 =>
                have hx2 : xv 2 = Value.bool (parenI k x c i) := hd 2 (by kernel_rfl)
                have hx5 : xv 5 = Value.bool (parenI k x c i) := hd 5 (by kernel_rfl)
                clear hd
                simp only [Act.put, List.setIfInBounds_toArray, List.set_cons_succ, List.set_cons_zero] at hK
                rw [hx2] at hK ⊢
                rw [hx5] at hK ⊢
                refine (if_pos (by rfl)).mpr ?_
                have hne : (parenI k x c i != parenI k x c i) = false := by simp
                go_simp
                exact hK.out _ _ (Below.refl _ _) rfl
            case behind =>
              intro xv W hW hx a ha
              replace hW := undrew hW
              simp only [fillA] at ha
              simp only [List.setIfInBounds_toArray, List.set_cons_succ, List.set_cons_zero, Nat.zero_add, Nat.reduceAdd] at ha
              subst ha
              have h6 : xv 6 = Value.bool false := hx 6 (by decide)
              rw [h6]
              have HW := Lib.hid (HB.out.trans (hW.mono HB.out.size))
              clear hx h6 hW
              go_wp2
              go_roundw
              case rel => exact ⟨i + 1, by omega, by omega, by go_num, HW.out⟩
              case measure => simp [intOf]; omega
          · go_wp2
            refine region_rel (fun W W' => Below W.heap.size W W') [Cd.is (Value.bool true), Cd.is (Value.bool true), Cd.is (Value.agg #[.int .i64 k, .string x, .string y, .slice A n C]), Cd.is (Value.int .i64 place), Cd.is (Value.bool (parenI k x c place)), Cd.is (Value.agg #[.int .i64 k, .string x, .string y, .slice A n C]), Cd.is (Value.int .i64 place), Cd.is (Value.bool (parenI k x c place)), Cd.is (Value.bool true), Cd.is (Value.bool true), Cd.is (Value.bool true), Cd.is (Value.string op), Cd.is (Value.int .i64 ((level op : Nat) : Int)), Cd.is (Value.string op), Cd.is (Value.int .i64 ((level op : Nat) : Int)), Cd.is (Value.bool true), Cd.is (Value.bool true), Cd.is (Value.bool true)] (by kernel_rfl) (by decide) (by kernel_rfl) (Below.refl _ _) (fun _ _ _ h k => h.trans (k.mono h.size)) ?steps ?behind
            case steps =>
              intro xv W hW a ha
              replace hW := undrew hW
              simp only [fillA] at ha
              simp only [List.setIfInBounds_toArray, List.set_cons_succ, List.set_cons_zero, Nat.zero_add, Nat.reduceAdd] at ha
              subst ha
              refine ⟨fun hd K hK => ?s0, fun hd K hK => ?s1, fun hd K hK => ?s2, fun hd K hK => ?s3, fun hd K hK => ?s4, fun hd K hK => ?s5, fun hd K hK => ?s6, fun hd K hK => ?s7, fun hd K hK => ?s8, fun hd K hK => ?s9, fun hd K hK => ?s10, fun hd K hK => ?s11, fun hd K hK => ?s12, fun hd K hK => ?s13, fun hd K hK => ?s14, fun hd K hK => ?s15, fun hd K hK => ?s16, fun hd K hK => ?s17, trivial⟩
              case s0 =>
                clear hd
                simp only [Act.put, List.setIfInBounds_toArray, List.set_cons_succ, List.set_cons_zero] at hK
                refine (if_pos (by rfl)).mpr ?_
                go_simp
                go_at_call 6
                refine (known_any W (HT.out W (HB.out.trans (hW.mono HB.out.size)))).mono ?_
                rintro e w' ⟨rfl, hb⟩
                exact hK.out _ _ hb rfl
              case s1 =>
                have hx0 : xv 0 = Value.bool true := hd 0 (by kernel_rfl)
                clear hd
                simp only [Act.put, List.setIfInBounds_toArray, List.set_cons_succ, List.set_cons_zero] at hK
                rw [hx0] at hK ⊢
                refine (if_pos (by rfl)).mpr ?_
                go_simp
                exact hK.out _ _ (Below.refl _ _) rfl
              case s2 =>
                have hx1 : xv 1 = Value.bool true := hd 1 (by kernel_rfl)
                clear hd
                simp only [Act.put, List.setIfInBounds_toArray, List.set_cons_succ, List.set_cons_zero] at hK
                rw [hx1] at hK ⊢
                refine (if_pos (by rfl)).mpr ?_
                obtain ⟨hq0, hq1, hq2, hq3⟩ := HBX.out W (HB.out.trans (hW.mono HB.out.size))
                go_simp
                exact hK.out _ _ (Below.refl _ _) rfl
              case s3 =>
                have hx1 : xv 1 = Value.bool true := hd 1 (by kernel_rfl)
                clear hd
                simp only [Act.put, List.setIfInBounds_toArray, List.set_cons_succ, List.set_cons_zero] at hK
                rw [hx1] at hK ⊢
                refine (if_pos (by rfl)).mpr ?_
                go_simp
                exact hK.out _ _ (Below.refl _ _) rfl
              case s4 =>
                have hx1 : xv 1 = Value.bool true := hd 1 (by kernel_rfl)
                have hx2 : xv 2 = Value.agg #[.int .i64 k, .string x, .string y, .slice A n C] := hd 2 (by kernel_rfl)
                have hx3 : xv 3 = Value.int .i64 place := hd 3 (by kernel_rfl)
                clear hd
                simp only [Act.put, List.setIfInBounds_toArray, List.set_cons_succ, List.set_cons_zero] at hK
                rw [hx1] at hK ⊢
                rw [hx2] at hK ⊢
                rw [hx3] at hK ⊢
                refine (if_pos (by rfl)).mpr ?_
                go_simp
                go_at_call 15
                refine (paren_is W k x y A n C c place (HF.out W (HB.out.trans (hW.mono HB.out.size)))).mono ?_
                rintro e w' ⟨rfl, hb⟩
                exact hK.out _ _ hb rfl
              case s5 =>
                have hx1 : xv 1 = Value.bool true := hd 1 (by kernel_rfl)
                clear hd
                simp only [Act.put, List.setIfInBounds_toArray, List.set_cons_succ, List.set_cons_zero] at hK
                rw [hx1] at hK ⊢
                refine (if_pos (by rfl)).mpr ?_
                obtain ⟨hq0, hq1, hq2, hq3⟩ := HBX.out W (HB.out.trans (hW.mono HB.out.size))
                go_simp
                exact hK.out _ _ (Below.refl _ _) rfl
              case s6 =>
                have hx1 : xv 1 = Value.bool true := hd 1 (by kernel_rfl)
                clear hd
                simp only [Act.put, List.setIfInBounds_toArray, List.set_cons_succ, List.set_cons_zero] at hK
                rw [hx1] at hK ⊢
                refine (if_pos (by rfl)).mpr ?_
                go_simp
                exact hK.out _ _ (Below.refl _ _) rfl
              case s7 =>
                have hx1 : xv 1 = Value.bool true := hd 1 (by kernel_rfl)
                have hx5 : xv 5 = Value.agg #[.int .i64 k, .string x, .string y, .slice A n C] := hd 5 (by kernel_rfl)
                have hx6 : xv 6 = Value.int .i64 place := hd 6 (by kernel_rfl)
                clear hd
                simp only [Act.put, List.setIfInBounds_toArray, List.set_cons_succ, List.set_cons_zero] at hK
                rw [hx1] at hK ⊢
                rw [hx5] at hK ⊢
                rw [hx6] at hK ⊢
                refine (if_pos (by rfl)).mpr ?_
                go_simp
                go_at_call 16
                refine (refParen_is W k x y A n C c place (Nat.le_refl _) (HF.out W (HB.out.trans (hW.mono HB.out.size)))).mono ?_
                rintro e w' ⟨rfl, hb⟩
                exact hK.out _ _ hb rfl
              case s8 =>
                have hx1 : xv 1 = Value.bool true := hd 1 (by kernel_rfl)
                have hx4 : xv 4 = Value.bool (parenI k x c place) := hd 4 (by kernel_rfl)
                have hx7 : xv 7 = Value.bool (parenI k x c place) := hd 7 (by kernel_rfl)
                clear hd
                simp only [Act.put, List.setIfInBounds_toArray, List.set_cons_succ, List.set_cons_zero] at hK
                rw [hx1] at hK ⊢
                rw [hx4] at hK ⊢
                rw [hx7] at hK ⊢
                refine (if_pos (by rfl)).mpr ?_
                have hne : (parenI k x c place == parenI k x c place) = true := by simp
                go_simp
                exact hK.out _ _ (Below.refl _ _) rfl
              case s9 =>
                have hx1 : xv 1 = Value.bool true := hd 1 (by kernel_rfl)
                have hx8 : xv 8 = Value.bool true := hd 8 (by kernel_rfl)
                clear hd
                simp only [Act.put, List.setIfInBounds_toArray, List.set_cons_succ, List.set_cons_zero] at hK
                rw [hx1] at hK ⊢
                rw [hx8] at hK ⊢
                refine (if_pos (by rfl)).mpr ?_
                go_simp
                exact hK.out _ _ (Below.refl _ _) rfl
              case s10 =>
                have hx9 : xv 9 = Value.bool true := hd 9 (by kernel_rfl)
                clear hd
                simp only [Act.put, List.setIfInBounds_toArray, List.set_cons_succ, List.set_cons_zero] at hK
                rw [hx9] at hK ⊢
                refine (if_pos (by rfl)).mpr ?_
                go_simp
                exact hK.out _ _ (Below.refl _ _) rfl
              case s11 =>
                have hx10 : xv 10 = Value.bool true := hd 10 (by kernel_rfl)
                clear hd
                simp only [Act.put, List.setIfInBounds_toArray, List.set_cons_succ, List.set_cons_zero] at hK
                rw [hx10] at hK ⊢
                refine (if_pos (by rfl)).mpr ?_
                go_simp
                exact hK.out _ _ (Below.refl _ _) rfl
              case s12 =>
                have hx10 : xv 10 = Value.bool true := hd 10 (by kernel_rfl)
                have hx11 : xv 11 = Value.string op := hd 11 (by kernel_rfl)
                clear hd
                simp only [Act.put, List.setIfInBounds_toArray, List.set_cons_succ, List.set_cons_zero] at hK
                rw [hx10] at hK ⊢
                rw [hx11] at hK ⊢
                refine (if_pos (by rfl)).mpr ?_
                go_simp
                go_at_call 17
                refine (level_any op W).mono ?_
                rintro e w' ⟨rfl, hb⟩
                exact hK.out _ _ (by rw [hb]; exact Below.refl _ _) rfl
              case s13 =>
                have hx10 : xv 10 = Value.bool true := hd 10 (by kernel_rfl)
                clear hd
                simp only [Act.put, List.setIfInBounds_toArray, List.set_cons_succ, List.set_cons_zero] at hK
                rw [hx10] at hK ⊢
                refine (if_pos (by rfl)).mpr ?_
                go_simp
                exact hK.out _ _ (Below.refl _ _) rfl
              case s14 =>
                have hx10 : xv 10 = Value.bool true := hd 10 (by kernel_rfl)
                have hx13 : xv 13 = Value.string op := hd 13 (by kernel_rfl)
                clear hd
                simp only [Act.put, List.setIfInBounds_toArray, List.set_cons_succ, List.set_cons_zero] at hK
                rw [hx10] at hK ⊢
                rw [hx13] at hK ⊢
                refine (if_pos (by rfl)).mpr ?_
                go_simp
                go_at_call 18
                refine (refLevel_any op W).mono ?_
                rintro e w' ⟨rfl, hb⟩
                exact hK.out _ _ (by rw [hb]; exact Below.refl _ _) rfl
              case s15 =>
                have hx10 : xv 10 = Value.bool true := hd 10 (by kernel_rfl)
                have hx12 : xv 12 = Value.int .i64 ((level op : Nat) : Int) := hd 12 (by kernel_rfl)
                have hx14 : xv 14 = Value.int .i64 ((level op : Nat) : Int) := hd 14 (by kernel_rfl)
                clear hd
                simp only [Act.put, List.setIfInBounds_toArray, List.set_cons_succ, List.set_cons_zero] at hK
                rw [hx10] at hK ⊢
                rw [hx12] at hK ⊢
                rw [hx14] at hK ⊢
                refine (if_pos (by rfl)).mpr ?_
                have hne : (((level op : Nat) : Int) == ((level op : Nat) : Int)) = true := by simp
                go_simp
                exact hK.out _ _ (Below.refl _ _) rfl
              case s16 =>
                have hx10 : xv 10 = Value.bool true := hd 10 (by kernel_rfl)
                have hx15 : xv 15 = Value.bool true := hd 15 (by kernel_rfl)
                clear hd
                simp only [Act.put, List.setIfInBounds_toArray, List.set_cons_succ, List.set_cons_zero] at hK
                rw [hx10] at hK ⊢
                rw [hx15] at hK ⊢
                refine (if_pos (by rfl)).mpr ?_
                go_simp
                exact hK.out _ _ (Below.refl _ _) rfl
              case s17 =>
                have hx16 : xv 16 = Value.bool true := hd 16 (by kernel_rfl)
                clear hd
                simp only [Act.put, List.setIfInBounds_toArray, List.set_cons_succ, List.set_cons_zero] at hK
                rw [hx16] at hK ⊢
                refine (if_pos (by rfl)).mpr ?_
                go_simp
                exact hK.out _ _ (Below.refl _ _) rfl
            case behind =>
              intro xv W hW hx a ha
              replace hW := undrew hW
              simp only [fillA] at ha
              simp only [List.setIfInBounds_toArray, List.set_cons_succ, List.set_cons_zero, Nat.zero_add, Nat.reduceAdd] at ha
              subst ha
              have h17 : xv 17 = Value.bool true := hx 17 (by decide)
              rw [h17]
              have HW := Lib.hid (HBA.out.trans ((HB.out.trans (hW.mono HB.out.size)).mono HBA.out.size))
              clear hx h17 hW
              go_wp2
              go_ret
              exact ⟨rfl, HW.out⟩
        · go_wp2
          refine region_rel (fun W W' => Below W.heap.size W W') [Cd.is (Value.bool true), Cd.is (Value.bool true), Cd.is (Value.agg #[.int .i64 k, .string x, .string y, .slice A n C]), Cd.is (Value.int .i64 place), Cd.is (Value.bool (parenI k x c place)), Cd.is (Value.agg #[.int .i64 k, .string x, .string y, .slice A n C]), Cd.is (Value.int .i64 place), Cd.is (Value.bool (parenI k x c place)), Cd.is (Value.bool true), Cd.is (Value.bool true), Cd.is (Value.bool true), Cd.is (Value.string op), Cd.is (Value.int .i64 ((level op : Nat) : Int)), Cd.is (Value.string op), Cd.is (Value.int .i64 ((level op : Nat) : Int)), Cd.is (Value.bool true), Cd.is (Value.bool true), Cd.is (Value.bool true)] (by kernel_rfl) (by decide) (by kernel_rfl) (Below.refl _ _) (fun _ _ _ h k => h.trans (k.mono h.size)) ?steps ?behind
          case steps =>
            intro xv W hW a ha
            replace hW := undrew hW
            simp only [fillA] at ha
            simp only [List.setIfInBounds_toArray, List.set_cons_succ, List.set_cons_zero, Nat.zero_add, Nat.reduceAdd] at ha
            subst ha
            refine ⟨fun hd K hK => ?s0, fun hd K hK => ?s1, fun hd K hK => ?s2, fun hd K hK => ?s3, fun hd K hK => ?s4, fun hd K hK => ?s5, fun hd K hK => ?s6, fun hd K hK => ?s7, fun hd K hK => ?s8, fun hd K hK => ?s9, fun hd K hK => ?s10, fun hd K hK => ?s11, fun hd K hK => ?s12, fun hd K hK => ?s13, fun hd K hK => ?s14, fun hd K hK => ?s15, fun hd K hK => ?s16, fun hd K hK => ?s17, trivial⟩
            case s0 =>
              clear hd
              simp only [Act.put, List.setIfInBounds_toArray, List.set_cons_succ, List.set_cons_zero] at hK
              refine (if_pos (by rfl)).mpr ?_
              go_simp
              go_at_call 6
              refine (known_any W (HT.out W (HB.out.trans (hW.mono HB.out.size)))).mono ?_
              rintro e w' ⟨rfl, hb⟩
              exact hK.out _ _ hb rfl
            case s1 =>
              have hx0 : xv 0 = Value.bool true := hd 0 (by kernel_rfl)
              clear hd
              simp only [Act.put, List.setIfInBounds_toArray, List.set_cons_succ, List.set_cons_zero] at hK
              rw [hx0] at hK ⊢
              refine (if_pos (by rfl)).mpr ?_
              go_simp
              exact hK.out _ _ (Below.refl _ _) rfl
            case s2 =>
              have hx1 : xv 1 = Value.bool true := hd 1 (by kernel_rfl)
              clear hd
              simp only [Act.put, List.setIfInBounds_toArray, List.set_cons_succ, List.set_cons_zero] at hK
              rw [hx1] at hK ⊢
              refine (if_pos (by rfl)).mpr ?_
              obtain ⟨hq0, hq1, hq2, hq3⟩ := HBX.out W (HB.out.trans (hW.mono HB.out.size))
              go_simp
              exact hK.out _ _ (Below.refl _ _) rfl
            case s3 =>
              have hx1 : xv 1 = Value.bool true := hd 1 (by kernel_rfl)
              clear hd
              simp only [Act.put, List.setIfInBounds_toArray, List.set_cons_succ, List.set_cons_zero] at hK
              rw [hx1] at hK ⊢
              refine (if_pos (by rfl)).mpr ?_
              go_simp
              exact hK.out _ _ (Below.refl _ _) rfl
            case s4 =>
              have hx1 : xv 1 = Value.bool true := hd 1 (by kernel_rfl)
              have hx2 : xv 2 = Value.agg #[.int .i64 k, .string x, .string y, .slice A n C] := hd 2 (by kernel_rfl)
              have hx3 : xv 3 = Value.int .i64 place := hd 3 (by kernel_rfl)
              clear hd
              simp only [Act.put, List.setIfInBounds_toArray, List.set_cons_succ, List.set_cons_zero] at hK
              rw [hx1] at hK ⊢
              rw [hx2] at hK ⊢
              rw [hx3] at hK ⊢
              refine (if_pos (by rfl)).mpr ?_
              go_simp
              go_at_call 15
              refine (paren_is W k x y A n C c place (HF.out W (HB.out.trans (hW.mono HB.out.size)))).mono ?_
              rintro e w' ⟨rfl, hb⟩
              exact hK.out _ _ hb rfl
            case s5 =>
              have hx1 : xv 1 = Value.bool true := hd 1 (by kernel_rfl)
              clear hd
              simp only [Act.put, List.setIfInBounds_toArray, List.set_cons_succ, List.set_cons_zero] at hK
              rw [hx1] at hK ⊢
              refine (if_pos (by rfl)).mpr ?_
              obtain ⟨hq0, hq1, hq2, hq3⟩ := HBX.out W (HB.out.trans (hW.mono HB.out.size))
              go_simp
              exact hK.out _ _ (Below.refl _ _) rfl
            case s6 =>
              have hx1 : xv 1 = Value.bool true := hd 1 (by kernel_rfl)
              clear hd
              simp only [Act.put, List.setIfInBounds_toArray, List.set_cons_succ, List.set_cons_zero] at hK
              rw [hx1] at hK ⊢
              refine (if_pos (by rfl)).mpr ?_
              go_simp
              exact hK.out _ _ (Below.refl _ _) rfl
            case s7 =>
              have hx1 : xv 1 = Value.bool true := hd 1 (by kernel_rfl)
              have hx5 : xv 5 = Value.agg #[.int .i64 k, .string x, .string y, .slice A n C] := hd 5 (by kernel_rfl)
              have hx6 : xv 6 = Value.int .i64 place := hd 6 (by kernel_rfl)
              clear hd
              simp only [Act.put, List.setIfInBounds_toArray, List.set_cons_succ, List.set_cons_zero] at hK
              rw [hx1] at hK ⊢
              rw [hx5] at hK ⊢
              rw [hx6] at hK ⊢
              refine (if_pos (by rfl)).mpr ?_
              go_simp
              go_at_call 16
              refine (refParen_is W k x y A n C c place (Nat.le_refl _) (HF.out W (HB.out.trans (hW.mono HB.out.size)))).mono ?_
              rintro e w' ⟨rfl, hb⟩
              exact hK.out _ _ hb rfl
            case s8 =>
              have hx1 : xv 1 = Value.bool true := hd 1 (by kernel_rfl)
              have hx4 : xv 4 = Value.bool (parenI k x c place) := hd 4 (by kernel_rfl)
              have hx7 : xv 7 = Value.bool (parenI k x c place) := hd 7 (by kernel_rfl)
              clear hd
              simp only [Act.put, List.setIfInBounds_toArray, List.set_cons_succ, List.set_cons_zero] at hK
              rw [hx1] at hK ⊢
              rw [hx4] at hK ⊢
              rw [hx7] at hK ⊢
              refine (if_pos (by rfl)).mpr ?_
              have hne : (parenI k x c place == parenI k x c place) = true := by simp
              go_simp
              exact hK.out _ _ (Below.refl _ _) rfl
            case s9 =>
              have hx1 : xv 1 = Value.bool true := hd 1 (by kernel_rfl)
              have hx8 : xv 8 = Value.bool true := hd 8 (by kernel_rfl)
              clear hd
              simp only [Act.put, List.setIfInBounds_toArray, List.set_cons_succ, List.set_cons_zero] at hK
              rw [hx1] at hK ⊢
              rw [hx8] at hK ⊢
              refine (if_pos (by rfl)).mpr ?_
              go_simp
              exact hK.out _ _ (Below.refl _ _) rfl
            case s10 =>
              have hx9 : xv 9 = Value.bool true := hd 9 (by kernel_rfl)
              clear hd
              simp only [Act.put, List.setIfInBounds_toArray, List.set_cons_succ, List.set_cons_zero] at hK
              rw [hx9] at hK ⊢
              refine (if_pos (by rfl)).mpr ?_
              go_simp
              exact hK.out _ _ (Below.refl _ _) rfl
            case s11 =>
              have hx10 : xv 10 = Value.bool true := hd 10 (by kernel_rfl)
              clear hd
              simp only [Act.put, List.setIfInBounds_toArray, List.set_cons_succ, List.set_cons_zero] at hK
              rw [hx10] at hK ⊢
              refine (if_pos (by rfl)).mpr ?_
              go_simp
              exact hK.out _ _ (Below.refl _ _) rfl
            case s12 =>
              have hx10 : xv 10 = Value.bool true := hd 10 (by kernel_rfl)
              have hx11 : xv 11 = Value.string op := hd 11 (by kernel_rfl)
              clear hd
              simp only [Act.put, List.setIfInBounds_toArray, List.set_cons_succ, List.set_cons_zero] at hK
              rw [hx10] at hK ⊢
              rw [hx11] at hK ⊢
              refine (if_pos (by rfl)).mpr ?_
              go_simp
              go_at_call 17
              refine (level_any op W).mono ?_
              rintro e w' ⟨rfl, hb⟩
              exact hK.out _ _ (by rw [hb]; exact Below.refl _ _) rfl
            case s13 =>
              have hx10 : xv 10 = Value.bool true := hd 10 (by kernel_rfl)
              clear hd
              simp only [Act.put, List.setIfInBounds_toArray, List.set_cons_succ, List.set_cons_zero] at hK
              rw [hx10] at hK ⊢
              refine (if_pos (by rfl)).mpr ?_
              go_simp
              exact hK.out _ _ (Below.refl _ _) rfl
            case s14 =>
              have hx10 : xv 10 = Value.bool true := hd 10 (by kernel_rfl)
              have hx13 : xv 13 = Value.string op := hd 13 (by kernel_rfl)
              clear hd
              simp only [Act.put, List.setIfInBounds_toArray, List.set_cons_succ, List.set_cons_zero] at hK
              rw [hx10] at hK ⊢
              rw [hx13] at hK ⊢
              refine (if_pos (by rfl)).mpr ?_
              go_simp
              go_at_call 18
              refine (refLevel_any op W).mono ?_
              rintro e w' ⟨rfl, hb⟩
              exact hK.out _ _ (by rw [hb]; exact Below.refl _ _) rfl
            case s15 =>
              have hx10 : xv 10 = Value.bool true := hd 10 (by kernel_rfl)
              have hx12 : xv 12 = Value.int .i64 ((level op : Nat) : Int) := hd 12 (by kernel_rfl)
              have hx14 : xv 14 = Value.int .i64 ((level op : Nat) : Int) := hd 14 (by kernel_rfl)
              clear hd
              simp only [Act.put, List.setIfInBounds_toArray, List.set_cons_succ, List.set_cons_zero] at hK
              rw [hx10] at hK ⊢
              rw [hx12] at hK ⊢
              rw [hx14] at hK ⊢
              refine (if_pos (by rfl)).mpr ?_
              have hne : (((level op : Nat) : Int) == ((level op : Nat) : Int)) = true := by simp
              go_simp
              exact hK.out _ _ (Below.refl _ _) rfl
            case s16 =>
              have hx10 : xv 10 = Value.bool true := hd 10 (by kernel_rfl)
              have hx15 : xv 15 = Value.bool true := hd 15 (by kernel_rfl)
              clear hd
              simp only [Act.put, List.setIfInBounds_toArray, List.set_cons_succ, List.set_cons_zero] at hK
              rw [hx10] at hK ⊢
              rw [hx15] at hK ⊢
              refine (if_pos (by rfl)).mpr ?_
              go_simp
              exact hK.out _ _ (Below.refl _ _) rfl
            case s17 =>
              have hx16 : xv 16 = Value.bool true := hd 16 (by kernel_rfl)
              clear hd
              simp only [Act.put, List.setIfInBounds_toArray, List.set_cons_succ, List.set_cons_zero] at hK
              rw [hx16] at hK ⊢
              refine (if_pos (by rfl)).mpr ?_
              go_simp
              exact hK.out _ _ (Below.refl _ _) rfl
          case behind =>
            intro xv W hW hx a ha
            replace hW := undrew hW
            simp only [fillA] at ha
            simp only [List.setIfInBounds_toArray, List.set_cons_succ, List.set_cons_zero, Nat.zero_add, Nat.reduceAdd] at ha
            subst ha
            have h17 : xv 17 = Value.bool true := hx 17 (by decide)
            rw [h17]
            have HW := Lib.hid (HBA.out.trans ((HB.out.trans (hW.mono HB.out.size)).mono HBA.out.size))
            clear hx h17 hW
            go_wp2
            go_ret
            exact ⟨rfl, HW.out⟩
end Go.Proofs.YtoecimgmghlfpaaDoor.Tree
