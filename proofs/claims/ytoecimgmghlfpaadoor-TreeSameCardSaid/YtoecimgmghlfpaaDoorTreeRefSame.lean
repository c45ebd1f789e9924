/-
  Layer 5 (tree): the document's Same. Written by gen_treerefsame.py.
-/
import Derived.Test.YtoecimgmghlfpaaDoorTreeSame
namespace Go.Proofs.YtoecimgmghlfpaaDoor.Tree
open Go.ChangeShapes Go.WideShapes Go.ChangeAt Go.RowKit Mem
set_option linter.unusedVariables false

def RSameSpec (N : Nat) : Prop := ∀ (k : Int) (x y : ByteArray) (A : Option Addr) (n C : Nat) (c : F) (k' : Int) (x' y' : ByteArray) (A' : Option Addr) (n' C' : Nat) (c' : F) (w : World), c.size ≤ N → c.size ≤ 100000 → Fs w (Lo w.heap.size) (.slice A n C) c → Fs w (Lo w.heap.size) (.slice A' n' C') c' →
  Calls Tryd.prog 9 #[.agg #[.int .i64 k, .string x, .string y, .slice A n C], .agg #[.int .i64 k', .string x', .string y', .slice A' n' C']] w fun e w' => SamePost (sameT k x y c k' x' y' c') w e w'

set_option maxRecDepth 100000 in
set_option maxHeartbeats 16000000 in
theorem rsame_step (N : Nat) (ih : ∀ M, M < N → RSameSpec M) : RSameSpec N := by
  intro k x y A n C c k' x' y' A' n' C' c' w hN hbig hf hf'
  have HIH := Lib.hid ih
  have b1 := below2 w (.cells #[.int .i64 k, .string x, .string y, .slice A n C] 24) (.cells #[.int .i64 k', .string x', .string y', .slice A' n' C'] 24)
  have HB := Lib.hid b1
  have HX2 : Hid (Boxed ((w.alloc (.cells #[.int .i64 k, .string x, .string y, .slice A n C] 24)).alloc (.cells #[.int .i64 k', .string x', .string y', .slice A' n' C'] 24)) w.heap.size k x y (.slice A n C)) := (Below.heap_alloc _ _ _ (by simp)).trans (heap_alloc_new _ _)
  have HX3 : Hid (Boxed ((w.alloc (.cells #[.int .i64 k, .string x, .string y, .slice A n C] 24)).alloc (.cells #[.int .i64 k', .string x', .string y', .slice A' n' C'] 24)) (w.heap.size + 1) k' x' y' (.slice A' n' C')) := by
    have e : w.heap.size + 1 = (w.alloc (.cells #[.int .i64 k, .string x, .string y, .slice A n C] 24)).heap.size := by simp
    rw [e]
    exact heap_alloc_new _ _
  have HF := Lib.hid hf; have HF' := Lib.hid hf'
  obtain ⟨_, _, e, hnC, hCm⟩ := hf.slice
  injection e with q1 q2 q3
  obtain ⟨_, _, e', hnC', hCm'⟩ := hf'.slice
  injection e' with q1' q2' q3'
  have HN1 := Lib.hid q2; have HN2 := Lib.hid q2'
  have hn1 : n ≤ 100000 := by have := F.len_le_size c; omega
  have hC1 : C ≤ 9223372036854775807 := by omega
  have hC2 : C' ≤ 9223372036854775807 := by omega
  have hc1 : n ≤ C := by omega
  have hc2 : n' ≤ C' := by omega
  obtain ⟨res, hres⟩ : ∃ res, sameT k x y c k' x' y' c' = res := ⟨_, rfl⟩
  rw [hres]
  have HR0 := Lib.hid hres
  clear ih hf hf' b1 hres q1 q2 q3 q1' q2' q3' hnC hnC' hCm hCm'
  cases hal : alikeB k x y n k' x' y' n' with
  | false =>
    have HE : Hid (res = false) := by show _ = _; rw [← HR0.out, sameT_alike (by rw [← HN1.out, ← HN2.out]; exact hal)]
    unfold alikeB at hal
    cases hk : (k == k') with
    | false =>
      have hkn : (k != k') = true := by rw [bne, hk]; rfl
      clear hal
      go_enter Tryd.func9, Tryd.ntmps9
      go_wp2
      go_ret
      exact ⟨by rw [HE.out]; rfl, HB.out⟩
    | true =>
      have hkn : (k != k') = false := by rw [bne, hk]; rfl
      cases hx : (x.toList == x'.toList) with
      | false =>
        clear hal
        go_enter Tryd.func9, Tryd.ntmps9
        go_wp2
        go_ret
        exact ⟨by rw [HE.out]; rfl, HB.out⟩
      | true =>
        cases hy : (y.toList == y'.toList) with
        | false =>
          clear hal
          go_enter Tryd.func9, Tryd.ntmps9
          go_wp2
          go_ret
          exact ⟨by rw [HE.out]; rfl, HB.out⟩
        | true =>
          have hn : ¬ n = n' := by
            rw [hk, hx, hy] at hal
            simpa using hal
          have hn' : ((n : Int) == (n' : Int)) = false := by
            have : ¬ ((n : Int) = (n' : Int)) := by omega
            simpa using this
          have hnn : ((n : Int) != (n' : Int)) = true := by rw [bne, hn']; rfl
          clear hal
          go_enter Tryd.func9, Tryd.ntmps9
          go_wp2
          go_ret
          exact ⟨by rw [HE.out]; rfl, HB.out⟩
  | true =>
    obtain ⟨hss, hll⟩ := sameT_same (c := c) (c' := c') (by rw [← HN1.out, ← HN2.out]; exact hal)
    have HR : Hid (same (c.drop 0) (c'.drop 0) = res) := by show same c c' = _; rw [← hss]; exact HR0.out
    have hnn : n = n' := by rw [HN1.out, HN2.out]; exact hll
    unfold alikeB at hal
    simp only [Bool.and_eq_true, decide_eq_true_eq] at hal
    obtain ⟨hk, hx, hy, _⟩ := hal
    have hkn : (k != k') = false := by rw [bne, hk]; rfl
    subst hnn
    clear hss hll
    go_enter Tryd.func9, Tryd.ntmps9
    go_wp2
    clear hk hx hy hkn
    go_loopw [5] (fun s5 wr => ∃ j : Nat, j ≤ n ∧ s5 = .int .i64 (j : Int) ∧ Hid (same (c.drop j) (c'.drop j) = res) ∧ Hid (Below w.heap.size w wr) ∧ Hid (Boxed wr w.heap.size k x y (.slice A n C)) ∧ Hid (Boxed wr (w.heap.size + 1) k' x' y' (.slice A' n C'))) (fun s5 _ => n - (intOf s5).toNat)
    case atStart => exact ⟨0, Nat.zero_le _, rfl, HR.out, HB.out, HX2.out, HX3.out⟩
    case round =>
      clear HR HB HX2 HX3
      obtain ⟨j, hj, rfl, HR, HB, HX2, HX3⟩ := hrel
      obtain ⟨p0, p1, p2, p3⟩ := HX2.out.cells
      by_cases hlt : j < n
      · have hlt' : (j : Int) < (n : Int) := by omega
        have hj0 : (0 : Int) ≤ (j : Int) := by omega
        obtain ⟨k1, x1, y1, c1, r1, hd1, hd1'⟩ := F.drop_cons (n := j) (f := c) (by rw [← HN1.out]; exact hlt)
        obtain ⟨k2, x2, y2, c2, r2, hd2, hd2'⟩ := F.drop_cons (n := j) (f := c') (by rw [← HN2.out]; exact hlt)
        have hw1 := HF.out.below HB.out (Nat.le_refl _)
        have hw2 := HF'.out.below HB.out (Nat.le_refl _)
        obtain ⟨ba, oa, s1, rfl, hba, _, hat1⟩ := hw1.at_ hd1
        obtain ⟨bb, ob, s2, rfl, hbb, _, hat2⟩ := hw2.at_ hd2
        obtain ⟨Ak, Ck, rfl, _, _⟩ := hat1.kids.slice
        obtain ⟨Al, Cl, rfl, _, _⟩ := hat2.kids.slice
        have hs1 := size_drop hd1
        obtain ⟨m1, hm1⟩ : ∃ m, c1.len = m := ⟨_, rfl⟩
        obtain ⟨m2, hm2⟩ : ∃ m, c2.len = m := ⟨_, rfl⟩
        rw [hm1] at hat1
        rw [hm2] at hat2
        have hla : ba < wr.heap.size := Nat.lt_of_lt_of_le hba HB.out.size
        have hlb : bb < wr.heap.size := Nat.lt_of_lt_of_le hbb HB.out.size
        have HND : Hid (∀ W, Below wr.heap.size wr W → (W.cell? ⟨ba, oa + j * 4, none⟩ = some (.int .i64 k1) ∧ W.cell? ⟨ba, oa + j * 4 + 1, none⟩ = some (.string x1) ∧ W.cell? ⟨ba, oa + j * 4 + 2, none⟩ = some (.string y1) ∧ W.cell? ⟨ba, oa + j * 4 + 3, none⟩ = some (.slice Ak m1 Ck)) ∧
            (W.cell? ⟨bb, ob + j * 4, none⟩ = some (.int .i64 k2) ∧ W.cell? ⟨bb, ob + j * 4 + 1, none⟩ = some (.string x2) ∧ W.cell? ⟨bb, ob + j * 4 + 2, none⟩ = some (.string y2) ∧ W.cell? ⟨bb, ob + j * 4 + 3, none⟩ = some (.slice Al m2 Cl))) := fun W hW =>
          ⟨⟨(hW.cell (p := ⟨ba, oa + j * 4, none⟩) hla).trans hat1.c0, (hW.cell (p := ⟨ba, oa + j * 4 + 1, none⟩) hla).trans hat1.c1, (hW.cell (p := ⟨ba, oa + j * 4 + 2, none⟩) hla).trans hat1.c2, (hW.cell (p := ⟨ba, oa + j * 4 + 3, none⟩) hla).trans hat1.c3⟩,
            (hW.cell (p := ⟨bb, ob + j * 4, none⟩) hlb).trans hat2.c0, (hW.cell (p := ⟨bb, ob + j * 4 + 1, none⟩) hlb).trans hat2.c1, (hW.cell (p := ⟨bb, ob + j * 4 + 2, none⟩) hlb).trans hat2.c2, (hW.cell (p := ⟨bb, ob + j * 4 + 3, none⟩) hlb).trans hat2.c3⟩
        have HX : Hid (∀ W, Below wr.heap.size wr W → Boxed W w.heap.size k x y (.slice (some ⟨ba, oa, none⟩) n C) ∧ Boxed W (w.heap.size + 1) k' x' y' (.slice (some ⟨bb, ob, none⟩) n C')) := fun W hW => ⟨HX2.out.below hW HX2.out.lt, HX3.out.below hW HX3.out.lt⟩
        obtain ⟨sm, hsm⟩ : ∃ sm, sameT k1 x1 y1 c1 k2 x2 y2 c2 = sm := ⟨_, rfl⟩
        have HC : Hid (∀ W, Below wr.heap.size wr W → Calls Tryd.prog 9 #[.agg #[.int .i64 k1, .string x1, .string y1, .slice Ak m1 Ck], .agg #[.int .i64 k2, .string x2, .string y2, .slice Al m2 Cl]] W fun e w' => SamePost sm W e w') := fun W hW => by
          rw [← hsm]
          have hs := Nat.le_trans HB.out.size hW.size
          exact HIH.out c1.size (by omega) k1 x1 y1 Ak m1 Ck c1 k2 x2 y2 Al m2 Cl c2 W (Nat.le_refl _) (by omega) ((hat1.kids.below hW HB.out.size).up hs) ((hat2.kids.below hW HB.out.size).up hs)
        have hrr := HR.out
        rw [hd1, hd2, same_cons, hsm] at hrr
        have HRR : Hid ((sm && same (c.drop (j + 1)) (c'.drop (j + 1))) = res) := by show _ = _; rw [hd1', hd2']; exact hrr
        clear hd1 hd1' hd2 hd2' hw1 hw2 hba hbb hlb hla hat1 hat2 hs1 hm1 hm2 hsm hrr HR HX2 HX3
        go_wp2
        clear p0 p1 p2 p3
        refine region_rel (fun W W' => Below W.heap.size W W') [Cd.is (Value.pointer (some ⟨w.heap.size, 3, none⟩)), Cd.is (Value.slice (some ⟨ba, oa, none⟩) n C), Cd.is (Value.int .i64 (j : Int)), Cd.is (Value.pointer (some ⟨ba, oa + j * 4, none⟩)), Cd.is (Value.agg #[.int .i64 k1, .string x1, .string y1, .slice Ak m1 Ck]), Cd.is (Value.pointer (some ⟨w.heap.size + 1, 3, none⟩)), Cd.is (Value.slice (some ⟨bb, ob, none⟩) n C'), Cd.is (Value.int .i64 (j : Int)), Cd.is (Value.pointer (some ⟨bb, ob + j * 4, none⟩)), Cd.is (Value.agg #[.int .i64 k2, .string x2, .string y2, .slice Al m2 Cl]), Cd.is (Value.bool sm), Cd.is (Value.bool (!sm))] (by kernel_rfl) (by decide) (by kernel_rfl) (Below.refl _ _) (fun _ _ _ h k => h.trans (k.mono h.size)) ?steps ?behind
        case steps =>
          intro xv W hW a ha
          replace hW := undrew hW
          simp only [fillA] at ha
          simp only [List.setIfInBounds_toArray, List.set_cons_succ, List.set_cons_zero, Nat.zero_add, Nat.reduceAdd] at ha
          subst ha
          refine ⟨fun hd K hK => ?s0, fun hd K hK => ?s1, fun hd K hK => ?s2, fun hd K hK => ?s3, fun hd K hK => ?s4, fun hd K hK => ?s5, fun hd K hK => ?s6, fun hd K hK => ?s7, fun hd K hK => ?s8, fun hd K hK => ?s9, fun hd K hK => ?s10, fun hd K hK => ?s11, trivial⟩
          case s0 =>
            clear hd
            simp only [Act.put, List.setIfInBounds_toArray, List.set_cons_succ, List.set_cons_zero] at hK
            refine (if_pos (by rfl)).mpr ?_
            go_simp
            exact hK.out _ _ (Below.refl _ _) rfl
          case s1 =>
            have hx0 : xv 0 = Value.pointer (some ⟨w.heap.size, 3, none⟩) := hd 0 (by kernel_rfl)
            clear hd
            simp only [Act.put, List.setIfInBounds_toArray, List.set_cons_succ, List.set_cons_zero] at hK
            rw [hx0] at hK ⊢
            refine (if_pos (by rfl)).mpr ?_
            obtain ⟨hq0, hq1, hq2, hq3⟩ := (HX.out W hW).1.cells
            go_simp
            exact hK.out _ _ (Below.refl _ _) rfl
          case s2 =>
            clear hd
            simp only [Act.put, List.setIfInBounds_toArray, List.set_cons_succ, List.set_cons_zero] at hK
            refine (if_pos (by rfl)).mpr ?_
            go_simp
            exact hK.out _ _ (Below.refl _ _) rfl
          case s3 =>
            have hx1 : xv 1 = Value.slice (some ⟨ba, oa, none⟩) n C := hd 1 (by kernel_rfl)
            have hx2 : xv 2 = Value.int .i64 (j : Int) := hd 2 (by kernel_rfl)
            clear hd
            simp only [Act.put, List.setIfInBounds_toArray, List.set_cons_succ, List.set_cons_zero] at hK
            rw [hx1] at hK ⊢
            rw [hx2] at hK ⊢
            refine (if_pos (by rfl)).mpr ?_
            go_simp
            exact hK.out _ _ (Below.refl _ _) rfl
          case s4 =>
            have hx3 : xv 3 = Value.pointer (some ⟨ba, oa + j * 4, none⟩) := hd 3 (by kernel_rfl)
            clear hd
            simp only [Act.put, List.setIfInBounds_toArray, List.set_cons_succ, List.set_cons_zero] at hK
            rw [hx3] at hK ⊢
            refine (if_pos (by rfl)).mpr ?_
            obtain ⟨hq0, hq1, hq2, hq3⟩ := (HND.out W hW).1
            go_simp
            exact hK.out _ _ (Below.refl _ _) rfl
          case s5 =>
            clear hd
            simp only [Act.put, List.setIfInBounds_toArray, List.set_cons_succ, List.set_cons_zero] at hK
            refine (if_pos (by rfl)).mpr ?_
            go_simp
            exact hK.out _ _ (Below.refl _ _) rfl
          case s6 =>
            have hx5 : xv 5 = Value.pointer (some ⟨w.heap.size + 1, 3, none⟩) := hd 5 (by kernel_rfl)
            clear hd
            simp only [Act.put, List.setIfInBounds_toArray, List.set_cons_succ, List.set_cons_zero] at hK
            rw [hx5] at hK ⊢
            refine (if_pos (by rfl)).mpr ?_
            obtain ⟨hq0, hq1, hq2, hq3⟩ := (HX.out W hW).2.cells
            go_simp
            exact hK.out _ _ (Below.refl _ _) rfl
          case s7 =>
            clear hd
            simp only [Act.put, List.setIfInBounds_toArray, List.set_cons_succ, List.set_cons_zero] at hK
            refine (if_pos (by rfl)).mpr ?_
            go_simp
            exact hK.out _ _ (Below.refl _ _) rfl
          case s8 =>
            have hx6 : xv 6 = Value.slice (some ⟨bb, ob, none⟩) n C' := hd 6 (by kernel_rfl)
            have hx7 : xv 7 = Value.int .i64 (j : Int) := hd 7 (by kernel_rfl)
            clear hd
            simp only [Act.put, List.setIfInBounds_toArray, List.set_cons_succ, List.set_cons_zero] at hK
            rw [hx6] at hK ⊢
            rw [hx7] at hK ⊢
            refine (if_pos (by rfl)).mpr ?_
            go_simp
            exact hK.out _ _ (Below.refl _ _) rfl
          case s9 =>
            have hx8 : xv 8 = Value.pointer (some ⟨bb, ob + j * 4, none⟩) := hd 8 (by kernel_rfl)
            clear hd
            simp only [Act.put, List.setIfInBounds_toArray, List.set_cons_succ, List.set_cons_zero] at hK
            rw [hx8] at hK ⊢
            refine (if_pos (by rfl)).mpr ?_
            obtain ⟨hq0, hq1, hq2, hq3⟩ := (HND.out W hW).2
            go_simp
            exact hK.out _ _ (Below.refl _ _) rfl
          case s10 =>
            have hx4 : xv 4 = Value.agg #[.int .i64 k1, .string x1, .string y1, .slice Ak m1 Ck] := hd 4 (by kernel_rfl)
            have hx9 : xv 9 = Value.agg #[.int .i64 k2, .string x2, .string y2, .slice Al m2 Cl] := hd 9 (by kernel_rfl)
            clear hd
            simp only [Act.put, List.setIfInBounds_toArray, List.set_cons_succ, List.set_cons_zero] at hK
            rw [hx4] at hK ⊢
            rw [hx9] at hK ⊢
            refine (if_pos (by rfl)).mpr ?_
            go_simp
            go_at_call 9
            refine (HC.out W hW).mono ?_
            rintro e w' ⟨rfl, hb⟩
            exact hK.out _ _ hb rfl
          case s11 =>
            have hx10 : xv 10 = Value.bool sm := hd 10 (by kernel_rfl)
            clear hd
            simp only [Act.put, List.setIfInBounds_toArray, List.set_cons_succ, List.set_cons_zero] at hK
            rw [hx10] at hK ⊢
            refine (if_pos (by rfl)).mpr ?_
            go_simp
            exact hK.out _ _ (Below.refl _ _) rfl
        case behind =>
          intro xv W hW hx a ha
          replace hW := undrew hW
          simp only [fillA] at ha
          simp only [List.setIfInBounds_toArray, List.set_cons_succ, List.set_cons_zero, Nat.zero_add, Nat.reduceAdd] at ha
          subst ha
          have h11 : xv 11 = Value.bool (!sm) := hx 11 (by decide)
          rw [h11]
          have HB5 := Lib.hid (HB.out.trans (hW.mono HB.out.size))
          have HX5 : Hid (Boxed W w.heap.size k x y (.slice (some ⟨ba, oa, none⟩) n C) ∧ Boxed W (w.heap.size + 1) k' x' y' (.slice (some ⟨bb, ob, none⟩) n C')) := HX.out W hW
          clear hx hW h11 HX HND HC
          cases sm with
          | false =>
            have HE : Hid (res = false) := by show _ = _; rw [← HRR.out]; rfl
            go_wp2
            go_ret
            exact ⟨by rw [HE.out]; rfl, HB5.out⟩
          | true =>
            have HE : Hid (same (c.drop (j + 1)) (c'.drop (j + 1)) = res) := by show _ = _; rw [← HRR.out]; rfl
            go_wp2
            go_roundw
            case rel => exact ⟨j + 1, by omega, by go_num, HE.out, HB5.out, HX5.out.1, HX5.out.2⟩
            case measure => simp [intOf]; omega
      · have hlt' : ¬ (j : Int) < (n : Int) := by omega
        have HE : Hid (res = true) := by
          show _ = _
          rw [← HR.out, F.drop_all _ _ (by rw [← HN1.out]; omega), F.drop_all _ _ (by rw [← HN2.out]; omega)]
          rfl
        clear hlt
        go_wp2
        go_ret
        exact ⟨by rw [HE.out]; rfl, HB.out⟩
theorem rsame_any (N : Nat) : RSameSpec N := by
  induction N using Nat.strongRecOn with
  | _ N ih => exact rsame_step N ih
end Go.Proofs.YtoecimgmghlfpaaDoor.Tree
