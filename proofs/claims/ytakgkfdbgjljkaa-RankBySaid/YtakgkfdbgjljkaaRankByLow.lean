/-
  Layer 3 (rank): the law on things that are alike, which stay as they stood: the walk, lists of at most 300.
-/
import Derived.Test.YtakgkfdbgjljkaaRankByBase
namespace Go.Proofs.Ytakgkfdbgjljkaa.Rank
open Go.ChangeShapes Go.WideShapes Go.ChangeAt Go.RowKit MemC
set_option linter.unusedVariables false

set_option maxRecDepth 100000 in
set_option maxHeartbeats 4000000 in
theorem rankBy_low (A : Option Addr) (n cap : Nat) (xs : List Int) (x : Int) (w : World) (hx : xs.length = n) (hcap : n ≤ cap) (hcap' : cap ≤ maxLen) (h : RI w w.heap.size A xs) (hl : n ≤ 300) :
    Calls Try.prog 5 #[.slice A n cap, .int .i64 x] w (True1 w) := by
  have H := Lib.hid h
  have Hn := Lib.hid hx
  unfold maxLen at hcap'
  clear h hx
  obtain ⟨r, hr, hr7⟩ := mod_7 x
  have hl' : ¬ (300 : Int) < (n : Int) := by omega
  go_enter Try.func5, Try.ntmps5
  go_wp2_with fail
  clear hr
  go_loopw [5, 6] (fun s5 s6 wr => ∃ (i : Nat) (va : Option Addr) (vc : Nat) (cs : List Int), i ≤ n ∧ s6 = .int .i64 i ∧ s5 = .slice va i vc ∧ Hid (cs.length = i) ∧ Hid (wr.ownsRow w.heap.size 33 2 (.slice va i vc) i (pcs cs)) ∧ Hid (Below w.heap.size w wr)) (fun _ s6 _ => n - (intOf s6).toNat)
  case atStart => exact ⟨0, none, 0, [], Nat.zero_le _, rfl, rfl, rfl, World.ownsRow_nil _ _ _ _, Below.refl _ _⟩
  case round =>
    obtain ⟨i, va, vc, cs, hi, rfl, rfl, HL, HO, HB⟩ := hrel
    by_cases hlt : i < n
    · have hlt' : (i : Int) < (n : Int) := by omega
      obtain ⟨b1, f1, rfl, _, hc1⟩ := (H.out.below HB.out (Nat.le_refl _)).at_ (i := i) (by rw [Hn.out]; exact hlt)
      generalize xs.getD i 0 = y at *
      have hr0 : ¬ (1 : Int) + (r : Int) = 0 := by omega
      obtain ⟨c, hc⟩ : ∃ c, wrap64 ((IntKind.u64.wrap y).tmod (1 + (r : Int))) = c := ⟨_, rfl⟩
      go_wp2_with (at_builtin; refine app_pair wr rfl (.tmp 31) (.tmp 43) rfl w.heap.size _ i _ c (i : Int) rfl HO.out _ rfl rfl (by omega) HB.out.size ?_; intro v2 w2 hown2 hb2; obtain ⟨a2, p2, rfl, _, _⟩ := own_slice hown2; have HB2 : Hid (Below w.heap.size w w2) := HB.out.trans hb2; have HO2 : Hid (w2.ownsRow w.heap.size 33 2 (.slice a2 (i + 1) p2) (i + 1) (pcs (cs ++ [c]))) := (by rw [pcs_snoc, HL.out]; exact hown2); clear hown2 hb2)
      clear hc
      go_roundw
      case rel => exact ⟨i + 1, a2, p2, cs ++ [c], by omega, by go_num, rfl, (by have := HL.out; show _ = _; rw [List.length_append, this]; rfl), HO2.out, HB2.out⟩
      case measure => simp [intOf]; omega
    · obtain rfl : n = i := by omega
      have hge : ¬ ((n : Nat) : Int) < (n : Int) := by omega
      have RP0 := Lib.hid (own_rp HO.out HL.out)
      clear HO H Hn
      go_wp2_with fail
      refine (byP _ ltI ltI_wo isLess1 va n vc cs wr RP0.out HL.out (by omega)).mono ?_
      rintro e w3 ⟨v3, rfl, hb3, ho3⟩
      obtain ⟨a3, c3, rfl, _, _⟩ := own_slice ho3
      have R3 := Lib.hid (by_reads rfl ho3)
      have B3 := Lib.hid (below_next HB.out hb3)
      have P3 := Lib.hid ((RP0.out.below hb3 (Nat.le_refl _)).more hb3.size)
      clear hb3 ho3 RP0 HB
      go_wp2_with fail
      refine (byP _ gtI gtI_wo isLess2 va n vc cs w3 P3.out HL.out (by omega)).mono ?_
      rintro e w4 ⟨v4, rfl, hb4, ho4⟩
      obtain ⟨a4, c4, rfl, _, _⟩ := own_slice ho4
      have D4 := Lib.hid (by_reads rfl ho4)
      have B4 := Lib.hid (below_next B3.out hb4)
      have P4 := Lib.hid ((P3.out.below hb4 (Nat.le_refl _)).more hb4.size)
      have R4 := Lib.hid ((R3.out.below hb4 (Nat.le_refl _)).more hb4.size)
      clear hb4 ho4 P3 B3 R3
      go_wp2_with fail
      refine (known_any w4).mono ?_
      rintro e w5 ⟨rfl, hb5⟩
      have B5 := Lib.hid (below_next B4.out hb5)
      have P5 := Lib.hid ((P4.out.below hb5 (Nat.le_refl _)).more hb5.size)
      have R5 := Lib.hid ((R4.out.below hb5 (Nat.le_refl _)).more hb5.size)
      have D5 := Lib.hid ((D4.out.below hb5 (Nat.le_refl _)).more hb5.size)
      clear hb5 P4 B4 R4 D4
      have hnn : ((n : Int) != (n : Int)) = false := by simp
      have hmk : ∀ w : World, (Instr.makeSlice 36 (.int .i64 (n : Int)) (.int .i64 (n : Int))).run Try.prog w = .ok (.slice (some ⟨w.heap.size, 0, none⟩) n n) (w.alloc (.cells (bvals (List.replicate n false)).toArray 4)) := make_bools n (by omega)
      go_wp2_with fail
      clear hmk hnn
      have hE1 : Hid (IsOrd (ltI cs) n (ordN (ltI cs) n)) := ordN_is (ltI_wo cs) n
      have hE2 : Hid (IsOrd (gtI cs) n (ordN (gtI cs) n)) := ordN_is (gtI_wo cs) n
      generalize ordN (ltI cs) n = up at *
      generalize ordN (gtI cs) n = dn at *
      go_loopg [10, 11, 12, 13, 14] n (fun kx s10 _ _ _ _ wr => ∃ (i : Nat), i ≤ n ∧ n - i ≤ kx ∧ s10 = .int .i64 i ∧ Hid (Seen w5 wr n i up))
      case atStart => exact ⟨0, Nat.zero_le _, Nat.le_refl _, rfl, seen_start w5 n up⟩
      case round =>
        obtain ⟨i, hi, hkx, rfl, HS⟩ := hrel
        by_cases hlt2 : i < n
        · have hlt3 : (i : Int) < (n : Int) := by omega
          obtain ⟨a, Ha⟩ : ∃ a, Hid (up.getD i 0 = a) := ⟨_, rfl⟩
          obtain ⟨d, Hd⟩ : ∃ d, Hid (dn.getD i 0 = d) := ⟨_, rfl⟩
          have haM : a < n := Ha.out ▸ hE1.out.below (getD_mem (by rw [hE1.out.len]; exact hlt2))
          have hdM : d < n := Hd.out ▸ hE2.out.below (getD_mem (by rw [hE2.out.len]; exact hlt2))
          obtain ⟨b3, f3, rfl, hb3, hc3⟩ := R5.out.cell (by rw [ints_len, hE1.out.len]; omega)
          obtain ⟨b4, f4, rfl, hb4, hc4⟩ := D5.out.cell (by rw [ints_len, hE2.out.len]; omega)
          obtain ⟨bp, fp, rfl, hbp, hcp⟩ := P5.out.cell (by rw [HL.out]; omega)
          have keyU : Hid (∀ W, Below w5.heap.size w5 W → ∀ j, j < n → W.cell? ⟨b3, f3 + j, none⟩ = some (.int .i64 (up.getD j 0 : Nat))) := fun W hW j hj => by
            rw [hW.cell (by exact hb3), hc3 j (by rw [ints_len, hE1.out.len]; exact hj), ints_getD]
          have keyD : Hid (∀ W, Below w5.heap.size w5 W → ∀ j, j < n → W.cell? ⟨b4, f4 + j, none⟩ = some (.int .i64 (dn.getD j 0 : Nat))) := fun W hW j hj => by
            rw [hW.cell (by exact hb4), hc4 j (by rw [ints_len, hE2.out.len]; exact hj), ints_getD]
          have keyP : Hid (∀ W, Below w5.heap.size w5 W → ∀ j, j < n → W.cell? ⟨bp, fp + j * 2, none⟩ = some (.int .i64 (cs.getD j 0)) ∧ W.cell? ⟨bp, fp + j * 2 + 1, none⟩ = some (.int .i64 (j : Int))) := fun W hW j hj =>
            ⟨(hW.cell (by exact hbp)).trans (hcp j (by rw [HL.out]; exact hj)).1, (hW.cell (by exact hbp)).trans (hcp j (by rw [HL.out]; exact hj)).2⟩
          clear hc3 hc4 hcp
          have hu1 := keyU.out _ HS.out.below i hlt2
          have hd1 := keyD.out _ HS.out.below i hlt2
          rw [Ha.out] at hu1
          rw [Hd.out] at hd1
          have hsc := HS.out.free (Ha.out) haM hE1.out hlt2
          have hsf := HS.out.frz a
          have ha1 : decide ((a : Int) < 0) = false := by rw [decide_eq_false_iff_not]; omega
          have hd2 : decide ((d : Int) < 0) = false := by rw [decide_eq_false_iff_not]; omega
          have ha3 : decide (n ≤ a) = false := by rw [decide_eq_false_iff_not]; omega
          have hd3 : decide (n ≤ d) = false := by rw [decide_eq_false_iff_not]; omega
          have ha4 : decide ((n : Int) ≤ (a : Int)) = false := by rw [decide_eq_false_iff_not]; omega
          have hd4 : decide ((n : Int) ≤ (d : Int)) = false := by rw [decide_eq_false_iff_not]; omega
          have haM' : (a : Int) < (n : Int) := by omega
          have hnext := Lib.hid (HS.out.next Ha.out haM)
          rcases i with _ | i
          · rw [Nat.add_zero] at hu1 hd1
            go_wp2_with fail
            go_roundg (n - 1)
            case measure => omega
            case rel => exact ⟨1, by omega, by omega, by first | rfl | go_num, hnext.out⟩
          · have hz : ((i : Int) + 1 == 0) = false := by rw [beq_eq_false_iff_ne]; omega
            go_upto_region 21 with (fail)
            clear hu1 hd1 hsc hsf HS
            generalize wr.setCell ⟨w5.heap.size, a, none⟩ (.bool true) = w6 at *
            obtain ⟨a0, Ha0⟩ : ∃ a0, Hid (up.getD i 0 = a0) := ⟨_, rfl⟩
            obtain ⟨d0, Hd0⟩ : ∃ d0, Hid (dn.getD i 0 = d0) := ⟨_, rfl⟩
            have ha0M : a0 < n := Ha0.out ▸ hE1.out.below (getD_mem (by rw [hE1.out.len]; omega))
            have hd0M : d0 < n := Hd0.out ▸ hE2.out.below (getD_mem (by rw [hE2.out.len]; omega))
            have hii : (i : Int) < (n : Int) := by omega
            have ha0M' : (a0 : Int) < (n : Int) := by omega
            have hdM' : (d : Int) < (n : Int) := by omega
            have hd0M' : (d0 : Int) < (n : Int) := by omega
            have HBU := Lib.hid (bef_up (hE1.out.next (i := i) (by rw [hE1.out.len]; exact hlt2)) Ha0.out Ha.out)
            have HBD := Lib.hid (bef_down (hE2.out.next (i := i) (by rw [hE2.out.len]; exact hlt2)) Hd0.out Hd.out)
            have KU : Hid (∀ W, Below w5.heap.size w5 W → W.cell? ⟨b3, f3 + i, none⟩ = some (.int .i64 (a0 : Int)) ∧ W.cell? ⟨b3, f3 + (i + 1), none⟩ = some (.int .i64 (a : Int)) ∧ W.cell? ⟨bp, fp + a0 * 2, none⟩ = some (.int .i64 (cs.getD a0 0)) ∧ W.cell? ⟨bp, fp + a0 * 2 + 1, none⟩ = some (.int .i64 (a0 : Int)) ∧ W.cell? ⟨bp, fp + a * 2, none⟩ = some (.int .i64 (cs.getD a 0)) ∧ W.cell? ⟨bp, fp + a * 2 + 1, none⟩ = some (.int .i64 (a : Int))) := fun W hW => by
              have q1 := keyU.out W hW i (by omega)
              have q2 := keyU.out W hW (i + 1) hlt2
              rw [Ha0.out] at q1
              rw [Ha.out] at q2
              exact ⟨q1, q2, (keyP.out W hW a0 ha0M).1, (keyP.out W hW a0 ha0M).2, (keyP.out W hW a haM).1, (keyP.out W hW a haM).2⟩
            have KD : Hid (∀ W, Below w5.heap.size w5 W → W.cell? ⟨b4, f4 + i, none⟩ = some (.int .i64 (d0 : Int)) ∧ W.cell? ⟨b4, f4 + (i + 1), none⟩ = some (.int .i64 (d : Int)) ∧ W.cell? ⟨bp, fp + d0 * 2, none⟩ = some (.int .i64 (cs.getD d0 0)) ∧ W.cell? ⟨bp, fp + d0 * 2 + 1, none⟩ = some (.int .i64 (d0 : Int)) ∧ W.cell? ⟨bp, fp + d * 2, none⟩ = some (.int .i64 (cs.getD d 0)) ∧ W.cell? ⟨bp, fp + d * 2 + 1, none⟩ = some (.int .i64 (d : Int))) := fun W hW => by
              have q1 := keyD.out W hW i (by omega)
              have q2 := keyD.out W hW (i + 1) hlt2
              rw [Hd0.out] at q1
              rw [Hd.out] at q2
              exact ⟨q1, q2, (keyP.out W hW d0 hd0M).1, (keyP.out W hW d0 hd0M).2, (keyP.out W hW d hdM).1, (keyP.out W hW d hdM).2⟩
            clear keyU keyD keyP ha1 hd2 ha3 hd3 ha4 hd4
            generalize cs.getD a0 0 = x0 at *
            generalize cs.getD a 0 = x1 at *
            generalize cs.getD d0 0 = y0 at *
            generalize cs.getD d 0 = y1 at *
            have hwr : IntKind.i64.wrap (i : Int) = (i : Int) := by rw [IntKind.wrap_i64]; omega
            have h0i : (0 : Int) ≤ (i : Int) + 1 := by omega
            go_cut [11, 12] from 68 to 190 (fun s11 s12 W => ∃ gx gy : Nat, s11 = .pointer (some ⟨gx, 0, none⟩) ∧ s12 = .pointer (some ⟨gy, 0, none⟩) ∧ Hid (Pr w6 W gx x0 (a0 : Int)) ∧ Hid (Pr w6 W gy x1 (a : Int)))
            case first =>
              have KQ : Hid (∀ W, Below w6.heap.size w6 W → (W.cell? ⟨b3, f3 + i, none⟩ = some (.int .i64 (a0 : Int)) ∧ W.cell? ⟨b3, f3 + (i + 1), none⟩ = some (.int .i64 (a : Int)) ∧ W.cell? ⟨bp, fp + a0 * 2, none⟩ = some (.int .i64 x0) ∧ W.cell? ⟨bp, fp + a0 * 2 + 1, none⟩ = some (.int .i64 (a0 : Int)) ∧ W.cell? ⟨bp, fp + a * 2, none⟩ = some (.int .i64 x1) ∧ W.cell? ⟨bp, fp + a * 2 + 1, none⟩ = some (.int .i64 (a : Int)))) := fun W hW => KU.out W ((hnext.out.below).trans (hW.mono (hnext.out.below).size))
              go_region_held_law (fun W => (W.cell? ⟨b3, f3 + i, none⟩ = some (.int .i64 (a0 : Int)) ∧ W.cell? ⟨b3, f3 + (i + 1), none⟩ = some (.int .i64 (a : Int)) ∧ W.cell? ⟨bp, fp + a0 * 2, none⟩ = some (.int .i64 x0) ∧ W.cell? ⟨bp, fp + a0 * 2 + 1, none⟩ = some (.int .i64 (a0 : Int)) ∧ W.cell? ⟨bp, fp + a * 2, none⟩ = some (.int .i64 x1) ∧ W.cell? ⟨bp, fp + a * 2 + 1, none⟩ = some (.int .i64 (a : Int)))) (first | exact KQ.out _ (Below.refl _ _).drew | exact KQ.out _ ((Below.refl _ _).alloc (Nat.le_refl _) _).drew | exact KQ.out _ (((Below.refl _ _).alloc (Nat.le_refl _) _).alloc (by simp) _).drew) (fail)
              all_goals (go_wp2_with fail; go_meet)
              all_goals first
                | exact ⟨_, _, rfl, rfl, pr_fst w6 x0 (a0 : Int) x1 (a : Int) 33, pr_snd w6 x0 (a0 : Int) x1 (a : Int) 33⟩
                | exact ⟨_, _, rfl, rfl, pr_snd w6 x1 (a : Int) x0 (a0 : Int) 33, pr_fst w6 x1 (a : Int) x0 (a0 : Int) 33⟩
            case rest =>
              obtain ⟨gx, gy, rfl, rfl, HX, HY⟩ := hcut
              obtain ⟨w7, rfl⟩ : ∃ w7 : World, w7 = wc := ⟨_, rfl⟩
              have hn7 := Lib.hid (hnext.out.later HX.out.below)
              clear hnext KU
              go_upto_region 22 with (fail)
              go_cut [13, 14] from 68 to 190 (fun s13 s14 W => ∃ gu gv : Nat, s13 = .pointer (some ⟨gu, 0, none⟩) ∧ s14 = .pointer (some ⟨gv, 0, none⟩) ∧ Hid (Pr w7 W gu y0 (d0 : Int)) ∧ Hid (Pr w7 W gv y1 (d : Int)))
              case first =>
                have KQ : Hid (∀ W, Below w7.heap.size w7 W → (W.cell? ⟨b4, f4 + i, none⟩ = some (.int .i64 (d0 : Int)) ∧ W.cell? ⟨b4, f4 + (i + 1), none⟩ = some (.int .i64 (d : Int)) ∧ W.cell? ⟨bp, fp + d0 * 2, none⟩ = some (.int .i64 y0) ∧ W.cell? ⟨bp, fp + d0 * 2 + 1, none⟩ = some (.int .i64 (d0 : Int)) ∧ W.cell? ⟨bp, fp + d * 2, none⟩ = some (.int .i64 y1) ∧ W.cell? ⟨bp, fp + d * 2 + 1, none⟩ = some (.int .i64 (d : Int)))) := fun W hW => KD.out W ((hn7.out.below).trans (hW.mono (hn7.out.below).size))
                go_region_held_law (fun W => (W.cell? ⟨b4, f4 + i, none⟩ = some (.int .i64 (d0 : Int)) ∧ W.cell? ⟨b4, f4 + (i + 1), none⟩ = some (.int .i64 (d : Int)) ∧ W.cell? ⟨bp, fp + d0 * 2, none⟩ = some (.int .i64 y0) ∧ W.cell? ⟨bp, fp + d0 * 2 + 1, none⟩ = some (.int .i64 (d0 : Int)) ∧ W.cell? ⟨bp, fp + d * 2, none⟩ = some (.int .i64 y1) ∧ W.cell? ⟨bp, fp + d * 2 + 1, none⟩ = some (.int .i64 (d : Int)))) (first | exact KQ.out _ (Below.refl _ _).drew | exact KQ.out _ ((Below.refl _ _).alloc (Nat.le_refl _) _).drew | exact KQ.out _ (((Below.refl _ _).alloc (Nat.le_refl _) _).alloc (by simp) _).drew) (fail)
                all_goals (go_wp2_with fail; go_meet)
                all_goals first
                  | exact ⟨_, _, rfl, rfl, pr_fst w7 y0 (d0 : Int) y1 (d : Int) 33, pr_snd w7 y0 (d0 : Int) y1 (d : Int) 33⟩
                  | exact ⟨_, _, rfl, rfl, pr_snd w7 y1 (d : Int) y0 (d0 : Int) 33, pr_fst w7 y1 (d : Int) y0 (d0 : Int) 33⟩
              case rest =>
                obtain ⟨gu, gv, rfl, rfl, HU, HV⟩ := hcut
                obtain ⟨w8, rfl⟩ : ∃ w8 : World, w8 = wc := ⟨_, rfl⟩
                have hn8 := Lib.hid (hn7.out.later HU.out.below)
                have k1 := (HU.out.below.cell (p := ⟨gx, 0, none⟩) HX.out.hi).trans HX.out.fst
                have k2 := (HU.out.below.cell (p := ⟨gx, 1, none⟩) HX.out.hi).trans HX.out.snd
                have k3 := (HU.out.below.cell (p := ⟨gy, 0, none⟩) HY.out.hi).trans HY.out.fst
                have k4 := (HU.out.below.cell (p := ⟨gy, 1, none⟩) HY.out.hi).trans HY.out.snd
                have k5 := HU.out.fst
                have k6 := HU.out.snd
                have k7 := HV.out.fst
                have k8 := HV.out.snd
                clear HX HY HU HV hn7 KD hwr h0i
                rcases HBU.out with hx | ⟨rfl, hx⟩ <;> rcases HBD.out with hy | ⟨rfl, hy⟩
                · have t1 : decide (x1 < x0) = false := by rw [decide_eq_false_iff_not]; omega
                  have t1' : ¬ x1 < x0 := by omega
                  have t2 : (x0 == x1) = false := by rw [beq_eq_false_iff_ne]; omega
                  have s1 : decide (y0 < y1) = false := by rw [decide_eq_false_iff_not]; omega
                  have s1' : ¬ y0 < y1 := by omega
                  have s2 : (y0 == y1) = false := by rw [beq_eq_false_iff_ne]; omega
                  clear HBU HBD
                  go_wp2
                  go_roundg (n - (i + 1 + 1))
                  case measure => omega
                  case rel => exact ⟨i + 2, by omega, by omega, by first | rfl | go_num, hn8.out⟩
                · have t1 : decide (x1 < x0) = false := by rw [decide_eq_false_iff_not]; omega
                  have t1' : ¬ x1 < x0 := by omega
                  have t2 : (x0 == x1) = false := by rw [beq_eq_false_iff_ne]; omega
                  have s1 : decide ((d : Int) ≤ (d0 : Int)) = false := by rw [decide_eq_false_iff_not]; omega
                  have s2 : decide (d ≤ d0) = false := by rw [decide_eq_false_iff_not]; omega
                  have s3 : (y0 == y0) = true := by simp
                  clear HBU HBD
                  go_wp2
                  go_roundg (n - (i + 1 + 1))
                  case measure => omega
                  case rel => exact ⟨i + 2, by omega, by omega, by first | rfl | go_num, hn8.out⟩
                · have t1 : decide ((a : Int) ≤ (a0 : Int)) = false := by rw [decide_eq_false_iff_not]; omega
                  have t2 : decide (a ≤ a0) = false := by rw [decide_eq_false_iff_not]; omega
                  have t3 : (x0 == x0) = true := by simp
                  have s1 : decide (y0 < y1) = false := by rw [decide_eq_false_iff_not]; omega
                  have s1' : ¬ y0 < y1 := by omega
                  have s2 : (y0 == y1) = false := by rw [beq_eq_false_iff_ne]; omega
                  clear HBU HBD
                  go_wp2
                  go_roundg (n - (i + 1 + 1))
                  case measure => omega
                  case rel => exact ⟨i + 2, by omega, by omega, by first | rfl | go_num, hn8.out⟩
                · have t1 : decide ((a : Int) ≤ (a0 : Int)) = false := by rw [decide_eq_false_iff_not]; omega
                  have t2 : decide (a ≤ a0) = false := by rw [decide_eq_false_iff_not]; omega
                  have t3 : (x0 == x0) = true := by simp
                  have s1 : decide ((d : Int) ≤ (d0 : Int)) = false := by rw [decide_eq_false_iff_not]; omega
                  have s2 : decide (d ≤ d0) = false := by rw [decide_eq_false_iff_not]; omega
                  have s3 : (y0 == y0) = true := by simp
                  clear HBU HBD
                  go_wp2
                  go_roundg (n - (i + 1 + 1))
                  case measure => omega
                  case rel => exact ⟨i + 2, by omega, by omega, by first | rfl | go_num, hn8.out⟩
        · obtain rfl : n = i := by omega
          have hge2 : ¬ ((n : Nat) : Int) < (n : Int) := by omega
          have B6 := Lib.hid (below_next B5.out HS.out.below)
          go_wp2_with fail
          go_ret
          exact ⟨rfl, B6.out⟩
end Go.Proofs.Ytakgkfdbgjljkaa.Rank
