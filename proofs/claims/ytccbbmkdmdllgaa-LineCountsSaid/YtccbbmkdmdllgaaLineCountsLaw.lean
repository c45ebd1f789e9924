/-
  Layer 2 (line): the law on how many lines and starts there are: the walk.
-/
import Derived.Test.YtccbbmkdmdllgaaLineSame
namespace Go.Proofs.Ytccbbmkdmdllgaa.Line
open Go.ChangeShapes Go.WideShapes Go.ChangeAt Go.RowKit Mem
set_option linter.unusedVariables false

theorem count_snoc {xs : List Int} {k : Nat} (hk : k < xs.length) : (xs.take (k + 1)).count 10 = (xs.take k).count 10 + (if xs.getD k 0 = 10 then 1 else 0) := by
  rw [List.take_succ_eq_append_getElem hk, List.count_append]
  have e : xs.getD k 0 = xs[k] := by simp [List.getD, hk]
  rw [e, List.count_singleton]
  by_cases h : xs[k] = 10 <;> simp [h]

set_option maxHeartbeats 8000000 in
set_option maxRecDepth 100000 in
theorem lineCounts_walk (A : Option Addr) (n cap : Nat) (zs : List Int) (x y : Int) (w : World) (hrow : Row .u8 w A n cap zs) (hxw : (Lit.int .i64 x).wf = true) (hyw : (Lit.int .i64 y).wf = true) :
    Calls Try.prog 7 #[.slice A n cap, .int .i64 x, .int .i64 y] w fun e w' => e = .returned (.bool true) ∧ Below w.heap.size w w' := by
  obtain ⟨xs0, hn0, hcap0, hcap', h0⟩ := row_rb hrow
  clear hrow hxw hyw
  have F := Lib.hid (few_any A n cap w hcap0 hcap')
  have h := h0.take 20000
  have hn : (xs0.take 20000).length = min n 20000 := by rw [List.length_take, hn0, Nat.min_comm]
  have hcap : min n 20000 ≤ cap := by omega
  have hsm : min n 20000 ≤ 20000 := by omega
  generalize xs0.take 20000 = xs at *
  generalize min n 20000 = m at *
  have hln := sts_le xs
  have hlen := sts_len xs
  have hlc := lns_count xs
  have hll := lns_len xs
  have SP := Lib.hid (fun w1 (hb : Below w.heap.size w w1) => split_any A m cap xs w1 _ (h.below hb (Nat.le_refl _)) hb.size hn hcap hcap' (by omega))
  have S1 := Lib.hid (starts_any A m cap xs w _ h (Nat.le_refl _) hn hcap hcap' (by omega))
  have HH := Lib.hid h; have HN := Lib.hid hn
  unfold maxLen at hcap'
  obtain ⟨kx, hkx, hkxm⟩ := idx_of x m (by omega)
  obtain ⟨ky, hky, hkym⟩ := idx_of y m (by omega)
  have HPx := Lib.hid (pl_back xs kx (by omega))
  have HPy := Lib.hid (pl_back xs ky (by omega))
  have HM1 := Lib.hid (fun h => pl_mono xs kx ky h (by omega))
  have HM2 := Lib.hid (fun h => pl_mono xs ky kx h (by omega))
  obtain ⟨ls, hls⟩ : ∃ ls, (sts xs).length = ls := ⟨_, rfl⟩
  obtain ⟨ll, hlle⟩ : ∃ ll, (lns xs).length = ll := ⟨_, rfl⟩
  rw [hls] at hln hlen
  rw [hlle] at hlc hll
  have hall : xs.take m = xs := List.take_of_length_le (by omega)
  have HALL := Lib.hid hall
  have HLEN := Lib.hid hlen
  have HLC := Lib.hid hlc
  have HLS := Lib.hid hls
  have HLL := Lib.hid hlle
  have HKX := Lib.hid hkx
  have HKY := Lib.hid hky
  have hlsm : ls ≤ 20001 := by omega
  have hllm : ll ≤ 20001 := by omega
  have hcnt := Lib.hid (fun k (hk : k < m) => count_snoc (xs := xs) (k := k) (by omega))
  have hcle := Lib.hid (fun k => List.count_le_length (a := (10 : Int)) (l := xs.take k))
  clear h0 hn0 hcap0 h hn hall hlen hlc hls hlle hkx hky hln hll
  go_enter Try.func7, Try.ntmps7
  go_wp2_with fail
  refine F.out.mono ?_
  rintro e w' ⟨rfl, rfl⟩
  go_wp2
  go_loop [7, 8] (fun c i => ∃ k : Nat, k ≤ m ∧ i = .int .i64 k ∧ c = .int .i64 (((xs.take k).count 10 + 1 : Nat) : Int)) (fun _ i => m - (intOf i).toNat)
  case atStart => exact ⟨0, Nat.zero_le _, rfl, rfl⟩
  case round =>
    obtain ⟨k, hk, rfl, rfl⟩ := hrel
    by_cases hlt : k < m
    · obtain ⟨b, off, rfl, hbB, hc⟩ := HH.out.cell (by intro e; have := HN.out; rw [e] at this; simp at this; omega)
      have hc := hc k (by rw [HN.out]; exact hlt)
      have hq := hcnt.out k hlt
      have hle := hcle.out k
      rw [List.length_take] at hle
      generalize xs.getD k 0 = z at *
      generalize (xs.take k).count 10 = cn at *
      have hlt' : (k : Int) < (m : Int) := by omega
      by_cases hz : z = 10
      · subst hz
        rw [if_pos rfl] at hq
        have Hq := Lib.hid hq
        clear hq
        go_wp2
        go_round
        case rel => exact ⟨k + 1, by omega, by go_num, by rw [Hq.out]; try (first | rfl | go_num)⟩
        case measure => simp [intOf]; omega
      · have hz2 : (z == 10) = false := by rw [beq_eq_false_iff_ne]; exact hz
        rw [if_neg hz] at hq
        have Hq := Lib.hid hq
        clear hq hz
        go_wp2
        go_round
        case rel => exact ⟨k + 1, by omega, by go_num, by rw [Hq.out]; try (first | rfl | go_num)⟩
        case measure => simp [intOf]; omega
    · obtain rfl : k = m := by omega
      have hge : ¬ (k : Int) < (k : Int) := by omega
      rw [HALL.out, ← HLEN.out]
      clear hlt
      go_wp2_with fail
      refine S1.out.mono ?_
      rintro e w1 ⟨hb1, v1, rfl, hO1⟩
      obtain ⟨a1, c1, rfl, hc1, hc1x⟩ := own_slice hO1
      have hri := own_ri hO1
      have P1 := Lib.hid (fun (q : Nat) (hq : q ≤ k) w2 (hb : Below w1.heap.size w1 w2) => place_any a1 ls c1 (sts xs) q w2 _ (hri.below hb (Nat.le_refl _)) hb.size HLS.out ⟨sts_rise xs, fun i hi => (sts_bd xs hi).1⟩ (by omega) (by omega))
      rw [HLS.out] at hc1
      rw [HLS.out]
      have HB1 := Lib.hid hb1
      clear hO1 hri hb1 S1 F
      have hwx := HKX.out
      have hwy := HKY.out
      have hpx := HPx.out
      have hpy := HPy.out
      by_cases hk0 : k = 0
      · have hx0 : xs = [] := List.eq_nil_of_length_eq_zero (by have := HN.out; omega)
        have hk1 : ((k : Int) == 0) = true := by rw [beq_iff_eq]; omega
        have hl1 : (ls : Int) - 1 = (ll : Int) := by
          have h1 := HLC.out
          rw [if_pos (.inl hx0)] at h1
          have := HLEN.out
          omega
        clear hx0 hpx hpy hk0
        go_wp2_with fail
        go_quiet (fail)
        by_cases hxy : (ky : Int) < (kx : Int)
        · have hord := HM2.out (by omega)
          have pX := fun w2 (hb : Below w1.heap.size w1 w2) => P1.out ky hkym w2 hb
          have pY := fun w2 (hb : Below w1.heap.size w1 w2) => P1.out kx hkxm w2 hb
          generalize plN (sts xs) (ky : Nat) = i1 at *
          generalize plC (sts xs) (ky : Nat) = c11 at *
          generalize plN (sts xs) (kx : Nat) = i2 at *
          generalize plC (sts xs) (kx : Nat) = c12 at *
          have PX := Lib.hid pX
          have PY := Lib.hid pY
          clear pX pY
          have hor : (i1 : Int) < (i2 : Int) ∨ (¬ (i1 : Int) < (i2 : Int) ∧ ((i1 : Int) == (i2 : Int)) = true ∧ c11 ≤ c12) := by
            rcases hord with h | ⟨h, h'⟩
            · exact .inl (by omega)
            · exact .inr ⟨by omega, by rw [beq_iff_eq]; omega, h'⟩
          clear hord
          clear HM1 HM2 HPx HPy
          rcases hor with ho1 | ⟨ho1, ho2, ho3⟩
          all_goals
            go_wp2_with fail
            refine (PX.out _ (below_drewN (Below.refl _ _) _)).mono ?_
            rintro e w3 ⟨rfl, hb3⟩
            have hb13 : Below w1.heap.size w1 w3 := (below_drewN (Below.refl _ _) _).trans hb3
            clear hb3
            go_wp2_with fail
            refine (PY.out w3 hb13).mono ?_
            rintro e w4 ⟨rfl, hb4⟩
            have hb14 := hb13.trans (hb4.mono hb13.size)
            clear hb4 hb13
            go_wp2_with fail
            refine (known_any w4).mono ?_
            rintro e w5 ⟨rfl, hb5⟩
            have hb15 := hb14.trans (hb5.mono hb14.size)
            clear hb5 hb14
            go_wp2_with fail
            refine (SP.out w5 (HB1.out.trans (hb15.mono HB1.out.size))).mono ?_
            rintro e w6 ⟨hb6, v6, rfl, hO6⟩
            obtain ⟨A6, c6, vs6, rfl, _, _, _, _, _⟩ := hO6.reads
            rw [HLL.out]
            have HF := Lib.hid ((HB1.out.trans (hb15.mono HB1.out.size)).trans (hb6.mono (HB1.out.trans (hb15.mono HB1.out.size)).size))
            clear hb6 hb15 hO6
            go_wp2_with fail
            go_ret
            exact ⟨rfl, HF.out⟩
        · have hord := HM1.out (by omega)
          have pX := fun w2 (hb : Below w1.heap.size w1 w2) => P1.out kx hkxm w2 hb
          have pY := fun w2 (hb : Below w1.heap.size w1 w2) => P1.out ky hkym w2 hb
          generalize plN (sts xs) (kx : Nat) = i1 at *
          generalize plC (sts xs) (kx : Nat) = c11 at *
          generalize plN (sts xs) (ky : Nat) = i2 at *
          generalize plC (sts xs) (ky : Nat) = c12 at *
          have PX := Lib.hid pX
          have PY := Lib.hid pY
          clear pX pY
          have hor : (i1 : Int) < (i2 : Int) ∨ (¬ (i1 : Int) < (i2 : Int) ∧ ((i1 : Int) == (i2 : Int)) = true ∧ c11 ≤ c12) := by
            rcases hord with h | ⟨h, h'⟩
            · exact .inl (by omega)
            · exact .inr ⟨by omega, by rw [beq_iff_eq]; omega, h'⟩
          clear hord
          clear HM1 HM2 HPx HPy
          rcases hor with ho1 | ⟨ho1, ho2, ho3⟩
          all_goals
            go_wp2_with fail
            refine (PX.out _ (below_drewN (Below.refl _ _) _)).mono ?_
            rintro e w3 ⟨rfl, hb3⟩
            have hb13 : Below w1.heap.size w1 w3 := (below_drewN (Below.refl _ _) _).trans hb3
            clear hb3
            go_wp2_with fail
            refine (PY.out w3 hb13).mono ?_
            rintro e w4 ⟨rfl, hb4⟩
            have hb14 := hb13.trans (hb4.mono hb13.size)
            clear hb4 hb13
            go_wp2_with fail
            refine (known_any w4).mono ?_
            rintro e w5 ⟨rfl, hb5⟩
            have hb15 := hb14.trans (hb5.mono hb14.size)
            clear hb5 hb14
            go_wp2_with fail
            refine (SP.out w5 (HB1.out.trans (hb15.mono HB1.out.size))).mono ?_
            rintro e w6 ⟨hb6, v6, rfl, hO6⟩
            obtain ⟨A6, c6, vs6, rfl, _, _, _, _, _⟩ := hO6.reads
            rw [HLL.out]
            have HF := Lib.hid ((HB1.out.trans (hb15.mono HB1.out.size)).trans (hb6.mono (HB1.out.trans (hb15.mono HB1.out.size)).size))
            clear hb6 hb15 hO6
            go_wp2_with fail
            go_ret
            exact ⟨rfl, HF.out⟩
      · obtain ⟨r, hr, hr2⟩ : ∃ r : Nat, (k : Int) - 1 = (r : Int) ∧ r + 1 = k := ⟨k - 1, by omega, by omega⟩
        have hne : xs ≠ [] := by intro e; have := HN.out; rw [e] at this; simp at this; omega
        obtain ⟨b, off, rfl, hbB, hc⟩ := (HH.out.below HB1.out (Nat.le_refl _)).cell hne
        have hc := hc r (by rw [HN.out]; omega)
        have hgl : xs.getD (xs.length - 1) 0 = xs.getD r 0 := by rw [HN.out, ← hr2]; rfl
        have hk1 : ((k : Int) == 0) = false := by rw [beq_eq_false_iff_ne]; omega
        have hrk : (r : Int) < (k : Int) := by omega
        have h1 := HLC.out
        have h2 := HLEN.out
        rw [hgl] at h1
        generalize xs.getD r 0 = z at *
        by_cases hz : z = 10
        · rw [if_pos (.inr hz)] at h1
          have hl1 : (ls : Int) - 1 = (ll : Int) := by omega
          subst hz
          clear h1 h2 hgl hpx hpy hne hr2
          go_wp2_with fail
          go_quiet (fail)
          by_cases hxy : (ky : Int) < (kx : Int)
          · have hord := HM2.out (by omega)
            have pX := fun w2 (hb : Below w1.heap.size w1 w2) => P1.out ky hkym w2 hb
            have pY := fun w2 (hb : Below w1.heap.size w1 w2) => P1.out kx hkxm w2 hb
            generalize plN (sts xs) (ky : Nat) = i1 at *
            generalize plC (sts xs) (ky : Nat) = c11 at *
            generalize plN (sts xs) (kx : Nat) = i2 at *
            generalize plC (sts xs) (kx : Nat) = c12 at *
            have PX := Lib.hid pX
            have PY := Lib.hid pY
            clear pX pY
            have hor : (i1 : Int) < (i2 : Int) ∨ (¬ (i1 : Int) < (i2 : Int) ∧ ((i1 : Int) == (i2 : Int)) = true ∧ c11 ≤ c12) := by
              rcases hord with h | ⟨h, h'⟩
              · exact .inl (by omega)
              · exact .inr ⟨by omega, by rw [beq_iff_eq]; omega, h'⟩
            clear hord
            clear HM1 HM2 HPx HPy
            rcases hor with ho1 | ⟨ho1, ho2, ho3⟩
            all_goals
              go_wp2_with fail
              refine (PX.out _ (below_drewN (Below.refl _ _) _)).mono ?_
              rintro e w3 ⟨rfl, hb3⟩
              have hb13 : Below w1.heap.size w1 w3 := (below_drewN (Below.refl _ _) _).trans hb3
              clear hb3
              go_wp2_with fail
              refine (PY.out w3 hb13).mono ?_
              rintro e w4 ⟨rfl, hb4⟩
              have hb14 := hb13.trans (hb4.mono hb13.size)
              clear hb4 hb13
              go_wp2_with fail
              refine (known_any w4).mono ?_
              rintro e w5 ⟨rfl, hb5⟩
              have hb15 := hb14.trans (hb5.mono hb14.size)
              clear hb5 hb14
              go_wp2_with fail
              refine (SP.out w5 (HB1.out.trans (hb15.mono HB1.out.size))).mono ?_
              rintro e w6 ⟨hb6, v6, rfl, hO6⟩
              obtain ⟨A6, c6, vs6, rfl, _, _, _, _, _⟩ := hO6.reads
              rw [HLL.out]
              have HF := Lib.hid ((HB1.out.trans (hb15.mono HB1.out.size)).trans (hb6.mono (HB1.out.trans (hb15.mono HB1.out.size)).size))
              clear hb6 hb15 hO6
              go_wp2_with fail
              go_ret
              exact ⟨rfl, HF.out⟩
          · have hord := HM1.out (by omega)
            have pX := fun w2 (hb : Below w1.heap.size w1 w2) => P1.out kx hkxm w2 hb
            have pY := fun w2 (hb : Below w1.heap.size w1 w2) => P1.out ky hkym w2 hb
            generalize plN (sts xs) (kx : Nat) = i1 at *
            generalize plC (sts xs) (kx : Nat) = c11 at *
            generalize plN (sts xs) (ky : Nat) = i2 at *
            generalize plC (sts xs) (ky : Nat) = c12 at *
            have PX := Lib.hid pX
            have PY := Lib.hid pY
            clear pX pY
            have hor : (i1 : Int) < (i2 : Int) ∨ (¬ (i1 : Int) < (i2 : Int) ∧ ((i1 : Int) == (i2 : Int)) = true ∧ c11 ≤ c12) := by
              rcases hord with h | ⟨h, h'⟩
              · exact .inl (by omega)
              · exact .inr ⟨by omega, by rw [beq_iff_eq]; omega, h'⟩
            clear hord
            clear HM1 HM2 HPx HPy
            rcases hor with ho1 | ⟨ho1, ho2, ho3⟩
            all_goals
              go_wp2_with fail
              refine (PX.out _ (below_drewN (Below.refl _ _) _)).mono ?_
              rintro e w3 ⟨rfl, hb3⟩
              have hb13 : Below w1.heap.size w1 w3 := (below_drewN (Below.refl _ _) _).trans hb3
              clear hb3
              go_wp2_with fail
              refine (PY.out w3 hb13).mono ?_
              rintro e w4 ⟨rfl, hb4⟩
              have hb14 := hb13.trans (hb4.mono hb13.size)
              clear hb4 hb13
              go_wp2_with fail
              refine (known_any w4).mono ?_
              rintro e w5 ⟨rfl, hb5⟩
              have hb15 := hb14.trans (hb5.mono hb14.size)
              clear hb5 hb14
              go_wp2_with fail
              refine (SP.out w5 (HB1.out.trans (hb15.mono HB1.out.size))).mono ?_
              rintro e w6 ⟨hb6, v6, rfl, hO6⟩
              obtain ⟨A6, c6, vs6, rfl, _, _, _, _, _⟩ := hO6.reads
              rw [HLL.out]
              have HF := Lib.hid ((HB1.out.trans (hb15.mono HB1.out.size)).trans (hb6.mono (HB1.out.trans (hb15.mono HB1.out.size)).size))
              clear hb6 hb15 hO6
              go_wp2_with fail
              go_ret
              exact ⟨rfl, HF.out⟩
        · rw [if_neg (by rintro (e | e); exact hne e; exact hz e)] at h1
          have hz2 : (z == 10) = false := by rw [beq_eq_false_iff_ne]; exact hz
          obtain rfl : ls = ll := by omega
          clear h1 h2 hgl hpx hpy hne hr2 hz
          go_wp2_with fail
          go_quiet (fail)
          by_cases hxy : (ky : Int) < (kx : Int)
          · have hord := HM2.out (by omega)
            have pX := fun w2 (hb : Below w1.heap.size w1 w2) => P1.out ky hkym w2 hb
            have pY := fun w2 (hb : Below w1.heap.size w1 w2) => P1.out kx hkxm w2 hb
            generalize plN (sts xs) (ky : Nat) = i1 at *
            generalize plC (sts xs) (ky : Nat) = c11 at *
            generalize plN (sts xs) (kx : Nat) = i2 at *
            generalize plC (sts xs) (kx : Nat) = c12 at *
            have PX := Lib.hid pX
            have PY := Lib.hid pY
            clear pX pY
            have hor : (i1 : Int) < (i2 : Int) ∨ (¬ (i1 : Int) < (i2 : Int) ∧ ((i1 : Int) == (i2 : Int)) = true ∧ c11 ≤ c12) := by
              rcases hord with h | ⟨h, h'⟩
              · exact .inl (by omega)
              · exact .inr ⟨by omega, by rw [beq_iff_eq]; omega, h'⟩
            clear hord
            clear HM1 HM2 HPx HPy
            rcases hor with ho1 | ⟨ho1, ho2, ho3⟩
            all_goals
              go_wp2_with fail
              refine (PX.out _ (below_drewN (Below.refl _ _) _)).mono ?_
              rintro e w3 ⟨rfl, hb3⟩
              have hb13 : Below w1.heap.size w1 w3 := (below_drewN (Below.refl _ _) _).trans hb3
              clear hb3
              go_wp2_with fail
              refine (PY.out w3 hb13).mono ?_
              rintro e w4 ⟨rfl, hb4⟩
              have hb14 := hb13.trans (hb4.mono hb13.size)
              clear hb4 hb13
              go_wp2_with fail
              refine (known_any w4).mono ?_
              rintro e w5 ⟨rfl, hb5⟩
              have hb15 := hb14.trans (hb5.mono hb14.size)
              clear hb5 hb14
              go_wp2_with fail
              refine (SP.out w5 (HB1.out.trans (hb15.mono HB1.out.size))).mono ?_
              rintro e w6 ⟨hb6, v6, rfl, hO6⟩
              obtain ⟨A6, c6, vs6, rfl, _, _, _, _, _⟩ := hO6.reads
              rw [HLL.out]
              have HF := Lib.hid ((HB1.out.trans (hb15.mono HB1.out.size)).trans (hb6.mono (HB1.out.trans (hb15.mono HB1.out.size)).size))
              clear hb6 hb15 hO6
              go_wp2_with fail
              go_ret
              exact ⟨rfl, HF.out⟩
          · have hord := HM1.out (by omega)
            have pX := fun w2 (hb : Below w1.heap.size w1 w2) => P1.out kx hkxm w2 hb
            have pY := fun w2 (hb : Below w1.heap.size w1 w2) => P1.out ky hkym w2 hb
            generalize plN (sts xs) (kx : Nat) = i1 at *
            generalize plC (sts xs) (kx : Nat) = c11 at *
            generalize plN (sts xs) (ky : Nat) = i2 at *
            generalize plC (sts xs) (ky : Nat) = c12 at *
            have PX := Lib.hid pX
            have PY := Lib.hid pY
            clear pX pY
            have hor : (i1 : Int) < (i2 : Int) ∨ (¬ (i1 : Int) < (i2 : Int) ∧ ((i1 : Int) == (i2 : Int)) = true ∧ c11 ≤ c12) := by
              rcases hord with h | ⟨h, h'⟩
              · exact .inl (by omega)
              · exact .inr ⟨by omega, by rw [beq_iff_eq]; omega, h'⟩
            clear hord
            clear HM1 HM2 HPx HPy
            rcases hor with ho1 | ⟨ho1, ho2, ho3⟩
            all_goals
              go_wp2_with fail
              refine (PX.out _ (below_drewN (Below.refl _ _) _)).mono ?_
              rintro e w3 ⟨rfl, hb3⟩
              have hb13 : Below w1.heap.size w1 w3 := (below_drewN (Below.refl _ _) _).trans hb3
              clear hb3
              go_wp2_with fail
              refine (PY.out w3 hb13).mono ?_
              rintro e w4 ⟨rfl, hb4⟩
              have hb14 := hb13.trans (hb4.mono hb13.size)
              clear hb4 hb13
              go_wp2_with fail
              refine (known_any w4).mono ?_
              rintro e w5 ⟨rfl, hb5⟩
              have hb15 := hb14.trans (hb5.mono hb14.size)
              clear hb5 hb14
              go_wp2_with fail
              refine (SP.out w5 (HB1.out.trans (hb15.mono HB1.out.size))).mono ?_
              rintro e w6 ⟨hb6, v6, rfl, hO6⟩
              obtain ⟨A6, c6, vs6, rfl, _, _, _, _, _⟩ := hO6.reads
              rw [HLL.out]
              have HF := Lib.hid ((HB1.out.trans (hb15.mono HB1.out.size)).trans (hb6.mono (HB1.out.trans (hb15.mono HB1.out.size)).size))
              clear hb6 hb15 hO6
              go_wp2_with fail
              go_ret
              exact ⟨rfl, HF.out⟩
end Go.Proofs.Ytccbbmkdmdllgaa.Line
