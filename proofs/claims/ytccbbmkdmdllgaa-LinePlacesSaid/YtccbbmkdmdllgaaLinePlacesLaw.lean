/-
  Layer 2 (line): the law on a place's line and column: the walk.
-/
import Derived.Test.YtccbbmkdmdllgaaLineSame
namespace Go.Proofs.Ytccbbmkdmdllgaa.Line
open Go.ChangeShapes Go.WideShapes Go.ChangeAt Go.RowKit Mem
set_option linter.unusedVariables false

theorem mod_k (a : Int) : ∃ r : Nat, wrap64 ((IntKind.u64.wrap a).tmod 1000) = r ∧ r < 1000 := by
  have h0 : 0 ≤ IntKind.u64.wrap a := by
    simp only [IntKind.wrap_u64]; omega
  have h1 := Int.emod_nonneg (IntKind.u64.wrap a) (b := 1000) (by omega)
  have h2 := Int.emod_lt_of_pos (IntKind.u64.wrap a) (b := 1000) (by omega)
  rw [Int.tmod_eq_emod_of_nonneg h0]
  generalize IntKind.u64.wrap a % 1000 = r at *
  exact ⟨r.toNat, by unfold wrap64; omega, by omega⟩

/-- What the loop gathers: numbers that rise, none below 0, none above s. -/
structure Gath (ks : List Int) (s : Int) : Prop where
  st : Starts ks
  top : ∀ i, i < ks.length → ks.getD i 0 ≤ s
  low : -1 ≤ s
  high : s ≤ 1001 * ks.length
theorem gath_nil : Gath [] (-1) := ⟨⟨fun i j _ h => by simp at h, fun i h => by simp at h⟩, fun i h => by simp at h, by omega, by simp⟩
theorem getD_left {ks : List Int} {x : Int} {i : Nat} (h : i < ks.length) : (ks ++ [x]).getD i 0 = ks.getD i 0 := by simp [List.getD, List.getElem?_append_left h]
theorem getD_last {ks : List Int} {x : Int} : (ks ++ [x]).getD ks.length 0 = x := by simp [List.getD]
theorem gath_snoc {ks : List Int} {s : Int} {r : Nat} (h : Gath ks s) (hr : r < 1000) : Gath (ks ++ [s + 1 + r]) (s + 1 + r) := by
  have hlow := h.low
  have hhigh := h.high
  refine ⟨⟨fun i j hij hj => ?_, fun i hi => ?_⟩, fun i hi => ?_, by omega, by simp only [List.length_append, List.length_cons, List.length_nil]; omega⟩
  · rw [List.length_append] at hj
    simp only [List.length_cons, List.length_nil] at hj
    rw [getD_left (by omega)]
    by_cases e : j = ks.length
    · subst e
      rw [getD_last]
      have := h.top i hij
      omega
    · rw [getD_left (by omega)]; exact h.st.rise i j hij (by omega)
  · rw [List.length_append] at hi
    simp only [List.length_cons, List.length_nil] at hi
    by_cases e : i = ks.length
    · subst e; rw [getD_last]; omega
    · rw [getD_left (by omega)]; exact h.st.pos i (by omega)
  · rw [List.length_append] at hi
    simp only [List.length_cons, List.length_nil] at hi
    by_cases e : i = ks.length
    · subst e; rw [getD_last]; omega
    · rw [getD_left (by omega)]
      have := h.top i (by omega)
      omega

theorem sts_st (xs : List Int) : Starts (sts xs) := ⟨sts_rise xs, fun i hi => (sts_bd xs hi).1⟩

set_option maxHeartbeats 4000000 in
set_option maxRecDepth 100000 in
theorem linePlaces_walk (A : Option Addr) (n cap : Nat) (zs : List Int) (at_ : Int) (A2 : Option Addr) (n2 cap2 : Nat) (zs2 : List Int) (w : World) (hrow : Row .u8 w A n cap zs) (hat : (Lit.int .i64 at_).wf = true) (hrow2 : Row .i64 w A2 n2 cap2 zs2) :
    Calls Try.prog 4 #[.slice A n cap, .int .i64 at_, .slice A2 n2 cap2] w fun e w' => e = .returned (.bool true) ∧ Below w.heap.size w w' := by
  obtain ⟨xs0, hn0, hcap0, hcap', h0⟩ := row_rb hrow
  obtain ⟨ys, hyn, hcap2, hcap2', hy, hyi⟩ := row_ri hrow2
  obtain ⟨at0, at1⟩ := bounds_i64 hat
  clear hrow hrow2 hat
  have F := Lib.hid (few_any A n cap w hcap0 hcap')
  have h := h0.take 20000
  have hn : (xs0.take 20000).length = min n 20000 := by rw [List.length_take, hn0, Nat.min_comm]
  have hcap : min n 20000 ≤ cap := by omega
  have hsm : min n 20000 ≤ 20000 := by omega
  generalize xs0.take 20000 = xs at *
  generalize min n 20000 = m at *
  have hln := sts_le xs
  have S1 := Lib.hid (starts_any A m cap xs w _ h (Nat.le_refl _) hn hcap hcap' (by omega))
  have HH := Lib.hid h; have HN := Lib.hid hn
  have HY := Lib.hid hy; have HYN := Lib.hid hyn
  have HC := Lib.hid hcap'
  unfold maxLen at hcap' hcap2'
  clear h0 hn0 hcap0 h hn hy hyn hyi
  have hsl : (sts xs).length ≤ 20001 := by have := HN.out; omega
  obtain ⟨ls, hls⟩ : ∃ ls, (sts xs).length = ls := ⟨_, rfl⟩
  rw [hls] at hsl
  have HLS := Lib.hid hls
  clear hls hln
  go_enter Try.func4, Try.ntmps4
  go_wp2_with fail
  refine F.out.mono ?_
  rintro e w' ⟨rfl, rfl⟩
  go_wp2_with fail
  refine S1.out.mono ?_
  rintro e w1 ⟨hb1, v1, rfl, hO1⟩
  obtain ⟨a1, c1, rfl, hc1, hc1x⟩ := own_slice hO1
  have P1 := Lib.hid (place_any a1 ls c1 (sts xs) at_ w1 _ (own_ri hO1) (Nat.le_refl _) HLS.out (sts_st xs) (by omega) at1)
  rw [HLS.out] at hc1
  rw [HLS.out]
  clear hO1
  go_wp2_with fail
  refine P1.out.mono ?_
  rintro e w2 ⟨rfl, hb2⟩
  have hbel2 : Below w.heap.size w w2 := hb1.trans (hb2.mono hb1.size)
  have R1 := Lib.hid (refStarts_any A m cap xs w2 _ (HH.out.below hbel2 (Nat.le_refl _)) hbel2.size HN.out (by omega))
  go_wp2_with fail
  refine R1.out.mono ?_
  rintro e w3 ⟨hb3, v3, rfl, hO3⟩
  obtain ⟨a3, c3, rfl, hc3, hc3x⟩ := own_slice hO3
  have P3 := Lib.hid (refPlace_any a3 ls c3 (sts xs) at_ w3 _ (own_ri hO3) (Nat.le_refl _) HLS.out (sts_st xs).pos (by omega) at1)
  rw [HLS.out]
  clear hO3
  go_wp2_with fail
  refine P3.out.mono ?_
  rintro e w4 ⟨rfl, q4, hq4⟩
  have hbel4 : Below w.heap.size w w4 := hbel2.trans ((hb3.mono hbel2.size).trans (hq4 ▸ below_drewN (Below.refl _ _) q4))
  clear hq4 hb3 hb2 hb1 P1 P3 R1 S1 F hbel2
  generalize plN (sts xs) at_ = pn at *
  generalize plC (sts xs) at_ = pc at *
  go_wp2
  go_loopw [11, 12, 13] (fun l s i wr => ∃ (k : Nat) (ks : List Int) (sm : Int), k ≤ n2 ∧ k ≤ 1000 ∧ ks.length = k ∧ i = .int .i64 k ∧ s = .int .i64 sm ∧ Gath ks sm ∧ Hid (wr.ownsRow w4.heap.size 3 1 l ks.length (ks.map (Value.int .i64))) ∧ Below w4.heap.size w4 wr) (fun _ _ i _ => n2 - (intOf i).toNat)
  case atStart => exact ⟨0, [], -1, Nat.zero_le _, Nat.zero_le _, rfl, rfl, rfl, gath_nil, World.ownsRow_nil _ _ _ _, Below.refl _ _⟩
  case round =>
    obtain ⟨k, ks, sm, hk, hk2, hkl, rfl, rfl, hg, hown, hbel⟩ := hrel
    have hbel5 := hbel4.trans (hbel.mono hbel4.size)
    by_cases hlt : k < n2 ∧ k < 1000
    · obtain ⟨hlt1, hlt2⟩ := hlt
      obtain ⟨b, off, rfl, _, hc⟩ := (HY.out.below hbel5 (Nat.le_refl _)).at_ (i := k) (by rw [HYN.out]; exact hlt1)
      obtain ⟨r, hr, hr2⟩ := mod_k (ys.getD k 0)
      have hg2 := Lib.hid (gath_snoc hg hr2)
      have hlo := hg.low
      have hhi := hg.high
      have hown1 := hown.out
      generalize ys.getD k 0 = z at *
      have hlt1' : (k : Int) < (n2 : Int) := by omega
      have hlt2' : (k : Int) < 1000 := by omega
      have hs9 : sm + 1 + (r : Int) ≤ 9223372036854775807 := by omega
      clear hg
      go_wp2_with (at_builtin; refine app_int wr rfl _ _ rfl w4.heap.size u11 ks (sm + 1 + r) rfl hown1 _ rfl rfl (by omega) hbel.size ?_; intro v2 w5 hown2 _ hB2 _)
      have hbel6 : Below w4.heap.size w4 w5 := hbel.trans (hB2 _ (fun b hv => (hown1.lt b hv).1) hbel.size)
      go_roundw
      case rel => exact ⟨k + 1, _, _, by omega, by omega, by simp; omega, by go_num, rfl, hg2.out, hown2, hbel6⟩
      case measure => simp [intOf]; omega
    · subst hkl
      have hown1 := hown.out
      obtain ⟨va, vc, rfl, hvc, hvx⟩ := own_slice hown1
      have HP := Lib.hid (place_any va ks.length vc ks at_ wr _ (own_ri hown1) (Nat.le_refl _) rfl hg.st (by omega) at1)
      have HR := Lib.hid (fun w5 (hb : Below wr.heap.size wr w5) => refPlace_any va ks.length vc ks at_ w5 _ ((own_ri hown1).below hb (Nat.le_refl _)) hb.size rfl hg.st.pos (by omega) at1)
      have HB5 := Lib.hid hbel5
      clear hown hown1 hbel hbel4 hg hbel5
      generalize plN ks at_ = qn at *
      generalize plC ks at_ = qc at *
      have hcases : ¬ (ks.length : Int) < (n2 : Int) ∨ ((ks.length : Int) < (n2 : Int) ∧ ¬ (ks.length : Int) < 1000) := by omega
      clear hlt
      rcases hcases with hge | ⟨hlt1', hge⟩
      all_goals
        go_wp2_with fail
        refine HP.out.mono ?_
        rintro e w6 ⟨rfl, hb6⟩
        go_wp2_with fail
        refine (HR.out w6 hb6).mono ?_
        rintro e w7 ⟨rfl, q7, hq7⟩
        have hb7 : Below wr.heap.size wr w7 := hb6.trans (hq7 ▸ below_drewN (Below.refl _ _) q7)
        clear hq7
        go_wp2_with fail
        refine (known_any w7).mono ?_
        rintro e w8 ⟨rfl, hb8⟩
        have HF := Lib.hid (HB5.out.trans ((hb7.trans (hb8.mono hb7.size)).mono HB5.out.size))
        clear hb6 hb7 hb8
        go_wp2_with fail
        go_ret
        exact ⟨rfl, HF.out⟩
end Go.Proofs.Ytccbbmkdmdllgaa.Line
