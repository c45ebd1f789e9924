/-
  Layer 4 (lex): the reference's 'one' at marks.
-/
import Derived.Test.YtiadbagfajhjfaaDoorLexOne
namespace Go.Proofs.YtiadbagfajhjfaaDoor.Lex
open Go.ChangeShapes Go.WideShapes Go.ChangeAt Go.RowKit Utf MemT
set_option linter.unusedVariables false

theorem mlist2 : (∀ m ∈ mlist, m.length = 2 → m ∈ marks2) ∧ (∀ m ∈ mlist, m.length = 1 → m ∈ marks1) ∧ (∀ m ∈ marks2, m ∈ mlist ∧ m.length = 2) ∧ (∀ m ∈ marks1, m ∈ mlist) := by decide +kernel
theorem markL_is {t : List Int} (h0 : 0 < t.length) : markL t = if 1 < t.length ∧ decide (t.take 2 ∈ mlist) = true then 2 else if decide (t.take 1 ∈ mlist) = true then 1 else 0 := by
  obtain ⟨a, b, c, d⟩ := mlist2
  unfold markL
  have h1 : (t.take 1).length = 1 := by rw [List.length_take]; omega
  have e1 : (t.take 1 ∈ marks1) ↔ decide (t.take 1 ∈ mlist) = true := by
    rw [decide_eq_true_iff]
    exact ⟨d _, fun h => b _ h h1⟩
  have e2 : (t.take 2 ∈ marks2) ↔ (1 < t.length ∧ decide (t.take 2 ∈ mlist) = true) := by
    rw [decide_eq_true_iff]
    constructor
    · intro h
      have := c _ h
      refine ⟨?_, this.1⟩
      have h2 := this.2
      rw [List.length_take] at h2; omega
    · intro h
      exact a _ h.2 (by rw [List.length_take]; omega)
  simp only [e1, e2]

theorem take2 : ∀ (t : List Int), 1 < t.length → t.take 2 = [t.getD 0 0, t.getD 1 0]
  | [], h => by simp at h
  | [x], h => by simp at h
  | x :: y :: r, _ => by simp

set_option maxHeartbeats 4000000 in
theorem one_mark (t : List Int) (ht : Byt t) (h0 : 0 < t.length) (hn : t.length ≤ 100000000) (hc : kd (t.getD 0 0) = 4) (hr : t.take 2 ≠ [47, 47]) (K : Int) (hK : (if markL t = 0 then 0 else 4) = K) (w : World) :
    Calls Tryd.prog 22 #[.string (strOfNums t)] w fun e w' => e = .returned (.tuple #[.int .i64 K, .int .i64 (markL t : Int)]) ∧ Below w.heap.size w w' := by
  have HK := Lib.hid hK
  clear hK
  have hix := fun W => one_idx0 ht h0 W
  have hsz : (strOfNums t).size = t.length := strOfNums_size t
  have hd := ht.getD 0
  have HS0 := Lib.hid (fun W => sort_any (t.getD 0 0) W hd.1 hd.2)
  have hs1 : sortI (t.getD 0 0) = 0 := by unfold sortI; rw [if_neg (by omega), if_neg (by omega)]
  rw [hs1] at HS0
  have b59 : (t.getD 0 0 == 59) = false := beq_no (fun e => by rw [e] at hc; exact absurd hc (by decide))
  have b34 : (t.getD 0 0 == 34) = false := beq_no (fun e => by rw [e] at hc; exact absurd hc (by decide))
  have hext : ∀ k, (strOfNums t).extract 0 k = strOfNums (t.take k) := fun k => by
    have : (strOfNums t).extract 0 k = strOfNums ((nums (strOfNums t)).take k) := by
      rw [← str_nums ((strOfNums t).extract 0 k)]
      congr 1
      simp [nums, List.map_take]
    rw [this, strOfNums_inj (nums_byt _) ht (str_nums _)]
  have HM : Hid (∀ k W, Calls Tryd.prog 32 #[.string ((strOfNums t).extract 0 k)] W fun e w' => e = .returned (.bool (decide (t.take k ∈ mlist))) ∧ Below W.heap.size W w') := fun k W => by
    rw [hext]; exact refMark_mem _ (ht.take k) W
  obtain ⟨b2, q2⟩ : ∃ b, decide (t.take 2 ∈ mlist) = b := ⟨_, rfl⟩
  obtain ⟨b1, q1⟩ : ∃ b, decide (t.take 1 ∈ mlist) = b := ⟨_, rfl⟩
  have HM2 : Hid (∀ W, Calls Tryd.prog 32 #[.string ((strOfNums t).extract 0 2)] W fun e w' => e = .returned (.bool b2) ∧ Below W.heap.size W w') := fun W => (HM.out 2 W).mono fun e w' h => ⟨q2 ▸ h.1, h.2⟩
  have HM1 : Hid (∀ W, Calls Tryd.prog 32 #[.string ((strOfNums t).extract 0 1)] W fun e w' => e = .returned (.bool b1) ∧ Below W.heap.size W w') := fun W => (HM.out 1 W).mono fun e w' h => ⟨q1 ▸ h.1, h.2⟩
  have hml := markL_is h0
  rw [q2, q1] at hml
  have HML := Lib.hid hml
  clear q2 q1 hml
  have h47 : 1 < t.length → t.getD 0 0 = 47 → t.getD 1 0 ≠ 47 := fun h1 h2 h3 => by
    exact hr (by rw [take2 t h1, h2, h3])
  have hix1 : 1 < t.length → ∀ W : World, (Instr.index 9 (.string (strOfNums t)) (.int .i64 1)).run Tryd.prog W = .ok (.int .u8 (t.getD 1 0)) W := fun h1 W => run_idx_str (P := Tryd.prog) 9 Tryd.underlying9 ht (i := 1) h1 W
  clear hext HM ht hd hc hs1 hr
  generalize markL t = ml at *
  generalize t.getD 0 0 = d0 at *
  generalize t.getD 1 0 = d1 at *
  generalize strOfNums t = s at *
  generalize t.length = n at *
  by_cases hl : 1 < n
  · have hl' : (1 : Int) < (n : Int) := by omega
    have hl2 : (2 : Int) ≤ (n : Int) := by omega
    have hi1 := hix1 hl
    have H47 := Lib.hid (h47 hl)
    clear h47 hix1
    have hd0 : (d0 == 47) = false ∨ (d0 = 47 ∧ (d1 == 47) = false) := by
      by_cases h : d0 = 47
      · exact .inr ⟨h, beq_no (H47.out h)⟩
      · exact .inl (beq_no h)
    have HL := Lib.hid hl
    clear H47 hl
    cases b2 with
    | true =>
      have HR : Hid (ml = 2) := by
        show _ = _
        rw [HML.out, if_pos ⟨HL.out, rfl⟩]
      clear HML
      rcases hd0 with hd0 | ⟨rfl, hd1⟩
      all_goals
        go_enter Tryd.func22, Tryd.ntmps22
        go_wp2_with (first | (go_at_call 25; refine (HS0.out _).mono ?_; rintro e w' ⟨rfl, rfl⟩) | (go_at_call 32; ((with_reducible refine (HM2.out _).mono ?_)); rintro e w1 ⟨rfl, hb1⟩))
        go_ret2
        exact ⟨by rw [← HK.out, HR.out]; rfl, hb1⟩
    | false =>
      have HR : Hid (ml = if b1 = true then 1 else 0) := by
        show _ = _
        rw [HML.out, if_neg (by intro e; cases e.2)]
      clear HML
      cases b1 with
      | true =>
        rcases hd0 with hd0 | ⟨rfl, hd1⟩
        all_goals
          go_enter Tryd.func22, Tryd.ntmps22
          go_wp2_with (first | (go_at_call 25; refine (HS0.out _).mono ?_; rintro e w' ⟨rfl, rfl⟩) | (go_at_call 32; ((with_reducible refine (HM2.out _).mono ?_)); rintro e w1 ⟨rfl, hb1⟩) | (go_at_call 32; ((with_reducible refine (HM1.out _).mono ?_)); rintro e w2 ⟨rfl, hb2⟩))
          go_ret2
          exact ⟨by rw [← HK.out, HR.out]; rfl, hb1.trans (hb2.mono hb1.size)⟩
      | false =>
        rcases hd0 with hd0 | ⟨rfl, hd1⟩
        all_goals
          go_enter Tryd.func22, Tryd.ntmps22
          go_wp2_with (first | (go_at_call 25; refine (HS0.out _).mono ?_; rintro e w' ⟨rfl, rfl⟩) | (go_at_call 32; ((with_reducible refine (HM2.out _).mono ?_)); rintro e w1 ⟨rfl, hb1⟩) | (go_at_call 32; ((with_reducible refine (HM1.out _).mono ?_)); rintro e w2 ⟨rfl, hb2⟩))
          go_ret2
          exact ⟨by rw [← HK.out, HR.out]; rfl, hb1.trans (hb2.mono hb1.size)⟩
  · obtain rfl : n = 1 := by omega
    have HR : Hid (ml = if b1 = true then 1 else 0) := by
      show _ = _
      rw [HML.out, if_neg (by intro e; omega)]
    clear HML h47 hix1 hl
    cases b1 with
    | true =>
      go_enter Tryd.func22, Tryd.ntmps22
      go_wp2_with (first | (go_at_call 25; refine (HS0.out _).mono ?_; rintro e w' ⟨rfl, rfl⟩) | (go_at_call 32; ((with_reducible refine (HM1.out _).mono ?_)); rintro e w2 ⟨rfl, hb2⟩))
      go_ret2
      exact ⟨by rw [← HK.out, HR.out]; rfl, hb2⟩
    | false =>
      go_enter Tryd.func22, Tryd.ntmps22
      go_wp2_with (first | (go_at_call 25; refine (HS0.out _).mono ?_; rintro e w' ⟨rfl, rfl⟩) | (go_at_call 32; ((with_reducible refine (HM1.out _).mono ?_)); rintro e w2 ⟨rfl, hb2⟩))
      go_ret2
      exact ⟨by rw [← HK.out, HR.out]; rfl, hb2⟩

end Go.Proofs.YtiadbagfajhjfaaDoor.Lex
