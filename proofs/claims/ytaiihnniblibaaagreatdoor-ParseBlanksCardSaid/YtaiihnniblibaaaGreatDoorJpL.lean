import Derived.Test.YtaiihnniblibaaaGreatDoorLexRef2
import Derived.Test.YtaiihnniblibaaaGreatDoorJpJ
import Derived.Test.YtaiihnniblibaaaGreatDoorJpB

/-
 Layer 4 (lex): the reference's 'one': the token with which bytes begin, head by head (letters, digits, the semicolon).
-/
namespace Go.Proofs.YtaiihnniblibaaaGreatDoor.Lex
open Go.ChangeShapes Go.WideShapes Go.ChangeAt Go.RowKit Utf MemT
set_option linter.unusedVariables false

theorem blank_any (c : Int) (w : World) :
  Calls Tryz.prog 31 #[.int .u8 c] w fun e w' => e = .returned (.bool (blk c)) ∧ w = w' := by
 by_cases c1 : c = 32
 ·subst c1; rw [show blk 32 = true from rfl]
  go_enter Tryz.func31, Tryz.ntmps31
  go_wp2
  go_ret
  exact ⟨rfl, rfl⟩
 by_cases c2 : c = 9
 ·subst c2; rw [show blk 9 = true from rfl]
  go_enter Tryz.func31, Tryz.ntmps31
  go_wp2
  go_ret
  exact ⟨rfl, rfl⟩
 by_cases c3 : c = 13
 ·subst c3; rw [show blk 13 = true from rfl]
  go_enter Tryz.func31, Tryz.ntmps31
  go_wp2
  go_ret
  exact ⟨rfl, rfl⟩
 have hb : blk c = false := by
  cases h : blk c
  ·rfl
  ·have := blk_iff.1 h; omega
 rw [hb]
 have b1 := beq_no c1; have b2 := beq_no c2; have b3 := beq_no c3
 clear hb c1 c2 c3
 go_enter Tryz.func31, Tryz.ntmps31
 go_wp2
 go_ret
 exact ⟨rfl, rfl⟩

/-- What a byte of the text reads. -/
theorem one_idx {t : List Int} (ht : Byt t) : Hid (∀ i, i < t.length → ∀ W : World, (Instr.index 9 (.string (strOfNums t)) (.int .i64 (i : Int))).run Tryz.prog W = .ok (.int .u8 (t.getD i 0)) W) := fun i hi W => run_idx_str (P := Tryz.prog) 9 Tryz.underlying9 ht hi W
theorem one_idx0 {t : List Int} (ht : Byt t) (h0 : 0 < t.length) (W : World) : (Instr.index 9 (.string (strOfNums t)) (.int .i64 0)).run Tryz.prog W = .ok (.int .u8 (t.getD 0 0)) W := run_idx_str (P := Tryz.prog) 9 Tryz.underlying9 ht (i := 0) h0 W

theorem one_semi (t : List Int) (ht : Byt t) (h0 : 0 < t.length) (hc : t.getD 0 0 = 59) (w : World) :
  Calls Tryz.prog 32 #[.string (strOfNums t)] w fun e w' => e = .returned (.tuple #[.int .i64 6, .int .i64 1]) ∧ w = w' := by
 have hix := fun W => one_idx0 ht h0 W
 have hsz : (strOfNums t).size = t.length := strOfNums_size t
 rw [hc] at hix
 clear hc ht
 generalize strOfNums t = s at *
 generalize t.length = n at *
 by_cases hl : 1 < n
 ·have hl' : (1 : Int) < (n : Int) := by omega
  clear hl h0
  go_enter Tryz.func32, Tryz.ntmps32
  go_wp2
  go_ret2
  exact ⟨rfl, rfl⟩
 ·obtain rfl : n = 1 := by omega
  clear hl h0
  go_enter Tryz.func32, Tryz.ntmps32
  go_wp2
  go_ret2
  exact ⟨rfl, rfl⟩

set_option maxHeartbeats 4000000 in
theorem one_let (t : List Int) (ht : Byt t) (h0 : 0 < t.length) (hn : t.length ≤ 100000000) (hc : kd (t.getD 0 0) = 1) (w : World) :
  Calls Tryz.prog 32 #[.string (strOfNums t)] w fun e w' => e = .returned (.tuple #[.int .i64 1, .int .i64 (wordL t : Int)]) ∧ w = w' := by
 have hix := fun W => one_idx0 ht h0 W
 have HIX := one_idx ht
 have hsz : (strOfNums t).size = t.length := strOfNums_size t
 have hd := ht.getD 0
 have HS0 := Lib.hid (sort_any (t.getD 0 0) w hd.1 hd.2)
 have HSI : Hid (∀ i W, Calls Tryz.prog 57 #[.int .u8 (t.getD i 0)] W fun e w' => e = .returned (.int .i64 (sortI (t.getD i 0))) ∧ W = w') := fun i W => sort_any _ W (ht.getD i).1 (ht.getD i).2
 have hs1 : sortI (t.getD 0 0) = 1 := by unfold sortI; rw [if_pos hc]
 have hl0 : 1 ≤ lead lord t := by
  have : lord (t.getD 0 0) = true := by unfold lord; rw [hc]; rfl
  exact lead_step (Nat.zero_le _) h0 this
 have HL0 := Lib.hid hl0
 have HLE := Lib.hid (lead_le lord t)
 have b47 : (t.getD 0 0 == 47) = false := beq_no (fun e => by rw [e] at hc; exact absurd hc (by decide))
 have b59 : (t.getD 0 0 == 59) = false := beq_no (fun e => by rw [e] at hc; exact absurd hc (by decide))
 rw [hs1] at HS0
 have HW : Hid (wordL t = lead lord t) := rfl
 obtain ⟨n, hnn⟩ : ∃ n, t.length = n := ⟨_, rfl⟩
 have Hn := Lib.hid hnn
 rw [hnn] at HIX hsz h0 hn HLE
 clear hd hc hs1 hl0 hnn ht
 have hpre : (1 : Int) < (n : Int) ∨ ¬ (1 : Int) < (n : Int) := by omega
 generalize t.getD 0 0 = d at *
 generalize wordL t = wl at *
 obtain ⟨s, hs⟩ : ∃ s, strOfNums t = s := ⟨_, rfl⟩
 rw [hs] at HIX hsz hix ⊢
 clear hs
 rcases hpre with hpre | hpre
 all_goals
  go_enter Tryz.func32, Tryz.ntmps32
  go_wp2_with (first | (go_at_call 57; refine HS0.out.mono ?_; rintro e w' ⟨rfl, rfl⟩))
  go_loop [5] (fun i => ∃ k : Nat, 1 ≤ k ∧ k ≤ n ∧ i = .int .i64 k ∧ Hid (k ≤ lead lord t)) (fun i => n - (intOf i).toNat)
  case atStart => exact ⟨1, by omega, by omega, rfl, HL0.out⟩
  case round =>
   obtain ⟨k, hk1, hk, rfl, hle⟩ := hrel
   by_cases hlt : k < n
   ·have hxi := HIX.out k hlt
    have HC := Lib.hid (HSI.out k w)
    have HA : Hid (sortI (t.getD k 0) = 0 → wl = k) := fun h => by
     rw [HW.out]; exact lead_at hle.out ((sort_lord _).1 h)
    have HB : Hid (sortI (t.getD k 0) ≠ 0 → k + 1 ≤ lead lord t) := fun h => lead_step hle.out (by rw [Hn.out]; exact hlt) (by
     cases hl : lord (t.getD k 0)
     ·exact absurd ((sort_lord _).2 hl) h
     ·rfl)
    have hq : sortI (t.getD k 0) = 0 ∨ 0 < sortI (t.getD k 0) := by unfold sortI; split <;> (first | omega | (split <;> omega))
    have hlt' : (k : Int) < n := by omega
    clear hle hix b47 b59
    generalize t.getD k 0 = c at *
    generalize sortI c = q at *
    rcases hq with hq | hq
    ·subst hq
     have HA1 := Lib.hid (HA.out rfl)
     clear HA HB
     go_wp2_with (first | (go_at_call 57; refine HC.out.mono ?_; rintro e w' ⟨rfl, rfl⟩))
     go_ret2
     exact ⟨by rw [HA1.out]; rfl, rfl⟩
    ·have HB1 := Lib.hid (HB.out (by omega))
     clear HA HB
     go_wp2_with (first | (go_at_call 57; refine HC.out.mono ?_; rintro e w' ⟨rfl, rfl⟩))
     go_round
     case rel => exact ⟨k + 1, by omega, by omega, by go_num, HB1.out⟩
     case measure => simp [intOf]; omega
   ·have HE : Hid (wl = k) := by
     show _ = _
     rw [HW.out]
     have := hle.out; have := HLE.out; omega
    have hnl : ¬ (k : Int) < n := by omega
    clear hle hix b47 b59
    go_wp2
    go_ret2
    exact ⟨by rw [HE.out]; rfl, rfl⟩

theorem sort_dig (d : Int) : sortI d = 2 ↔ dig d = true := by
 unfold sortI dig
 by_cases h1 : kd d = 1
 ·simp [h1]
 ·by_cases h2 : kd d = 2 <;> simp [h1, h2]

end Go.Proofs.YtaiihnniblibaaaGreatDoor.Lex

/-
 Layer 4 (lex): the reference's 'one' at digits (in work).
-/
namespace Go.Proofs.YtaiihnniblibaaaGreatDoor.Lex
open Go.ChangeShapes Go.WideShapes Go.ChangeAt Go.RowKit Utf MemT
set_option linter.unusedVariables false

set_option maxHeartbeats 4000000 in
theorem one_dig (t : List Int) (ht : Byt t) (h0 : 0 < t.length) (hn : t.length ≤ 100000000) (hc : kd (t.getD 0 0) = 2) (K : Int) (hK : (if numL t = 0 then 0 else 2) = K) (w : World) :
  Calls Tryz.prog 32 #[.string (strOfNums t)] w fun e w' => e = .returned (.tuple #[.int .i64 K, .int .i64 (numL t : Int)]) ∧ w = w' := by
 have HK := Lib.hid hK
 clear hK
 have hix := fun W => one_idx0 ht h0 W
 have HIX := one_idx ht
 have hsz : (strOfNums t).size = t.length := strOfNums_size t
 have hd := ht.getD 0
 have HS0 := Lib.hid (sort_any (t.getD 0 0) w hd.1 hd.2)
 have HSI : Hid (∀ i W, Calls Tryz.prog 57 #[.int .u8 (t.getD i 0)] W fun e w' => e = .returned (.int .i64 (sortI (t.getD i 0))) ∧ W = w') := fun i W => sort_any _ W (ht.getD i).1 (ht.getD i).2
 have hs1 : sortI (t.getD 0 0) = 2 := by unfold sortI; rw [if_neg (by omega), if_pos hc]
 have hl0 : 1 ≤ lead dig t := by
  have : dig (t.getD 0 0) = true := by unfold dig; rw [hc]; rfl
  exact lead_step (Nat.zero_le _) h0 this
 have HL0 := Lib.hid hl0
 have HLE := Lib.hid (lead_le dig t)
 have b47 : (t.getD 0 0 == 47) = false := beq_no (fun e => by rw [e] at hc; exact absurd hc (by decide))
 have b59 : (t.getD 0 0 == 59) = false := beq_no (fun e => by rw [e] at hc; exact absurd hc (by decide))
 rw [hs1] at HS0
 have HNU : Hid (numL t = if 1 < lead dig t ∧ t.getD 0 0 = 48 then 0 else lead dig t) := rfl
 obtain ⟨n, hnn⟩ : ∃ n, t.length = n := ⟨_, rfl⟩
 have Hn := Lib.hid hnn
 rw [hnn] at HIX hsz h0 hn HLE
 clear hd hc hs1 hl0 hnn ht
 have hpre : (1 : Int) < (n : Int) ∨ ¬ (1 : Int) < (n : Int) := by omega
 have h48 : t.getD 0 0 = 48 ∨ ¬ t.getD 0 0 = 48 := by omega
 generalize t.getD 0 0 = d at *
 generalize numL t = nl at *
 obtain ⟨s, hs⟩ : ∃ s, strOfNums t = s := ⟨_, rfl⟩
 rw [hs] at HIX hsz hix ⊢
 clear hs
 rcases hpre with hpre | hpre
 all_goals
  go_enter Tryz.func32, Tryz.ntmps32
  go_wp2_with (first | (go_at_call 57; refine HS0.out.mono ?_; rintro e w' ⟨rfl, rfl⟩))
  go_loop [6] (fun i => ∃ k : Nat, 1 ≤ k ∧ k ≤ n ∧ i = .int .i64 k ∧ Hid (k ≤ lead dig t)) (fun i => n - (intOf i).toNat)
  case atStart => exact ⟨1, by omega, by omega, rfl, HL0.out⟩
  case round =>
   obtain ⟨k, hk1, hk, rfl, hle⟩ := hrel
   by_cases hlt : k < n
   ·have hxi := HIX.out k hlt
    have HC := Lib.hid (HSI.out k w)
    have HA : Hid (sortI (t.getD k 0) ≠ 2 → lead dig t = k) := fun h => lead_at hle.out (by
     cases hl : dig (t.getD k 0)
     ·rfl
     ·exact absurd ((sort_dig _).2 hl) h)
    have HB : Hid (sortI (t.getD k 0) = 2 → k + 1 ≤ lead dig t) := fun h => lead_step hle.out (by rw [Hn.out]; exact hlt) ((sort_dig _).1 h)
    have hlt' : (k : Int) < n := by omega
    clear hle b47 b59
    generalize t.getD k 0 = c at *
    generalize sortI c = q at *
    by_cases hq : q = 2
    ·subst hq
     have HB1 := Lib.hid (HB.out rfl)
     clear HA HB hix
     go_wp2_with (first | (go_at_call 57; refine HC.out.mono ?_; rintro e w' ⟨rfl, rfl⟩))
     go_round
     case rel => exact ⟨k + 1, by omega, by omega, by go_num, HB1.out⟩
     case measure => simp [intOf]; omega
    ·have HA1 := Lib.hid (HA.out hq)
     have bq := beq_no hq
     clear HA HB hq
     rcases h48 with h48 | h48
     ·subst h48
      by_cases hk2 : 1 < k
      ·have hk2' : (1 : Int) < (k : Int) := by omega
       have HR : Hid (nl = 0) := by
        show _ = _
        rw [HNU.out, HA1.out, if_pos ⟨hk2, rfl⟩]
       clear hk2
       go_wp2_with (first | (go_at_call 57; refine HC.out.mono ?_; rintro e w' ⟨rfl, rfl⟩))
       go_ret2
       exact ⟨by rw [← HK.out, HR.out]; rfl, rfl⟩
      ·have hk2' : decide ((1 : Int) < (k : Int)) = false := by rw [decide_eq_false_iff_not]; omega
       have HK1 := Lib.hid hk1
       have HR : Hid (nl = k) := by
        show _ = _
        rw [HNU.out, HA1.out, if_neg (by intro e; exact hk2 e.1)]
       go_wp2_with (first | (go_at_call 57; refine HC.out.mono ?_; rintro e w' ⟨rfl, rfl⟩))
       go_ret2
       exact ⟨by rw [← HK.out, HR.out, if_neg (by have := HK1.out; omega)]; rfl, rfl⟩
     ·have HR : Hid (nl = k) := by
       show _ = _
       rw [HNU.out, HA1.out, if_neg (by intro e; exact h48 e.2)]
      have b48 := beq_no h48
      have HK1 := Lib.hid hk1
      go_wp2_with (first | (go_at_call 57; refine HC.out.mono ?_; rintro e w' ⟨rfl, rfl⟩))
      go_ret2
      exact ⟨by rw [← HK.out, HR.out, if_neg (by have := HK1.out; omega)]; rfl, rfl⟩
   ·have HA1 : Hid (lead dig t = k) := by
     show _ = _
     have := hle.out; have := HLE.out; omega
    have hnl : ¬ (k : Int) < n := by omega
    clear hle b47 b59
    rcases h48 with h48 | h48
    ·subst h48
     by_cases hk2 : 1 < k
     ·have hk2' : (1 : Int) < (k : Int) := by omega
      have HR : Hid (nl = 0) := by
       show _ = _
       rw [HNU.out, HA1.out, if_pos ⟨hk2, rfl⟩]
      clear hk2
      go_wp2
      go_ret2
      exact ⟨by rw [← HK.out, HR.out]; rfl, rfl⟩
     ·have hk2' : decide ((1 : Int) < (k : Int)) = false := by rw [decide_eq_false_iff_not]; omega
      have HK1 := Lib.hid hk1
      have HR : Hid (nl = k) := by
       show _ = _
       rw [HNU.out, HA1.out, if_neg (by intro e; exact hk2 e.1)]
      go_wp2
      go_ret2
      exact ⟨by rw [← HK.out, HR.out, if_neg (by have := HK1.out; omega)]; rfl, rfl⟩
    ·have HR : Hid (nl = k) := by
      show _ = _
      rw [HNU.out, HA1.out, if_neg (by intro e; exact h48 e.2)]
     have b48 := beq_no h48
     have HK1 := Lib.hid hk1
     go_wp2
     go_ret2
     exact ⟨by rw [← HK.out, HR.out, if_neg (by have := HK1.out; omega)]; rfl, rfl⟩

end Go.Proofs.YtaiihnniblibaaaGreatDoor.Lex

/-
 Layer 4 (lex): the reference's 'one' at marks.
-/
namespace Go.Proofs.YtaiihnniblibaaaGreatDoor.Lex
open Go.ChangeShapes Go.WideShapes Go.ChangeAt Go.RowKit Utf MemT
set_option linter.unusedVariables false

theorem mlist2 : (∀ m ∈ mlist, m.length = 2 → m ∈ marks2) ∧ (∀ m ∈ mlist, m.length = 1 → m ∈ marks1) ∧ (∀ m ∈ marks2, m ∈ mlist ∧ m.length = 2) ∧ (∀ m ∈ marks1, m ∈ mlist) := by decide +kernel
theorem markL_is {t : List Int} (h0 : 0 < t.length) : markL t = if 1 < t.length ∧ decide (t.take 2 ∈ mlist) = true then 2 else if decide (t.take 1 ∈ mlist) = true then 1 else 0 := by
 obtain ⟨a, b, c, d⟩ := mlist2
 unfold markL
 have h1 : (t.take 1).length = 1 := by rw [List.length_take]; omega
 have e1 : (t.take 1 ∈ marks1) ↔ decide (t.take 1 ∈ mlist) = true := by
  rw [decide_eq_true_iff]
  exact ⟨d _, fun h => b _ h h1⟩
 have e2 : (t.take 2 ∈ marks2) ↔ (1 < t.length ∧ decide (t.take 2 ∈ mlist) = true) := by
  rw [decide_eq_true_iff]
  constructor
  ·intro h
   have := c _ h
   refine ⟨?_, this.1⟩
   have h2 := this.2
   rw [List.length_take] at h2; omega
  ·intro h
   exact a _ h.2 (by rw [List.length_take]; omega)
 simp only [e1, e2]

theorem take2 : ∀ (t : List Int), 1 < t.length → t.take 2 = [t.getD 0 0, t.getD 1 0]
 | [], h => by simp at h
 | [x], h => by simp at h
 | x :: y :: r, _ => by simp

set_option maxHeartbeats 4000000 in
theorem one_mark (t : List Int) (ht : Byt t) (h0 : 0 < t.length) (hn : t.length ≤ 100000000) (hc : kd (t.getD 0 0) = 4) (hr : t.take 2 ≠ [47, 47]) (K : Int) (hK : (if markL t = 0 then 0 else 4) = K) (w : World) :
  Calls Tryz.prog 32 #[.string (strOfNums t)] w fun e w' => e = .returned (.tuple #[.int .i64 K, .int .i64 (markL t : Int)]) ∧ Below w.heap.size w w' := by
 have HK := Lib.hid hK
 clear hK
 have hix := fun W => one_idx0 ht h0 W
 have hsz : (strOfNums t).size = t.length := strOfNums_size t
 have hd := ht.getD 0
 have HS0 := Lib.hid (fun W => sort_any (t.getD 0 0) W hd.1 hd.2)
 have hs1 : sortI (t.getD 0 0) = 0 := by unfold sortI; rw [if_neg (by omega), if_neg (by omega)]
 rw [hs1] at HS0
 have b59 : (t.getD 0 0 == 59) = false := beq_no (fun e => by rw [e] at hc; exact absurd hc (by decide))
 have b34 : (t.getD 0 0 == 34) = false := beq_no (fun e => by rw [e] at hc; exact absurd hc (by decide))
 have hext : ∀ k, (strOfNums t).extract 0 k = strOfNums (t.take k) := fun k => by
  have : (strOfNums t).extract 0 k = strOfNums ((nums (strOfNums t)).take k) := by
   rw [← str_nums ((strOfNums t).extract 0 k)]
   congr 1
   simp [nums, List.map_take]
  rw [this, strOfNums_inj (nums_byt _) ht (str_nums _)]
 have HM : Hid (∀ k W, Calls Tryz.prog 58 #[.string ((strOfNums t).extract 0 k)] W fun e w' => e = .returned (.bool (decide (t.take k ∈ mlist))) ∧ Below W.heap.size W w') := fun k W => by
  rw [hext]; exact refMark_mem _ (ht.take k) W
 obtain ⟨b2, q2⟩ : ∃ b, decide (t.take 2 ∈ mlist) = b := ⟨_, rfl⟩
 obtain ⟨b1, q1⟩ : ∃ b, decide (t.take 1 ∈ mlist) = b := ⟨_, rfl⟩
 have HM2 : Hid (∀ W, Calls Tryz.prog 58 #[.string ((strOfNums t).extract 0 2)] W fun e w' => e = .returned (.bool b2) ∧ Below W.heap.size W w') := fun W => (HM.out 2 W).mono fun e w' h => ⟨q2 ▸ h.1, h.2⟩
 have HM1 : Hid (∀ W, Calls Tryz.prog 58 #[.string ((strOfNums t).extract 0 1)] W fun e w' => e = .returned (.bool b1) ∧ Below W.heap.size W w') := fun W => (HM.out 1 W).mono fun e w' h => ⟨q1 ▸ h.1, h.2⟩
 have hml := markL_is h0
 rw [q2, q1] at hml
 have HML := Lib.hid hml
 clear q2 q1 hml
 have h47 : 1 < t.length → t.getD 0 0 = 47 → t.getD 1 0 ≠ 47 := fun h1 h2 h3 => by
  exact hr (by rw [take2 t h1, h2, h3])
 have hix1 : 1 < t.length → ∀ W : World, (Instr.index 9 (.string (strOfNums t)) (.int .i64 1)).run Tryz.prog W = .ok (.int .u8 (t.getD 1 0)) W := fun h1 W => run_idx_str (P := Tryz.prog) 9 Tryz.underlying9 ht (i := 1) h1 W
 clear hext HM ht hd hc hs1 hr
 generalize markL t = ml at *
 generalize t.getD 0 0 = d0 at *
 generalize t.getD 1 0 = d1 at *
 generalize strOfNums t = s at *
 generalize t.length = n at *
 by_cases hl : 1 < n
 ·have hl' : (1 : Int) < (n : Int) := by omega
  have hl2 : (2 : Int) ≤ (n : Int) := by omega
  have hi1 := hix1 hl
  have H47 := Lib.hid (h47 hl)
  clear h47 hix1
  have hd0 : (d0 == 47) = false ∨ (d0 = 47 ∧ (d1 == 47) = false) := by
   by_cases h : d0 = 47
   ·exact .inr ⟨h, beq_no (H47.out h)⟩
   ·exact .inl (beq_no h)
  have HL := Lib.hid hl
  clear H47 hl
  cases b2 with
  | true =>
   have HR : Hid (ml = 2) := by
    show _ = _
    rw [HML.out, if_pos ⟨HL.out, rfl⟩]
   clear HML
   rcases hd0 with hd0 | ⟨rfl, hd1⟩
   all_goals
    go_enter Tryz.func32, Tryz.ntmps32
    go_wp2_with (first | (go_at_call 57; refine (HS0.out _).mono ?_; rintro e w' ⟨rfl, rfl⟩) | (go_at_call 58; ((with_reducible refine (HM2.out _).mono ?_)); rintro e w1 ⟨rfl, hb1⟩))
    go_ret2
    exact ⟨by rw [← HK.out, HR.out]; rfl, hb1⟩
  | false =>
   have HR : Hid (ml = if b1 = true then 1 else 0) := by
    show _ = _
    rw [HML.out, if_neg (by intro e; cases e.2)]
   clear HML
   cases b1 with
   | true =>
    rcases hd0 with hd0 | ⟨rfl, hd1⟩
    all_goals
     go_enter Tryz.func32, Tryz.ntmps32
     go_wp2_with (first | (go_at_call 57; refine (HS0.out _).mono ?_; rintro e w' ⟨rfl, rfl⟩) | (go_at_call 58; ((with_reducible refine (HM2.out _).mono ?_)); rintro e w1 ⟨rfl, hb1⟩) | (go_at_call 58; ((with_reducible refine (HM1.out _).mono ?_)); rintro e w2 ⟨rfl, hb2⟩))
     go_ret2
     exact ⟨by rw [← HK.out, HR.out]; rfl, hb1.trans (hb2.mono hb1.size)⟩
   | false =>
    rcases hd0 with hd0 | ⟨rfl, hd1⟩
    all_goals
     go_enter Tryz.func32, Tryz.ntmps32
     go_wp2_with (first | (go_at_call 57; refine (HS0.out _).mono ?_; rintro e w' ⟨rfl, rfl⟩) | (go_at_call 58; ((with_reducible refine (HM2.out _).mono ?_)); rintro e w1 ⟨rfl, hb1⟩) | (go_at_call 58; ((with_reducible refine (HM1.out _).mono ?_)); rintro e w2 ⟨rfl, hb2⟩))
     go_ret2
     exact ⟨by rw [← HK.out, HR.out]; rfl, hb1.trans (hb2.mono hb1.size)⟩
 ·obtain rfl : n = 1 := by omega
  have HR : Hid (ml = if b1 = true then 1 else 0) := by
   show _ = _
   rw [HML.out, if_neg (by intro e; omega)]
  clear HML h47 hix1 hl
  cases b1 with
  | true =>
   go_enter Tryz.func32, Tryz.ntmps32
   go_wp2_with (first | (go_at_call 57; refine (HS0.out _).mono ?_; rintro e w' ⟨rfl, rfl⟩) | (go_at_call 58; ((with_reducible refine (HM1.out _).mono ?_)); rintro e w2 ⟨rfl, hb2⟩))
   go_ret2
   exact ⟨by rw [← HK.out, HR.out]; rfl, hb2⟩
  | false =>
   go_enter Tryz.func32, Tryz.ntmps32
   go_wp2_with (first | (go_at_call 57; refine (HS0.out _).mono ?_; rintro e w' ⟨rfl, rfl⟩) | (go_at_call 58; ((with_reducible refine (HM1.out _).mono ?_)); rintro e w2 ⟨rfl, hb2⟩))
   go_ret2
   exact ⟨by rw [← HK.out, HR.out]; rfl, hb2⟩

end Go.Proofs.YtaiihnniblibaaaGreatDoor.Lex

/-
 Layer 4 (lex): the reference's 'one' at strings.
-/
namespace Go.Proofs.YtaiihnniblibaaaGreatDoor.Lex
open Go.ChangeShapes Go.WideShapes Go.ChangeAt Go.RowKit Utf MemT
set_option linter.unusedVariables false

theorem strT_cons (c : Int) (r : List Int) : strT (c :: r) = if c = 34 then 1 else if c = 10 then 0 else if c = 92 then (match r with
  | [] => 0
  | d :: r' => if d = 10 then 0 else if strT r' = 0 then 0 else strT r' + 2) else if strT r = 0 then 0 else strT r + 1 := by
 conv => lhs; unfold strT
 rfl
theorem quo_drop {t : List Int} {k : Nat} (h : k < t.length) : t.drop k = t.getD k 0 :: t.drop (k + 1) := by
 rw [List.drop_eq_getElem_cons h]; simp [List.getD, List.getElem?_eq_getElem h]

/-- Where the string that begins the text is still open at k. -/
def QI (t : List Int) (k : Nat) : Prop := quoL t = if strT (t.drop k) = 0 then 0 else strT (t.drop k) + k
theorem qi_start : ∀ {t : List Int}, 0 < t.length → QI t 1
 | [], h => by simp at h
 | c :: r, _ => by simp [QI, quoL]
theorem qi_end {t : List Int} {k : Nat} (h : QI t k) (hk : t.length ≤ k) : quoL t = 0 := by
 rw [h, List.drop_eq_nil_of_le hk]; rfl
theorem qi_step {t : List Int} {k : Nat} (h : QI t k) (hk : k < t.length) :
  (t.getD k 0 = 34 → quoL t = k + 1) ∧ (t.getD k 0 = 10 → quoL t = 0) ∧
  (t.getD k 0 = 92 → k + 1 < t.length → t.getD (k + 1) 0 ≠ 10 → QI t (k + 2)) ∧
  (t.getD k 0 = 92 → k + 1 < t.length → t.getD (k + 1) 0 = 10 → QI t (k + 1)) ∧
  (t.getD k 0 = 92 → ¬ k + 1 < t.length → QI t (k + 1)) ∧
  (t.getD k 0 ≠ 34 → t.getD k 0 ≠ 92 → t.getD k 0 ≠ 10 → QI t (k + 1)) := by
 unfold QI at *
 rw [quo_drop hk, strT_cons] at h
 refine ⟨fun e => ?_, fun e => ?_, fun e h1 h2 => ?_, fun e h1 h2 => ?_, fun e h1 => ?_, fun e1 e2 e3 => ?_⟩
 ·rw [h, if_pos e, if_neg (by omega)]; omega
 ·rw [h, e]; simp
 ·rw [h, e, quo_drop h1]
  generalize t.getD (k + 1) 0 = d at h2 ⊢
  have hS : ∀ S : Nat, (if (if d = 10 then 0 else if S = 0 then 0 else S + 2) = 0 then 0 else (if d = 10 then 0 else if S = 0 then 0 else S + 2) + k) = if S = 0 then 0 else S + (k + 2) := fun S => by
   rw [if_neg h2]
   by_cases h0 : S = 0
   ·simp [h0]
   ·rw [if_neg h0, if_neg (by omega), if_neg h0]; omega
  exact hS (strT (t.drop (k + 2)))
 ·rw [h, e, quo_drop h1, h2, strT_ten]; simp
 ·rw [h, e, List.drop_eq_nil_of_le (by omega)]; simp [strT]
 ·rw [h, if_neg e1, if_neg e3, if_neg e2]
  by_cases h0 : strT (t.drop (k + 1)) = 0
  ·simp [h0]
  ·simp [h0]; omega

set_option maxHeartbeats 4000000 in
theorem one_quo (t : List Int) (ht : Byt t) (h0 : 0 < t.length) (hn : t.length ≤ 100000000) (hc : t.getD 0 0 = 34) (K : Int) (hK : (if quoL t = 0 then 0 else 3) = K) (w : World) :
  Calls Tryz.prog 32 #[.string (strOfNums t)] w fun e w' => e = .returned (.tuple #[.int .i64 K, .int .i64 (quoL t : Int)]) ∧ w = w' := by
 have HK := Lib.hid hK
 clear hK
 have hix := fun W => one_idx0 ht h0 W
 have HIX := one_idx ht
 have hsz : (strOfNums t).size = t.length := strOfNums_size t
 have HS0 := Lib.hid (sort_any 34 w (by omega) (by omega))
 have hs1 : sortI 34 = 0 := by decide
 rw [hs1] at HS0
 rw [hc] at hix
 have HQ0 := Lib.hid (qi_start h0)
 have HST : Hid (∀ k, QI t k → k < t.length → _) := fun k a b => qi_step a b
 have HEN : Hid (∀ k, QI t k → t.length ≤ k → quoL t = 0) := fun k a b => qi_end a b
 obtain ⟨n, hnn⟩ : ∃ n, t.length = n := ⟨_, rfl⟩
 rw [hnn] at HIX hsz h0 hn HST HEN
 clear hc hs1 hnn ht
 have hpre : (1 : Int) < (n : Int) ∨ ¬ (1 : Int) < (n : Int) := by omega
 obtain ⟨s, hs⟩ : ∃ s, strOfNums t = s := ⟨_, rfl⟩
 rw [hs] at HIX hsz hix ⊢
 generalize quoL t = Q at *
 clear hs
 rcases hpre with hpre | hpre
 all_goals
  go_enter Tryz.func32, Tryz.ntmps32
  go_wp2_with (first | (go_at_call 57; refine HS0.out.mono ?_; rintro e w' ⟨rfl, rfl⟩))
  go_loop [7] (fun i => ∃ k : Nat, 1 ≤ k ∧ k ≤ n ∧ i = .int .i64 k ∧ Hid (QI t k)) (fun i => n - (intOf i).toNat)
  case atStart => exact ⟨1, by omega, by omega, rfl, HQ0.out⟩
  case round =>
   obtain ⟨k, hk1, hk, rfl, hqi⟩ := hrel
   by_cases hlt : k < n
   ·have hxi := HIX.out k hlt
    have hnx := HIX.out (k + 1)
    obtain ⟨s34, s10, s92a, s92b, s92c, sel⟩ := HST.out k hqi.out hlt
    have hlt' : (k : Int) < n := by omega
    clear hix
    generalize t.getD k 0 = c at *
    generalize t.getD (k + 1) 0 = d at *
    by_cases h10 : c = 10
    ·have HR := Lib.hid (s10 h10)
     subst h10
     clear s34 s10 s92a s92b s92c sel hnx
     go_wp2
     go_ret2
     exact ⟨by rw [← HK.out, HR.out]; rfl, rfl⟩
    by_cases h34 : c = 34
    ·have HR := Lib.hid (s34 h34)
     subst h34
     clear s34 s10 s92a s92b s92c sel hnx h10
     go_wp2
     go_ret2
     exact ⟨by rw [← HK.out, HR.out, if_neg (by omega)]; rfl, rfl⟩
    have b34 : (c == 34) = false := beq_no h34
    have n10 : (c != 10) = true := by rw [bne_iff_ne]; exact h10
    by_cases h92 : c = 92
    ·by_cases h1 : k + 1 < n
     ·have hx1 := hnx h1
      rw [show ((k + 1 : Nat) : Int) = (k : Int) + 1 from by omega] at hx1
      have h1' : (k : Int) + 1 < (n : Int) := by omega
      by_cases hd : d = 10
      ·have HR := Lib.hid (s92b h92 h1 hd)
       subst hd; subst h92
       clear s34 s10 s92a s92b s92c sel hnx h10 h34
       go_wp2
       go_round
       case rel => exact ⟨k + 1, by omega, by omega, by go_num, HR.out⟩
       case measure => simp [intOf]; omega
      ·have HR := Lib.hid (s92a h92 h1 hd)
       have nd : (d != 10) = true := by rw [bne_iff_ne]; exact hd
       subst h92
       clear s34 s10 s92a s92b s92c sel hnx h10 h34 hd
       go_wp2
       go_round
       case rel => exact ⟨k + 2, by omega, by omega, by go_num, HR.out⟩
       case measure => simp [intOf]; omega
     ·have HR := Lib.hid (s92c h92 h1)
      have h1' : ¬ (k : Int) + 1 < (n : Int) := by omega
      subst h92
      clear s34 s10 s92a s92b s92c sel hnx h10 h34
      go_wp2
      go_round
      case rel => exact ⟨k + 1, by omega, by omega, by go_num, HR.out⟩
      case measure => simp [intOf]; omega
    ·have HR := Lib.hid (sel h34 h92 h10)
     have b92 : (c == 92) = false := beq_no h92
     clear s34 s10 s92a s92b s92c sel hnx h10 h34 h92
     go_wp2
     go_round
     case rel => exact ⟨k + 1, by omega, by omega, by go_num, HR.out⟩
     case measure => simp [intOf]; omega
   ·have HR := Lib.hid (HEN.out k hqi.out (by omega))
    have hnl : ¬ (k : Int) < n := by omega
    clear hix
    go_wp2
    go_ret2
    exact ⟨by rw [← HK.out, HR.out]; rfl, rfl⟩

end Go.Proofs.YtaiihnniblibaaaGreatDoor.Lex

/-
 Layer 4 (lex): the reference's 'one' at remarks.
-/
namespace Go.Proofs.YtaiihnniblibaaaGreatDoor.Lex
open Go.ChangeShapes Go.WideShapes Go.ChangeAt Go.RowKit Utf MemT
set_option linter.unusedVariables false

def nonl (c : Int) : Bool := c != 10
theorem rem_heads : ∀ {t : List Int}, t.take 2 = [47, 47] → 1 < t.length ∧ t.getD 0 0 = 47 ∧ t.getD 1 0 = 47 ∧ 2 ≤ lead nonl t
 | [], h => by simp at h
 | [x], h => by simp at h
 | x :: y :: r, h => by
  simp only [List.take_succ_cons, List.take_zero, List.cons.injEq, and_true] at h
  obtain ⟨rfl, rfl⟩ := h
  refine ⟨by simp, by simp, by simp, ?_⟩
  simp [lead, nonl]
theorem rem_step {t : List Int} {L e : Nat} (hL : lineL t = L) (h1 : t.getD 1 0 = 47) (he : 2 ≤ e) (hl : e ≤ L) (h : ∀ i, e ≤ i → i < L → blk (t.getD i 0) = true) :
  (blk (t.getD (e - 1) 0) = true → 3 ≤ e ∧ ∀ i, e - 1 ≤ i → i < L → blk (t.getD i 0) = true) ∧ (blk (t.getD (e - 1) 0) = false → remL t = e) := by
 have hlen : L ≤ t.length := by rw [← hL]; exact lead_le _ _
 constructor
 ·intro hb
  refine ⟨?_, fun i h2 h3 => ?_⟩
  ·rcases Nat.lt_or_ge 2 e with h' | h'
   ·exact h'
   ·obtain rfl : e = 2 := by omega
    rw [show 2 - 1 = 1 from rfl, h1] at hb
    exact absurd hb (by decide)
  ·by_cases hi : i = e - 1
   ·rw [hi]; exact hb
   ·exact h i (by omega) h3
 ·intro hb
  unfold remL
  rw [hL]
  have hlt : (t.take L).length = L := by rw [List.length_take]; omega
  refine trimL_is (t.take L) e (by omega) (fun _ => ?_) (fun i h2 h3 => ?_)
  ·rw [getD_take (by omega)]; exact hb
  ·rw [getD_take (by omega)]; exact h i h2 (by omega)

set_option maxHeartbeats 4000000 in
theorem one_rem (t : List Int) (ht : Byt t) (hn : t.length ≤ 100000000) (hc : t.take 2 = [47, 47]) (w : World) :
  Calls Tryz.prog 32 #[.string (strOfNums t)] w fun e w' => e = .returned (.tuple #[.int .i64 5, .int .i64 (remL t : Int)]) ∧ w = w' := by
 obtain ⟨h1, c0, c1, hl2⟩ := rem_heads hc
 have hix := fun W => one_idx0 ht (by omega) W
 have hix1 : ∀ W : World, (Instr.index 9 (.string (strOfNums t)) (.int .i64 1)).run Tryz.prog W = .ok (.int .u8 (t.getD 1 0)) W := fun W => run_idx_str (P := Tryz.prog) 9 Tryz.underlying9 ht (i := 1) h1 W
 have HIX := one_idx ht
 have hsz : (strOfNums t).size = t.length := strOfNums_size t
 rw [c0] at hix
 rw [c1] at hix1
 have HB : Hid (∀ c W, Calls Tryz.prog 31 #[.int .u8 c] W fun e w' => e = .returned (.bool (blk c)) ∧ W = w') := blank_any
 have HSTEP : Hid (∀ L e, lineL t = L → 2 ≤ e → e ≤ L → (∀ i, e ≤ i → i < L → blk (t.getD i 0) = true) → _) := fun L e a b c d => rem_step a c1 b c d
 have HLS : Hid (∀ k, k ≤ lead nonl t → k < t.length → t.getD k 0 ≠ 10 → k + 1 ≤ lead nonl t) := fun k a b c => lead_step (p := nonl) a b (by unfold nonl; rw [bne_iff_ne]; exact c)
 have HLA : Hid (∀ k, k ≤ lead nonl t → t.getD k 0 = 10 → lineL t = k) := fun k a c => lead_at (p := nonl) a (by unfold nonl; rw [c]; rfl)
 have HLE : Hid (∀ k, k ≤ lead nonl t → t.length ≤ k → lineL t = k) := fun k a c => lead_end (p := nonl) a c
 have HL2 := Lib.hid hl2
 have HREM : Hid (∀ k, lineL t = k → k ≤ t.length) := fun k a => by rw [← a]; exact lead_le _ _
 obtain ⟨n, hnn⟩ : ∃ n, t.length = n := ⟨_, rfl⟩
 rw [hnn] at HIX hsz h1 hn HLS HLE HREM
 obtain ⟨s, hs⟩ : ∃ s, strOfNums t = s := ⟨_, rfl⟩
 rw [hs] at HIX hsz hix hix1 ⊢
 have h1' : (1 : Int) < (n : Int) := by omega
 generalize remL t = R at *
 clear hs hnn ht hc c0 c1 hl2
 go_enter Tryz.func32, Tryz.ntmps32
 go_wp2
 go_loop [4] (fun i => ∃ k : Nat, 2 ≤ k ∧ k ≤ n ∧ i = .int .i64 k ∧ Hid (k ≤ lead nonl t)) (fun i => n - (intOf i).toNat)
 case atStart => exact ⟨2, by omega, by omega, rfl, HL2.out⟩
 case round =>
  obtain ⟨k, hk1, hk, rfl, hle⟩ := hrel
  have hq : (k < n ∧ t.getD k 0 ≠ 10) ∨ (k < n ∧ t.getD k 0 = 10) ∨ ¬ k < n := by omega
  rcases hq with ⟨hlt, hd⟩ | ⟨hlt, hd⟩ | hlt
  ·have hxi := HIX.out k hlt
   have HX := Lib.hid (HLS.out k hle.out hlt hd)
   have nd : (t.getD k 0 != 10) = true := by rw [bne_iff_ne]; exact hd
   have hlt' : (k : Int) < n := by omega
   clear hix hix1 hle
   generalize t.getD k 0 = c at *
   clear hd
   go_wp2
   go_round
   case rel => exact ⟨k + 1, by omega, by omega, by go_num, HX.out⟩
   case measure => simp [intOf]; omega
  case' inr.inl =>
   have hxi := HIX.out k hlt
   rw [hd] at hxi
   have hlk := HLA.out k hle.out hd
   have hlt' : (k : Int) < n := by omega
  case' inr.inr =>
   have hlk := HLE.out k hle.out (by omega)
   have hlt' : ¬ (k : Int) < n := by omega
  all_goals
   have HK := Lib.hid hlk
   clear hix hix1 hle hlk
   go_wp2
   go_loop [4] (fun i => ∃ e : Nat, 2 ≤ e ∧ e ≤ k ∧ i = .int .i64 e ∧ Hid (∀ i, e ≤ i → i < k → blk (t.getD i 0) = true)) (fun i => (intOf i).toNat)
   case atStart => exact ⟨k, by omega, by omega, rfl, fun i a b => absurd a (by omega)⟩
   case round =>
    obtain ⟨e, he1, he, rfl, hall⟩ := hrel
    obtain ⟨A1, A2⟩ := HSTEP.out k e HK.out he1 he hall.out
    obtain ⟨f, rfl⟩ : ∃ f, e = f + 1 := ⟨e - 1, by omega⟩
    rw [show f + 1 - 1 = f from rfl] at A1 A2
    have hxf := HIX.out f (by omega)
    have HC := Lib.hid (HB.out (t.getD f 0) w)
    have HA1 := Lib.hid A1; have HA2 := Lib.hid A2
    clear A1 A2 hall
    obtain ⟨b, hb⟩ : ∃ b, blk (t.getD f 0) = b := ⟨_, rfl⟩
    rw [hb] at HC HA1 HA2
    clear hb
    generalize t.getD f 0 = c at *
    cases b with
    | true =>
     obtain ⟨q1, q2⟩ := HA1.out rfl
     have HQ := Lib.hid q2
     clear HA1 HA2 q2
     go_wp2_with (first | (go_at_call 31; refine HC.out.mono ?_; rintro e w' ⟨rfl, rfl⟩))
     go_round
     case rel => exact ⟨f, by omega, by omega, by go_num, HQ.out⟩
     case measure => simp [intOf]
    | false =>
     have HR := Lib.hid (HA2.out rfl)
     clear HA1 HA2
     go_wp2_with (first | (go_at_call 31; refine HC.out.mono ?_; rintro e w' ⟨rfl, rfl⟩))
     go_ret2
     exact ⟨by rw [HR.out]; rfl, rfl⟩

end Go.Proofs.YtaiihnniblibaaaGreatDoor.Lex

/-
 Layer 4 (lex): the reference's 'one' at every text that begins with neither a blank nor a newline.
-/
namespace Go.Proofs.YtaiihnniblibaaaGreatDoor.Lex
open Go.ChangeShapes Go.WideShapes Go.ChangeAt Go.RowKit Utf MemT
set_option linter.unusedVariables false

theorem below_same {w w' : World} (h : w = w') : Below w.heap.size w w' := h ▸ Below.refl _ _

theorem one_any : ∀ (t : List Int) (ht : Byt t) (h0 : 0 < t.length) (hn : t.length ≤ 100000000) (h7 : blk (t.getD 0 0) = false) (h8 : t.getD 0 0 ≠ 10) (K : Int) (hK : (if (piece t).2 = 0 then 0 else (piece t).1) = K) (w : World),
  Calls Tryz.prog 32 #[.string (strOfNums t)] w fun e w' => e = .returned (.tuple #[.int .i64 K, .int .i64 ((piece t).2 : Int)]) ∧ Below w.heap.size w w'
 | [], _, h0, _, _, _, _, _, _ => absurd h0 (by simp)
 | c :: r, ht, h0, hn, h7, h8, K, hK, w => by
  have hg : (c :: r).getD 0 0 = c := rfl
  rw [hg] at h7 h8
  have a7 : kd c ≠ 7 := fun e => by
   unfold blk at h7; rw [e] at h7; cases h7
  have a8 : kd c ≠ 8 := fun e => h8 (kd_nl.1 e)
  rw [piece_cons] at hK ⊢
  by_cases k1 : kd c = 1
  ·rw [if_pos k1] at hK ⊢
   have hw : wordL (c :: r) ≠ 0 := by
    have : 1 ≤ lead lord (c :: r) := lead_step (Nat.zero_le _) h0 (by rw [hg]; unfold lord; rw [k1]; rfl)
    unfold wordL; omega
   have hK' : 1 = K := by rw [← hK]; exact (if_neg hw).symm
   subst hK'
   exact (one_let (c :: r) ht h0 hn k1 w).mono fun e w' h => ⟨h.1, below_same h.2⟩
  rw [if_neg k1] at hK ⊢
  by_cases k2 : kd c = 2
  ·rw [if_pos k2] at hK ⊢
   exact (one_dig (c :: r) ht h0 hn k2 K hK w).mono fun e w' h => ⟨h.1, below_same h.2⟩
  rw [if_neg k2] at hK ⊢
  by_cases k3 : kd c = 3
  ·rw [if_pos k3] at hK ⊢
   exact (one_quo (c :: r) ht h0 hn (kd_quo.1 k3) K hK w).mono fun e w' h => ⟨h.1, below_same h.2⟩
  rw [if_neg k3] at hK ⊢
  by_cases k4 : kd c = 4
  ·rw [if_pos k4] at hK ⊢
   by_cases hr : (c :: r).take 2 = [47, 47]
   ·rw [if_pos hr] at hK ⊢
    have hl : remL (c :: r) ≠ 0 := by
     intro e
     have h2 := rem_heads hr
     have hle : 2 ≤ lineL (c :: r) := h2.2.2.2
     have hb := trimL_blk ((c :: r).take (lineL (c :: r))) 0 (by unfold remL at e; omega) (by rw [List.length_take]; have := h2.1; omega)
     rw [getD_take (by omega), h2.2.1] at hb
     exact absurd hb (by decide)
    have hK' : 5 = K := by rw [← hK]; exact (if_neg hl).symm
    subst hK'
    exact (one_rem (c :: r) ht hn hr w).mono fun e w' h => ⟨h.1, below_same h.2⟩
   ·rw [if_neg hr] at hK ⊢
    exact one_mark (c :: r) ht h0 hn k4 hr K hK w
  rw [if_neg k4] at hK ⊢
  have k6 : kd c = 6 := by have := kd_cases c; omega
  have hK' : 6 = K := by rw [← hK, k6]; rfl
  subst hK'
  exact (one_semi (c :: r) ht h0 (kd_semi.1 k6) w).mono fun e w' h => ⟨h.1, below_same h.2⟩

end Go.Proofs.YtaiihnniblibaaaGreatDoor.Lex

/-
 Plain mathematics of layer 4 (lex): the document's way, step by step: first all tokens with their lines, then the ends. Nothing of the program is imported.
-/
namespace Go.Proofs.YtaiihnniblibaaaGreatDoor.Lex

/-- Does a line begin, by the lines of the tokens that stand already? -/
def begins (P : List (Tok × Nat)) (ln : Nat) : Bool :=
 match P.getLast? with
 | none => true
 | some x => decide (x.2 < ln)
theorem begins_snoc (P : List (Tok × Nat)) (x : Tok × Nat) (ln : Nat) : begins (P ++ [x]) ln = decide (x.2 < ln) := by
 simp [begins]
theorem begins_at {P : List (Tok × Nat)} {ln m : Nat} (h : P.length = m + 1) : begins P ln = decide (((P.getD m (⟨0, [], 0, false⟩, 0)).2 : Nat) < ln) := by
 unfold begins
 rw [List.getLast?_eq_getElem?, show P.length - 1 = m from by omega]
 simp [List.getD, List.getElem?_eq_getElem (show m < P.length by omega)]

/-- Half-way: P is what stands, ln the line. -/
def Mid (xs : List Int) (n k : Nat) (P : List (Tok × Nat)) (ln : Nat) : Prop :=
 (∃ fl, n - k ≤ fl ∧ P ++ plain (pcs fl (xs.drop k)).1 k ln (begins P ln) = plain (pieces xs) 0 0 true ∧ (pcs fl (xs.drop k)).2 = left xs) ∧ P.length ≤ k ∧ ln ≤ k ∧ (∀ x ∈ P, x.2 ≤ ln) ∧ xs.length = n

theorem mid_start {xs : List Int} {n : Nat} (hn : xs.length = n) : Mid xs n 0 [] 0 :=
 ⟨⟨xs.length, by omega, by rw [List.drop_zero]; rfl, by rw [List.drop_zero]; rfl⟩, Nat.le_refl _, Nat.le_refl _, (fun x h => by cases h), hn⟩

theorem mid_more {xs : List Int} {n k : Nat} {P : List (Tok × Nat)} {ln : Nat} (h : Mid xs n k P ln) (hk : k < n) {K : Int} {m : Nat} (hp : piece (xs.drop k) = (K, m)) (hm : m ≠ 0) :
  k + m ≤ n ∧ ((xs.drop k).take m).length = m ∧ ∃ fl, n - (k + m) ≤ fl ∧ P ++ plain ((K, (xs.drop k).take m) :: (pcs fl (xs.drop (k + m))).1) k ln (begins P ln) = plain (pieces xs) 0 0 true ∧ (pcs fl (xs.drop (k + m))).2 = left xs := by
 obtain ⟨⟨fl, h1, h2, h3⟩, _, _, _, hn⟩ := h
 have hle := piece_le (xs.drop k)
 rw [hp, List.length_drop, hn] at hle
 have hle' : m ≤ n - k := hle
 refine ⟨by omega, by rw [List.length_take, List.length_drop]; omega, ?_⟩
 obtain ⟨f, rfl⟩ : ∃ f, fl = f + 1 := ⟨fl - 1, by omega⟩
 have e : pcs (f + 1) (xs.drop k) = ((K, (xs.drop k).take m) :: (pcs f (xs.drop (k + m))).1, (pcs f (xs.drop (k + m))).2) := by
  conv => lhs; unfold pcs
  rw [hp, if_neg (by exact hm)]
  simp only [List.drop_drop]
 rw [e] at h2 h3
 exact ⟨f, by omega, h2, h3⟩

theorem mid_head {xs : List Int} {k : Nat} (hk : k < xs.length) : xs.drop k = xs.getD k 0 :: xs.drop (k + 1) := by
 rw [List.drop_eq_getElem_cons hk]; simp [List.getD, List.getElem?_eq_getElem hk]

theorem mid_nl {xs : List Int} {n k : Nat} {P : List (Tok × Nat)} {ln : Nat} (h : Mid xs n k P ln) (hk : k < n) (hd : xs.getD k 0 = 10) : Mid xs n (k + 1) P (ln + 1) := by
 have hn := h.2.2.2.2
 have hp : piece (xs.drop k) = (8, 1) := by rw [mid_head (by omega), hd, nl_piece]
 obtain ⟨_, hl, fl, h1, h2, h3⟩ := mid_more h hk hp (by omega)
 have hb : begins P (ln + 1) = true := by
  rcases List.eq_nil_or_concat P with rfl | ⟨Q, x, rfl⟩
  ·rfl
  ·rw [List.concat_eq_append, begins_snoc]
   have := h.2.2.2.1 x (by simp)
   simp; omega
 refine ⟨⟨fl, h1, ?_, h3⟩, by have := h.2.1; omega, by have := h.2.2.1; omega, fun x hx => by have := h.2.2.2.1 x hx; omega, hn⟩
 rw [hb]
 simpa [plain, hl] using h2

theorem mid_blk {xs : List Int} {n k : Nat} {P : List (Tok × Nat)} {ln : Nat} (h : Mid xs n k P ln) (hk : k < n) (hd : blk (xs.getD k 0) = true) : Mid xs n (k + 1) P ln := by
 have hn := h.2.2.2.2
 have hp : piece (xs.drop k) = (7, 1) := by rw [mid_head (by omega), blank_piece _ hd]
 obtain ⟨_, hl, fl, h1, h2, h3⟩ := mid_more h hk hp (by omega)
 refine ⟨⟨fl, h1, ?_, h3⟩, by have := h.2.1; omega, by have := h.2.2.1; omega, h.2.2.2.1, hn⟩
 simpa [plain, hl] using h2

theorem head_kind {xs : List Int} {k : Nat} (hk : k < xs.length) (h7 : blk (xs.getD k 0) = false) (h8 : xs.getD k 0 ≠ 10) : (piece (xs.drop k)).1 ≠ 7 ∧ (piece (xs.drop k)).1 ≠ 8 := by
 rw [mid_head hk, piece_cons]
 have a7 : kd (xs.getD k 0) ≠ 7 := fun e => by
  unfold blk at h7; rw [e] at h7; cases h7
 have a8 : kd (xs.getD k 0) ≠ 8 := fun e => h8 (kd_nl.1 e)
 repeat' split
 all_goals first
  | exact ⟨a7, a8⟩
  | exact ⟨by simp, by simp⟩

theorem mid_tok {xs : List Int} {n k : Nat} {P : List (Tok × Nat)} {ln : Nat} (h : Mid xs n k P ln) (hk : k < n) (h7 : blk (xs.getD k 0) = false) (h8 : xs.getD k 0 ≠ 10) {K : Int} {m : Nat} (hp : piece (xs.drop k) = (K, m)) (hm : m ≠ 0) :
  k + m ≤ n ∧ Mid xs n (k + m) (P ++ [(⟨K, (xs.drop k).take m, k, begins P ln⟩, ln)]) ln := by
 have hn := h.2.2.2.2
 have hK := head_kind (xs := xs) (k := k) (by omega) h7 h8
 rw [hp] at hK
 obtain ⟨hkm, hl, fl, h1, h2, h3⟩ := mid_more h hk hp hm
 refine ⟨hkm, ⟨fl, h1, ?_, h3⟩, by have := h.2.1; simp; omega, by have := h.2.2.1; omega, fun x hx => ?_, hn⟩
 ·rw [begins_snoc, show decide (ln < ln) = false from by simp]
  have e8 : K ≠ 8 := hK.2
  have e7 : K ≠ 7 := hK.1
  simpa [plain, hl, e8, e7] using h2
 ·rcases List.mem_append.1 hx with hx | hx
  ·exact h.2.2.2.1 x hx
  ·simp at hx; subst hx; exact Nat.le_refl _

theorem mid_stop {xs : List Int} {n k : Nat} {P : List (Tok × Nat)} {ln : Nat} (h : Mid xs n k P ln) (hk : k < n) (hp : (piece (xs.drop k)).2 = 0) : left xs ≠ [] ∧ n - (left xs).length = k := by
 obtain ⟨⟨fl, h1, h2, h3⟩, _, _, _, hn⟩ := h
 obtain ⟨f, rfl⟩ : ∃ f, fl = f + 1 := ⟨fl - 1, by omega⟩
 have e : pcs (f + 1) (xs.drop k) = ([], xs.drop k) := by
  unfold pcs; rw [if_pos hp]
 rw [e] at h3
 have hl : (left xs).length = n - k := by rw [← h3]; simp [hn]
 exact ⟨fun e => by rw [e] at hl; simp at hl; omega, by omega⟩

theorem pcs_nil : ∀ f, pcs f [] = ([], [])
 | 0 => rfl
 | _ + 1 => rfl
theorem mid_end {xs : List Int} {n k : Nat} {P : List (Tok × Nat)} {ln : Nat} (h : Mid xs n k P ln) (hk : n ≤ k) : left xs = [] ∧ P = plain (pieces xs) 0 0 true := by
 obtain ⟨⟨fl, h1, h2, h3⟩, _, _, _, hn⟩ := h
 rw [List.drop_eq_nil_of_le (by omega), pcs_nil] at h2 h3
 exact ⟨h3.symm, by simpa [plain] using h2⟩

/-- The texts and places of what stands. -/
theorem plain_part : ∀ (ps : List (Int × List Int)) (n ln : Nat) (f : Bool) (x : Tok × Nat), x ∈ plain ps n ln f → x.1.place + x.1.text.length ≤ n + (cat ps).length ∧ ∀ y ∈ x.1.text, y ∈ cat ps
 | [], _, _, _, _, h => by cases h
 | (k, t) :: ps, n, ln, f, x, h => by
  have key : ∀ (ln' : Nat) (f' : Bool), x ∈ plain ps (n + t.length) ln' f' → x.1.place + x.1.text.length ≤ n + (cat ((k, t) :: ps)).length ∧ ∀ y ∈ x.1.text, y ∈ cat ((k, t) :: ps) := fun ln' f' hx => by
   have := plain_part ps _ _ _ x hx
   refine ⟨by simp only [cat, List.length_append]; omega, fun y hy => ?_⟩
   simp only [cat, List.mem_append]
   exact .inr (this.2 y hy)
  unfold plain at h
  split at h
  ·exact key _ _ h
  split at h
  ·exact key _ _ h
  ·rcases List.mem_cons.1 h with h | h
   ·subst h
    refine ⟨by simp only [cat, List.length_append]; omega, fun y hy => ?_⟩
    simp only [cat, List.mem_append]
    exact .inl hy
   ·exact key _ _ h

/-! ### The second walk: the ends -/
def OutAt (P : List (Tok × Nat)) (i : Nat) (out : List Tok) : Prop := out ++ outL (P.drop i) = outL P ∧ out.length ≤ 2 * i
theorem out_start (P : List (Tok × Nat)) : OutAt P 0 [] := ⟨by simp, Nat.le_refl _⟩
theorem out_end {P : List (Tok × Nat)} {i : Nat} {out : List Tok} (h : OutAt P i out) (hi : P.length ≤ i) : out = outL P := by
 have := h.1
 rw [List.drop_eq_nil_of_le hi] at this
 simpa [outL] using this
theorem out_step {P : List (Tok × Nat)} {i : Nat} {out : List Tok} (h : OutAt P i out) {t : Tok} {ln : Nat} (hx : P[i]? = some (t, ln)) :
  (overL ln (P.drop (i + 1)) = true → closes t.kind t.text = true → OutAt P (i + 1) (out ++ [t] ++ [⟨6, [], t.place + t.text.length, false⟩])) ∧
  ((overL ln (P.drop (i + 1)) = false ∨ closes t.kind t.text = false) → OutAt P (i + 1) (out ++ [t])) := by
 have hi : i < P.length := by
  rcases Nat.lt_or_ge i P.length with h' | h'
  ·exact h'
  ·rw [List.getElem?_eq_none h'] at hx; cases hx
 have he : P[i] = (t, ln) := by rw [List.getElem?_eq_getElem hi] at hx; exact Option.some.inj hx
 have hd : P.drop i = (t, ln) :: P.drop (i + 1) := by rw [List.drop_eq_getElem_cons hi, he]
 obtain ⟨h1, h2⟩ := h
 rw [hd] at h1
 refine ⟨fun a b => ⟨?_, by simp; omega⟩, fun a => ⟨?_, by simp; omega⟩⟩
 ·rw [← h1]; simp [outL, a, b]
 ·rw [← h1]
  rcases a with a | a <;> simp [outL, a]
/-- Inside: the remarks of the line are passed by. -/
theorem over_step {P : List (Tok × Nat)} {ln j : Nat} {b : Bool} (h : overL ln (P.drop j) = b) {u : Tok} {m : Nat} (hx : P[j]? = some (u, m)) :
  (u.kind = 5 → m = ln → overL ln (P.drop (j + 1)) = b) ∧ ((u.kind ≠ 5 ∨ m ≠ ln) → b = decide (ln < m)) := by
 have hj : j < P.length := by
  rcases Nat.lt_or_ge j P.length with h' | h'
  ·exact h'
  ·rw [List.getElem?_eq_none h'] at hx; cases hx
 have he : P[j] = (u, m) := by rw [List.getElem?_eq_getElem hj] at hx; exact Option.some.inj hx
 have hd : P.drop j = (u, m) :: P.drop (j + 1) := by rw [List.drop_eq_getElem_cons hj, he]
 rw [hd] at h
 unfold overL at h
 refine ⟨fun a c => ?_, fun a => ?_⟩
 ·rw [if_pos ⟨a, c⟩] at h; exact h
 ·rw [if_neg (by intro ⟨c, d⟩; rcases a with a | a <;> contradiction)] at h; exact h.symm
theorem over_end {P : List (Tok × Nat)} {ln j : Nat} {b : Bool} (h : overL ln (P.drop j) = b) (hj : P.length ≤ j) : b = true := by
 rw [List.drop_eq_nil_of_le hj] at h; exact h.symm

/-- How the inner walk may stand. -/
theorem over_cases {P : List (Tok × Nat)} {l0 j m : Nat} {ov : Bool} (hm : P.length = m) (h : overL l0 (P.drop j) = ov) :
  (∃ u l, j < m ∧ P[j]? = some (u, l) ∧ u.kind = 5 ∧ l = l0) ∨
  (ov = true ∧ ((∃ u l, j < m ∧ P[j]? = some (u, l) ∧ u.kind = 5 ∧ l ≠ l0 ∧ l0 < l) ∨ (∃ u l, j < m ∧ P[j]? = some (u, l) ∧ u.kind ≠ 5 ∧ l0 < l) ∨ m ≤ j)) ∨
  (ov = false ∧ ((∃ u l, j < m ∧ P[j]? = some (u, l) ∧ u.kind = 5 ∧ l ≠ l0 ∧ l ≤ l0) ∨ (∃ u l, j < m ∧ P[j]? = some (u, l) ∧ u.kind ≠ 5 ∧ l ≤ l0))) := by
 rcases Nat.lt_or_ge j m with hj | hj
 ·have hjP : j < P.length := by omega
  obtain ⟨u, l, hx⟩ : ∃ u l, P[j]? = some (u, l) := ⟨P[j].1, P[j].2, List.getElem?_eq_getElem hjP⟩
  obtain ⟨s1, s2⟩ := over_step h hx
  by_cases h5 : u.kind = 5
  ·by_cases hl : l = l0
   ·exact .inl ⟨u, l, hj, hx, h5, hl⟩
   ·have hb := s2 (.inr hl)
    by_cases hlt : l0 < l
    ·exact .inr (.inl ⟨by rw [hb]; simp [hlt], .inl ⟨u, l, hj, hx, h5, hl, hlt⟩⟩)
    ·exact .inr (.inr ⟨by rw [hb]; simp [hlt], .inl ⟨u, l, hj, hx, h5, hl, by omega⟩⟩)
  ·have hb := s2 (.inl h5)
   by_cases hlt : l0 < l
   ·exact .inr (.inl ⟨by rw [hb]; simp [hlt], .inr (.inl ⟨u, l, hj, hx, h5, hlt⟩)⟩)
   ·exact .inr (.inr ⟨by rw [hb]; simp [hlt], .inr ⟨u, l, hj, hx, h5, by omega⟩⟩)
 ·exact .inr (.inl ⟨over_end h (by omega), .inr (.inr hj)⟩)

end Go.Proofs.YtaiihnniblibaaaGreatDoor.Lex
