/-
  Layer 4 (lex): the reference's 'one': the token with which bytes begin, head by head (letters, digits, the semicolon).
-/
import Derived.Test.YtiadbagfajhjfaaDoorLexRef2
import Derived.Test.YtiadbagfajhjfaaDoorLexTokens
namespace Go.Proofs.YtiadbagfajhjfaaDoor.Lex
open Go.ChangeShapes Go.WideShapes Go.ChangeAt Go.RowKit Utf MemT
set_option linter.unusedVariables false

theorem blank_any (c : Int) (w : World) :
    Calls Tryd.prog 21 #[.int .u8 c] w fun e w' => e = .returned (.bool (blk c)) ∧ w = w' := by
  by_cases c1 : c = 32
  · subst c1; rw [show blk 32 = true from rfl]
    go_enter Tryd.func21, Tryd.ntmps21
    go_wp2
    go_ret
    exact ⟨rfl, rfl⟩
  by_cases c2 : c = 9
  · subst c2; rw [show blk 9 = true from rfl]
    go_enter Tryd.func21, Tryd.ntmps21
    go_wp2
    go_ret
    exact ⟨rfl, rfl⟩
  by_cases c3 : c = 13
  · subst c3; rw [show blk 13 = true from rfl]
    go_enter Tryd.func21, Tryd.ntmps21
    go_wp2
    go_ret
    exact ⟨rfl, rfl⟩
  have hb : blk c = false := by
    cases h : blk c
    · rfl
    · have := blk_iff.1 h; omega
  rw [hb]
  have b1 := beq_no c1; have b2 := beq_no c2; have b3 := beq_no c3
  clear hb c1 c2 c3
  go_enter Tryd.func21, Tryd.ntmps21
  go_wp2
  go_ret
  exact ⟨rfl, rfl⟩

/-- What a byte of the text reads. -/
theorem one_idx {t : List Int} (ht : Byt t) : Hid (∀ i, i < t.length → ∀ W : World, (Instr.index 9 (.string (strOfNums t)) (.int .i64 (i : Int))).run Tryd.prog W = .ok (.int .u8 (t.getD i 0)) W) := fun i hi W => run_idx_str (P := Tryd.prog) 9 Tryd.underlying9 ht hi W
theorem one_idx0 {t : List Int} (ht : Byt t) (h0 : 0 < t.length) (W : World) : (Instr.index 9 (.string (strOfNums t)) (.int .i64 0)).run Tryd.prog W = .ok (.int .u8 (t.getD 0 0)) W := run_idx_str (P := Tryd.prog) 9 Tryd.underlying9 ht (i := 0) h0 W

theorem one_semi (t : List Int) (ht : Byt t) (h0 : 0 < t.length) (hc : t.getD 0 0 = 59) (w : World) :
    Calls Tryd.prog 22 #[.string (strOfNums t)] w fun e w' => e = .returned (.tuple #[.int .i64 6, .int .i64 1]) ∧ w = w' := by
  have hix := fun W => one_idx0 ht h0 W
  have hsz : (strOfNums t).size = t.length := strOfNums_size t
  rw [hc] at hix
  clear hc ht
  generalize strOfNums t = s at *
  generalize t.length = n at *
  by_cases hl : 1 < n
  · have hl' : (1 : Int) < (n : Int) := by omega
    clear hl h0
    go_enter Tryd.func22, Tryd.ntmps22
    go_wp2
    go_ret2
    exact ⟨rfl, rfl⟩
  · obtain rfl : n = 1 := by omega
    clear hl h0
    go_enter Tryd.func22, Tryd.ntmps22
    go_wp2
    go_ret2
    exact ⟨rfl, rfl⟩

set_option maxHeartbeats 4000000 in
theorem one_let (t : List Int) (ht : Byt t) (h0 : 0 < t.length) (hn : t.length ≤ 100000000) (hc : kd (t.getD 0 0) = 1) (w : World) :
    Calls Tryd.prog 22 #[.string (strOfNums t)] w fun e w' => e = .returned (.tuple #[.int .i64 1, .int .i64 (wordL t : Int)]) ∧ w = w' := by
  have hix := fun W => one_idx0 ht h0 W
  have HIX := one_idx ht
  have hsz : (strOfNums t).size = t.length := strOfNums_size t
  have hd := ht.getD 0
  have HS0 := Lib.hid (sort_any (t.getD 0 0) w hd.1 hd.2)
  have HSI : Hid (∀ i W, Calls Tryd.prog 25 #[.int .u8 (t.getD i 0)] W fun e w' => e = .returned (.int .i64 (sortI (t.getD i 0))) ∧ W = w') := fun i W => sort_any _ W (ht.getD i).1 (ht.getD i).2
  have hs1 : sortI (t.getD 0 0) = 1 := by unfold sortI; rw [if_pos hc]
  have hl0 : 1 ≤ lead lord t := by
    have : lord (t.getD 0 0) = true := by unfold lord; rw [hc]; rfl
    exact lead_step (Nat.zero_le _) h0 this
  have HL0 := Lib.hid hl0
  have HLE := Lib.hid (lead_le lord t)
  have b47 : (t.getD 0 0 == 47) = false := beq_no (fun e => by rw [e] at hc; exact absurd hc (by decide))
  have b59 : (t.getD 0 0 == 59) = false := beq_no (fun e => by rw [e] at hc; exact absurd hc (by decide))
  rw [hs1] at HS0
  have HW : Hid (wordL t = lead lord t) := rfl
  obtain ⟨n, hnn⟩ : ∃ n, t.length = n := ⟨_, rfl⟩
  have Hn := Lib.hid hnn
  rw [hnn] at HIX hsz h0 hn HLE
  clear hd hc hs1 hl0 hnn ht
  have hpre : (1 : Int) < (n : Int) ∨ ¬ (1 : Int) < (n : Int) := by omega
  generalize t.getD 0 0 = d at *
  generalize wordL t = wl at *
  obtain ⟨s, hs⟩ : ∃ s, strOfNums t = s := ⟨_, rfl⟩
  rw [hs] at HIX hsz hix ⊢
  clear hs
  rcases hpre with hpre | hpre
  all_goals
    go_enter Tryd.func22, Tryd.ntmps22
    go_wp2_with (first | (go_at_call 25; refine HS0.out.mono ?_; rintro e w' ⟨rfl, rfl⟩))
    go_loop [5] (fun i => ∃ k : Nat, 1 ≤ k ∧ k ≤ n ∧ i = .int .i64 k ∧ Hid (k ≤ lead lord t)) (fun i => n - (intOf i).toNat)
    case atStart => exact ⟨1, by omega, by omega, rfl, HL0.out⟩
    case round =>
      obtain ⟨k, hk1, hk, rfl, hle⟩ := hrel
      by_cases hlt : k < n
      · have hxi := HIX.out k hlt
        have HC := Lib.hid (HSI.out k w)
        have HA : Hid (sortI (t.getD k 0) = 0 → wl = k) := fun h => by
          rw [HW.out]; exact lead_at hle.out ((sort_lord _).1 h)
        have HB : Hid (sortI (t.getD k 0) ≠ 0 → k + 1 ≤ lead lord t) := fun h => lead_step hle.out (by rw [Hn.out]; exact hlt) (by
          cases hl : lord (t.getD k 0)
          · exact absurd ((sort_lord _).2 hl) h
          · rfl)
        have hq : sortI (t.getD k 0) = 0 ∨ 0 < sortI (t.getD k 0) := by unfold sortI; split; · omega
                                                                        · split <;> omega
        have hlt' : (k : Int) < n := by omega
        clear hle hix b47 b59
        generalize t.getD k 0 = c at *
        generalize sortI c = q at *
        rcases hq with hq | hq
        · subst hq
          have HA1 := Lib.hid (HA.out rfl)
          clear HA HB
          go_wp2_with (first | (go_at_call 25; refine HC.out.mono ?_; rintro e w' ⟨rfl, rfl⟩))
          go_ret2
          exact ⟨by rw [HA1.out]; rfl, rfl⟩
        · have HB1 := Lib.hid (HB.out (by omega))
          clear HA HB
          go_wp2_with (first | (go_at_call 25; refine HC.out.mono ?_; rintro e w' ⟨rfl, rfl⟩))
          go_round
          case rel => exact ⟨k + 1, by omega, by omega, by go_num, HB1.out⟩
          case measure => simp [intOf]; omega
      · have HE : Hid (wl = k) := by
          show _ = _
          rw [HW.out]
          have := hle.out; have := HLE.out; omega
        have hnl : ¬ (k : Int) < n := by omega
        clear hle hix b47 b59
        go_wp2
        go_ret2
        exact ⟨by rw [HE.out]; rfl, rfl⟩

theorem sort_dig (d : Int) : sortI d = 2 ↔ dig d = true := by
  unfold sortI dig
  by_cases h1 : kd d = 1
  · simp [h1]
  · by_cases h2 : kd d = 2 <;> simp [h1, h2]

end Go.Proofs.YtiadbagfajhjfaaDoor.Lex
