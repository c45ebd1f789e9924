/-
  Layer 4 (lex): the reference's 'one' at digits (in work).
-/
import Derived.Test.YtiadbagfajhjfaaDoorLexOne
namespace Go.Proofs.YtiadbagfajhjfaaDoor.Lex
open Go.ChangeShapes Go.WideShapes Go.ChangeAt Go.RowKit Utf MemT
set_option linter.unusedVariables false

set_option maxHeartbeats 4000000 in
theorem one_dig (t : List Int) (ht : Byt t) (h0 : 0 < t.length) (hn : t.length ≤ 100000000) (hc : kd (t.getD 0 0) = 2) (K : Int) (hK : (if numL t = 0 then 0 else 2) = K) (w : World) :
    Calls Tryd.prog 22 #[.string (strOfNums t)] w fun e w' => e = .returned (.tuple #[.int .i64 K, .int .i64 (numL t : Int)]) ∧ w = w' := by
  have HK := Lib.hid hK
  clear hK
  have hix := fun W => one_idx0 ht h0 W
  have HIX := one_idx ht
  have hsz : (strOfNums t).size = t.length := strOfNums_size t
  have hd := ht.getD 0
  have HS0 := Lib.hid (sort_any (t.getD 0 0) w hd.1 hd.2)
  have HSI : Hid (∀ i W, Calls Tryd.prog 25 #[.int .u8 (t.getD i 0)] W fun e w' => e = .returned (.int .i64 (sortI (t.getD i 0))) ∧ W = w') := fun i W => sort_any _ W (ht.getD i).1 (ht.getD i).2
  have hs1 : sortI (t.getD 0 0) = 2 := by unfold sortI; rw [if_neg (by omega), if_pos hc]
  have hl0 : 1 ≤ lead dig t := by
    have : dig (t.getD 0 0) = true := by unfold dig; rw [hc]; rfl
    exact lead_step (Nat.zero_le _) h0 this
  have HL0 := Lib.hid hl0
  have HLE := Lib.hid (lead_le dig t)
  have b47 : (t.getD 0 0 == 47) = false := beq_no (fun e => by rw [e] at hc; exact absurd hc (by decide))
  have b59 : (t.getD 0 0 == 59) = false := beq_no (fun e => by rw [e] at hc; exact absurd hc (by decide))
  rw [hs1] at HS0
  have HNU : Hid (numL t = if 1 < lead dig t ∧ t.getD 0 0 = 48 then 0 else lead dig t) := rfl
  obtain ⟨n, hnn⟩ : ∃ n, t.length = n := ⟨_, rfl⟩
  have Hn := Lib.hid hnn
  rw [hnn] at HIX hsz h0 hn HLE
  clear hd hc hs1 hl0 hnn ht
  have hpre : (1 : Int) < (n : Int) ∨ ¬ (1 : Int) < (n : Int) := by omega
  have h48 : t.getD 0 0 = 48 ∨ ¬ t.getD 0 0 = 48 := by omega
  generalize t.getD 0 0 = d at *
  generalize numL t = nl at *
  obtain ⟨s, hs⟩ : ∃ s, strOfNums t = s := ⟨_, rfl⟩
  rw [hs] at HIX hsz hix ⊢
  clear hs
  rcases hpre with hpre | hpre
  all_goals
    go_enter Tryd.func22, Tryd.ntmps22
    go_wp2_with (first | (go_at_call 25; refine HS0.out.mono ?_; rintro e w' ⟨rfl, rfl⟩))
    go_loop [6] (fun i => ∃ k : Nat, 1 ≤ k ∧ k ≤ n ∧ i = .int .i64 k ∧ Hid (k ≤ lead dig t)) (fun i => n - (intOf i).toNat)
    case atStart => exact ⟨1, by omega, by omega, rfl, HL0.out⟩
    case round =>
      obtain ⟨k, hk1, hk, rfl, hle⟩ := hrel
      by_cases hlt : k < n
      · have hxi := HIX.out k hlt
        have HC := Lib.hid (HSI.out k w)
        have HA : Hid (sortI (t.getD k 0) ≠ 2 → lead dig t = k) := fun h => lead_at hle.out (by
          cases hl : dig (t.getD k 0)
          · rfl
          · exact absurd ((sort_dig _).2 hl) h)
        have HB : Hid (sortI (t.getD k 0) = 2 → k + 1 ≤ lead dig t) := fun h => lead_step hle.out (by rw [Hn.out]; exact hlt) ((sort_dig _).1 h)
        have hlt' : (k : Int) < n := by omega
        clear hle b47 b59
        generalize t.getD k 0 = c at *
        generalize sortI c = q at *
        by_cases hq : q = 2
        · subst hq
          have HB1 := Lib.hid (HB.out rfl)
          clear HA HB hix
          go_wp2_with (first | (go_at_call 25; refine HC.out.mono ?_; rintro e w' ⟨rfl, rfl⟩))
          go_round
          case rel => exact ⟨k + 1, by omega, by omega, by go_num, HB1.out⟩
          case measure => simp [intOf]; omega
        · have HA1 := Lib.hid (HA.out hq)
          have bq := beq_no hq
          clear HA HB hq
          rcases h48 with h48 | h48
          · subst h48
            by_cases hk2 : 1 < k
            · have hk2' : (1 : Int) < (k : Int) := by omega
              have HR : Hid (nl = 0) := by
                show _ = _
                rw [HNU.out, HA1.out, if_pos ⟨hk2, rfl⟩]
              clear hk2
              go_wp2_with (first | (go_at_call 25; refine HC.out.mono ?_; rintro e w' ⟨rfl, rfl⟩))
              go_ret2
              exact ⟨by rw [← HK.out, HR.out]; rfl, rfl⟩
            · have hk2' : decide ((1 : Int) < (k : Int)) = false := by rw [decide_eq_false_iff_not]; omega
              have HK1 := Lib.hid hk1
              have HR : Hid (nl = k) := by
                show _ = _
                rw [HNU.out, HA1.out, if_neg (by intro e; exact hk2 e.1)]
              go_wp2_with (first | (go_at_call 25; refine HC.out.mono ?_; rintro e w' ⟨rfl, rfl⟩))
              go_ret2
              exact ⟨by rw [← HK.out, HR.out, if_neg (by have := HK1.out; omega)]; rfl, rfl⟩
          · have HR : Hid (nl = k) := by
              show _ = _
              rw [HNU.out, HA1.out, if_neg (by intro e; exact h48 e.2)]
            have b48 := beq_no h48
            have HK1 := Lib.hid hk1
            go_wp2_with (first | (go_at_call 25; refine HC.out.mono ?_; rintro e w' ⟨rfl, rfl⟩))
            go_ret2
            exact ⟨by rw [← HK.out, HR.out, if_neg (by have := HK1.out; omega)]; rfl, rfl⟩
      · have HA1 : Hid (lead dig t = k) := by
          show _ = _
          have := hle.out; have := HLE.out; omega
        have hnl : ¬ (k : Int) < n := by omega
        clear hle b47 b59
        rcases h48 with h48 | h48
        · subst h48
          by_cases hk2 : 1 < k
          · have hk2' : (1 : Int) < (k : Int) := by omega
            have HR : Hid (nl = 0) := by
              show _ = _
              rw [HNU.out, HA1.out, if_pos ⟨hk2, rfl⟩]
            clear hk2
            go_wp2
            go_ret2
            exact ⟨by rw [← HK.out, HR.out]; rfl, rfl⟩
          · have hk2' : decide ((1 : Int) < (k : Int)) = false := by rw [decide_eq_false_iff_not]; omega
            have HK1 := Lib.hid hk1
            have HR : Hid (nl = k) := by
              show _ = _
              rw [HNU.out, HA1.out, if_neg (by intro e; exact hk2 e.1)]
            go_wp2
            go_ret2
            exact ⟨by rw [← HK.out, HR.out, if_neg (by have := HK1.out; omega)]; rfl, rfl⟩
        · have HR : Hid (nl = k) := by
            show _ = _
            rw [HNU.out, HA1.out, if_neg (by intro e; exact h48 e.2)]
          have b48 := beq_no h48
          have HK1 := Lib.hid hk1
          go_wp2
          go_ret2
          exact ⟨by rw [← HK.out, HR.out, if_neg (by have := HK1.out; omega)]; rfl, rfl⟩

end Go.Proofs.YtiadbagfajhjfaaDoor.Lex
