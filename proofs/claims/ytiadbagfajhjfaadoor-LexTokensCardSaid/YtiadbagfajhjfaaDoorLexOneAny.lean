/-
  Layer 4 (lex): the reference's 'one' at every text that begins with neither a blank nor a newline.
-/
import Derived.Test.YtiadbagfajhjfaaDoorLexOneDig
import Derived.Test.YtiadbagfajhjfaaDoorLexOneQuo
import Derived.Test.YtiadbagfajhjfaaDoorLexOneRem
namespace Go.Proofs.YtiadbagfajhjfaaDoor.Lex
open Go.ChangeShapes Go.WideShapes Go.ChangeAt Go.RowKit Utf MemT
set_option linter.unusedVariables false

theorem below_same {w w' : World} (h : w = w') : Below w.heap.size w w' := h ▸ Below.refl _ _

theorem one_any : ∀ (t : List Int) (ht : Byt t) (h0 : 0 < t.length) (hn : t.length ≤ 100000000) (h7 : blk (t.getD 0 0) = false) (h8 : t.getD 0 0 ≠ 10) (K : Int) (hK : (if (piece t).2 = 0 then 0 else (piece t).1) = K) (w : World),
    Calls Tryd.prog 22 #[.string (strOfNums t)] w fun e w' => e = .returned (.tuple #[.int .i64 K, .int .i64 ((piece t).2 : Int)]) ∧ Below w.heap.size w w'
  | [], _, h0, _, _, _, _, _, _ => absurd h0 (by simp)
  | c :: r, ht, h0, hn, h7, h8, K, hK, w => by
    have hg : (c :: r).getD 0 0 = c := rfl
    rw [hg] at h7 h8
    have a7 : kd c ≠ 7 := fun e => by
      unfold blk at h7; rw [e] at h7; cases h7
    have a8 : kd c ≠ 8 := fun e => h8 (kd_nl.1 e)
    rw [piece_cons] at hK ⊢
    by_cases k1 : kd c = 1
    · rw [if_pos k1] at hK ⊢
      have hw : wordL (c :: r) ≠ 0 := by
        have : 1 ≤ lead lord (c :: r) := lead_step (Nat.zero_le _) h0 (by rw [hg]; unfold lord; rw [k1]; rfl)
        unfold wordL; omega
      have hK' : 1 = K := by rw [← hK]; exact (if_neg hw).symm
      subst hK'
      exact (one_let (c :: r) ht h0 hn k1 w).mono fun e w' h => ⟨h.1, below_same h.2⟩
    rw [if_neg k1] at hK ⊢
    by_cases k2 : kd c = 2
    · rw [if_pos k2] at hK ⊢
      exact (one_dig (c :: r) ht h0 hn k2 K hK w).mono fun e w' h => ⟨h.1, below_same h.2⟩
    rw [if_neg k2] at hK ⊢
    by_cases k3 : kd c = 3
    · rw [if_pos k3] at hK ⊢
      exact (one_quo (c :: r) ht h0 hn (kd_quo.1 k3) K hK w).mono fun e w' h => ⟨h.1, below_same h.2⟩
    rw [if_neg k3] at hK ⊢
    by_cases k4 : kd c = 4
    · rw [if_pos k4] at hK ⊢
      by_cases hr : (c :: r).take 2 = [47, 47]
      · rw [if_pos hr] at hK ⊢
        have hl : remL (c :: r) ≠ 0 := by
          intro e
          have h2 := rem_heads hr
          have hle : 2 ≤ lineL (c :: r) := h2.2.2.2
          have hb := trimL_blk ((c :: r).take (lineL (c :: r))) 0 (by unfold remL at e; omega) (by rw [List.length_take]; have := h2.1; omega)
          rw [getD_take (by omega), h2.2.1] at hb
          exact absurd hb (by decide)
        have hK' : 5 = K := by rw [← hK]; exact (if_neg hl).symm
        subst hK'
        exact (one_rem (c :: r) ht hn hr w).mono fun e w' h => ⟨h.1, below_same h.2⟩
      · rw [if_neg hr] at hK ⊢
        exact one_mark (c :: r) ht h0 hn k4 hr K hK w
    rw [if_neg k4] at hK ⊢
    have k6 : kd c = 6 := by have := kd_cases c; omega
    have hK' : 6 = K := by rw [← hK, k6]; rfl
    subst hK'
    exact (one_semi (c :: r) ht h0 (kd_semi.1 k6) w).mono fun e w' h => ⟨h.1, below_same h.2⟩

end Go.Proofs.YtiadbagfajhjfaaDoor.Lex
