/-
  Layer 4 (lex): Tokens, at every slice of bytes up to a million.
-/
import Derived.Test.YtoecimgmghlfpaaDoorLexWalk
import Derived.Test.YtoecimgmghlfpaaDoorLexMore
namespace Go.Proofs.YtoecimgmghlfpaaDoor.Lex
open Go.ChangeShapes Go.WideShapes Go.ChangeAt Go.RowKit Utf MemT
set_option linter.unusedVariables false

def TokensPost (xs : List Int) (w : World) (e : Ending) (w' : World) : Prop :=
  ∃ v, e = .returned (.tuple #[v, .int .i64 (lexN xs : Int), .int .i64 (lexE xs)]) ∧ OwnT w' w.heap.size v (lexT xs) ∧ Below w.heap.size w w'
theorem tokens_post {xs : List Int} {w w' : World} {v : Value} {nn : Int} {ee : Int} (h1 : nn = (lexN xs : Int)) (h2 : ee = lexE xs) (h3 : OwnT w' w.heap.size v (lexT xs)) (h4 : Below w.heap.size w w') :
    TokensPost xs w (.returned (.tuple #[v, .int .i64 nn, .int .i64 ee])) w' := ⟨v, by rw [h1, h2], h3, h4⟩

set_option maxHeartbeats 1000000 in
theorem tokens_any (A : Option Addr) (n cap : Nat) (xs : List Int) (w : World) (B : Nat) (h : RB w B A xs) (hB : B ≤ w.heap.size) (hn : xs.length = n) (hcap : n ≤ cap) (hcap' : cap ≤ maxLen) (hsm : n ≤ 1000000) (hT : Tab w) :
    Calls Tryd.prog 53 #[.slice A n cap] w (TokensPost xs w) := by
  have HBAD := Lib.hid (bad_any A n cap xs w B h hn hcap hcap')
  have HROW := Lib.hid (rows_any A n cap xs w B h hB hn hcap hcap' hsm hT)
  have hble : bad xs ≤ n := by rw [← hn]; exact bad_le h.byt
  have hlle : (left xs).length ≤ n := by rw [← hn]; exact left_le xs
  have hE : lexE xs = if bad xs < n then 3 else if left xs = [] then 0 else 4 := by rw [← hn]; rfl
  have hN : lexN xs = if bad xs < n then bad xs else if left xs = [] then 0 else n - (left xs).length := by rw [← hn]; rfl
  have hLT : lexT xs = if lexE xs = 0 then toks xs else [] := rfl
  have hlen : left xs = [] ↔ (left xs).length = 0 := by simp
  have Hn := Lib.hid hn
  have hnn : ¬ (16777216 : Int) < (n : Int) := by omega
  unfold maxLen at hcap'
  clear h hn hT
  by_cases hb : bad xs < n
  · rw [if_pos hb] at hE hN
    have hfin : Hid (∀ nn ee, nn = (bad xs : Int) → ee = (3 : Int) → TokensPost xs w (.returned (.tuple #[.slice none 0 0, .int .i64 nn, .int .i64 ee])) w) := fun nn ee h1 h2 => tokens_post (by rw [h1, hN]) (by rw [h2, hE]) (by rw [hLT, hE]; exact World.ownsRow_nil _ _ _ _) (Below.refl _ _)
    clear hE hN hLT HROW hlle hlen Hn
    generalize bad xs = p at *
    have hpb : (p : Int) < (n : Int) := by omega
    go_enter Tryd.func53, Tryd.ntmps53
    go_wp2_with (go_at_call 61; refine HBAD.out.mono ?_; rintro e w' ⟨rfl, rfl⟩)
    go_ret3
    exact hfin.out _ _ rfl rfl
  · rw [if_neg hb] at hE hN
    have hpb : ¬ (bad xs : Int) < (n : Int) := by omega
    generalize bad xs = p at *
    by_cases hl : left xs = []
    · rw [if_pos hl] at hE hN
      have hl0 := hlen.1 hl
      have hfin : Hid (∀ v w', OwnT w' w.heap.size v (toks xs) → Below w.heap.size w w' → TokensPost xs w (.returned (.tuple #[v, .int .i64 0, .int .i64 0])) w') := fun v w' h1 h2 => tokens_post (by rw [hN]; rfl) hE.symm (by rw [hLT, hE]; exact h1) h2
      have HROW2 : Hid (Calls Tryd.prog 62 #[.slice A n cap] w fun e w' => ∃ v, e = .returned (.tuple #[v, .int .i64 (n : Int)]) ∧ OwnT w' w.heap.size v (toks xs) ∧ Below w.heap.size w w') := HROW.out.mono fun e w' ⟨v, h1, h2, h3⟩ => ⟨v, by rw [h1, Hn.out, hl0, Nat.sub_zero], h2, h3⟩
      clear hE hN hLT HROW hlle hlen Hn hl hl0
      go_enter Tryd.func53, Tryd.ntmps53
      go_wp2_with (first | (go_at_call 61; refine HBAD.out.mono ?_; rintro e w' ⟨rfl, rfl⟩) | (go_at_call 62; refine HROW2.out.mono ?_; rintro e w' ⟨v, rfl, ho, hbl⟩))
      go_ret3
      exact hfin.out _ _ ho hbl
    · rw [if_neg hl] at hE hN
      have hl0 : ((n - (left xs).length : Nat) : Int) < (n : Int) := by
        have : (left xs).length ≠ 0 := fun e => hl (hlen.2 e)
        omega
      have hfin : Hid (∀ w' nn, nn = ((n - (left xs).length : Nat) : Int) → Below w.heap.size w w' → TokensPost xs w (.returned (.tuple #[.slice none 0 0, .int .i64 nn, .int .i64 4])) w') := fun w' nn h1 h2 => tokens_post (by rw [h1, hN]) hE.symm (by rw [hLT, hE]; exact World.ownsRow_nil _ _ _ _) h2
      have HROW2 : Hid (Calls Tryd.prog 62 #[.slice A n cap] w fun e w' => ∃ v, e = .returned (.tuple #[v, .int .i64 ((n - (left xs).length : Nat) : Int)]) ∧ OwnT w' w.heap.size v (toks xs) ∧ Below w.heap.size w w') := HROW.out.mono fun e w' ⟨v, h1, h2, h3⟩ => ⟨v, by rw [h1, Hn.out], h2, h3⟩
      clear hE hN hLT HROW hlle hlen Hn hl
      generalize n - (left xs).length = z at *
      go_enter Tryd.func53, Tryd.ntmps53
      go_wp2_with (first | (go_at_call 61; refine HBAD.out.mono ?_; rintro e w' ⟨rfl, rfl⟩) | (go_at_call 62; refine HROW2.out.mono ?_; rintro e w' ⟨v, rfl, ho, hbl⟩))
      go_ret3
      exact hfin.out _ _ rfl hbl

end Go.Proofs.YtoecimgmghlfpaaDoor.Lex
