/-
  Layer 4 (lex): the reference's 'one' at strings.
-/
import Derived.Test.YtiadbagfajhjfaaDoorLexOne
namespace Go.Proofs.YtiadbagfajhjfaaDoor.Lex
open Go.ChangeShapes Go.WideShapes Go.ChangeAt Go.RowKit Utf MemT
set_option linter.unusedVariables false

theorem strT_cons (c : Int) (r : List Int) : strT (c :: r) = if c = 34 then 1 else if c = 10 then 0 else if c = 92 then (match r with
    | [] => 0
    | d :: r' => if d = 10 then 0 else if strT r' = 0 then 0 else strT r' + 2) else if strT r = 0 then 0 else strT r + 1 := by
  conv => lhs; unfold strT
  rfl
theorem quo_drop {t : List Int} {k : Nat} (h : k < t.length) : t.drop k = t.getD k 0 :: t.drop (k + 1) := by
  rw [List.drop_eq_getElem_cons h]; simp [List.getD, List.getElem?_eq_getElem h]

/-- Where the string that begins the text is still open at k. -/
def QI (t : List Int) (k : Nat) : Prop := quoL t = if strT (t.drop k) = 0 then 0 else strT (t.drop k) + k
theorem qi_start : ∀ {t : List Int}, 0 < t.length → QI t 1
  | [], h => by simp at h
  | c :: r, _ => by simp [QI, quoL]
theorem qi_end {t : List Int} {k : Nat} (h : QI t k) (hk : t.length ≤ k) : quoL t = 0 := by
  rw [h, List.drop_eq_nil_of_le hk]; rfl
theorem qi_step {t : List Int} {k : Nat} (h : QI t k) (hk : k < t.length) :
    (t.getD k 0 = 34 → quoL t = k + 1) ∧ (t.getD k 0 = 10 → quoL t = 0) ∧
    (t.getD k 0 = 92 → k + 1 < t.length → t.getD (k + 1) 0 ≠ 10 → QI t (k + 2)) ∧
    (t.getD k 0 = 92 → k + 1 < t.length → t.getD (k + 1) 0 = 10 → QI t (k + 1)) ∧
    (t.getD k 0 = 92 → ¬ k + 1 < t.length → QI t (k + 1)) ∧
    (t.getD k 0 ≠ 34 → t.getD k 0 ≠ 92 → t.getD k 0 ≠ 10 → QI t (k + 1)) := by
  unfold QI at *
  rw [quo_drop hk, strT_cons] at h
  refine ⟨fun e => ?_, fun e => ?_, fun e h1 h2 => ?_, fun e h1 h2 => ?_, fun e h1 => ?_, fun e1 e2 e3 => ?_⟩
  · rw [h, if_pos e, if_neg (by omega)]; omega
  · rw [h, e]; simp
  · rw [h, e, quo_drop h1]
    generalize t.getD (k + 1) 0 = d at h2 ⊢
    have hS : ∀ S : Nat, (if (if d = 10 then 0 else if S = 0 then 0 else S + 2) = 0 then 0 else (if d = 10 then 0 else if S = 0 then 0 else S + 2) + k) = if S = 0 then 0 else S + (k + 2) := fun S => by
      rw [if_neg h2]
      by_cases h0 : S = 0
      · simp [h0]
      · rw [if_neg h0, if_neg (by omega), if_neg h0]; omega
    exact hS (strT (t.drop (k + 2)))
  · rw [h, e, quo_drop h1, h2, strT_ten]; simp
  · rw [h, e, List.drop_eq_nil_of_le (by omega)]; simp [strT]
  · rw [h, if_neg e1, if_neg e3, if_neg e2]
    by_cases h0 : strT (t.drop (k + 1)) = 0
    · simp [h0]
    · simp [h0]; omega

set_option maxHeartbeats 4000000 in
theorem one_quo (t : List Int) (ht : Byt t) (h0 : 0 < t.length) (hn : t.length ≤ 100000000) (hc : t.getD 0 0 = 34) (K : Int) (hK : (if quoL t = 0 then 0 else 3) = K) (w : World) :
    Calls Tryd.prog 22 #[.string (strOfNums t)] w fun e w' => e = .returned (.tuple #[.int .i64 K, .int .i64 (quoL t : Int)]) ∧ w = w' := by
  have HK := Lib.hid hK
  clear hK
  have hix := fun W => one_idx0 ht h0 W
  have HIX := one_idx ht
  have hsz : (strOfNums t).size = t.length := strOfNums_size t
  have HS0 := Lib.hid (sort_any 34 w (by omega) (by omega))
  have hs1 : sortI 34 = 0 := by decide
  rw [hs1] at HS0
  rw [hc] at hix
  have HQ0 := Lib.hid (qi_start h0)
  have HST : Hid (∀ k, QI t k → k < t.length → _) := fun k a b => qi_step a b
  have HEN : Hid (∀ k, QI t k → t.length ≤ k → quoL t = 0) := fun k a b => qi_end a b
  obtain ⟨n, hnn⟩ : ∃ n, t.length = n := ⟨_, rfl⟩
  rw [hnn] at HIX hsz h0 hn HST HEN
  clear hc hs1 hnn ht
  have hpre : (1 : Int) < (n : Int) ∨ ¬ (1 : Int) < (n : Int) := by omega
  obtain ⟨s, hs⟩ : ∃ s, strOfNums t = s := ⟨_, rfl⟩
  rw [hs] at HIX hsz hix ⊢
  generalize quoL t = Q at *
  clear hs
  rcases hpre with hpre | hpre
  all_goals
    go_enter Tryd.func22, Tryd.ntmps22
    go_wp2_with (first | (go_at_call 25; refine HS0.out.mono ?_; rintro e w' ⟨rfl, rfl⟩))
    go_loop [7] (fun i => ∃ k : Nat, 1 ≤ k ∧ k ≤ n ∧ i = .int .i64 k ∧ Hid (QI t k)) (fun i => n - (intOf i).toNat)
    case atStart => exact ⟨1, by omega, by omega, rfl, HQ0.out⟩
    case round =>
      obtain ⟨k, hk1, hk, rfl, hqi⟩ := hrel
      by_cases hlt : k < n
      · have hxi := HIX.out k hlt
        have hnx := HIX.out (k + 1)
        obtain ⟨s34, s10, s92a, s92b, s92c, sel⟩ := HST.out k hqi.out hlt
        have hlt' : (k : Int) < n := by omega
        clear hix
        generalize t.getD k 0 = c at *
        generalize t.getD (k + 1) 0 = d at *
        by_cases h10 : c = 10
        · have HR := Lib.hid (s10 h10)
          subst h10
          clear s34 s10 s92a s92b s92c sel hnx
          go_wp2
          go_ret2
          exact ⟨by rw [← HK.out, HR.out]; rfl, rfl⟩
        by_cases h34 : c = 34
        · have HR := Lib.hid (s34 h34)
          subst h34
          clear s34 s10 s92a s92b s92c sel hnx h10
          go_wp2
          go_ret2
          exact ⟨by rw [← HK.out, HR.out, if_neg (by omega)]; rfl, rfl⟩
        have b34 : (c == 34) = false := beq_no h34
        have n10 : (c != 10) = true := by rw [bne_iff_ne]; exact h10
        by_cases h92 : c = 92
        · by_cases h1 : k + 1 < n
          · have hx1 := hnx h1
            rw [show ((k + 1 : Nat) : Int) = (k : Int) + 1 from by omega] at hx1
            have h1' : (k : Int) + 1 < (n : Int) := by omega
            by_cases hd : d = 10
            · have HR := Lib.hid (s92b h92 h1 hd)
              subst hd; subst h92
              clear s34 s10 s92a s92b s92c sel hnx h10 h34
              go_wp2
              go_round
              case rel => exact ⟨k + 1, by omega, by omega, by go_num, HR.out⟩
              case measure => simp [intOf]; omega
            · have HR := Lib.hid (s92a h92 h1 hd)
              have nd : (d != 10) = true := by rw [bne_iff_ne]; exact hd
              subst h92
              clear s34 s10 s92a s92b s92c sel hnx h10 h34 hd
              go_wp2
              go_round
              case rel => exact ⟨k + 2, by omega, by omega, by go_num, HR.out⟩
              case measure => simp [intOf]; omega
          · have HR := Lib.hid (s92c h92 h1)
            have h1' : ¬ (k : Int) + 1 < (n : Int) := by omega
            subst h92
            clear s34 s10 s92a s92b s92c sel hnx h10 h34
            go_wp2
            go_round
            case rel => exact ⟨k + 1, by omega, by omega, by go_num, HR.out⟩
            case measure => simp [intOf]; omega
        · have HR := Lib.hid (sel h34 h92 h10)
          have b92 : (c == 92) = false := beq_no h92
          clear s34 s10 s92a s92b s92c sel hnx h10 h34 h92
          go_wp2
          go_round
          case rel => exact ⟨k + 1, by omega, by omega, by go_num, HR.out⟩
          case measure => simp [intOf]; omega
      · have HR := Lib.hid (HEN.out k hqi.out (by omega))
        have hnl : ¬ (k : Int) < n := by omega
        clear hix
        go_wp2
        go_ret2
        exact ⟨by rw [← HK.out, HR.out]; rfl, rfl⟩

end Go.Proofs.YtiadbagfajhjfaaDoor.Lex
