/-
  Plain mathematics of layer 4 (lex): where ends stand among the tokens. Nothing of the program is imported.
-/
import Derived.Test.YtiadbagfajhjfaaDoorLexAgain2
namespace Go.Proofs.YtiadbagfajhjfaaDoor.Lex
open Utf

/-- Behind remarks of the same line begins a new line, or nothing follows. -/
def afterRem : List Tok → Bool
  | [] => true
  | t :: r => if t.kind = 5 ∧ t.first = false then afterRem r else t.first
def clo (p : Option Tok) : Bool := match p with
  | none => false
  | some q => closes q.kind q.text
def good : Option Tok → List Tok → Prop
  | p, [] => clo p = false
  | p, t :: r => (t.kind = 6 → t.text = [] → ∃ q, p = some q ∧ t.place = q.place + q.text.length ∧ t.first = false ∧ closes q.kind q.text = true ∧ afterRem r = true) ∧
      (clo p = true → t.first = true → t.kind = 6) ∧ good (some t) r

theorem head_first : ∀ (ps : List (Int × List Int)) (n : Nat), afterRem (fin ps n true) = true
  | [], _ => rfl
  | (k, t) :: ps, n => by
    by_cases h8 : k = 8
    · subst h8; simp only [fin, if_true]; exact head_first ps _
    by_cases h7 : k = 7
    · subst h7; simp only [fin]; exact head_first ps _
    · simp [fin, h8, h7, afterRem]
theorem still_first : ∀ (ps : List (Int × List Int)) (n : Nat) (f : Bool), Still ps → afterRem (fin ps n f) = true
  | [], _, _, _ => rfl
  | (k, t) :: ps, n, f, h => by
    rcases h with ⟨rfl, h⟩ | rfl
    · simp only [fin]; exact still_first ps _ _ h
    · simp only [fin, if_true]; exact head_first ps _
theorem over_first : ∀ (ps : List (Int × List Int)) (n : Nat), RemOk ps → over ps = true → afterRem (fin ps n false) = true
  | [], _, _, _ => rfl
  | (k, t) :: ps, n, hr, ho => by
    by_cases h8 : k = 8
    · subst h8; simp only [fin, if_true]; exact head_first ps _
    by_cases h7 : k = 7
    · subst h7
      simp only [over, if_true] at ho
      simp only [fin]; exact over_first ps _ hr.2 ho
    · by_cases h5 : k = 5
      · subst h5
        have hc := closes_seven t 5 (by omega)
        have := still_first ps (n + t.length) false (hr.1 rfl)
        simp [fin, afterRem, hc, this]
      · simp [over, h7, h8, h5] at ho

theorem good_fin : ∀ (ps : List (Int × List Int)) (n : Nat) (f : Bool) (p : Option Tok), RemOk ps → (∀ q ∈ ps, q.2.length ≠ 0) → (clo p = true → f = false ∧ over ps = false) → good p (fin ps n f)
  | [], _, _, p, _, _, h => by
    show clo p = false
    cases hc : clo p
    · rfl
    · have := (h hc).2; simp [over] at this
  | (k, t) :: ps, n, f, p, hr, hl, h => by
    have hl' : ∀ q ∈ ps, q.2.length ≠ 0 := fun q hq => hl q (by simp [hq])
    have h0 : t.length ≠ 0 := hl (k, t) (by simp)
    by_cases h8 : k = 8
    · subst h8
      have hp : clo p = false := by
        cases hc : clo p
        · rfl
        · have := (h hc).2; simp [over] at this
      simp only [fin, if_true]
      exact good_fin ps _ _ p hr.2 hl' (fun hc => by rw [hp] at hc; cases hc)
    by_cases h7 : k = 7
    · subst h7
      simp only [fin]
      exact good_fin ps _ _ p hr.2 hl' (fun hc => ⟨(h hc).1, by have := (h hc).2; simpa [over] using this⟩)
    · have e : fin ((k, t) :: ps) n f = ⟨k, t, n, f⟩ :: ((if closes k t && over ps then [⟨6, [], n + t.length, false⟩] else []) ++ fin ps (n + t.length) false) := by simp [fin, h8, h7]
      rw [e]
      refine ⟨fun _ h2 => ?_, fun hc hf => ?_, ?_⟩
      · have h3 : t = [] := h2
        rw [h3] at h0; exact absurd rfl h0
      · have h3 : f = true := hf
        rw [(h hc).1] at h3; cases h3
      · by_cases hco : (closes k t && over ps) = true
        · rw [if_pos hco]
          simp only [Bool.and_eq_true] at hco
          refine ⟨fun _ _ => ⟨_, rfl, rfl, rfl, hco.1, over_first ps _ hr.2 hco.2⟩, fun _ hf => ?_, ?_⟩
          · rfl
          · exact good_fin ps _ _ _ hr.2 hl' (fun hc => by
              have : clo (some ⟨6, [], n + t.length, false⟩) = false := closes_seven [] 6 (by omega)
              have h2 : clo (some ⟨6, [], n + t.length, false⟩) = true := hc
              rw [this] at h2; cases h2)
        · rw [if_neg hco]
          exact good_fin ps _ _ _ hr.2 hl' (fun hc => ⟨rfl, by
            have h2 : closes k t = true := hc
            rw [h2] at hco
            simpa using hco⟩)

theorem good_end : ∀ (L : List Tok) (p : Option Tok), good p L → ∀ (i : Nat) (t : Tok), L[i]? = some t → t.kind = 6 → t.text = [] →
    ∃ q, (if i = 0 then p else L[i - 1]?) = some q ∧ t.place = q.place + q.text.length ∧ t.first = false ∧ closes q.kind q.text = true ∧ afterRem (L.drop (i + 1)) = true
  | [], _, _, i, t, h, _, _ => by simp at h
  | x :: r, p, hg, 0, t, h, h6, h0 => by
    simp only [List.getElem?_cons_zero, Option.some.injEq] at h
    subst h
    obtain ⟨q, a⟩ := hg.1 h6 h0
    exact ⟨q, a⟩
  | x :: r, p, hg, i + 1, t, h, h6, h0 => by
    obtain ⟨q, h1, h2⟩ := good_end r (some x) hg.2.2 i t (by simpa using h) h6 h0
    refine ⟨q, ?_, h2⟩
    by_cases hi : i = 0
    · subst hi; simpa using h1
    · rw [if_neg hi] at h1
      rw [if_neg (by omega), show i + 1 - 1 = (i - 1) + 1 by omega, List.getElem?_cons_succ]; exact h1
theorem good_firsts : ∀ (L : List Tok) (p : Option Tok), good p L → ∀ (i : Nat) (t u : Tok), L[i]? = some t → L[i + 1]? = some u → closes t.kind t.text = true → u.first = true → u.kind = 6
  | [], _, _, i, t, u, h, _, _, _ => by simp at h
  | [x], _, _, i, t, u, _, h, _, _ => by simp at h
  | x :: y :: r, p, hg, 0, t, u, h, h', hc, hf => by
    simp only [List.getElem?_cons_zero, Option.some.injEq, List.getElem?_cons_succ, Nat.zero_add] at h h'
    subst h; subst h'
    exact hg.2.2.2.1 hc hf
  | x :: y :: r, p, hg, i + 1, t, u, h, h', hc, hf => good_firsts (y :: r) (some x) hg.2.2 i t u (by simpa using h) (by simpa using h') hc hf
theorem good_last : ∀ (L : List Tok) (p : Option Tok), good p L → ∀ (t : Tok), L[L.length - 1]? = some t → closes t.kind t.text = false
  | [], _, _, t, h => by simp at h
  | [x], p, hg, t, h => by
    simp at h
    subst h
    exact hg.2.2
  | x :: y :: r, p, hg, t, h => good_last (y :: r) (some x) hg.2.2 t (by simpa using h)

theorem fin_place : ∀ (ps : List (Int × List Int)) (n : Nat) (f : Bool) (t : Tok), t ∈ fin ps n f → t.place + t.text.length ≤ n + (cat ps).length
  | [], n, f, t, h => by cases h
  | (k, s) :: ps, n, f, t, h => by
    have ih := fun f' => fin_place ps (n + s.length) f' t
    have hc : (cat ((k, s) :: ps)).length = s.length + (cat ps).length := by simp [cat]
    rw [hc]
    unfold fin at h
    split at h
    · have := ih _ h; omega
    split at h
    · have := ih _ h; omega
    · rcases List.mem_cons.1 h with h | h
      · subst h; simp only; omega
      · rcases List.mem_append.1 h with h | h
        · split at h
          · simp only [List.mem_singleton] at h
            subst h; simp
          · cases h
        · have := ih _ h; omega

theorem ends_all {xs : List Int} (hb : Byt xs) (h : lexE xs = 0) : good none (lexT xs) ∧ ∀ t ∈ lexT xs, t.place + t.text.length ≤ xs.length := by
  obtain ⟨_, hl⟩ := lexE_zero hb h
  have ht := tiles_of xs
  have hg := tiles_good _ _ _ ht
  have hT : lexT xs = fin (pieces xs) 0 true := by unfold lexT; rw [if_pos h]; rfl
  have ht' : Tiles xs (pieces xs) [] := by rw [← hl]; exact ht
  refine ⟨?_, fun t hm => ?_⟩
  · rw [hT]
    exact good_fin _ _ _ _ (remOk_of _ _ ht') (fun q hq => (hg q hq).1) (fun hc => by cases hc)
  · rw [hT] at hm
    have h1 := fin_place _ _ _ _ hm
    have h2 := congrArg List.length (tiles_cat ht')
    simp at h2
    omega

end Go.Proofs.YtiadbagfajhjfaaDoor.Lex
