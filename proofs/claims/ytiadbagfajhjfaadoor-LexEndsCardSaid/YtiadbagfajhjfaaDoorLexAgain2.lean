/-
  Plain mathematics of layer 4 (lex), more: what is written again is a program of the same tokens. Nothing of the program is imported.
-/
import Derived.Test.YtiadbagfajhjfaaDoorLexAgain
namespace Go.Proofs.YtiadbagfajhjfaaDoor.Lex
open Utf

theorem marks_asc : (∀ m ∈ marks2, 0 ≤ m.getD 0 0 ∧ m.getD 0 0 < 128) ∧ (∀ m ∈ marks1, 0 ≤ m.getD 0 0 ∧ m.getD 0 0 < 128) := by decide +kernel
theorem piece_asc {c : Int} {r : List Int} (h : (piece (c :: r)).2 ≠ 0) : 0 ≤ c ∧ c < 128 := by
  have h1 := @kd_let c; have h2 := @kd_dig c; have h3 := @kd_quo c; have h6 := @kd_semi c; have h7 := @kd_blk c; have h8 := @kd_nl c
  rcases kd_cases c with e | e | e | e | e | e | e
  · have := h1.1 e; omega
  · have := h2.1 e; omega
  · have := h3.1 e; omega
  · rw [piece_cons, if_neg (by omega), if_neg (by omega), if_neg (by omega), if_pos e] at h
    split at h
    · rename_i h47
      have : c = 47 := by
        cases r with
        | nil => simp at h47
        | cons d r' => simp at h47; exact h47.1
      omega
    · simp only [markL] at h
      split at h
      · rename_i hm
        have := marks_asc.1 _ hm
        simpa using this
      · split at h
        · rename_i hm
          have := marks_asc.2 _ hm
          simpa using this
        · exact absurd rfl h
  · have := h6.1 e; omega
  · have := h7.1 e; omega
  · have := h8.1 e; omega

def TextOk (t : List Int) : Prop := Byt t ∧ bad t = t.length
theorem text_nil : TextOk [] := ⟨Byt.nil, rfl⟩
theorem text_join {a b : List Int} (ha : TextOk a) (hb : TextOk b) : TextOk (a ++ b) := ⟨ha.1.append hb.1, by rw [bad_join ha.1 hb.1 ha.2, hb.2, List.length_append]⟩
theorem text_asc {a : List Int} (h : Asc a) : TextOk a := ⟨asc_byt h, asc_text h⟩

/-- The texts of a text's pieces are texts. -/
theorem tiles_text : ∀ (ps : List (Int × List Int)) (l : List Int), Byt l → bad l = l.length → Tiles l ps [] → ∀ p ∈ ps, TextOk p.2
  | [], _, _, _, _, p, hp => by cases hp
  | (k, t) :: ps, l, hb, ht, ⟨r, h1, h2, h3, h4⟩, p, hp => by
    subst h1
    have hbt : Byt t := fun x hx => hb x (by simp [hx])
    have hbr : Byt r := fun x hx => hb x (by simp [hx])
    have key : bad t = t.length ∧ bad r = r.length := by
      cases r with
      | nil => rw [List.append_nil] at ht; exact ⟨ht, rfl⟩
      | cons c r' =>
        have hc : 0 ≤ c ∧ c < 128 := by
          cases ps with
          | nil => have := h4.1; cases this
          | cons q ps' =>
            obtain ⟨k', t'⟩ := q
            obtain ⟨r2, e1, e2, e3, _⟩ := h4
            exact piece_asc (by rw [e2]; exact e3)
        exact text_cut hbt (fun x hx => hbr x (by simp [hx])) hc ht
    rcases List.mem_cons.1 hp with e | e
    · subst e; exact ⟨hbt, key.1⟩
    · exact tiles_text ps r hbr key.2 h4 p e
theorem fin_mem : ∀ (ps : List (Int × List Int)) (n : Nat) (f : Bool) (t : Tok), t ∈ fin ps n f → isEnd t ∨ (t.kind ≠ 7 ∧ t.kind ≠ 8 ∧ (t.kind, t.text) ∈ ps)
  | [], _, _, _, h => by cases h
  | (k, s) :: ps, n, f, t, h => by
    have lift : (isEnd t ∨ (t.kind ≠ 7 ∧ t.kind ≠ 8 ∧ (t.kind, t.text) ∈ ps)) → isEnd t ∨ (t.kind ≠ 7 ∧ t.kind ≠ 8 ∧ (t.kind, t.text) ∈ (k, s) :: ps) := fun h => by
      rcases h with h | ⟨a, b, c⟩
      · exact .inl h
      · exact .inr ⟨a, b, by simp [c]⟩
    by_cases h8 : k = 8
    · subst h8
      exact lift (fin_mem ps (n + s.length) true t (by simpa [fin] using h))
    by_cases h7 : k = 7
    · subst h7
      exact lift (fin_mem ps (n + s.length) f t (by simpa [fin] using h))
    simp only [fin, if_neg h8, if_neg h7] at h
    rcases List.mem_cons.1 h with e | e
    · subst e; exact .inr ⟨h7, h8, by simp⟩
    · rcases List.mem_append.1 e with e | e
      · split at e
        · simp at e; subst e; exact .inl ⟨rfl, rfl⟩
        · cases e
      · exact lift (fin_mem ps (n + s.length) false t e)
theorem tiles_good : ∀ (ps : List (Int × List Int)) (l z : List Int), Tiles l ps z → ∀ p ∈ ps, p.2.length ≠ 0 ∧ ∃ r, piece (p.2 ++ r) = (p.1, p.2.length)
  | [], _, _, _, p, hp => by cases hp
  | (k, t) :: ps, l, z, ⟨r, h1, h2, h3, h4⟩, p, hp => by
    rcases List.mem_cons.1 hp with e | e
    · subst e; exact ⟨h3, r, by rw [← h1]; exact h2⟩
    · exact tiles_good ps r z h4 p e

theorem text_ag {gp : List Int} (hg : TextOk gp) : ∀ L : List Tok, (∀ t ∈ L, TextOk t.text) → TextOk (ag gp L)
  | [], _ => text_nil
  | t :: r, h => by
    have h10 : TextOk [10] := text_asc (fun x hx => by simp at hx; omega)
    refine text_join ?_ (text_ag hg r (fun x hx => h x (by simp [hx])))
    unfold part
    split
    · split
      · exact text_nil
      · exact h10
    · refine text_join (text_join hg (h t (by simp))) ?_
      split
      · exact h10
      · exact text_nil

/-- What is written again is a program of the same tokens. -/
theorem back_lex {b gp : List Int} (hb : Byt b) (hE : lexE b = 0) (hg : gp ≠ []) (hbl : ∀ x ∈ gp, blk x = true) :
    Byt (ag gp (lexT b)) ∧ lexE (ag gp (lexT b)) = 0 ∧ (lexT (ag gp (lexT b))).map kt = (lexT b).map kt := by
  obtain ⟨h1, h2⟩ := lexE_zero hb hE
  have ht := tiles_of b
  rw [h2] at ht
  have hL : lexT b = fin (pieces b) 0 true := (lex_ok h1 ht).2.2
  rw [hL]
  have hgood := tiles_good _ _ _ ht
  have htext := tiles_text _ _ hb h1 ht
  have hgt : TextOk gp := text_asc (fun x hx => by have := blk_iff.1 (hbl x hx); omega)
  have hx := text_ag hgt (fin (pieces b) 0 true) (fun t hm => by
    rcases fin_mem _ _ _ t hm with e | ⟨_, _, e⟩
    · rw [e.2]; exact text_nil
    · exact htext _ e)
  have hy := tiles_ag hg hbl (fin (pieces b) 0 true) (fun t hm => by
    rcases fin_mem _ _ _ t hm with e | ⟨a, c, e⟩
    · exact .inl e
    · obtain ⟨p, q⟩ := hgood _ e
      exact .inr ⟨a, c, p, q⟩)
  obtain ⟨a, _, c⟩ := lex_ok hx.2 hy
  exact ⟨hx.1, a, by rw [c]; exact kt_again _ _ _ _ _ (fun p hp => (hgood p hp).1)⟩

/-! ### How long it is -/
theorem fin_count : ∀ (ps : List (Int × List Int)) (n : Nat) (f : Bool), (fin ps n f).length ≤ 2 * ps.length ∧ ((fin ps n f).map fun t => t.text.length).sum ≤ (cat ps).length
  | [], _, _ => ⟨Nat.le_refl _, Nat.le_refl _⟩
  | (k, t) :: ps, n, f => by
    by_cases h8 : k = 8
    · subst h8
      have := fin_count ps (n + t.length) true
      simp only [fin, if_true, cat, List.length_cons, List.length_append]; omega
    by_cases h7 : k = 7
    · subst h7
      have := fin_count ps (n + t.length) f
      have e : fin ((7, t) :: ps) n f = fin ps (n + t.length) f := by simp [fin]
      rw [e]; simp only [cat, List.length_cons, List.length_append]; omega
    have := fin_count ps (n + t.length) false
    simp only [fin, if_neg h8, if_neg h7, cat, List.length_cons, List.length_append, List.map_cons, List.map_append, List.sum_cons, List.sum_append]
    split
    · simp; omega
    · simp; omega
theorem pcs_count : ∀ {ps : List (Int × List Int)} {l z : List Int}, Tiles l ps z → ps.length ≤ l.length
  | [], _, _, _ => Nat.zero_le _
  | (k, t) :: ps, l, z, ⟨r, h1, _, h3, h4⟩ => by
    have := pcs_count h4
    rw [h1, List.length_append, List.length_cons]; omega
theorem toks_count {b : List Int} : (lexT b).length ≤ 2 * b.length ∧ ((lexT b).map fun t => t.text.length).sum ≤ b.length := by
  unfold lexT
  split
  · have h := fin_count (pieces b) 0 true
    have h2 := pcs_count (tiles_of b)
    have h3 := congrArg List.length (tiles_cat (tiles_of b))
    rw [List.length_append] at h3
    unfold toks; omega
  · simp
theorem ag_len (gp : List Int) : ∀ L : List Tok, (ag gp L).length ≤ (gp.length + 1) * L.length + (L.map fun t => t.text.length).sum
  | [] => Nat.le_refl _
  | t :: r => by
    have ih := ag_len gp r
    have hp : (part gp t r).length ≤ gp.length + 1 + t.text.length := by
      unfold part
      split
      · split
        · simp
        · simp; omega
      · split <;> simp <;> omega
    simp only [ag, List.length_append, List.length_cons, List.map_cons, List.sum_cons]
    rw [Nat.mul_add, Nat.mul_one]
    omega
theorem back_len {b gp : List Int} (hb : b.length ≤ 5000) (hg : gp.length ≤ 9) : (ag gp (lexT b)).length ≤ 200000 := by
  have h1 := ag_len gp (lexT b)
  have h2 := @toks_count b
  have h3 : (gp.length + 1) * (lexT b).length ≤ 10 * 10000 := Nat.mul_le_mul (by omega) (by omega)
  omega

end Go.Proofs.YtiadbagfajhjfaaDoor.Lex
