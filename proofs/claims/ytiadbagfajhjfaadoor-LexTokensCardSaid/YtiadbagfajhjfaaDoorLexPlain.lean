/-
  Plain mathematics of layer 4 (lex): the document's way, step by step: first all tokens with their lines, then the ends. Nothing of the program is imported.
-/
import Derived.Test.YtiadbagfajhjfaaDoorLexToks
namespace Go.Proofs.YtiadbagfajhjfaaDoor.Lex

/-- Does a line begin, by the lines of the tokens that stand already? -/
def begins (P : List (Tok × Nat)) (ln : Nat) : Bool :=
  match P.getLast? with
  | none => true
  | some x => decide (x.2 < ln)
theorem begins_nil (ln : Nat) : begins [] ln = true := rfl
theorem begins_snoc (P : List (Tok × Nat)) (x : Tok × Nat) (ln : Nat) : begins (P ++ [x]) ln = decide (x.2 < ln) := by
  simp [begins]
theorem begins_at {P : List (Tok × Nat)} {ln m : Nat} (h : P.length = m + 1) : begins P ln = decide (((P.getD m (⟨0, [], 0, false⟩, 0)).2 : Nat) < ln) := by
  unfold begins
  rw [List.getLast?_eq_getElem?, show P.length - 1 = m from by omega]
  simp [List.getD, List.getElem?_eq_getElem (show m < P.length by omega)]

/-- Half-way: P is what stands, ln the line. -/
def Mid (xs : List Int) (n k : Nat) (P : List (Tok × Nat)) (ln : Nat) : Prop :=
  (∃ fl, n - k ≤ fl ∧ P ++ plain (pcs fl (xs.drop k)).1 k ln (begins P ln) = plain (pieces xs) 0 0 true ∧ (pcs fl (xs.drop k)).2 = left xs) ∧ P.length ≤ k ∧ ln ≤ k ∧ (∀ x ∈ P, x.2 ≤ ln) ∧ xs.length = n

theorem mid_start {xs : List Int} {n : Nat} (hn : xs.length = n) : Mid xs n 0 [] 0 :=
  ⟨⟨xs.length, by omega, by rw [List.drop_zero]; rfl, by rw [List.drop_zero]; rfl⟩, Nat.le_refl _, Nat.le_refl _, (fun x h => by cases h), hn⟩

theorem mid_more {xs : List Int} {n k : Nat} {P : List (Tok × Nat)} {ln : Nat} (h : Mid xs n k P ln) (hk : k < n) {K : Int} {m : Nat} (hp : piece (xs.drop k) = (K, m)) (hm : m ≠ 0) :
    k + m ≤ n ∧ ((xs.drop k).take m).length = m ∧ ∃ fl, n - (k + m) ≤ fl ∧ P ++ plain ((K, (xs.drop k).take m) :: (pcs fl (xs.drop (k + m))).1) k ln (begins P ln) = plain (pieces xs) 0 0 true ∧ (pcs fl (xs.drop (k + m))).2 = left xs := by
  obtain ⟨⟨fl, h1, h2, h3⟩, _, _, _, hn⟩ := h
  have hle := piece_le (xs.drop k)
  rw [hp, List.length_drop, hn] at hle
  have hle' : m ≤ n - k := hle
  refine ⟨by omega, by rw [List.length_take, List.length_drop]; omega, ?_⟩
  obtain ⟨f, rfl⟩ : ∃ f, fl = f + 1 := ⟨fl - 1, by omega⟩
  have e : pcs (f + 1) (xs.drop k) = ((K, (xs.drop k).take m) :: (pcs f (xs.drop (k + m))).1, (pcs f (xs.drop (k + m))).2) := by
    conv => lhs; unfold pcs
    rw [hp, if_neg (by exact hm)]
    simp only [List.drop_drop]
  rw [e] at h2 h3
  exact ⟨f, by omega, h2, h3⟩

theorem mid_head {xs : List Int} {k : Nat} (hk : k < xs.length) : xs.drop k = xs.getD k 0 :: xs.drop (k + 1) := by
  rw [List.drop_eq_getElem_cons hk]; simp [List.getD, List.getElem?_eq_getElem hk]

theorem mid_nl {xs : List Int} {n k : Nat} {P : List (Tok × Nat)} {ln : Nat} (h : Mid xs n k P ln) (hk : k < n) (hd : xs.getD k 0 = 10) : Mid xs n (k + 1) P (ln + 1) := by
  have hn := h.2.2.2.2
  have hp : piece (xs.drop k) = (8, 1) := by rw [mid_head (by omega), hd, nl_piece]
  obtain ⟨_, hl, fl, h1, h2, h3⟩ := mid_more h hk hp (by omega)
  have hb : begins P (ln + 1) = true := by
    rcases List.eq_nil_or_concat P with rfl | ⟨Q, x, rfl⟩
    · rfl
    · rw [List.concat_eq_append, begins_snoc]
      have := h.2.2.2.1 x (by simp)
      simp; omega
  refine ⟨⟨fl, h1, ?_, h3⟩, by have := h.2.1; omega, by have := h.2.2.1; omega, fun x hx => by have := h.2.2.2.1 x hx; omega, hn⟩
  rw [hb]
  simpa [plain, hl] using h2

theorem mid_blk {xs : List Int} {n k : Nat} {P : List (Tok × Nat)} {ln : Nat} (h : Mid xs n k P ln) (hk : k < n) (hd : blk (xs.getD k 0) = true) : Mid xs n (k + 1) P ln := by
  have hn := h.2.2.2.2
  have hp : piece (xs.drop k) = (7, 1) := by rw [mid_head (by omega), blank_piece _ hd]
  obtain ⟨_, hl, fl, h1, h2, h3⟩ := mid_more h hk hp (by omega)
  refine ⟨⟨fl, h1, ?_, h3⟩, by have := h.2.1; omega, by have := h.2.2.1; omega, h.2.2.2.1, hn⟩
  simpa [plain, hl] using h2

theorem head_kind {xs : List Int} {k : Nat} (hk : k < xs.length) (h7 : blk (xs.getD k 0) = false) (h8 : xs.getD k 0 ≠ 10) : (piece (xs.drop k)).1 ≠ 7 ∧ (piece (xs.drop k)).1 ≠ 8 := by
  rw [mid_head hk, piece_cons]
  have a7 : kd (xs.getD k 0) ≠ 7 := fun e => by
    unfold blk at h7; rw [e] at h7; cases h7
  have a8 : kd (xs.getD k 0) ≠ 8 := fun e => h8 (kd_nl.1 e)
  repeat' split
  all_goals first
    | exact ⟨a7, a8⟩
    | exact ⟨by simp, by simp⟩

theorem mid_tok {xs : List Int} {n k : Nat} {P : List (Tok × Nat)} {ln : Nat} (h : Mid xs n k P ln) (hk : k < n) (h7 : blk (xs.getD k 0) = false) (h8 : xs.getD k 0 ≠ 10) {K : Int} {m : Nat} (hp : piece (xs.drop k) = (K, m)) (hm : m ≠ 0) :
    k + m ≤ n ∧ Mid xs n (k + m) (P ++ [(⟨K, (xs.drop k).take m, k, begins P ln⟩, ln)]) ln := by
  have hn := h.2.2.2.2
  have hK := head_kind (xs := xs) (k := k) (by omega) h7 h8
  rw [hp] at hK
  obtain ⟨hkm, hl, fl, h1, h2, h3⟩ := mid_more h hk hp hm
  refine ⟨hkm, ⟨fl, h1, ?_, h3⟩, by have := h.2.1; simp; omega, by have := h.2.2.1; omega, fun x hx => ?_, hn⟩
  · rw [begins_snoc, show decide (ln < ln) = false from by simp]
    have e8 : K ≠ 8 := hK.2
    have e7 : K ≠ 7 := hK.1
    simpa [plain, hl, e8, e7] using h2
  · rcases List.mem_append.1 hx with hx | hx
    · exact h.2.2.2.1 x hx
    · simp at hx; subst hx; exact Nat.le_refl _

theorem mid_stop {xs : List Int} {n k : Nat} {P : List (Tok × Nat)} {ln : Nat} (h : Mid xs n k P ln) (hk : k < n) (hp : (piece (xs.drop k)).2 = 0) : left xs ≠ [] ∧ n - (left xs).length = k := by
  obtain ⟨⟨fl, h1, h2, h3⟩, _, _, _, hn⟩ := h
  obtain ⟨f, rfl⟩ : ∃ f, fl = f + 1 := ⟨fl - 1, by omega⟩
  have e : pcs (f + 1) (xs.drop k) = ([], xs.drop k) := by
    unfold pcs; rw [if_pos hp]
  rw [e] at h3
  have hl : (left xs).length = n - k := by rw [← h3]; simp [hn]
  exact ⟨fun e => by rw [e] at hl; simp at hl; omega, by omega⟩

theorem pcs_nil : ∀ f, pcs f [] = ([], [])
  | 0 => rfl
  | _ + 1 => rfl
theorem mid_end {xs : List Int} {n k : Nat} {P : List (Tok × Nat)} {ln : Nat} (h : Mid xs n k P ln) (hk : n ≤ k) : left xs = [] ∧ P = plain (pieces xs) 0 0 true := by
  obtain ⟨⟨fl, h1, h2, h3⟩, _, _, _, hn⟩ := h
  rw [List.drop_eq_nil_of_le (by omega), pcs_nil] at h2 h3
  exact ⟨h3.symm, by simpa [plain] using h2⟩

/-- The texts and places of what stands. -/
theorem plain_part : ∀ (ps : List (Int × List Int)) (n ln : Nat) (f : Bool) (x : Tok × Nat), x ∈ plain ps n ln f → x.1.place + x.1.text.length ≤ n + (cat ps).length ∧ ∀ y ∈ x.1.text, y ∈ cat ps
  | [], _, _, _, _, h => by cases h
  | (k, t) :: ps, n, ln, f, x, h => by
    have key : ∀ (ln' : Nat) (f' : Bool), x ∈ plain ps (n + t.length) ln' f' → x.1.place + x.1.text.length ≤ n + (cat ((k, t) :: ps)).length ∧ ∀ y ∈ x.1.text, y ∈ cat ((k, t) :: ps) := fun ln' f' hx => by
      have := plain_part ps _ _ _ x hx
      refine ⟨by simp only [cat, List.length_append]; omega, fun y hy => ?_⟩
      simp only [cat, List.mem_append]
      exact .inr (this.2 y hy)
    unfold plain at h
    split at h
    · exact key _ _ h
    split at h
    · exact key _ _ h
    · rcases List.mem_cons.1 h with h | h
      · subst h
        refine ⟨by simp only [cat, List.length_append]; omega, fun y hy => ?_⟩
        simp only [cat, List.mem_append]
        exact .inl hy
      · exact key _ _ h

/-! ### The second walk: the ends -/
def OutAt (P : List (Tok × Nat)) (i : Nat) (out : List Tok) : Prop := out ++ outL (P.drop i) = outL P ∧ out.length ≤ 2 * i
theorem out_start (P : List (Tok × Nat)) : OutAt P 0 [] := ⟨by simp, Nat.le_refl _⟩
theorem out_end {P : List (Tok × Nat)} {i : Nat} {out : List Tok} (h : OutAt P i out) (hi : P.length ≤ i) : out = outL P := by
  have := h.1
  rw [List.drop_eq_nil_of_le hi] at this
  simpa [outL] using this
theorem out_step {P : List (Tok × Nat)} {i : Nat} {out : List Tok} (h : OutAt P i out) {t : Tok} {ln : Nat} (hx : P[i]? = some (t, ln)) :
    (overL ln (P.drop (i + 1)) = true → closes t.kind t.text = true → OutAt P (i + 1) (out ++ [t] ++ [⟨6, [], t.place + t.text.length, false⟩])) ∧
    ((overL ln (P.drop (i + 1)) = false ∨ closes t.kind t.text = false) → OutAt P (i + 1) (out ++ [t])) := by
  have hi : i < P.length := by
    rcases Nat.lt_or_ge i P.length with h' | h'
    · exact h'
    · rw [List.getElem?_eq_none h'] at hx; cases hx
  have he : P[i] = (t, ln) := by rw [List.getElem?_eq_getElem hi] at hx; exact Option.some.inj hx
  have hd : P.drop i = (t, ln) :: P.drop (i + 1) := by rw [List.drop_eq_getElem_cons hi, he]
  obtain ⟨h1, h2⟩ := h
  rw [hd] at h1
  refine ⟨fun a b => ⟨?_, by simp; omega⟩, fun a => ⟨?_, by simp; omega⟩⟩
  · rw [← h1]; simp [outL, a, b]
  · rw [← h1]
    rcases a with a | a <;> simp [outL, a]
/-- Inside: the remarks of the line are passed by. -/
theorem over_step {P : List (Tok × Nat)} {ln j : Nat} {b : Bool} (h : overL ln (P.drop j) = b) {u : Tok} {m : Nat} (hx : P[j]? = some (u, m)) :
    (u.kind = 5 → m = ln → overL ln (P.drop (j + 1)) = b) ∧ ((u.kind ≠ 5 ∨ m ≠ ln) → b = decide (ln < m)) := by
  have hj : j < P.length := by
    rcases Nat.lt_or_ge j P.length with h' | h'
    · exact h'
    · rw [List.getElem?_eq_none h'] at hx; cases hx
  have he : P[j] = (u, m) := by rw [List.getElem?_eq_getElem hj] at hx; exact Option.some.inj hx
  have hd : P.drop j = (u, m) :: P.drop (j + 1) := by rw [List.drop_eq_getElem_cons hj, he]
  rw [hd] at h
  unfold overL at h
  refine ⟨fun a c => ?_, fun a => ?_⟩
  · rw [if_pos ⟨a, c⟩] at h; exact h
  · rw [if_neg (by intro ⟨c, d⟩; rcases a with a | a <;> contradiction)] at h; exact h.symm
theorem over_end {P : List (Tok × Nat)} {ln j : Nat} {b : Bool} (h : overL ln (P.drop j) = b) (hj : P.length ≤ j) : b = true := by
  rw [List.drop_eq_nil_of_le hj] at h; exact h.symm

/-- How the inner walk may stand. -/
theorem over_cases {P : List (Tok × Nat)} {l0 j m : Nat} {ov : Bool} (hm : P.length = m) (h : overL l0 (P.drop j) = ov) :
    (∃ u l, j < m ∧ P[j]? = some (u, l) ∧ u.kind = 5 ∧ l = l0) ∨
    (ov = true ∧ ((∃ u l, j < m ∧ P[j]? = some (u, l) ∧ u.kind = 5 ∧ l ≠ l0 ∧ l0 < l) ∨ (∃ u l, j < m ∧ P[j]? = some (u, l) ∧ u.kind ≠ 5 ∧ l0 < l) ∨ m ≤ j)) ∨
    (ov = false ∧ ((∃ u l, j < m ∧ P[j]? = some (u, l) ∧ u.kind = 5 ∧ l ≠ l0 ∧ l ≤ l0) ∨ (∃ u l, j < m ∧ P[j]? = some (u, l) ∧ u.kind ≠ 5 ∧ l ≤ l0))) := by
  rcases Nat.lt_or_ge j m with hj | hj
  · have hjP : j < P.length := by omega
    obtain ⟨u, l, hx⟩ : ∃ u l, P[j]? = some (u, l) := ⟨P[j].1, P[j].2, List.getElem?_eq_getElem hjP⟩
    obtain ⟨s1, s2⟩ := over_step h hx
    by_cases h5 : u.kind = 5
    · by_cases hl : l = l0
      · exact .inl ⟨u, l, hj, hx, h5, hl⟩
      · have hb := s2 (.inr hl)
        by_cases hlt : l0 < l
        · exact .inr (.inl ⟨by rw [hb]; simp [hlt], .inl ⟨u, l, hj, hx, h5, hl, hlt⟩⟩)
        · exact .inr (.inr ⟨by rw [hb]; simp [hlt], .inl ⟨u, l, hj, hx, h5, hl, by omega⟩⟩)
    · have hb := s2 (.inl h5)
      by_cases hlt : l0 < l
      · exact .inr (.inl ⟨by rw [hb]; simp [hlt], .inr (.inl ⟨u, l, hj, hx, h5, hlt⟩)⟩)
      · exact .inr (.inr ⟨by rw [hb]; simp [hlt], .inr ⟨u, l, hj, hx, h5, by omega⟩⟩)
  · exact .inr (.inl ⟨over_end h (by omega), .inr (.inr hj)⟩)

end Go.Proofs.YtiadbagfajhjfaaDoor.Lex
