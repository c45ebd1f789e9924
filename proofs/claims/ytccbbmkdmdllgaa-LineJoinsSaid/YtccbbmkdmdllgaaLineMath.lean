/-
  Plain mathematics of layer 2 (line): bytes as lines, where lines begin, the last start that isn't above a place. Nothing of the program is imported.
-/
namespace Go.Proofs.Ytccbbmkdmdllgaa.Line

/-- The lines. -/
def lns : List Int → List (List Int)
  | [] => []
  | x :: r => if x = 10 then [10] :: lns r else match lns r with | [] => [[x]] | l :: ls => (x :: l) :: ls

theorem lns_full : ∀ (body r : List Int), 10 ∉ body → lns (body ++ 10 :: r) = (body ++ [10]) :: lns r
  | [], r, _ => by simp [lns]
  | x :: body, r, h => by
    have h1 : x ≠ 10 := fun e => h (by simp [e])
    have h2 := lns_full body r (fun e => h (by simp [e]))
    simp [lns, h1, h2]

theorem lns_rest : ∀ (body : List Int), 10 ∉ body → body ≠ [] → lns body = [body]
  | [], _, h => absurd rfl h
  | [x], h, _ => by
    have h1 : x ≠ 10 := fun e => h (by simp [e])
    simp [lns, h1]
  | x :: y :: body, h, _ => by
    have h1 : x ≠ 10 := fun e => h (by simp [e])
    have h2 := lns_rest (y :: body) (fun e => h (List.mem_cons_of_mem _ e)) (by simp)
    rw [lns, h2]; simp [h1]

theorem line_rec {P : List Int → Prop} (h0 : P []) (h1 : ∀ body, 10 ∉ body → body ≠ [] → P body) (h2 : ∀ body r, 10 ∉ body → P r → P (body ++ 10 :: r)) : ∀ (n : Nat) (xs : List Int), xs.length ≤ n → P xs := by
  intro n
  induction n with
  | zero =>
    intro xs hx
    cases xs with
    | nil => exact h0
    | cons x r => simp at hx
  | succ n ih =>
    intro xs hx
    by_cases hm : (10 : Int) ∈ xs
    · obtain ⟨as, bs, rfl, ha⟩ := List.eq_append_cons_of_mem hm
      exact h2 as bs ha (ih bs (by rw [List.length_append, List.length_cons] at hx; omega))
    · by_cases he : xs = []
      · rw [he]; exact h0
      · exact h1 xs hm he
theorem lrec {P : List Int → Prop} (xs : List Int) (h0 : P []) (h1 : ∀ body, 10 ∉ body → body ≠ [] → P body) (h2 : ∀ body r, 10 ∉ body → P r → P (body ++ 10 :: r)) : P xs := line_rec h0 h1 h2 xs.length xs (Nat.le_refl _)

theorem lns_flat (xs : List Int) : (lns xs).flatten = xs := by
  refine lrec (P := fun xs => (lns xs).flatten = xs) xs rfl (fun body h hne => ?_) (fun body r h ih => ?_)
  · rw [lns_rest body h hne]; simp
  · rw [lns_full body r h]; simp [ih]

/-- A line: bytes with a newline at their end; or the last one. -/
theorem lns_form (xs : List Int) : ∀ i, i < (lns xs).length → ∃ body, 10 ∉ body ∧ ((lns xs).getD i [] = body ++ [10] ∨ ((lns xs).getD i [] = body ∧ body ≠ [] ∧ i + 1 = (lns xs).length)) := by
  refine lrec (P := fun xs => ∀ i, i < (lns xs).length → ∃ body, 10 ∉ body ∧ ((lns xs).getD i [] = body ++ [10] ∨ ((lns xs).getD i [] = body ∧ body ≠ [] ∧ i + 1 = (lns xs).length))) xs ?_ (fun body h hne => ?_) (fun body r h ih => ?_)
  · intro i hi; simp [lns] at hi
  · rw [lns_rest body h hne]; intro i hi
    obtain rfl : i = 0 := by simpa using hi
    exact ⟨body, h, .inr ⟨rfl, hne, rfl⟩⟩
  · rw [lns_full body r h]; intro i hi
    cases i with
    | zero => exact ⟨body, h, .inl rfl⟩
    | succ i =>
      obtain ⟨b, hb, hc⟩ := ih i (by simpa using hi)
      refine ⟨b, hb, ?_⟩
      simp only [List.getD_cons_succ, List.length_cons]
      rcases hc with hc | ⟨h1, h2, h3⟩
      · exact .inl hc
      · exact .inr ⟨h1, h2, by omega⟩

theorem lns_pos (xs : List Int) {i : Nat} (hi : i < (lns xs).length) : 0 < ((lns xs).getD i []).length := by
  obtain ⟨b, hb, h | ⟨h, h2, _⟩⟩ := lns_form xs i hi
  · rw [h]; simp
  · rw [h]; exact List.length_pos_iff.2 h2

theorem lns_len (xs : List Int) : (lns xs).length ≤ xs.length := by
  refine lrec (P := fun xs => (lns xs).length ≤ xs.length) xs (Nat.le_refl _) (fun body h hne => ?_) (fun body r h ih => ?_)
  · rw [lns_rest body h hne]; exact List.length_pos_iff.2 hne
  · rw [lns_full body r h]; simp only [List.length_cons, List.length_append]; omega

/-- Behind bytes that end in a newline lines begin anew. -/
theorem lns_app (xs r : List Int) : lns ((xs ++ [10]) ++ r) = lns (xs ++ [10]) ++ lns r := by
  refine lrec (P := fun xs => lns ((xs ++ [10]) ++ r) = lns (xs ++ [10]) ++ lns r) xs ?_ (fun body h hne => ?_) (fun body s h ih => ?_)
  · simp [lns]
  · have e : body ++ [10] ++ r = body ++ 10 :: r := by simp
    have e2 := lns_full body [] h
    rw [e, lns_full body r h, e2]; simp [lns]
  · have e : body ++ 10 :: s ++ [10] ++ r = body ++ 10 :: (s ++ [10] ++ r) := by simp
    have e2 : body ++ 10 :: s ++ [10] = body ++ 10 :: (s ++ [10]) := by simp
    rw [e, lns_full body _ h, ih, e2, lns_full body _ h]; rfl

/-- How long the first line is. -/
def lend (xs : List Int) : Nat := ((lns xs).getD 0 []).length
theorem lend_full (body r : List Int) (h : 10 ∉ body) : lend (body ++ 10 :: r) = body.length + 1 := by simp [lend, lns_full body r h]
theorem lend_rest (body : List Int) (h : 10 ∉ body) (hne : body ≠ []) : lend body = body.length := by simp [lend, lns_rest body h hne]
theorem lend_cut (xs : List Int) (hne : xs ≠ []) : 0 < lend xs ∧ lend xs ≤ xs.length ∧ lns xs = xs.take (lend xs) :: lns (xs.drop (lend xs)) := by
  by_cases hm : (10 : Int) ∈ xs
  · obtain ⟨as, bs, rfl, ha⟩ := List.eq_append_cons_of_mem hm
    rw [lend_full as bs ha]
    refine ⟨by omega, by simp, ?_⟩
    rw [lns_full as bs ha]
    have e : as ++ 10 :: bs = (as ++ [10]) ++ bs := by simp
    have el : as.length + 1 = (as ++ [10]).length := by simp
    rw [e, el, List.take_left, List.drop_left]
  · rw [lend_rest xs hm hne]
    refine ⟨List.length_pos_iff.2 hne, Nat.le_refl _, ?_⟩
    rw [lns_rest xs hm hne]; simp [lns]

/-- From where to where each line goes, the first one from o on. -/
def prs (o : Nat) : List (List Int) → List (Nat × Nat)
  | [] => []
  | l :: ls => (o, o + l.length) :: prs (o + l.length) ls

theorem prs_len : ∀ (L : List (List Int)) (o : Nat), (prs o L).length = L.length
  | [], _ => rfl
  | l :: ls, o => by simp [prs, prs_len ls]

/-- The lines, cut out. -/
def cuts (xs : List Int) (ps : List (Nat × Nat)) : List (List Int) := ps.map fun p => (xs.drop p.1).take (p.2 - p.1)
theorem cuts_snoc (xs : List Int) (ps : List (Nat × Nat)) (p : Nat × Nat) : cuts xs (ps ++ [p]) = cuts xs ps ++ [(xs.drop p.1).take (p.2 - p.1)] := by simp [cuts]
theorem cuts_prs : ∀ (L : List (List Int)) (xs : List Int) (o : Nat), xs.drop o = L.flatten → cuts xs (prs o L) = L
  | [], _, _, _ => rfl
  | l :: ls, xs, o, h => by
    have h1 : (xs.drop o).take l.length = l := by rw [h]; simp
    have h2 : xs.drop (o + l.length) = ls.flatten := by rw [← List.drop_drop, h]; simp
    have ih := cuts_prs ls xs (o + l.length) h2
    unfold cuts at ih ⊢
    simp only [prs, List.map_cons, ih]
    rw [show o + l.length - o = l.length by omega, h1]
theorem cuts_lns (xs : List Int) : cuts xs (prs 0 (lns xs)) = lns xs := cuts_prs _ xs 0 (by rw [lns_flat]; rfl)

/-- Where lines begin behind newlines. -/
def nl (o : Nat) : List Int → List Int
  | [] => []
  | x :: r => if x = 10 then ((o + 1 : Nat) : Int) :: nl (o + 1) r else nl (o + 1) r
def sts (xs : List Int) : List Int := 0 :: nl 0 xs

theorem nl_full : ∀ (body r : List Int) (o : Nat), 10 ∉ body → nl o (body ++ 10 :: r) = ((o + body.length + 1 : Nat) : Int) :: nl (o + body.length + 1) r
  | [], r, o, _ => by simp [nl]
  | x :: body, r, o, h => by
    have h1 : x ≠ 10 := fun e => h (by simp [e])
    have h2 := nl_full body r (o + 1) (fun e => h (by simp [e]))
    simp only [List.cons_append, nl, h1, if_false, h2, List.length_cons]
    rw [show o + 1 + body.length + 1 = o + (body.length + 1) + 1 by omega]
theorem nl_rest : ∀ (body : List Int) (o : Nat), 10 ∉ body → nl o body = []
  | [], o, _ => rfl
  | x :: body, o, h => by
    have h1 : x ≠ 10 := fun e => h (by simp [e])
    simp only [nl, h1, if_false]
    exact nl_rest body (o + 1) (fun e => h (by simp [e]))
theorem nl_snoc : ∀ (a : List Int) (x : Int) (o : Nat), nl o (a ++ [x]) = nl o a ++ (if x = 10 then [((o + a.length + 1 : Nat) : Int)] else [])
  | [], x, o => by by_cases h : x = 10 <;> simp [nl, h]
  | y :: a, x, o => by
    have := nl_snoc a x (o + 1)
    rw [show o + 1 + a.length + 1 = o + (a.length + 1) + 1 by omega] at this
    by_cases h : y = 10 <;> simp [nl, h, this]

/-- What the loop over the lines gathers. -/
def hits (xs : List Int) (ps : List (Nat × Nat)) : List Int := (ps.filter fun p => xs.getD (p.2 - 1) 0 = 10).map fun p => ((p.2 : Nat) : Int)
theorem hits_snoc (xs : List Int) (ps : List (Nat × Nat)) (p : Nat × Nat) : hits xs (ps ++ [p]) = hits xs ps ++ (if xs.getD (p.2 - 1) 0 = 10 then [((p.2 : Nat) : Int)] else []) := by
  unfold hits
  rw [List.filter_append, List.map_append, List.filter_cons]
  by_cases h : xs.getD (p.2 - 1) 0 = 10
  · rw [if_pos h, if_pos (decide_eq_true h)]; rfl
  · rw [if_neg h, if_neg (by rw [decide_eq_false h]; exact Bool.false_ne_true)]; rfl
theorem hits_len (xs : List Int) (ps : List (Nat × Nat)) : (hits xs ps).length ≤ ps.length := by
  unfold hits; rw [List.length_map]; exact List.length_filter_le _ _
theorem hits_prs (ys : List Int) : ∀ (xs : List Int) (o : Nat), xs.drop o = ys → hits xs (prs o (lns ys)) = nl o ys := by
  refine lrec (P := fun ys => ∀ (xs : List Int) (o : Nat), xs.drop o = ys → hits xs (prs o (lns ys)) = nl o ys) ys ?_ (fun body h hne => ?_) (fun body r h ih => ?_)
  · intro xs o _; rfl
  · intro xs o hd
    have hl : xs.getD (o + body.length - 1) 0 ≠ 10 := by
      have hp := List.length_pos_iff.2 hne
      have e : xs.getD (o + body.length - 1) 0 = body.getD (body.length - 1) 0 := by
        rw [← hd]; simp only [List.getD, List.getElem?_drop]
        rw [hd, show o + (body.length - 1) = o + body.length - 1 by omega]
      rw [e]
      intro hx
      have : body.getD (body.length - 1) 0 ∈ body := by
        simp only [List.getD, List.getElem?_eq_getElem (show body.length - 1 < body.length by omega), Option.getD_some]
        exact List.getElem_mem _
      exact h (hx ▸ this)
    rw [lns_rest body h hne, nl_rest body o h]
    simp only [prs, hits, List.filter_cons, hl, decide_false, Bool.false_eq_true, if_false, List.filter_nil, List.map_nil]
  · intro xs o hd
    have hx : xs.getD (o + (body.length + 1) - 1) 0 = 10 := by
      have e : xs.getD (o + (body.length + 1) - 1) 0 = (xs.drop o).getD body.length 0 := by
        simp only [List.getD, List.getElem?_drop]; rw [show o + (body.length + 1) - 1 = o + body.length by omega]
      rw [e, hd]; simp [List.getD]
    have hd2 : xs.drop (o + (body.length + 1)) = r := by
      rw [← List.drop_drop, hd]
      have e : body ++ 10 :: r = (body ++ [10]) ++ r := by simp
      rw [e, show body.length + 1 = (body ++ [10]).length by simp, List.drop_left]
    have ih2 := ih xs (o + (body.length + 1)) hd2
    rw [lns_full body r h, nl_full body r o h]
    unfold hits at ih2 ⊢
    simp only [prs, List.length_append, List.length_cons, List.length_nil, Nat.zero_add, List.filter_cons, hx, decide_true, if_true, List.map_cons]
    rw [ih2]
    rfl

/-- What Starts tells, out of the loop over the lines. -/
theorem sts_hits (xs : List Int) : 0 :: hits xs (prs 0 (lns xs)) = sts xs := by unfold sts; rw [hits_prs xs xs 0 rfl]

/-- Lines and starts. -/
theorem sts_lns (ys : List Int) : ∀ o : Nat, (∀ i, i < (lns ys).length → i < (((o : Nat) : Int) :: nl o ys).length ∧ (i + 1 < (((o : Nat) : Int) :: nl o ys).length → (((o : Nat) : Int) :: nl o ys).getD (i + 1) 0 = (((o : Nat) : Int) :: nl o ys).getD i 0 + (((lns ys).getD i []).length : Nat)) ∧
    (i + 1 = (((o : Nat) : Int) :: nl o ys).length → (((o : Nat) : Int) :: nl o ys).getD i 0 + (((lns ys).getD i []).length : Nat) = ((o + ys.length : Nat) : Int))) := by
  refine lrec (P := fun ys => ∀ o : Nat, (∀ i, i < (lns ys).length → i < (((o : Nat) : Int) :: nl o ys).length ∧ (i + 1 < (((o : Nat) : Int) :: nl o ys).length → (((o : Nat) : Int) :: nl o ys).getD (i + 1) 0 = (((o : Nat) : Int) :: nl o ys).getD i 0 + (((lns ys).getD i []).length : Nat)) ∧
    (i + 1 = (((o : Nat) : Int) :: nl o ys).length → (((o : Nat) : Int) :: nl o ys).getD i 0 + (((lns ys).getD i []).length : Nat) = ((o + ys.length : Nat) : Int)))) ys ?_ (fun body h hne => ?_) (fun body r h ih => ?_)
  · intro o i hi; simp [lns] at hi
  · intro o i hi
    rw [lns_rest body h hne] at hi ⊢
    rw [nl_rest body o h]
    obtain rfl : i = 0 := by simpa using hi
    simp
  · intro o i hi
    rw [lns_full body r h] at hi ⊢
    rw [nl_full body r o h]
    cases i with
    | zero =>
      refine ⟨by simp, fun _ => ?_, fun h1 => ?_⟩
      · simp; omega
      · simp at h1
    | succ i =>
      obtain ⟨a, b, c⟩ := ih (o + body.length + 1) i (by simpa using hi)
      refine ⟨by simpa using a, fun h1 => ?_, fun h1 => ?_⟩
      · have := b (by simpa using h1)
        simpa only [List.getD_cons_succ] using this
      · have := c (by simpa using h1)
        simp only [List.getD_cons_succ, List.length_append, List.length_cons] at this ⊢
        omega

/-- Starts rise, from o on, and none is behind the end. -/
theorem nl_rise (ys : List Int) : ∀ o : Nat, (∀ i j, i < j → j < (nl o ys).length → (nl o ys).getD i 0 < (nl o ys).getD j 0) ∧ (∀ i, i < (nl o ys).length → (o : Int) < (nl o ys).getD i 0 ∧ (nl o ys).getD i 0 ≤ ((o + ys.length : Nat) : Int)) := by
  induction ys with
  | nil => intro o; exact ⟨fun i j _ hj => by simp [nl] at hj, fun i hi => by simp [nl] at hi⟩
  | cons x r ih =>
    intro o
    obtain ⟨h1, h2⟩ := ih (o + 1)
    have h2' : ∀ i, i < (nl (o + 1) r).length → (o : Int) < (nl (o + 1) r).getD i 0 ∧ (nl (o + 1) r).getD i 0 ≤ ((o + (x :: r).length : Nat) : Int) := fun i hi => by
      have := h2 i hi
      simp only [List.length_cons]; omega
    by_cases hx : x = 10
    · simp only [nl, hx, if_true]
      refine ⟨fun i j hij hj => ?_, fun i hi => ?_⟩
      · cases j with
        | zero => omega
        | succ j =>
          cases i with
          | zero =>
            have := h2 j (by simpa using hj)
            simp only [List.getD_cons_zero, List.getD_cons_succ]; omega
          | succ i =>
            simp only [List.getD_cons_succ]
            exact h1 i j (by omega) (by simpa using hj)
      · cases i with
        | zero => simp only [List.getD_cons_zero, List.length_cons]; omega
        | succ i =>
          simp only [List.getD_cons_succ]
          have := h2' i (by simpa using hi)
          simp only [List.length_cons] at this ⊢; omega
    · simp only [nl, hx, if_false]
      exact ⟨h1, h2'⟩
/-- Numbers that rise. -/
def Rise (l : List Int) : Prop := ∀ i j, i < j → j < l.length → l.getD i 0 < l.getD j 0
theorem sts_rise (xs : List Int) : Rise (sts xs) := by
  obtain ⟨h1, h2⟩ := nl_rise xs 0
  intro i j hij hj
  unfold sts at hj ⊢
  cases j with
  | zero => omega
  | succ j =>
    cases i with
    | zero =>
      have := h2 j (by simpa using hj)
      simp only [List.getD_cons_zero, List.getD_cons_succ]; omega
    | succ i =>
      simp only [List.getD_cons_succ]
      exact h1 i j (by omega) (by simpa using hj)
theorem sts_bd (xs : List Int) {i : Nat} (hi : i < (sts xs).length) : 0 ≤ (sts xs).getD i 0 ∧ (sts xs).getD i 0 ≤ (xs.length : Nat) := by
  obtain ⟨h1, h2⟩ := nl_rise xs 0
  unfold sts at hi ⊢
  cases i with
  | zero => simp only [List.getD_cons_zero]; omega
  | succ i =>
    have := h2 i (by simpa using hi)
    simp only [List.getD_cons_succ]; omega
theorem nl_len : ∀ (xs : List Int) (o : Nat), (nl o xs).length = xs.count 10
  | [], _ => rfl
  | x :: r, o => by
    have := nl_len r (o + 1)
    by_cases h : x = 10 <;> simp [nl, h, this]
theorem sts_len (xs : List Int) : (sts xs).length = xs.count 10 + 1 := by simp [sts, nl_len]
theorem sts_le (xs : List Int) : (sts xs).length ≤ xs.length + 1 := by
  rw [sts_len]; have := List.count_le_length (a := (10 : Int)) (l := xs); omega
theorem lns_count (xs : List Int) : (lns xs).length = if xs = [] ∨ xs.getD (xs.length - 1) 0 = 10 then xs.count 10 else xs.count 10 + 1 := by
  refine lrec (P := fun xs => (lns xs).length = if xs = [] ∨ xs.getD (xs.length - 1) 0 = 10 then xs.count 10 else xs.count 10 + 1) xs rfl (fun body h hne => ?_) (fun body r h ih => ?_)
  · have hp := List.length_pos_iff.2 hne
    have : body.getD (body.length - 1) 0 ∈ body := by
      simp only [List.getD, List.getElem?_eq_getElem (show body.length - 1 < body.length by omega), Option.getD_some]
      exact List.getElem_mem _
    have h2 : ¬ (body = [] ∨ body.getD (body.length - 1) 0 = 10) := by
      rintro (e | e)
      · exact hne e
      · exact h (e ▸ this)
    rw [lns_rest body h hne, if_neg h2, List.count_eq_zero.2 h]; rfl
  · have hc : (body ++ 10 :: r).count 10 = r.count 10 + 1 := by rw [List.count_append, List.count_eq_zero.2 h]; simp
    have hl : (body ++ 10 :: r).getD ((body ++ 10 :: r).length - 1) 0 = if r = [] then 10 else r.getD (r.length - 1) 0 := by
      by_cases hr : r = []
      · subst hr; simp [List.getD]
      · have hp := List.length_pos_iff.2 hr
        rw [if_neg hr]
        have e : (body ++ 10 :: r).length - 1 = body.length + (1 + (r.length - 1)) := by simp only [List.length_append, List.length_cons]; omega
        simp only [List.getD]
        rw [e, List.getElem?_append_right (by omega), show body.length + (1 + (r.length - 1)) - body.length = (r.length - 1) + 1 by omega, List.getElem?_cons_succ]
    rw [lns_full body r h, List.length_cons, ih, hc, hl]
    by_cases hr : r = []
    · subst hr; simp
    · simp only [hr, if_false, false_or, List.append_eq_nil_iff, reduceCtorEq, and_false]
      split <;> rfl

/-- The number of the last start that isn't above at, and one more; 0: there is none. -/
def up : List Int → Int → Nat
  | [], _ => 0
  | x :: r, at_ => if up r at_ ≠ 0 then up r at_ + 1 else if x ≤ at_ then 1 else 0
theorem up_le : ∀ (l : List Int) (at_ : Int), up l at_ ≤ l.length
  | [], _ => Nat.le_refl _
  | x :: r, at_ => by
    have := up_le r at_
    simp only [up, List.length_cons]; split <;> try omega
    split <;> omega
theorem up_hit : ∀ (l : List Int) (at_ : Int), up l at_ ≠ 0 → l.getD (up l at_ - 1) 0 ≤ at_
  | [], _, h => absurd rfl h
  | x :: r, at_, h => by
    have ih := up_hit r at_
    by_cases h1 : up r at_ = 0
    · by_cases h2 : x ≤ at_
      · simp [up, h1, h2]
      · simp [up, h1, h2] at h
    · have e : up (x :: r) at_ = up r at_ + 1 := by simp [up, h1]
      have := ih h1
      rw [e, show up r at_ + 1 - 1 = (up r at_ - 1) + 1 by omega, List.getD_cons_succ]
      exact this
theorem up_above : ∀ (l : List Int) (at_ : Int) (j : Nat), up l at_ ≤ j → j < l.length → at_ < l.getD j 0
  | [], _, j, _, hj => by simp at hj
  | x :: r, at_, j, h, hj => by
    have ih := up_above r at_
    by_cases h1 : up r at_ = 0
    · cases j with
      | zero =>
        by_cases h2 : x ≤ at_
        · simp [up, h1, h2] at h
        · simp only [List.getD_cons_zero]; omega
      | succ j =>
        rw [List.getD_cons_succ]; exact ih j (by omega) (by simpa using hj)
    · have e : up (x :: r) at_ = up r at_ + 1 := by simp [up, h1]
      cases j with
      | zero => omega
      | succ j => rw [List.getD_cons_succ]; exact ih j (by omega) (by simpa using hj)
theorem up_eq {l : List Int} {at_ : Int} {k : Nat} (hk : k ≤ l.length) (h1 : k ≠ 0 → l.getD (k - 1) 0 ≤ at_) (h2 : ∀ j, k ≤ j → j < l.length → at_ < l.getD j 0) : up l at_ = k := by
  have hle := up_le l at_
  rcases Nat.lt_trichotomy (up l at_) k with h | h | h
  · have a := h1 (by omega)
    have b := up_above l at_ (k - 1) (by omega) (by omega)
    omega
  · exact h
  · have a := up_hit l at_ (by omega)
    have b := h2 (up l at_ - 1) (by omega) (by omega)
    omega

/-- Place's two answers. -/
def plN (l : List Int) (at_ : Int) : Nat := up l at_ - 1
def plC (l : List Int) (at_ : Int) : Int := if up l at_ = 0 then 0 else at_ - l.getD (up l at_ - 1) 0
theorem pl_some {l : List Int} {at_ : Int} (h : up l at_ ≠ 0) : plN l at_ < l.length ∧ plC l at_ = at_ - l.getD (plN l at_) 0 ∧ l.getD (plN l at_) 0 ≤ at_ := by
  have := up_le l at_
  refine ⟨by unfold plN; omega, by unfold plC plN; rw [if_neg h], up_hit l at_ h⟩

/-- A place within the bytes, told by the starts, leads back. -/
theorem pl_back (xs : List Int) (k : Nat) (hk : k ≤ xs.length) : plN (sts xs) k < (sts xs).length ∧ 0 ≤ plC (sts xs) k ∧ (sts xs).getD (plN (sts xs) k) 0 + plC (sts xs) k = k ∧ plC (sts xs) k ≤ k ∧
    (plN (sts xs) k < (lns xs).length → plC (sts xs) k ≤ (((lns xs).getD (plN (sts xs) k) []).length : Nat)) := by
  have h0 : up (sts xs) k ≠ 0 := by
    intro h
    have := up_above (sts xs) k 0 (by omega) (by simp [sts])
    simp [sts] at this; omega
  obtain ⟨h1, h2, h3⟩ := pl_some h0
  have hb := sts_bd xs h1
  refine ⟨h1, by omega, by omega, by omega, fun hn => ?_⟩
  obtain ⟨a, b, c⟩ := sts_lns xs 0 _ hn
  change plN (sts xs) k < (sts xs).length at a
  change plN (sts xs) k + 1 < (sts xs).length → (sts xs).getD (plN (sts xs) k + 1) 0 = (sts xs).getD (plN (sts xs) k) 0 + _ at b
  change plN (sts xs) k + 1 = (sts xs).length → (sts xs).getD (plN (sts xs) k) 0 + _ = _ at c
  by_cases hl : plN (sts xs) k + 1 < (sts xs).length
  · have := b hl
    have hu : up (sts xs) k ≤ plN (sts xs) k + 1 := by unfold plN; omega
    have := up_above (sts xs) k _ hu hl
    omega
  · have := c (by omega)
    omega

/-- A later place is on a later line, or farther on the same. -/
theorem pl_mono (xs : List Int) (x y : Nat) (hxy : x ≤ y) (hy : y ≤ xs.length) : plN (sts xs) x < plN (sts xs) y ∨ (plN (sts xs) x = plN (sts xs) y ∧ plC (sts xs) x ≤ plC (sts xs) y) := by
  obtain ⟨a1, a2, a3, _, _⟩ := pl_back xs x (by omega)
  obtain ⟨b1, b2, b3, _, _⟩ := pl_back xs y hy
  rcases Nat.lt_trichotomy (plN (sts xs) x) (plN (sts xs) y) with h | h | h
  · exact .inl h
  · refine .inr ⟨h, ?_⟩
    rw [h] at a3; omega
  · exfalso
    have h0 : up (sts xs) y ≤ plN (sts xs) x := by unfold plN at h ⊢; omega
    have := up_above (sts xs) y _ h0 a1
    omega
end Go.Proofs.Ytccbbmkdmdllgaa.Line
