/-
 Plain mathematics of layer 1 (utf), more: texts one behind the other, cuts, the order of texts. Nothing of the program is imported.
-/
import Derived.Test.YtaiihnniblibaaaDoorJpC
namespace Go.Proofs.YtaiihnniblibaaaDoor.Utf

/-- Signs, and bytes behind them. -/
theorem bad_front {ks r : List Int} (h : Sgs ks) (hr : Byt r) : bad (encs ks ++ r) = (encs ks).length + bad r ∧ sgn (encs ks ++ r) = ks ++ sgn r := by
 obtain ⟨b1, b2, b3, b4, b5⟩ := bad_spec hr
 have hs : Sgs (ks ++ sgn r) := fun x hx => by
  rcases List.mem_append.1 hx with h' | h'
  ·exact h x h'
  ·exact b1 x h'
 have := bad_of (l := encs ks ++ r) (a := ks ++ sgn r) (n := (encs ks).length + bad r) ((encs_byt ks).append hr) hs (by rw [List.length_append]; omega)
  (by rw [encs_append, List.take_length_add_append]; congr 1; exact bad_take hr) (by rw [List.drop_length_add_append, b5])
 exact ⟨this.2.symm, this.1.symm⟩

theorem bad_join {a b : List Int} (ha : Byt a) (hb : Byt b) (h : bad a = a.length) : bad (a ++ b) = a.length + bad b := by
 obtain ⟨b1, b2, b3, b4, b5⟩ := bad_spec ha
 have e : encs (sgn a) = a := by rw [bad_take ha, h, List.take_length]
 have := (bad_front (ks := sgn a) (r := b) b1 hb).1
 rw [e] at this; exact this

theorem bad_more {a b : List Int} (ha : Byt a) (hb : Byt b) : bad a ≤ bad (a ++ b) := by
 obtain ⟨b1, b2, b3, b4, b5⟩ := bad_spec ha
 have := (bad_front (ks := sgn a) (r := a.drop (bad a) ++ b) b1 ((ha.drop _).append hb)).1
 rw [← List.append_assoc, ← b3] at this; omega

/-- The signs of a text are none where nothing stands. -/
theorem text_of {l : List Int} (hl : Byt l) (h : bad l = l.length) : Sgs (sgn l) ∧ encs (sgn l) = l := by
 have := bad_spec hl
 exact ⟨this.1, by rw [bad_take hl, h, List.take_length]⟩

/-- A sign's bytes, cut, are no text. -/
theorem cut_bad {l : List Int} (hl : Byt l) {k : Int} {n : Nat} (h : nxt l = (k, n)) (hn : 2 ≤ n) : bad (l.take (n - 1)) ≠ n - 1 := by
 intro hb
 have hle := nxt_le hl
 rw [h] at hle
 simp only at hle
 have hlen : (l.take (n - 1)).length = n - 1 := by rw [List.length_take]; omega
 obtain ⟨h1, h2⟩ := text_of (hl.take (n - 1)) (by rw [hb, hlen])
 have hd : l = l.take (n - 1) ++ l.drop (n - 1) := (List.take_append_drop _ _).symm
 cases hs : sgn (l.take (n - 1)) with
 | nil =>
  rw [hs] at h2
  have := congrArg List.length h2
  rw [hlen] at this
  simp [encs] at this; omega
 | cons m r =>
  rw [hs] at h1 h2
  have hm := h1 m (by simp)
  simp only [encs] at h2
  have h3 : nxt l = (m, lenI m) := by
   rw [hd, ← h2, List.append_assoc]; exact nxt_of hm _
  rw [h] at h3
  have h4 : n = lenI m := by injection h3
  have := congrArg List.length h2
  rw [List.length_append, enc_length, hlen] at this
  omega

theorem front_signs : ∀ (ms ks r : List Int), Sgs ms → Sgs ks → encs ms ++ r = encs ks → ms.length ≤ ks.length ∧ ks.take ms.length = ms
 | [], ks, _, _, _, _ => ⟨Nat.zero_le _, rfl⟩
 | m :: ms, [], r, hm, _, h => by
  have h0 := hm m (by simp)
  have := congrArg List.length h
  simp only [encs, List.length_append, enc_length, List.length_nil] at this
  omega
 | m :: ms, k :: ks, r, hm, hk, h => by
  have h0 := hm m (by simp)
  have h1 := hk k (by simp)
  simp only [encs, List.append_assoc] at h
  have e1 := nxt_of h0 (encs ms ++ r)
  have e2 := nxt_of h1 (encs ks)
  rw [h, e2] at e1
  obtain ⟨rfl, _⟩ : k = m ∧ _ := by simpa using e1
  obtain ⟨a, b⟩ := front_signs ms ks r (fun x hx => hm x (by simp [hx])) (fun x hx => hk x (by simp [hx])) (List.append_cancel_left h)
  exact ⟨by simp only [List.length_cons]; omega, by simp only [List.length_cons, List.take_succ_cons, b]⟩

/-- Do the first j of the signs ks, or fewer, have k bytes? -/
def endsB (ks : List Int) (k : Nat) : Nat → Bool
 | 0 => decide (k = 0)
 | j + 1 => endsB ks k j || decide ((encs (ks.take (j + 1))).length = k)

theorem endsB_iff (ks : List Int) (k : Nat) : ∀ j, endsB ks k j = true ↔ ∃ i, i ≤ j ∧ (encs (ks.take i)).length = k
 | 0 => by
  simp only [endsB, decide_eq_true_eq]
  exact ⟨fun h => ⟨0, Nat.le_refl _, by simp [encs, h]⟩, fun ⟨i, hi, h⟩ => by
   obtain rfl : i = 0 := by omega
   simp [encs] at h; omega⟩
 | j + 1 => by
  simp only [endsB, Bool.or_eq_true, decide_eq_true_eq, endsB_iff ks k j]
  exact ⟨fun h => by
   rcases h with ⟨i, hi, h⟩ | h
   ·exact ⟨i, by omega, h⟩
   ·exact ⟨j + 1, Nat.le_refl _, h⟩, fun ⟨i, hi, h⟩ => by
   by_cases e : i = j + 1
   ·rw [e] at h; exact .inr h
   ·exact .inl ⟨i, by omega, h⟩⟩

theorem encs_take (ks : List Int) (j : Nat) : encs ks = encs (ks.take j) ++ encs (ks.drop j) := by rw [← encs_append, List.take_append_drop]

/-- A text's beginning is a text just if it ends behind a sign. -/
theorem ends_iff {ks : List Int} (h : Sgs ks) {k : Nat} (hk : k ≤ (encs ks).length) : decide (bad ((encs ks).take k) = k) = endsB ks k ks.length := by
 rw [Bool.eq_iff_iff, endsB_iff, decide_eq_true_eq]
 have hb := encs_byt ks
 have hlen : ((encs ks).take k).length = k := by rw [List.length_take]; omega
 constructor
 ·intro e
  obtain ⟨h1, h2⟩ := text_of (hb.take k) (by rw [e, hlen])
  have e2 : encs (sgn ((encs ks).take k)) ++ (encs ks).drop k = encs ks := by rw [h2, List.take_append_drop]
  obtain ⟨a, b⟩ := front_signs _ _ _ h1 h e2
  exact ⟨_, a, by rw [b, h2, hlen]⟩
 ·rintro ⟨i, hi, e⟩
  have e2 : (encs ks).take k = encs (ks.take i) := by
   rw [encs_take ks i, List.take_append_of_le_length (by omega), List.take_of_length_le (by omega)]
  rw [e2, (text_encs (a := ks.take i) (fun x hx => h x (List.mem_of_mem_take hx))).2, e]

/-! ### The order -/
def lexI : List Int → List Int → Bool
 | [], [] => false
 | [], _ :: _ => true
 | _ :: _, [] => false
 | a :: x, b :: y => if a = b then lexI x y else decide (a < b)

theorem lexI_same (p x y : List Int) : lexI (p ++ x) (p ++ y) = lexI x y := by
 induction p with
 | nil => rfl
 | cons a p ih => simp only [List.cons_append, lexI, if_true, ih]

theorem lexI_enc {k m : Int} (hk : lenI k ≠ 0) (hm : lenI m ≠ 0) (hne : k ≠ m) (x y : List Int) : lexI (enc k ++ x) (enc m ++ y) = decide (k < m) := by
 have key : ∀ a b : Int, a ≠ b → (a < b ↔ k < m) → ∀ u v : List Int, lexI (a :: u) (b :: v) = decide (k < m) := fun a b h h' u v => by
  simp only [lexI, if_neg h]
  exact decide_eq_decide.2 h'
 have step : ∀ a b : Int, a = b → ∀ u v : List Int, lexI u v = decide (k < m) → lexI (a :: u) (b :: v) = decide (k < m) := fun a b h u v h' => by
  simp only [lexI, if_pos h, h']
 rcases lenI_cases k with e | e | e | e | e
 ·exact absurd e hk
 ·have ek := enc1 e
  have bk := lenI_one e
  rcases lenI_cases m with f | f | f | f | f
  ·exact absurd f hm
  ·have bm := lenI_one f; rw [ek, enc1 f]; exact key _ _ (by omega) (by omega) _ _
  ·have bm := lenI_two f; rw [ek, enc2 f]; exact key _ _ (by omega) (by omega) _ _
  ·have bm := lenI_three f; rw [ek, enc3 f]; exact key _ _ (by omega) (by omega) _ _
  ·have bm := lenI_four f; rw [ek, enc4 f]; exact key _ _ (by omega) (by omega) _ _
 ·have ek := enc2 e
  have bk := lenI_two e
  rcases lenI_cases m with f | f | f | f | f
  ·exact absurd f hm
  ·have bm := lenI_one f; rw [ek, enc1 f]; exact key _ _ (by omega) (by omega) _ _
  ·have bm := lenI_two f
   rw [ek, enc2 f]
   by_cases h1 : k / 64 = m / 64
   ·exact step _ _ (by omega) _ _ (key _ _ (by omega) (by omega) _ _)
   ·exact key _ _ (by omega) (by omega) _ _
  ·have bm := lenI_three f; rw [ek, enc3 f]; exact key _ _ (by omega) (by omega) _ _
  ·have bm := lenI_four f; rw [ek, enc4 f]; exact key _ _ (by omega) (by omega) _ _
 ·have ek := enc3 e
  have bk := lenI_three e
  rcases lenI_cases m with f | f | f | f | f
  ·exact absurd f hm
  ·have bm := lenI_one f; rw [ek, enc1 f]; exact key _ _ (by omega) (by omega) _ _
  ·have bm := lenI_two f; rw [ek, enc2 f]; exact key _ _ (by omega) (by omega) _ _
  ·have bm := lenI_three f
   rw [ek, enc3 f]
   by_cases h1 : k / 4096 = m / 4096
   ·refine step _ _ (by omega) _ _ ?_
    by_cases h2 : k / 64 % 64 = m / 64 % 64
    ·exact step _ _ (by omega) _ _ (key _ _ (by omega) (by omega) _ _)
    ·exact key _ _ (by omega) (by omega) _ _
   ·exact key _ _ (by omega) (by omega) _ _
  ·have bm := lenI_four f; rw [ek, enc4 f]; exact key _ _ (by omega) (by omega) _ _
 ·have ek := enc4 e
  have bk := lenI_four e
  rcases lenI_cases m with f | f | f | f | f
  ·exact absurd f hm
  ·have bm := lenI_one f; rw [ek, enc1 f]; exact key _ _ (by omega) (by omega) _ _
  ·have bm := lenI_two f; rw [ek, enc2 f]; exact key _ _ (by omega) (by omega) _ _
  ·have bm := lenI_three f; rw [ek, enc3 f]; exact key _ _ (by omega) (by omega) _ _
  ·have bm := lenI_four f
   rw [ek, enc4 f]
   by_cases h1 : k / 262144 = m / 262144
   ·refine step _ _ (by omega) _ _ ?_
    by_cases h2 : k / 4096 % 64 = m / 4096 % 64
    ·refine step _ _ (by omega) _ _ ?_
     by_cases h3 : k / 64 % 64 = m / 64 % 64
     ·exact step _ _ (by omega) _ _ (key _ _ (by omega) (by omega) _ _)
     ·exact key _ _ (by omega) (by omega) _ _
    ·exact key _ _ (by omega) (by omega) _ _
   ·exact key _ _ (by omega) (by omega) _ _

/-- The order of texts is that of their signs. -/
theorem lexI_encs : ∀ (ks ms : List Int), Sgs ks → Sgs ms → lexI (encs ks) (encs ms) = lexI ks ms
 | [], [], _, _ => rfl
 | [], m :: ms, _, hm => by
  have h := hm m (by simp)
  have hl : (encs (m :: ms)).length ≠ 0 := by simp only [encs, List.length_append, enc_length]; omega
  cases he : encs (m :: ms) with
  | nil => rw [he] at hl; simp at hl
  | cons a r => rfl
 | k :: ks, [], hk, _ => by
  have h := hk k (by simp)
  have hl : (encs (k :: ks)).length ≠ 0 := by simp only [encs, List.length_append, enc_length]; omega
  cases he : encs (k :: ks) with
  | nil => rw [he] at hl; simp at hl
  | cons a r => rfl
 | k :: ks, m :: ms, hk, hm => by
  by_cases h : k = m
  ·subst h
   simp only [encs, lexI, if_true, lexI_same]
   exact lexI_encs ks ms (fun x hx => hk x (by simp [hx])) (fun x hx => hm x (by simp [hx]))
  ·simp only [encs, lexI, if_neg h]
   exact lexI_enc (hk k (by simp)) (hm m (by simp)) h _ _

/-- The first j are the same, and one of the two has no more. -/
theorem lexI_end : ∀ (j : Nat) (x y : List Int), x.take j = y.take j → j ≤ x.length → j ≤ y.length → (j = x.length ∨ j = y.length) → lexI x y = decide (x.length < y.length)
 | 0, [], [], _, _, _, _ => rfl
 | 0, [], b :: y, _, _, _, _ => by simp [lexI]
 | 0, a :: x, [], _, _, _, _ => by simp [lexI]
 | 0, a :: x, b :: y, _, _, _, h => by simp at h
 | j + 1, [], _, _, h, _, _ => by simp at h
 | j + 1, _ :: _, [], _, _, h, _ => by simp at h
 | j + 1, a :: x, b :: y, h, h1, h2, h3 => by
  simp only [List.take_succ_cons, List.cons.injEq] at h
  simp only [List.length_cons] at h1 h2 h3
  simp only [lexI, if_pos h.1, List.length_cons]
  rw [lexI_end j x y h.2 (by omega) (by omega) (by omega)]
  exact decide_eq_decide.2 (by omega)

/-- The first j are the same, the next ones aren't. -/
theorem lexI_part : ∀ (j : Nat) (x y : List Int), x.take j = y.take j → j < x.length → j < y.length → x.getD j 0 ≠ y.getD j 0 → lexI x y = decide (x.getD j 0 < y.getD j 0)
 | _, [], _, _, h, _, _ => by simp at h
 | _, _ :: _, [], _, _, h, _ => by simp at h
 | 0, a :: x, b :: y, _, _, _, h => by
  simp [List.getD] at h ⊢
  simp only [lexI, if_neg h]
 | j + 1, a :: x, b :: y, h, h1, h2, h3 => by
  simp only [List.take_succ_cons, List.cons.injEq] at h
  simp only [List.length_cons] at h1 h2
  have e1 : (a :: x).getD (j + 1) 0 = x.getD j 0 := by simp [List.getD]
  have e2 : (b :: y).getD (j + 1) 0 = y.getD j 0 := by simp [List.getD]
  rw [e1, e2] at h3 ⊢
  simp only [lexI, if_pos h.1]
  exact lexI_part j x y h.2 (by omega) (by omega) h3
end Go.Proofs.YtaiihnniblibaaaDoor.Utf
