/-
  Plain mathematics of layer 1 (utf), more: texts one behind the other, cuts, the order of texts. Nothing of the program is imported.
-/
import Derived.Test.YtojggmncafjflaaUtfMath
namespace Go.Proofs.Ytojggmncafjflaa.Utf

/-- Signs, and bytes behind them. -/
theorem bad_front {ks r : List Int} (h : Sgs ks) (hr : Byt r) : bad (encs ks ++ r) = (encs ks).length + bad r ∧ sgn (encs ks ++ r) = ks ++ sgn r := by
  obtain ⟨b1, b2, b3, b4, b5⟩ := bad_spec hr
  have hs : Sgs (ks ++ sgn r) := fun x hx => by
    rcases List.mem_append.1 hx with h' | h'
    · exact h x h'
    · exact b1 x h'
  have := bad_of (l := encs ks ++ r) (a := ks ++ sgn r) (n := (encs ks).length + bad r) ((encs_byt ks).append hr) hs (by rw [List.length_append]; omega)
    (by rw [encs_append, List.take_length_add_append]; congr 1; exact bad_take hr) (by rw [List.drop_length_add_append, b5])
  exact ⟨this.2.symm, this.1.symm⟩

theorem bad_join {a b : List Int} (ha : Byt a) (hb : Byt b) (h : bad a = a.length) : bad (a ++ b) = a.length + bad b := by
  obtain ⟨b1, b2, b3, b4, b5⟩ := bad_spec ha
  have e : encs (sgn a) = a := by rw [bad_take ha, h, List.take_length]
  have := (bad_front (ks := sgn a) (r := b) b1 hb).1
  rw [e] at this; exact this

theorem bad_more {a b : List Int} (ha : Byt a) (hb : Byt b) : bad a ≤ bad (a ++ b) := by
  obtain ⟨b1, b2, b3, b4, b5⟩ := bad_spec ha
  have := (bad_front (ks := sgn a) (r := a.drop (bad a) ++ b) b1 ((ha.drop _).append hb)).1
  rw [← List.append_assoc, ← b3] at this; omega

/-- The signs of a text are none where nothing stands. -/
theorem text_of {l : List Int} (hl : Byt l) (h : bad l = l.length) : Sgs (sgn l) ∧ encs (sgn l) = l := by
  have := bad_spec hl
  exact ⟨this.1, by rw [bad_take hl, h, List.take_length]⟩

/-- A sign's bytes, cut, are no text. -/
theorem cut_bad {l : List Int} (hl : Byt l) {k : Int} {n : Nat} (h : nxt l = (k, n)) (hn : 2 ≤ n) : bad (l.take (n - 1)) ≠ n - 1 := by
  intro hb
  have hle := nxt_le hl
  rw [h] at hle
  simp only at hle
  have hlen : (l.take (n - 1)).length = n - 1 := by rw [List.length_take]; omega
  obtain ⟨h1, h2⟩ := text_of (hl.take (n - 1)) (by rw [hb, hlen])
  have hd : l = l.take (n - 1) ++ l.drop (n - 1) := (List.take_append_drop _ _).symm
  cases hs : sgn (l.take (n - 1)) with
  | nil =>
    rw [hs] at h2
    have := congrArg List.length h2
    rw [hlen] at this
    simp [encs] at this; omega
  | cons m r =>
    rw [hs] at h1 h2
    have hm := h1 m (by simp)
    simp only [encs] at h2
    have h3 : nxt l = (m, lenI m) := by
      rw [hd, ← h2, List.append_assoc]; exact nxt_of hm _
    rw [h] at h3
    have h4 : n = lenI m := by injection h3
    have := congrArg List.length h2
    rw [List.length_append, enc_length, hlen] at this
    omega

theorem front_signs : ∀ (ms ks r : List Int), Sgs ms → Sgs ks → encs ms ++ r = encs ks → ms.length ≤ ks.length ∧ ks.take ms.length = ms
  | [], ks, _, _, _, _ => ⟨Nat.zero_le _, rfl⟩
  | m :: ms, [], r, hm, _, h => by
    have h0 := hm m (by simp)
    have := congrArg List.length h
    simp only [encs, List.length_append, enc_length, List.length_nil] at this
    omega
  | m :: ms, k :: ks, r, hm, hk, h => by
    have h0 := hm m (by simp)
    have h1 := hk k (by simp)
    simp only [encs, List.append_assoc] at h
    have e1 := nxt_of h0 (encs ms ++ r)
    have e2 := nxt_of h1 (encs ks)
    rw [h, e2] at e1
    obtain ⟨rfl, _⟩ : k = m ∧ _ := by simpa using e1
    obtain ⟨a, b⟩ := front_signs ms ks r (fun x hx => hm x (by simp [hx])) (fun x hx => hk x (by simp [hx])) (List.append_cancel_left h)
    exact ⟨by simp only [List.length_cons]; omega, by simp only [List.length_cons, List.take_succ_cons, b]⟩

/-- Do the first j of the signs ks, or fewer, have k bytes? -/
def endsB (ks : List Int) (k : Nat) : Nat → Bool
  | 0 => decide (k = 0)
  | j + 1 => endsB ks k j || decide ((encs (ks.take (j + 1))).length = k)

theorem endsB_iff (ks : List Int) (k : Nat) : ∀ j, endsB ks k j = true ↔ ∃ i, i ≤ j ∧ (encs (ks.take i)).length = k
  | 0 => by
    simp only [endsB, decide_eq_true_eq]
    exact ⟨fun h => ⟨0, Nat.le_refl _, by simp [encs, h]⟩, fun ⟨i, hi, h⟩ => by
      obtain rfl : i = 0 := by omega
      simp [encs] at h; omega⟩
  | j + 1 => by
    simp only [endsB, Bool.or_eq_true, decide_eq_true_eq, endsB_iff ks k j]
    exact ⟨fun h => by
      rcases h with ⟨i, hi, h⟩ | h
      · exact ⟨i, by omega, h⟩
      · exact ⟨j + 1, Nat.le_refl _, h⟩, fun ⟨i, hi, h⟩ => by
      by_cases e : i = j + 1
      · rw [e] at h; exact .inr h
      · exact .inl ⟨i, by omega, h⟩⟩

theorem encs_take (ks : List Int) (j : Nat) : encs ks = encs (ks.take j) ++ encs (ks.drop j) := by rw [← encs_append, List.take_append_drop]

/-- A text's beginning is a text just if it ends behind a sign. -/
theorem ends_iff {ks : List Int} (h : Sgs ks) {k : Nat} (hk : k ≤ (encs ks).length) : decide (bad ((encs ks).take k) = k) = endsB ks k ks.length := by
  rw [Bool.eq_iff_iff, endsB_iff, decide_eq_true_eq]
  have hb := encs_byt ks
  have hlen : ((encs ks).take k).length = k := by rw [List.length_take]; omega
  constructor
  · intro e
    obtain ⟨h1, h2⟩ := text_of (hb.take k) (by rw [e, hlen])
    have e2 : encs (sgn ((encs ks).take k)) ++ (encs ks).drop k = encs ks := by rw [h2, List.take_append_drop]
    obtain ⟨a, b⟩ := front_signs _ _ _ h1 h e2
    exact ⟨_, a, by rw [b, h2, hlen]⟩
  · rintro ⟨i, hi, e⟩
    have e2 : (encs ks).take k = encs (ks.take i) := by
      rw [encs_take ks i, List.take_append_of_le_length (by omega), List.take_of_length_le (by omega)]
    rw [e2, (text_encs (a := ks.take i) (fun x hx => h x (List.mem_of_mem_take hx))).2, e]
end Go.Proofs.Ytojggmncafjflaa.Utf
