/-
  Plain mathematics of layer 1 (utf), more: texts one behind the other, cuts, the order of texts. Nothing of the program is imported.
-/
import Derived.Test.YtojggmncafjflaaUtfMath
namespace Go.Proofs.Ytojggmncafjflaa.Utf

/-- Signs, and bytes behind them. -/
theorem bad_front {ks r : List Int} (h : Sgs ks) (hr : Byt r) : bad (encs ks ++ r) = (encs ks).length + bad r ∧ sgn (encs ks ++ r) = ks ++ sgn r := by
  obtain ⟨b1, b2, b3, b4, b5⟩ := bad_spec hr
  have hs : Sgs (ks ++ sgn r) := fun x hx => by
    rcases List.mem_append.1 hx with h' | h'
    · exact h x h'
    · exact b1 x h'
  have := bad_of (l := encs ks ++ r) (a := ks ++ sgn r) (n := (encs ks).length + bad r) ((encs_byt ks).append hr) hs (by rw [List.length_append]; omega)
    (by rw [encs_append, List.take_length_add_append]; congr 1; exact bad_take hr) (by rw [List.drop_length_add_append, b5])
  exact ⟨this.2.symm, this.1.symm⟩

theorem bad_join {a b : List Int} (ha : Byt a) (hb : Byt b) (h : bad a = a.length) : bad (a ++ b) = a.length + bad b := by
  obtain ⟨b1, b2, b3, b4, b5⟩ := bad_spec ha
  have e : encs (sgn a) = a := by rw [bad_take ha, h, List.take_length]
  have := (bad_front (ks := sgn a) (r := b) b1 hb).1
  rw [e] at this; exact this

theorem bad_more {a b : List Int} (ha : Byt a) (hb : Byt b) : bad a ≤ bad (a ++ b) := by
  obtain ⟨b1, b2, b3, b4, b5⟩ := bad_spec ha
  have := (bad_front (ks := sgn a) (r := a.drop (bad a) ++ b) b1 ((ha.drop _).append hb)).1
  rw [← List.append_assoc, ← b3] at this; omega

/-- The signs of a text are none where nothing stands. -/
theorem text_of {l : List Int} (hl : Byt l) (h : bad l = l.length) : Sgs (sgn l) ∧ encs (sgn l) = l := by
  have := bad_spec hl
  exact ⟨this.1, by rw [bad_take hl, h, List.take_length]⟩

/-- A sign's bytes, cut, are no text. -/
theorem cut_bad {l : List Int} (hl : Byt l) {k : Int} {n : Nat} (h : nxt l = (k, n)) (hn : 2 ≤ n) : bad (l.take (n - 1)) ≠ n - 1 := by
  intro hb
  have hle := nxt_le hl
  rw [h] at hle
  simp only at hle
  have hlen : (l.take (n - 1)).length = n - 1 := by rw [List.length_take]; omega
  obtain ⟨h1, h2⟩ := text_of (hl.take (n - 1)) (by rw [hb, hlen])
  have hd : l = l.take (n - 1) ++ l.drop (n - 1) := (List.take_append_drop _ _).symm
  cases hs : sgn (l.take (n - 1)) with
  | nil =>
    rw [hs] at h2
    have := congrArg List.length h2
    rw [hlen] at this
    simp [encs] at this; omega
  | cons m r =>
    rw [hs] at h1 h2
    have hm := h1 m (by simp)
    simp only [encs] at h2
    have h3 : nxt l = (m, lenI m) := by
      rw [hd, ← h2, List.append_assoc]; exact nxt_of hm _
    rw [h] at h3
    have h4 : n = lenI m := by injection h3
    have := congrArg List.length h2
    rw [List.length_append, enc_length, hlen] at this
    omega
end Go.Proofs.Ytojggmncafjflaa.Utf
