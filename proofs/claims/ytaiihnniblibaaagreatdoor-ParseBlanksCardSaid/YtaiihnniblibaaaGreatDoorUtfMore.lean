/-
 Plain mathematics of layer 1 (utf), more: texts one behind the other, cuts, the order of texts. Nothing of the program is imported.
-/
import Derived.Test.YtaiihnniblibaaaGreatDoorJpC
namespace Go.Proofs.YtaiihnniblibaaaGreatDoor.Utf

/-- Signs, and bytes behind them. -/
theorem bad_front {ks r : List Int} (h : Sgs ks) (hr : Byt r) : bad (encs ks ++ r) = (encs ks).length + bad r ∧ sgn (encs ks ++ r) = ks ++ sgn r := by
 obtain ⟨b1, b2, b3, b4, b5⟩ := bad_spec hr
 have hs : Sgs (ks ++ sgn r) := fun x hx => by
  rcases List.mem_append.1 hx with h' | h'
  ·exact h x h'
  ·exact b1 x h'
 have := bad_of (l := encs ks ++ r) (a := ks ++ sgn r) (n := (encs ks).length + bad r) ((encs_byt ks).append hr) hs (by rw [List.length_append]; omega)
  (by rw [encs_append, List.take_length_add_append]; congr 1; exact bad_take hr) (by rw [List.drop_length_add_append, b5])
 exact ⟨this.2.symm, this.1.symm⟩

theorem bad_join {a b : List Int} (ha : Byt a) (hb : Byt b) (h : bad a = a.length) : bad (a ++ b) = a.length + bad b := by
 obtain ⟨b1, b2, b3, b4, b5⟩ := bad_spec ha
 have e : encs (sgn a) = a := by rw [bad_take ha, h, List.take_length]
 have := (bad_front (ks := sgn a) (r := b) b1 hb).1
 rw [e] at this; exact this

/-! ### The order -/
end Go.Proofs.YtaiihnniblibaaaGreatDoor.Utf
