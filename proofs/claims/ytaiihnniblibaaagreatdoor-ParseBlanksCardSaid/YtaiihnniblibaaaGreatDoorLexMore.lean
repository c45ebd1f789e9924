/-
 Plain mathematics of layer 4 (lex), more: names, strings, remarks, cuts. Nothing of the program is imported.
-/
import Derived.Test.YtaiihnniblibaaaGreatDoorJpB
import Derived.Test.YtaiihnniblibaaaGreatDoorUtfMore
namespace Go.Proofs.YtaiihnniblibaaaGreatDoor.Lex
open Utf

/-! ### Texts -/
def Asc (l : List Int) : Prop := ∀ x ∈ l, 0 ≤ x ∧ x < 128
theorem asc_byt {l : List Int} (h : Asc l) : Byt l := fun x hx => by have := h x hx; omega
theorem asc_encs : ∀ {l : List Int}, Asc l → encs l = l ∧ Sgs l
 | [], _ => ⟨rfl, Sgs.nil⟩
 | c :: r, h => by
  obtain ⟨a, b⟩ := asc_encs (l := r) (fun x hx => h x (by simp [hx]))
  have hc := h c (by simp)
  have e := lenI_is1 hc.1 hc.2
  refine ⟨by simp only [encs, a, enc1 e]; rfl, fun k hk => ?_⟩
  rcases List.mem_cons.1 hk with e' | e'
  ·subst e'; omega
  ·exact b k e'
theorem asc_text {l : List Int} (h : Asc l) : bad l = l.length := by
 obtain ⟨a, b⟩ := asc_encs h
 have := (text_encs b).2
 rw [a] at this; exact this
theorem enc_tail {k : Int} {i : Nat} (h1 : 1 ≤ i) (h2 : i < lenI k) : 128 ≤ (enc k).getD i 0 := by
 rcases lenI_cases k with e | e | e | e | e
 ·omega
 ·omega
 ·rw [enc2 e]
  obtain rfl : i = 1 := by omega
  simp; omega
 ·rw [enc3 e]
  obtain rfl | rfl : i = 1 ∨ i = 2 := by omega
  all_goals simp; omega
 ·rw [enc4 e]
  obtain rfl | rfl | rfl : i = 1 ∨ i = 2 ∨ i = 3 := by omega
  all_goals simp; omega
theorem nxt_stuck {r z : List Int} {c : Int} (hr : Byt r) (hz : Byt z) (hc : 0 ≤ c ∧ c < 128) (hne : r ≠ []) (h : nxt r = (-1, 0)) : nxt (r ++ c :: z) = (-1, 0) := by
 have hb : Byt (r ++ c :: z) := hr.append (fun x hx => by
  rcases List.mem_cons.1 hx with e | e
  ·subst e; omega
  ·exact hz x e)
 rcases Nat.eq_zero_or_pos (nxt (r ++ c :: z)).2 with h0 | h0
 ·exact nxt_zero h0
 ·exfalso
  obtain ⟨h1, h2⟩ := nxt_some (k := (nxt (r ++ c :: z)).1) (n := (nxt (r ++ c :: z)).2) hb rfl (by omega)
  generalize (nxt (r ++ c :: z)).1 = k at *
  generalize (nxt (r ++ c :: z)).2 = n at *
  have hle : (enc k).length = n := by rw [enc_length, h1]
  by_cases hn : n ≤ r.length
  ·have e : r = enc k ++ r.drop n := by
    have h3 := congrArg (List.take r.length) h2
    rw [List.take_left, List.drop_append_of_le_length hn, ← List.append_assoc, List.take_append_of_le_length (by rw [List.length_append, List.length_drop]; omega), List.take_of_length_le (by rw [List.length_append, List.length_drop]; omega)] at h3
    exact h3
   rw [e, nxt_of (by omega)] at h
   have : lenI k = 0 := by injection h
   omega
  ·have hp := List.length_pos_iff.2 hne
   have h4 := enc_tail (k := k) (i := r.length) (by omega) (by omega)
   have h5 : (r ++ c :: z).getD r.length 0 = c := by simp [List.getD]
   rw [h2] at h5
   have h6 : (enc k ++ (r ++ c :: z).drop n).getD r.length 0 = (enc k).getD r.length 0 := by
    simp only [List.getD]
    rw [List.getElem?_append_left (by omega)]
   rw [h6] at h5; omega
theorem bad_stuck {a z : List Int} {c : Int} (ha : Byt a) (hz : Byt z) (hc : 0 ≤ c ∧ c < 128) (h : bad a < a.length) : bad (a ++ c :: z) = bad a := by
 obtain ⟨b1, b2, b3, b4, b5⟩ := bad_spec ha
 have hcz : Byt (c :: z) := fun x hx => by
  rcases List.mem_cons.1 hx with e | e
  ·subst e; omega
  ·exact hz x e
 have h1 := nxt_stuck (ha.drop (bad a)) hz hc (by intro e; have := congrArg List.length e; rw [List.length_drop] at this; simp at this; omega) b5
 have h2 := (bad_front (ks := sgn a) (r := a.drop (bad a) ++ c :: z) b1 ((ha.drop _).append hcz)).1
 rw [← List.append_assoc, ← b3] at h2
 have h3 : bad (a.drop (bad a) ++ c :: z) = 0 := by
  have := bad_of (l := a.drop (bad a) ++ c :: z) (a := []) (n := 0) ((ha.drop _).append hcz) Sgs.nil (Nat.zero_le _) (by simp [encs]) (by rw [List.drop_zero, h1])
  exact this.2.symm
 omega
/-- A text that is cut ahead of a byte below 128: both are texts. -/
theorem text_cut {x z : List Int} {c : Int} (hx : Byt x) (hz : Byt z) (hc : 0 ≤ c ∧ c < 128) (h : bad (x ++ c :: z) = (x ++ c :: z).length) : bad x = x.length ∧ bad (c :: z) = (c :: z).length := by
 have hcz : Byt (c :: z) := fun y hy => by
  rcases List.mem_cons.1 hy with e | e
  ·subst e; omega
  ·exact hz y e
 have hle := bad_le hx
 have h1 : bad x = x.length := by
  rcases Nat.lt_or_ge (bad x) x.length with h' | h'
  ·have := bad_stuck hx hz hc h'
   rw [List.length_append] at h; omega
  ·omega
 have := bad_join hx hcz h1
 rw [List.length_append] at h
 exact ⟨h1, by omega⟩

/-! ### What Tokens answers -/
def lexE (xs : List Int) : Int := if bad xs < xs.length then 3 else if left xs = [] then 0 else 4
def lexN (xs : List Int) : Nat := if bad xs < xs.length then bad xs else if left xs = [] then 0 else xs.length - (left xs).length
def lexT (xs : List Int) : List Tok := if lexE xs = 0 then toks xs else []
theorem lex_ok {xs : List Int} {ps : List (Int × List Int)} (h : bad xs = xs.length) (ht : Tiles xs ps []) : lexE xs = 0 ∧ lexN xs = 0 ∧ lexT xs = fin ps 0 true := by
 obtain ⟨h1, h2⟩ := tiles_is ht
 have hE : lexE xs = 0 := by unfold lexE; rw [if_neg (by omega), if_pos h2]
 exact ⟨hE, by unfold lexN; rw [if_neg (by omega), if_pos h2], by unfold lexT toks; rw [if_pos hE, h1]⟩
theorem lexE_zero {xs : List Int} (hb : Byt xs) (h : lexE xs = 0) : bad xs = xs.length ∧ left xs = [] := by
 have hle := bad_le hb
 unfold lexE at h
 split at h
 ·omega
 ·split at h
  ·rename_i h1 h2; exact ⟨by omega, h2⟩
  ·omega
/-! ### One piece -/
def blanksP (l : List Int) : List (Int × List Int) := l.map fun c => (7, [c])
theorem blanks_tiles : ∀ (l z : List Int) (ps : List (Int × List Int)) (e : List Int), (∀ x ∈ l, blk x = true) → Tiles z ps e → Tiles (l ++ z) (blanksP l ++ ps) e
 | [], z, ps, e, _, h => h
 | c :: r, z, ps, e, hb, h => by
  refine ⟨r ++ z, rfl, ?_, by simp, blanks_tiles r z ps e (fun x hx => hb x (by simp [hx])) h⟩
  exact blank_piece _ (hb c (by simp))
theorem blanks_fin : ∀ (l : List Int) (ps : List (Int × List Int)) (n : Nat) (f : Bool), fin (blanksP l ++ ps) n f = fin ps (n + l.length) f
 | [], ps, n, f => rfl
 | c :: r, ps, n, f => by
  have := blanks_fin r ps (n + 1) f
  simp only [blanksP, List.map_cons, List.cons_append] at *
  have e : fin ((7, [c]) :: (List.map (fun c => (7, [c])) r ++ ps)) n f = fin (List.map (fun c => (7, [c])) r ++ ps) (n + 1) f := by simp [fin]
  rw [e, this, List.length_cons]; congr 1; omega
theorem blanks_over : ∀ (l : List Int) (ps : List (Int × List Int)), over (blanksP l ++ ps) = over ps
 | [], _ => rfl
 | c :: r, ps => by
  have := blanks_over r ps
  simp only [blanksP, List.map_cons, List.cons_append] at *
  simp only [over, if_true, this]

theorem lead_top {p : Int → Bool} : ∀ {l : List Int}, (∀ x ∈ l, p x = true) → lead p l = l.length
 | [], _ => rfl
 | c :: r, h => by
  simp only [lead, h c (by simp), if_true, List.length_cons, lead_top (l := r) (fun x hx => h x (by simp [hx]))]
theorem trimL_front {c : Int} (r : List Int) (h : blk c = false) : trimL (c :: r) = trimL r + 1 := by
 simp only [trimL, h, Bool.false_eq_true, if_false]; split <;> omega
/-! ### Cuts -/
end Go.Proofs.YtaiihnniblibaaaGreatDoor.Lex
