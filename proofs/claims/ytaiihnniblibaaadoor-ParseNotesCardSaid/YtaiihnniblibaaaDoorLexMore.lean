/-
 Plain mathematics of layer 4 (lex), more: names, strings, remarks, cuts. Nothing of the program is imported.
-/
import Derived.Test.YtaiihnniblibaaaDoorJpB
import Derived.Test.YtaiihnniblibaaaDoorUtfMore
namespace Go.Proofs.YtaiihnniblibaaaDoor.Lex
open Utf

/-! ### Texts -/
def Asc (l : List Int) : Prop := ∀ x ∈ l, 0 ≤ x ∧ x < 128
theorem asc_byt {l : List Int} (h : Asc l) : Byt l := fun x hx => by have := h x hx; omega
theorem asc_encs : ∀ {l : List Int}, Asc l → encs l = l ∧ Sgs l
 | [], _ => ⟨rfl, Sgs.nil⟩
 | c :: r, h => by
  obtain ⟨a, b⟩ := asc_encs (l := r) (fun x hx => h x (by simp [hx]))
  have hc := h c (by simp)
  have e := lenI_is1 hc.1 hc.2
  refine ⟨by simp only [encs, a, enc1 e]; rfl, fun k hk => ?_⟩
  rcases List.mem_cons.1 hk with e' | e'
  ·subst e'; omega
  ·exact b k e'
theorem asc_text {l : List Int} (h : Asc l) : bad l = l.length := by
 obtain ⟨a, b⟩ := asc_encs h
 have := (text_encs b).2
 rw [a] at this; exact this
theorem enc_tail {k : Int} {i : Nat} (h1 : 1 ≤ i) (h2 : i < lenI k) : 128 ≤ (enc k).getD i 0 := by
 rcases lenI_cases k with e | e | e | e | e
 ·omega
 ·omega
 ·rw [enc2 e]
  obtain rfl : i = 1 := by omega
  simp; omega
 ·rw [enc3 e]
  obtain rfl | rfl : i = 1 ∨ i = 2 := by omega
  all_goals simp; omega
 ·rw [enc4 e]
  obtain rfl | rfl | rfl : i = 1 ∨ i = 2 ∨ i = 3 := by omega
  all_goals simp; omega
theorem nxt_stuck {r z : List Int} {c : Int} (hr : Byt r) (hz : Byt z) (hc : 0 ≤ c ∧ c < 128) (hne : r ≠ []) (h : nxt r = (-1, 0)) : nxt (r ++ c :: z) = (-1, 0) := by
 have hb : Byt (r ++ c :: z) := hr.append (fun x hx => by
  rcases List.mem_cons.1 hx with e | e
  ·subst e; omega
  ·exact hz x e)
 rcases Nat.eq_zero_or_pos (nxt (r ++ c :: z)).2 with h0 | h0
 ·exact nxt_zero h0
 ·exfalso
  obtain ⟨h1, h2⟩ := nxt_some (k := (nxt (r ++ c :: z)).1) (n := (nxt (r ++ c :: z)).2) hb rfl (by omega)
  generalize (nxt (r ++ c :: z)).1 = k at *
  generalize (nxt (r ++ c :: z)).2 = n at *
  have hle : (enc k).length = n := by rw [enc_length, h1]
  by_cases hn : n ≤ r.length
  ·have e : r = enc k ++ r.drop n := by
    have h3 := congrArg (List.take r.length) h2
    rw [List.take_left, List.drop_append_of_le_length hn, ← List.append_assoc, List.take_append_of_le_length (by rw [List.length_append, List.length_drop]; omega), List.take_of_length_le (by rw [List.length_append, List.length_drop]; omega)] at h3
    exact h3
   rw [e, nxt_of (by omega)] at h
   have : lenI k = 0 := by injection h
   omega
  ·have hp := List.length_pos_iff.2 hne
   have h4 := enc_tail (k := k) (i := r.length) (by omega) (by omega)
   have h5 : (r ++ c :: z).getD r.length 0 = c := by simp [List.getD]
   rw [h2] at h5
   have h6 : (enc k ++ (r ++ c :: z).drop n).getD r.length 0 = (enc k).getD r.length 0 := by
    simp only [List.getD]
    rw [List.getElem?_append_left (by omega)]
   rw [h6] at h5; omega
theorem bad_stuck {a z : List Int} {c : Int} (ha : Byt a) (hz : Byt z) (hc : 0 ≤ c ∧ c < 128) (h : bad a < a.length) : bad (a ++ c :: z) = bad a := by
 obtain ⟨b1, b2, b3, b4, b5⟩ := bad_spec ha
 have hcz : Byt (c :: z) := fun x hx => by
  rcases List.mem_cons.1 hx with e | e
  ·subst e; omega
  ·exact hz x e
 have h1 := nxt_stuck (ha.drop (bad a)) hz hc (by intro e; have := congrArg List.length e; rw [List.length_drop] at this; simp at this; omega) b5
 have h2 := (bad_front (ks := sgn a) (r := a.drop (bad a) ++ c :: z) b1 ((ha.drop _).append hcz)).1
 rw [← List.append_assoc, ← b3] at h2
 have h3 : bad (a.drop (bad a) ++ c :: z) = 0 := by
  have := bad_of (l := a.drop (bad a) ++ c :: z) (a := []) (n := 0) ((ha.drop _).append hcz) Sgs.nil (Nat.zero_le _) (by simp [encs]) (by rw [List.drop_zero, h1])
  exact this.2.symm
 omega
theorem byt_cons {c : Int} {l : List Int} (hc : 0 ≤ c ∧ c < 128) (hl : Byt l) : Byt (c :: l) := fun x hx => by
 rcases List.mem_cons.1 hx with e | e
 ·subst e; omega
 ·exact hl x e
theorem bad_cons {c : Int} {l : List Int} (hc : 0 ≤ c ∧ c < 128) (hl : Byt l) : bad (c :: l) = 1 + bad l := by
 have ha : Asc [c] := fun x hx => by simp at hx; subst hx; exact hc
 have := bad_join (a := [c]) (b := l) (asc_byt ha) hl (asc_text ha)
 simpa using this
/-- A text that is cut ahead of a byte below 128: both are texts. -/
theorem text_cut {x z : List Int} {c : Int} (hx : Byt x) (hz : Byt z) (hc : 0 ≤ c ∧ c < 128) (h : bad (x ++ c :: z) = (x ++ c :: z).length) : bad x = x.length ∧ bad (c :: z) = (c :: z).length := by
 have hcz : Byt (c :: z) := fun y hy => by
  rcases List.mem_cons.1 hy with e | e
  ·subst e; omega
  ·exact hz y e
 have hle := bad_le hx
 have h1 : bad x = x.length := by
  rcases Nat.lt_or_ge (bad x) x.length with h' | h'
  ·have := bad_stuck hx hz hc h'
   rw [List.length_append] at h; omega
  ·omega
 have := bad_join hx hcz h1
 rw [List.length_append] at h
 exact ⟨h1, by omega⟩

/-! ### What Tokens answers -/
def lexE (xs : List Int) : Int := if bad xs < xs.length then 3 else if left xs = [] then 0 else 4
def lexN (xs : List Int) : Nat := if bad xs < xs.length then bad xs else if left xs = [] then 0 else xs.length - (left xs).length
def lexT (xs : List Int) : List Tok := if lexE xs = 0 then toks xs else []
theorem lex_ok {xs : List Int} {ps : List (Int × List Int)} (h : bad xs = xs.length) (ht : Tiles xs ps []) : lexE xs = 0 ∧ lexN xs = 0 ∧ lexT xs = fin ps 0 true := by
 obtain ⟨h1, h2⟩ := tiles_is ht
 have hE : lexE xs = 0 := by unfold lexE; rw [if_neg (by omega), if_pos h2]
 exact ⟨hE, by unfold lexN; rw [if_neg (by omega), if_pos h2], by unfold lexT toks; rw [if_pos hE, h1]⟩
theorem lex_text {xs : List Int} (h : bad xs < xs.length) : lexE xs = 3 ∧ lexN xs = bad xs := ⟨by unfold lexE; rw [if_pos h], by unfold lexN; rw [if_pos h]⟩
theorem lex_token {xs z : List Int} {ps : List (Int × List Int)} (h : bad xs = xs.length) (ht : Tiles xs ps z) (hz : z ≠ []) : lexE xs = 4 ∧ lexN xs = xs.length - z.length := by
 obtain ⟨h1, h2⟩ := tiles_is ht
 subst h2
 exact ⟨by unfold lexE; rw [if_neg (by omega), if_neg hz], by unfold lexN; rw [if_neg (by omega), if_neg hz]⟩
theorem lexE_zero {xs : List Int} (hb : Byt xs) (h : lexE xs = 0) : bad xs = xs.length ∧ left xs = [] := by
 have hle := bad_le hb
 unfold lexE at h
 split at h
 ·omega
 ·split at h
  ·rename_i h1 h2; exact ⟨by omega, h2⟩
  ·omega
theorem lexE_cases (xs : List Int) : (bad xs < xs.length ∧ lexE xs = 3) ∨ (¬ bad xs < xs.length ∧ left xs = [] ∧ lexE xs = 0) ∨ (¬ bad xs < xs.length ∧ left xs ≠ [] ∧ lexE xs = 4) := by
 unfold lexE
 by_cases h : bad xs < xs.length
 ·exact .inl ⟨h, if_pos h⟩
 ·by_cases h2 : left xs = []
  ·exact .inr (.inl ⟨h, h2, by rw [if_neg h, if_pos h2]⟩)
  ·exact .inr (.inr ⟨h, h2, by rw [if_neg h, if_neg h2]⟩)

/-! ### One piece -/
theorem tiles_one {t : List Int} {k : Int} (h : piece t = (k, t.length)) (h0 : t.length ≠ 0) : Tiles t [(k, t)] [] := ⟨[], by simp, h, h0, rfl, rfl⟩

/-- A name is one token. -/
def isName (s : List Int) : Bool := decide (0 < s.length) && (kd (s.getD 0 0) == 1) && decide (wordL s = s.length) && !isWord s
theorem lead_full {p : Int → Bool} {l : List Int} (h : lead p l = l.length) : ∀ x ∈ l, p x = true := fun x hx => by
 obtain ⟨i, hi, rfl⟩ := List.mem_iff_getElem.1 hx
 have := lead_all p l i (by omega)
 simpa [List.getD, hi] using this
theorem name_lex {s : List Int} (h : isName s = true) : lexE s = 0 ∧ lexT s = [⟨1, s, 0, true⟩, ⟨6, [], s.length, false⟩] := by
 unfold isName at h
 simp only [Bool.and_eq_true, decide_eq_true_eq, beq_iff_eq, Bool.not_eq_true'] at h
 obtain ⟨⟨⟨h0, h1⟩, h2⟩, h3⟩ := h
 have hasc : Asc s := fun x hx => by
  have := lead_full h2 x hx
  unfold lord at this
  simp only [Bool.or_eq_true, beq_iff_eq, kd_let, kd_dig] at this
  omega
 have hp : piece s = (1, s.length) := by
  cases s with
  | nil => simp at h0
  | cons c r =>
   simp only [List.getD_cons_zero] at h1
   rw [piece_cons, if_pos h1, h2]
 obtain ⟨a, _, b⟩ := lex_ok (asc_text hasc) (tiles_one hp (by omega))
 refine ⟨a, ?_⟩
 rw [b]
 have hc : closes 1 s = true := by unfold closes; rw [if_neg (by omega), if_pos rfl, h3]; rfl
 simp [fin, hc, over]

/-- A text without quotes, backslashes and newlines. -/
def Calm (b : List Int) : Prop := ∀ x ∈ b, x ≠ 34 ∧ x ≠ 92 ∧ x ≠ 10
theorem calm_str : ∀ (b : List Int), Calm b → strT (b ++ [34]) = b.length + 1
 | [], _ => by simp [strT]
 | c :: r, h => by
  have hc := h c (by simp)
  have ih := calm_str r (fun x hx => h x (by simp [hx]))
  rw [List.cons_append]
  conv => lhs; unfold strT
  rw [if_neg hc.1, if_neg hc.2.2, if_neg hc.2.1, ih, if_neg (by omega), List.length_cons]
theorem str_piece {b : List Int} (h : Calm b) : piece (34 :: (b ++ [34])) = (3, b.length + 2) := by
 rw [piece_cons, show kd 34 = 3 from rfl, if_neg (by omega), if_neg (by omega), if_pos rfl]
 simp only [quoL, calm_str b h]
 rw [if_neg (by omega)]
theorem str_lex {b : List Int} (hb : Byt b) (h : Calm b) (ht : bad b = b.length) : lexE (34 :: (b ++ [34])) = 0 ∧ lexT (34 :: (b ++ [34])) = [⟨3, 34 :: (b ++ [34]), 0, true⟩, ⟨6, [], b.length + 2, false⟩] := by
 have hq : Asc [34] := fun x hx => by simp at hx; omega
 have h1 : bad (34 :: (b ++ [34])) = (34 :: (b ++ [34])).length := by
  rw [bad_cons (by omega) (hb.append (asc_byt hq)), bad_join hb (asc_byt hq) ht, asc_text hq]; simp; omega
 obtain ⟨a, _, c⟩ := lex_ok h1 (tiles_one (k := 3) (by rw [str_piece h]; simp) (by simp))
 refine ⟨a, ?_⟩
 rw [c]
 have hc : closes 3 (34 :: (b ++ [34])) = true := rfl
 simp [fin, hc, over]
theorem str_bad {b : List Int} (hb : Byt b) (ht : bad b < b.length) : lexE (34 :: (b ++ [34])) = 3 ∧ lexN (34 :: (b ++ [34])) = 1 + bad b ∧ lexE (47 :: 47 :: b) = 3 ∧ lexN (47 :: 47 :: b) = 2 + bad b := by
 have hq : Asc [34] := fun x hx => by simp at hx; omega
 have h1 : bad (34 :: (b ++ [34])) = 1 + bad b := by
  rw [bad_cons (by omega) (hb.append (asc_byt hq)), bad_stuck hb Byt.nil (by omega) ht]
 have h2 : bad (47 :: 47 :: b) = 2 + bad b := by
  rw [bad_cons (by omega) (byt_cons (by omega) hb), bad_cons (by omega) hb]; omega
 obtain ⟨a, c⟩ := lex_text (xs := 34 :: (b ++ [34])) (by rw [h1]; simp; omega)
 obtain ⟨a', c'⟩ := lex_text (xs := 47 :: 47 :: b) (by rw [h2]; simp; omega)
 exact ⟨a, by rw [c, h1], a', by rw [c', h2]⟩

def blanksP (l : List Int) : List (Int × List Int) := l.map fun c => (7, [c])
theorem blanks_tiles : ∀ (l z : List Int) (ps : List (Int × List Int)) (e : List Int), (∀ x ∈ l, blk x = true) → Tiles z ps e → Tiles (l ++ z) (blanksP l ++ ps) e
 | [], z, ps, e, _, h => h
 | c :: r, z, ps, e, hb, h => by
  refine ⟨r ++ z, rfl, ?_, by simp, blanks_tiles r z ps e (fun x hx => hb x (by simp [hx])) h⟩
  exact blank_piece _ (hb c (by simp))
theorem blanks_fin : ∀ (l : List Int) (ps : List (Int × List Int)) (n : Nat) (f : Bool), fin (blanksP l ++ ps) n f = fin ps (n + l.length) f
 | [], ps, n, f => rfl
 | c :: r, ps, n, f => by
  have := blanks_fin r ps (n + 1) f
  simp only [blanksP, List.map_cons, List.cons_append] at *
  have e : fin ((7, [c]) :: (List.map (fun c => (7, [c])) r ++ ps)) n f = fin (List.map (fun c => (7, [c])) r ++ ps) (n + 1) f := by simp [fin]
  rw [e, this, List.length_cons]; congr 1; omega
theorem blanks_over : ∀ (l : List Int) (ps : List (Int × List Int)), over (blanksP l ++ ps) = over ps
 | [], _ => rfl
 | c :: r, ps => by
  have := blanks_over r ps
  simp only [blanksP, List.map_cons, List.cons_append] at *
  simp only [over, if_true, this]

theorem lead_top {p : Int → Bool} : ∀ {l : List Int}, (∀ x ∈ l, p x = true) → lead p l = l.length
 | [], _ => rfl
 | c :: r, h => by
  simp only [lead, h c (by simp), if_true, List.length_cons, lead_top (l := r) (fun x hx => h x (by simp [hx]))]
theorem trimL_front {c : Int} (r : List Int) (h : blk c = false) : trimL (c :: r) = trimL r + 1 := by
 simp only [trimL, h, Bool.false_eq_true, if_false]; split <;> omega
theorem rem_lex {b : List Int} (hb : Byt b) (h : Calm b) (ht : bad b = b.length) : lexE (47 :: 47 :: b) = 0 ∧ lexT (47 :: 47 :: b) = [⟨5, 47 :: 47 :: b.take (trimL b), 0, true⟩] := by
 have h1 : bad (47 :: 47 :: b) = (47 :: 47 :: b).length := by
  rw [bad_cons (by omega) (byt_cons (by omega) hb), bad_cons (by omega) hb]; simp; omega
 have hl : lineL (47 :: 47 :: b) = (47 :: 47 :: b).length := lead_top (fun x hx => by
  rw [bne_iff_ne]
  rcases List.mem_cons.1 hx with e | e
  ·omega
  ·rcases List.mem_cons.1 e with e | e
   ·omega
   ·exact (h x e).2.2)
 have hr : remL (47 :: 47 :: b) = trimL b + 2 := by
  unfold remL
  rw [hl, List.take_length, trimL_front _ rfl, trimL_front _ rfl]
 have hle := trimL_le b
 have hp : piece (47 :: 47 :: b) = (5, trimL b + 2) := by
  rw [piece_cons, show kd 47 = 4 from rfl, if_neg (by omega), if_neg (by omega), if_neg (by omega), if_pos rfl, if_pos (by simp), hr]
 have htl : Tiles (47 :: 47 :: b) ((5, 47 :: 47 :: b.take (trimL b)) :: blanksP (b.drop (trimL b))) [] := by
  refine ⟨b.drop (trimL b), by simp, by rw [hp]; simp; omega, by simp, ?_⟩
  have := blanks_tiles (b.drop (trimL b)) [] [] [] (fun x hx => ?_) ⟨rfl, rfl⟩
  ·simpa using this
  ·obtain ⟨i, hi, rfl⟩ := List.mem_iff_getElem.1 hx
   rw [List.length_drop] at hi
   have := trimL_blk b (trimL b + i) (by omega) (by omega)
   rw [List.getElem_drop]
   simpa [List.getD, show trimL b + i < b.length by omega] using this
 obtain ⟨a, _, c⟩ := lex_ok h1 htl
 refine ⟨a, ?_⟩
 rw [c]
 have hc : closes 5 (47 :: 47 :: b.take (trimL b)) = false := closes_seven _ 5 (by omega)
 have hf : ∀ n, fin (blanksP (b.drop (trimL b))) n false = [] := fun n => by
  have := blanks_fin (b.drop (trimL b)) [] n false
  rw [List.append_nil] at this
  rw [this]; rfl
 simp [fin, hc, hf]

/-! ### Cuts -/
theorem tiles_more (m : List Int) : ∀ (ps : List (Int × List Int)) (l z : List Int), Tiles l ps z → z ≠ [] → Tiles (l ++ 10 :: m) ps (z ++ 10 :: m)
 | [], l, z, ⟨h1, h2⟩, hz => by
  subst h1
  cases l with
  | nil => exact absurd rfl hz
  | cons c r => exact ⟨rfl, by rw [piece_nl]; exact h2⟩
 | (k, t) :: ps, l, z, ⟨r, h1, h2, h3, h4⟩, hz => by
  refine ⟨r ++ 10 :: m, by rw [h1]; simp, ?_, h3, tiles_more m ps r z h4 hz⟩
  cases l with
  | nil => have := congrArg List.length h1; rw [List.length_append] at this; simp at this; omega
  | cons c l' => rw [piece_nl]; exact h2
theorem tiles_on {m z : List Int} {qs : List (Int × List Int)} (hm : Tiles m qs z) : ∀ (ps : List (Int × List Int)) (l : List Int), Tiles l ps [] → Tiles (l ++ 10 :: m) (ps ++ (8, [10]) :: qs) z
 | [], l, ⟨h1, _⟩ => by
  subst h1
  exact ⟨m, rfl, rfl, by simp, hm⟩
 | (k, t) :: ps, l, ⟨r, h1, h2, h3, h4⟩ => by
  refine ⟨r ++ 10 :: m, by rw [h1]; simp, ?_, h3, tiles_on hm ps r h4⟩
  cases l with
  | nil => have := congrArg List.length h1; rw [List.length_append] at this; simp at this; omega
  | cons c l' => rw [piece_nl]; exact h2

theorem cut_ok {b : List Int} (hb : Byt b) (h : lexE b = 0) : lexE (b ++ [10, 36, 32]) = 4 ∧ lexN (b ++ [10, 36, 32]) = b.length + 1 := by
 obtain ⟨h1, h2⟩ := lexE_zero hb h
 have ht := tiles_of b
 rw [h2] at ht
 have ha : Asc [10, 36, 32] := fun x hx => by simp at hx; omega
 have hbad : bad (b ++ [10, 36, 32]) = (b ++ [10, 36, 32]).length := by rw [bad_join hb (asc_byt ha) h1, asc_text ha]; simp
 have h3 : Tiles [36, 32] [] [36, 32] := ⟨rfl, by decide +kernel⟩
 obtain ⟨a, c⟩ := lex_token hbad (tiles_on h3 _ _ ht) (by simp)
 exact ⟨a, by rw [c]; simp⟩
theorem cut_text {b m : List Int} (hb : Byt b) (hm : Byt m) (h : lexE b = 3) : lexE (b ++ 10 :: m) = 3 ∧ lexN (b ++ 10 :: m) = lexN b := by
 have h1 : bad b < b.length := by
  rcases lexE_cases b with ⟨a, _⟩ | ⟨_, _, a⟩ | ⟨_, _, a⟩
  ·exact a
  ·omega
  ·omega
 have h2 := bad_stuck hb hm (c := 10) (by omega) h1
 obtain ⟨a, c⟩ := lex_text (xs := b ++ 10 :: m) (by rw [h2, List.length_append]; omega)
 exact ⟨a, by rw [c, h2, (lex_text h1).2]⟩
theorem cut_token {b m : List Int} (hb : Byt b) (hm : Byt m) (h : lexE b = 4) : (lexE (b ++ 10 :: m) = 4 ∧ lexN (b ++ 10 :: m) = lexN b) ∨ (lexE (b ++ 10 :: m) = 3 ∧ b.length < lexN (b ++ 10 :: m)) := by
 have hle := bad_le hb
 have h1 : bad b = b.length ∧ left b ≠ [] := by
  rcases lexE_cases b with ⟨_, a⟩ | ⟨_, _, a⟩ | ⟨c, d, _⟩
  ·omega
  ·omega
  ·exact ⟨by omega, d⟩
 have hm10 : Byt (10 :: m) := fun x hx => by
  rcases List.mem_cons.1 hx with e | e
  ·subst e; omega
  ·exact hm x e
 have h2 := bad_join hb hm10 h1.1
 have h3 := bad_cons (c := 10) (by omega) hm
 have hle2 := bad_le (hb.append hm10)
 by_cases h4 : bad (b ++ 10 :: m) < (b ++ 10 :: m).length
 ·obtain ⟨a, c⟩ := lex_text h4
  exact .inr ⟨a, by rw [c]; omega⟩
 ·have ht := tiles_more m _ _ _ (tiles_of b) h1.2
  obtain ⟨a, c⟩ := lex_token (by omega) ht (by simp)
  refine .inl ⟨a, ?_⟩
  rw [c, (lex_token h1.1 (tiles_of b) h1.2).2]
  have := left_le b
  simp only [List.length_append, List.length_cons]; omega

end Go.Proofs.YtaiihnniblibaaaDoor.Lex
