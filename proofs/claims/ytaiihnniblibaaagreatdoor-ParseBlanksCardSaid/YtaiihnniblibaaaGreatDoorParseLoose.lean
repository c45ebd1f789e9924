/-
 Layer 6 (parse), plain mathematics: a program's tokens written loosely are tokens that the parser can't tell apart.
-/
import Derived.Test.YtaiihnniblibaaaGreatDoorJpK
import Derived.Test.YtaiihnniblibaaaGreatDoorJpM
namespace Go.Proofs.YtaiihnniblibaaaGreatDoor.Parse
open Tree Lex Utf
set_option linter.unusedVariables false

/-- What Loose writes for a token. -/
def lpart (gp : List Int) (ends : Bool) (t : Tok) (r : List Tok) : List Int :=
 if isEnd t then (if ends = true then gp ++ [59] else []) ++ (if remHead r then [] else [10])
 else if t.kind = 5 then (if t.first = true then [10] else []) ++ (gp ++ t.text ++ [32, 10])
 else gp ++ t.text
def lo (gp : List Int) (ends : Bool) : List Tok → List Int
 | [] => []
 | t :: r => lpart gp ends t r ++ lo gp ends r
def lpartP (gp : List Int) (ends : Bool) (t : Tok) (r : List Tok) : List (Int × List Int) :=
 if isEnd t then (if ends = true then blanksP gp ++ [(6, [59])] else []) ++ (if remHead r then [] else [(8, [10])])
 else if t.kind = 5 then (if t.first = true then [(8, [10])] else []) ++ (blanksP gp ++ [(5, t.text), (7, [32]), (8, [10])])
 else blanksP gp ++ [(t.kind, t.text)]
def loP (gp : List Int) (ends : Bool) : List Tok → List (Int × List Int)
 | [] => []
 | t :: r => lpartP gp ends t r ++ loP gp ends r

section
variable {gp : List Int} {ends : Bool}
theorem soft_lo (hg : gp ≠ []) (hb : ∀ x ∈ gp, blk x = true) : ∀ L, Soft (lo gp ends L)
 | [] => .inl rfl
 | t :: r => by
  have hgp : ∀ z, Soft (gp ++ z) := fun z => by
   cases gp with
   | nil => exact absurd rfl hg
   | cons c gp' => exact .inr ⟨c, _, rfl, .inl (hb c (by simp))⟩
  unfold lo lpart
  split
  ·split
   ·rw [List.append_assoc, List.append_assoc]; exact hgp _
   ·split
    ·simpa using soft_lo hg hb r
    ·exact .inr ⟨10, _, rfl, .inr rfl⟩
  ·split
   ·split
    ·exact .inr ⟨10, _, rfl, .inr rfl⟩
    ·rw [List.nil_append, List.append_assoc, List.append_assoc]; exact hgp _
   ·rw [List.append_assoc]; exact hgp _
/-- A remark stays, whatever blanks stand behind it on its line. -/
theorem stay5b {t r z : List Int} (h : piece (t ++ r) = (5, t.length)) : piece (t ++ 32 :: 10 :: z) = (5, t.length) := by
 have h1 := stay5 (z := z) h
 obtain ⟨h2, hr⟩ := piece_five h1
 have ht0 : 2 ≤ t.length := by
  match t, h2 with
  | a :: b :: u, _ => simp
  | [a], h2 => simp at h2
  | [], h2 => simp at h2
 have hnn : ∀ x ∈ t, (x != 10) = true := by
  have hle := trimL_le ((t ++ 10 :: z).take (lineL (t ++ 10 :: z)))
  rw [List.length_take] at hle
  have hrem : remL (t ++ 10 :: z) = trimL ((t ++ 10 :: z).take (lineL (t ++ 10 :: z))) := rfl
  intro x hx
  obtain ⟨i, hi, rfl⟩ := List.mem_iff_getElem.1 hx
  have := lead_all (fun c => c != 10) (t ++ 10 :: z) i (by unfold lineL at hle hrem; omega)
  simp only [List.getD] at this
  rw [List.getElem?_append_left hi, List.getElem?_eq_getElem hi, Option.getD_some] at this
  exact this
 have hl1 : lineL (t ++ 10 :: z) = t.length := by unfold lineL; rw [lead_nl _ rfl]; exact lead_top hnn
 have hl2 : lineL (t ++ 32 :: 10 :: z) = t.length + 1 := by
  have e : t ++ 32 :: 10 :: z = (t ++ [32]) ++ 10 :: z := by simp
  rw [e]; unfold lineL; rw [lead_nl _ rfl]
  rw [lead_top (fun x hx => by
   rcases List.mem_append.1 hx with hx | hx
   ·exact hnn x hx
   ·simp at hx; subst hx; rfl)]
  simp
 have htr : trimL t = t.length := by
  have : remL (t ++ 10 :: z) = trimL ((t ++ 10 :: z).take (lineL (t ++ 10 :: z))) := rfl
  rw [hl1, List.take_left] at this
  omega
 have htr2 : trimL (t ++ [32]) = t.length := by
  refine trimL_is (t ++ [32]) t.length (by simp) (fun hp => ?_) (fun i h1 h2 => ?_)
  ·have := trimL_last t (by omega)
   rw [htr] at this
   simp only [List.getD] at this ⊢
   rw [List.getElem?_append_left (by omega)]
   exact this
  ·have : i = t.length := by simp at h2; omega
   subst this
   simp [List.getD]; rfl
 match t, ht0, h2 with
 | a :: b :: u, _, h2 =>
  have h2' : [a, b] = [47, 47] := by simpa using h2
  have ea : a = 47 ∧ b = 47 := by simpa using h2'
  obtain ⟨rfl, rfl⟩ := ea
  rw [List.cons_append, piece_cons, show kd 47 = 4 from rfl, if_neg (by omega), if_neg (by omega), if_neg (by omega), if_pos rfl, if_pos (by simp)]
  have : remL (47 :: (47 :: u ++ 32 :: 10 :: z)) = (47 :: 47 :: u).length := by
   have hx : remL ((47 :: 47 :: u) ++ 32 :: 10 :: z) = trimL (((47 :: 47 :: u) ++ 32 :: 10 :: z).take (lineL ((47 :: 47 :: u) ++ 32 :: 10 :: z))) := rfl
   rw [hl2, show (47 :: 47 :: u) ++ 32 :: 10 :: z = ((47 :: 47 :: u) ++ [32]) ++ 10 :: z by simp, List.take_left' (by simp), htr2] at hx
   have e : (47 :: 47 :: u) ++ [32] ++ 10 :: z = 47 :: (47 :: u ++ 32 :: 10 :: z) := by simp
   rw [e] at hx
   exact hx
  rw [this]
theorem tiles_lo (hg : gp ≠ []) (hb : ∀ x ∈ gp, blk x = true) : ∀ L : List Tok, (∀ t ∈ L, TokOk t) → Tiles (lo gp ends L) (loP gp ends L) []
 | [], _ => ⟨rfl, rfl⟩
 | t :: r, h => by
  have ih := tiles_lo hg hb r (fun x hx => h x (by simp [hx]))
  unfold lo loP lpart lpartP
  by_cases he : isEnd t
  ·rw [if_pos he, if_pos he]
   have hn : Tiles ((if remHead r = true then [] else [10]) ++ lo gp ends r) ((if remHead r = true then [] else [(8, [10])]) ++ loP gp ends r) [] := by
    split
    ·simpa using ih
    ·exact ⟨lo gp ends r, rfl, rfl, by simp, ih⟩
   rw [List.append_assoc, List.append_assoc]
   split
   ·rw [List.append_assoc, List.append_assoc]
    exact blanks_tiles gp _ _ _ hb ⟨_, rfl, rfl, by simp, hn⟩
   ·simpa using hn
  ·rw [if_neg he, if_neg he]
   rcases h t (by simp) with h' | ⟨_, _, h0, q, hp⟩
   ·exact absurd h' he
   by_cases h5 : t.kind = 5
   ·rw [if_pos h5, if_pos h5]
    rw [h5] at hp
    have hn : Tiles (gp ++ (t.text ++ 32 :: 10 :: lo gp ends r)) (blanksP gp ++ ((5, t.text) :: (7, [32]) :: (8, [10]) :: loP gp ends r)) [] :=
     blanks_tiles gp _ _ _ hb ⟨32 :: 10 :: lo gp ends r, rfl, stay5b hp, h0, 10 :: lo gp ends r, rfl, rfl, by simp, lo gp ends r, rfl, rfl, by simp, ih⟩
    simp only [List.append_assoc, List.cons_append, List.nil_append]
    split
    ·exact ⟨_, rfl, rfl, by simp, by simpa using hn⟩
    ·simpa using hn
   ·rw [if_neg h5, if_neg h5]
    simp only [List.append_assoc, List.cons_append, List.nil_append]
    exact blanks_tiles gp _ _ _ hb ⟨lo gp ends r, rfl, stay hp h0 h5 (soft_lo hg hb r), h0, ih⟩

theorem still_head : ∀ (ps : List (Int × List Int)) (n : Nat) (f : Bool), Still ps → remHead (fin ps n f) = false
 | [], _, _, _ => rfl
 | (k, t) :: ps, n, f, h => by
  rcases h with ⟨rfl, h⟩ | rfl
  ·have e : fin ((7, t) :: ps) n f = fin ps (n + t.length) f := by simp [fin]
   rw [e]; exact still_head ps _ _ h
  ·have e : fin ((8, t) :: ps) n f = fin ps (n + t.length) true := by simp [fin]
   rw [e]; exact first_head ps _
where
 first_head : ∀ (ps : List (Int × List Int)) (n : Nat), remHead (fin ps n true) = false
 | [], _ => rfl
 | (k, t) :: ps, n => by
  by_cases h8 : k = 8
  ·simp only [fin, if_pos h8]; exact first_head ps _
  by_cases h7 : k = 7
  ·simp only [fin, if_neg h8, if_pos h7]; exact first_head ps _
  simp only [fin, if_neg h8, if_neg h7, remHead, Bool.not_true, Bool.and_false]
theorem over_remL {L : List Tok} (h : remHead L = true) : Lex.over (loP gp ends L) = true := by
 cases L with
 | nil => cases h
 | cons u r =>
  simp only [remHead, Bool.and_eq_true, decide_eq_true_eq, Bool.not_eq_true'] at h
  have he : ¬ isEnd u := fun e => by unfold isEnd at e; omega
  unfold loP lpartP
  rw [if_neg he, if_pos h.1, h.2, if_neg (by decide), List.nil_append, List.append_assoc, blanks_over]
  simp [Lex.over]
theorem over_tokL {t : Tok} {r : List Tok} (h5 : t.kind ≠ 5) (h7 : t.kind ≠ 7) (h8 : t.kind ≠ 8) (h0 : t.text.length ≠ 0) : Lex.over (loP gp ends (t :: r)) = false := by
 have he : ¬ isEnd t := fun e => by unfold isEnd at e; rw [e.2] at h0; simp at h0
 unfold loP lpartP
 rw [if_neg he, if_neg h5, List.append_assoc, blanks_over]
 simp [Lex.over, h5, h7, h8]
theorem sm_tok {k : Int} {t : List Int} {n m : Nat} {f g : Bool} (h6 : k = 6 → t = [59]) (hf : k = 5 → f = g) : Sm (tkOf ⟨k, t, n, f⟩) (tkOf ⟨k, t, m, g⟩) :=
 ⟨rfl, fun _ => rfl, hf, fun e => by
  have : t = [59] := h6 e
  subst this
  exact ⟨.inr (by decide +kernel : (strOfNums [59]).toList = [59]), .inr (by decide +kernel : (strOfNums [59]).toList = [59])⟩⟩
theorem sm_end {n m : Nat} : Sm (tkOf ⟨6, [], n, false⟩) (tkOf ⟨6, [], m, false⟩) :=
 ⟨rfl, fun _ => rfl, fun _ => rfl, fun _ => ⟨.inl (by decide +kernel : (strOfNums []).toList = []), .inl (by decide +kernel : (strOfNums []).toList = [])⟩⟩
theorem sm_semi {n m : Nat} : Sm (tkOf ⟨6, [], n, false⟩) (tkOf ⟨6, [59], m, false⟩) :=
 ⟨rfl, fun e => absurd rfl e, fun _ => rfl, fun _ => ⟨.inl (by decide +kernel : (strOfNums []).toList = []), .inr (by decide +kernel : (strOfNums [59]).toList = [59])⟩⟩
/-- What is written loosely is read as tokens that can't be told apart. -/
theorem lo_again : ∀ (ps : List (Int × List Int)) (n : Nat) (f : Bool) (n' : Nat) (f' : Bool), (∀ p ∈ ps, p.2.length ≠ 0) → (∀ p ∈ ps, p.1 = 6 → p.2 = [59]) → RemOk ps → (remHead (fin ps n f) = true → f' = false) →
  Ap [] ((fin ps n f).map tkOf) ((fin (loP gp ends (fin ps n f)) n' f').map tkOf)
 | [], _, _, _, _, _, _, _, _ => .nil
 | (k, t) :: ps, n, f, n', f', hp, h6, hro, hi => by
  have hp' : ∀ p ∈ ps, p.2.length ≠ 0 := fun p hm => hp p (by simp [hm])
  have h6' : ∀ p ∈ ps, p.1 = 6 → p.2 = [59] := fun p hm => h6 p (by simp [hm])
  have h0 : t.length ≠ 0 := hp (k, t) (by simp)
  have hk6 : k = 6 → t = [59] := h6 (k, t) (by simp)
  by_cases h8 : k = 8
  ·subst h8
   have e : fin ((8, t) :: ps) n f = fin ps (n + t.length) true := by simp [fin]
   rw [e] at hi ⊢
   exact lo_again ps _ true n' f' hp' h6' hro.2 hi
  by_cases h7 : k = 7
  ·subst h7
   have e : fin ((7, t) :: ps) n f = fin ps (n + t.length) f := by simp [fin]
   rw [e] at hi ⊢
   exact lo_again ps _ f n' f' hp' h6' hro.2 hi
  have he : ¬ isEnd ⟨k, t, n, f⟩ := fun e => h0 (by have := e.2; simp only at this; rw [this]; rfl)
  have hE : isEnd ⟨6, [], n + t.length, false⟩ := ⟨rfl, rfl⟩
  have IH := fun m g => lo_again ps (n + t.length) false m g hp' h6' hro.2
  by_cases hco : (closes k t && Lex.over ps) = true
  ·have hf : fin ((k, t) :: ps) n f = ⟨k, t, n, f⟩ :: ⟨6, [], n + t.length, false⟩ :: fin ps (n + t.length) false := by
    simp only [fin, if_neg h8, if_neg h7, hco, if_true]; rfl
   have hcl : closes k t = true := by simp only [Bool.and_eq_true] at hco; exact hco.1
   have h5 : k ≠ 5 := fun e => by rw [closes_seven t k (by omega)] at hcl; cases hcl
   rw [hf]
   clear hi
   generalize fin ps (n + t.length) false = R at *
   have h1 : loP gp ends (⟨k, t, n, f⟩ :: ⟨6, [], n + t.length, false⟩ :: R) = blanksP gp ++ ((k, t) :: ((if ends = true then blanksP gp ++ [(6, [59])] else []) ++ ((if remHead R then [] else [(8, [10])]) ++ loP gp ends R))) := by
    simp only [loP, lpartP, if_neg he, if_pos hE, if_neg h5, List.append_assoc, List.cons_append, List.nil_append]
   rw [h1, blanks_fin]
   have hY : ∀ m, Ap [] (R.map tkOf) ((fin ((if remHead R then [] else [(8, [10])]) ++ loP gp ends R) m false).map tkOf) := fun m => by
    by_cases hr : remHead R = true
    ·rw [if_pos hr, List.nil_append]; exact IH m false fun _ => rfl
    ·rw [if_neg hr]
     show Ap [] _ ((fin ((8, [10]) :: loP gp ends R) m false).map tkOf)
     rw [fin_nl]; exact IH _ true fun q => absurd q hr
   by_cases hen : ends = true
   ·rw [if_pos hen]
    have h2 : ∀ m g, fin ((k, t) :: (blanksP gp ++ [(6, [59])] ++ ((if remHead R then [] else [(8, [10])]) ++ loP gp ends R))) m g = ⟨k, t, m, g⟩ :: ⟨6, [59], m + t.length + gp.length, false⟩ ::
      fin ((if remHead R then [] else [(8, [10])]) ++ loP gp ends R) (m + t.length + gp.length + 1) false := fun m g => by
     generalize (if remHead R then [] else [(8, [10])]) ++ loP gp ends R = Y
     have ho : Lex.over (blanksP gp ++ [(6, [59])] ++ Y) = false := by rw [List.append_assoc, blanks_over]; rfl
     have hc6 : closes 6 [59] = false := closes_seven _ 6 (by omega)
     conv => lhs; unfold fin
     rw [if_neg h8, if_neg h7, ho, Bool.and_false, List.append_assoc, blanks_fin]
     show _ :: ([] ++ fin ((6, [59]) :: Y) _ false) = _
     conv => lhs; arg 2; rw [List.nil_append]; unfold fin
     rw [if_neg (by decide), if_neg (by decide), hc6]; rfl
    rw [h2]
    simp only [List.map_cons]
    exact .cons (sm_tok hk6 fun e => absurd e h5) (.cons sm_semi (hY _))
   ·rw [if_neg hen, List.nil_append]
    have ho : Lex.over ((if remHead R then [] else [(8, [10])]) ++ loP gp ends R) = true := by
     by_cases hr : remHead R = true
     ·rw [if_pos hr, List.nil_append]; exact over_remL hr
     ·rw [if_neg hr]; rfl
    have h2 : ∀ m g, fin ((k, t) :: ((if remHead R then [] else [(8, [10])]) ++ loP gp ends R)) m g = ⟨k, t, m, g⟩ :: ⟨6, [], m + t.length, false⟩ :: fin ((if remHead R then [] else [(8, [10])]) ++ loP gp ends R) (m + t.length) false := fun m g => by
     generalize (if remHead R then [] else [(8, [10])]) ++ loP gp ends R = Y at *
     simp only [fin, if_neg h8, if_neg h7, hcl, ho, Bool.and_true, if_true]; rfl
    rw [h2]
    simp only [List.map_cons]
    exact .cons (sm_tok hk6 fun e => absurd e h5) (.cons sm_end (hY _))
  ·have hco' : (closes k t && Lex.over ps) = false := by simpa using hco
   have hf : fin ((k, t) :: ps) n f = ⟨k, t, n, f⟩ :: fin ps (n + t.length) false := by
    simp only [fin, if_neg h8, if_neg h7, hco', Bool.false_eq_true, if_false, List.nil_append]
   rw [hf] at hi ⊢
   have hov : closes k t = true → Lex.over (loP gp ends (fin ps (n + t.length) false)) = false := fun hcl => by
    rw [hcl, Bool.true_and] at hco'
    obtain ⟨x, r, e, a, b, c, d⟩ := over_fin ps (n + t.length) false hco' hp'
    rw [e]; exact over_tokL a b c d
   have hst : k = 5 → remHead (fin ps (n + t.length) false) = false := fun h5 => still_head ps _ _ (hro.1 h5)
   generalize fin ps (n + t.length) false = R at *
   by_cases h5 : k = 5
   ·have h1 : loP gp ends (⟨k, t, n, f⟩ :: R) = (if f = true then [(8, [10])] else []) ++ (blanksP gp ++ ((5, t) :: (7, [32]) :: (8, [10]) :: loP gp ends R)) := by
     simp only [loP, lpartP, if_neg he, if_pos h5, List.append_assoc, List.cons_append, List.nil_append]
    rw [h1]
    subst h5
    have hcl : closes 5 t = false := closes_seven t 5 (by omega)
    have h2 : ∀ m g, fin (blanksP gp ++ ((5, t) :: (7, [32]) :: (8, [10]) :: loP gp ends R)) m g = ⟨5, t, m + gp.length, g⟩ :: fin (loP gp ends R) (m + gp.length + t.length + 1 + 1) true := fun m g => by
     rw [blanks_fin]
     conv => lhs; unfold fin
     rw [if_neg (by decide), if_neg (by decide), hcl, Bool.false_and]
     show _ :: ([] ++ fin ((7, [32]) :: (8, [10]) :: loP gp ends R) _ false) = _
     have e : ∀ q, fin ((7, [32]) :: (8, [10]) :: loP gp ends R) q false = fin ((8, [10]) :: loP gp ends R) (q + 1) false := fun q => by
      conv => lhs; unfold fin
      rw [if_neg (by decide), if_pos rfl]; rfl
     rw [List.nil_append, e, fin_nl]
    have hz : ∀ m, Ap [] (R.map tkOf) ((fin (loP gp ends R) m true).map tkOf) := fun m => IH m true fun q => by rw [hst rfl] at q; cases q
    cases f with
    | true =>
     rw [if_pos rfl]
     rw [List.cons_append, List.nil_append, fin_nl, h2]
     simp only [List.map_cons]
     exact .cons (sm_tok hk6 fun _ => rfl) (hz _)
    | false =>
     obtain rfl : f' = false := hi rfl
     rw [if_neg (by decide), List.nil_append, h2]
     simp only [List.map_cons]
     exact .cons (sm_tok hk6 fun _ => rfl) (hz _)
   ·have h1 : loP gp ends (⟨k, t, n, f⟩ :: R) = blanksP gp ++ ((k, t) :: loP gp ends R) := by
     simp only [loP, lpartP, if_neg he, if_neg h5, List.append_assoc, List.cons_append, List.nil_append]
    rw [h1, blanks_fin]
    have hb : (closes k t && Lex.over (loP gp ends R)) = false := by
     cases hcl : closes k t
     ·rfl
     ·rw [hov hcl]; rfl
    have h2 : ∀ m g, fin ((k, t) :: loP gp ends R) m g = ⟨k, t, m, g⟩ :: fin (loP gp ends R) (m + t.length) false := fun m g => by
     simp only [fin, if_neg h8, if_neg h7, hb, Bool.false_eq_true, if_false, List.nil_append]
    rw [h2]
    simp only [List.map_cons]
    exact .cons (sm_tok hk6 fun e => absurd e h5) (IH _ false fun _ => rfl)
theorem text_lo (hg : TextOk gp) : ∀ L : List Tok, (∀ t ∈ L, TextOk t.text) → TextOk (lo gp ends L)
 | [], _ => text_nil
 | t :: r, h => by
  have ha : ∀ l : List Int, (∀ x ∈ l, 0 ≤ x ∧ x < 128) → TextOk l := fun l hl => text_asc hl
  have h10 : TextOk [10] := ha _ (by decide)
  have h59 : TextOk [59] := ha _ (by decide)
  have h32 : TextOk [32, 10] := ha _ (by decide)
  refine text_join ?_ (text_lo hg r (fun x hx => h x (by simp [hx])))
  unfold lpart
  split
  ·refine text_join ?_ ?_
   ·split
    ·exact text_join hg h59
    ·exact text_nil
   ·split
    ·exact text_nil
    ·exact h10
  ·split
   ·refine text_join ?_ (text_join (text_join hg (h t (by simp))) h32)
    split
    ·exact h10
    ·exact text_nil
   ·exact text_join hg (h t (by simp))
/-- A program written loosely is read as the same tree. -/
theorem parse_loose {xs : List Int} {n : Nd} {r : List Tk} (hb : Byt xs) (h : parseR xs = .ok n r) (hg : gp ≠ []) (hbl : ∀ x ∈ gp, blk x = true) :
  Byt (10 :: lo gp ends (toks xs)) ∧ parseR (10 :: lo gp ends (toks xs)) = .ok n [] := by
 obtain ⟨h0, c, h1, rfl⟩ := parse_ok h
 obtain ⟨e1, e2⟩ := lexE_zero hb h0
 have ht := tiles_of xs
 rw [e2] at ht
 have hgood := tiles_good _ _ _ ht
 have htext := tiles_text _ _ hb e1 ht
 have hgt : TextOk gp := text_asc (fun x hx => by have := blk_iff.1 (hbl x hx); omega)
 have hx := text_lo (ends := ends) hgt (fin (pieces xs) 0 true) (fun t hm => by
  rcases fin_mem _ _ _ t hm with e | ⟨_, _, e⟩
  ·rw [e.2]; exact text_nil
  ·exact htext _ e)
 have hy := tiles_lo (ends := ends) hg hbl (fin (pieces xs) 0 true) (fun t hm => by
  rcases fin_mem _ _ _ t hm with e | ⟨a, c, e⟩
  ·exact .inl e
  ·obtain ⟨p, q⟩ := hgood _ e
   exact .inr ⟨a, c, p, q⟩)
 have h10 : TextOk [10] := text_asc (fun x hx => by simp at hx; omega)
 have hj := text_join h10 hx
 have hy2 : Tiles (10 :: lo gp ends (toks xs)) ((8, [10]) :: loP gp ends (toks xs)) [] := ⟨_, rfl, rfl, by simp, hy⟩
 obtain ⟨k0, _, k1⟩ := lex_ok hj.2 hy2
 refine ⟨hj.1, parse_is k0 ?_⟩
 unfold lexT at k1
 rw [if_pos k0] at k1
 have k2 : toks (10 :: lo gp ends (toks xs)) = fin (loP gp ends (toks xs)) 1 true := by
  have k3 : toks (10 :: lo gp ends (toks xs)) = fin ((8, [10]) :: loP gp ends (toks xs)) 0 true := k1
  rw [k3, fin_nl]
 rw [k2]
 exact file_sm h1 (lo_again (pieces xs) 0 true 1 true (fun p hp => (hgood p hp).1) (tiles_semi ht) (remOk_of _ _ ht) fun q => by
  rw [still_head.first_head] at q; cases q)
/-! ### How long it is -/
theorem lo_len (gp : List Int) (ends : Bool) : ∀ L : List Tok, (lo gp ends L).length ≤ (gp.length + 3) * L.length + (L.map fun t => t.text.length).sum
 | [] => Nat.le_refl _
 | t :: r => by
  have ih := lo_len gp ends r
  have hp : (lpart gp ends t r).length ≤ gp.length + 3 + t.text.length := by
   unfold lpart
   repeat' split
   all_goals (simp only [List.length_append, List.length_cons, List.length_nil]; omega)
  simp only [lo, List.length_append, List.length_cons, List.map_cons, List.sum_cons]
  rw [Nat.mul_add, Nat.mul_one]
  omega
end
end Go.Proofs.YtaiihnniblibaaaGreatDoor.Parse
