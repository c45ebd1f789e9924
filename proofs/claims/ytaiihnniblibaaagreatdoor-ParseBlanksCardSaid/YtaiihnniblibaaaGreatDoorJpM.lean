import Derived.Test.YtaiihnniblibaaaGreatDoorLexMore

/-
 Plain mathematics of layer 4 (lex), more: tokens written again are the same tokens. Nothing of the program is imported.
-/
namespace Go.Proofs.YtaiihnniblibaaaGreatDoor.Lex
open Utf

def isEnd (t : Tok) : Prop := t.kind = 6 ∧ t.text = []
instance (t : Tok) : Decidable (isEnd t) := by unfold isEnd; exact inferInstance
def remHead : List Tok → Bool
 | [] => false
 | u :: _ => decide (u.kind = 5) && !u.first
/-- What is written for a token. -/
def part (gp : List Int) (t : Tok) (r : List Tok) : List Int :=
 if isEnd t then (if remHead r then [] else [10]) else gp ++ t.text ++ (if t.kind = 5 then [10] else [])
/-! ### A piece stays what it is, whatever blank or newline stands behind it -/
def Soft (z : List Int) : Prop := z = [] ∨ ∃ c z', z = c :: z' ∧ (blk c = true ∨ c = 10)
theorem soft_not {z : List Int} (h : Soft z) {p : Int → Bool} (hb : ∀ c, blk c = true → p c = false) (hn : p 10 = false) : ∀ c r, z = c :: r → p c = false := by
 rintro c r rfl
 rcases h with h | ⟨c', z', h, hc⟩
 ·cases h
 ·injection h with h1 _
  subst h1
  rcases hc with hc | rfl
  ·exact hb _ hc
  ·exact hn
theorem mark2_soft {c d : Int} (h : blk d = true ∨ d = 10) : [c, d] ∉ marks2 := by
 intro hm
 have : ∀ m ∈ marks2, ¬ (blk (m.getD 1 0) = true ∨ m.getD 1 0 = 10) := by decide +kernel
 exact this _ hm (by simpa using h)
theorem stay {t r z : List Int} {k : Int} (h : piece (t ++ r) = (k, t.length)) (h0 : t.length ≠ 0) (h5 : k ≠ 5) (hz : Soft z) : piece (t ++ z) = (k, t.length) := by
 cases t with
 | nil => simp at h0
 | cons c t' =>
  rw [List.cons_append, piece_cons] at h ⊢
  by_cases k1 : kd c = 1
  ·rw [if_pos k1] at h ⊢
   simp only [Prod.mk.injEq] at h ⊢
   refine ⟨h.1, ?_⟩
   have hw : lead lord ((c :: t') ++ r) = (c :: t').length := h.2
   have ht : lead lord (c :: t') = (c :: t').length := lead_top (fun x hx => by
    obtain ⟨i, hi, rfl⟩ := List.mem_iff_getElem.1 hx
    have := lead_all lord ((c :: t') ++ r) i (by omega)
    simp only [List.getD] at this
    rw [List.getElem?_append_left hi, List.getElem?_eq_getElem hi, Option.getD_some] at this
    exact this)
   exact lead_stay lord (c :: t') z ht (soft_not hz (fun c hc => by
    have := blk_iff.1 hc
    unfold lord; rcases this with rfl | rfl | rfl <;> rfl) rfl)
  rw [if_neg k1] at h ⊢
  by_cases k2 : kd c = 2
  ·rw [if_pos k2] at h ⊢
   simp only [Prod.mk.injEq] at h ⊢
   refine ⟨h.1, ?_⟩
   have hn : numL ((c :: t') ++ r) = (c :: t').length := h.2
   unfold numL at hn
   split at hn
   ·simp at hn
   rename_i hcond
   have ht : lead dig (c :: t') = (c :: t').length := lead_top (fun x hx => by
    obtain ⟨i, hi, rfl⟩ := List.mem_iff_getElem.1 hx
    have := lead_all dig ((c :: t') ++ r) i (by unfold digL at hn; omega)
    simp only [List.getD] at this
    rw [List.getElem?_append_left hi, List.getElem?_eq_getElem hi, Option.getD_some] at this
    exact this)
   have hd : digL ((c :: t') ++ z) = (c :: t').length := lead_stay dig (c :: t') z ht (soft_not hz (fun c hc => by
    have := blk_iff.1 hc
    unfold dig; rcases this with rfl | rfl | rfl <;> rfl) rfl)
   show numL ((c :: t') ++ z) = _
   unfold numL
   rw [hd, if_neg]
   intro ⟨a, b⟩
   apply hcond
   rw [hn]
   exact ⟨a, by simpa using b⟩
  rw [if_neg k2] at h ⊢
  by_cases k3 : kd c = 3
  ·rw [if_pos k3] at h ⊢
   simp only [Prod.mk.injEq] at h ⊢
   refine ⟨h.1, ?_⟩
   have hq := h.2
   simp only [quoL, List.length_cons] at hq ⊢
   split at hq
   ·omega
   rename_i hs0
   have hne : t' ≠ [] := by
    intro e; subst e
    simp only [List.nil_append, List.length_nil] at hq hs0
    omega
   rw [strT_stay z t'.length t' r (Nat.le_refl _) (by omega) hne, if_neg (by have := List.length_pos_iff.2 hne; omega)]
  rw [if_neg k3] at h ⊢
  by_cases k4 : kd c = 4
  ·rw [if_pos k4] at h ⊢
   by_cases h47 : ((c :: (t' ++ r)).take 2 = [47, 47])
   ·rw [if_pos h47] at h
    simp only [Prod.mk.injEq] at h
    exact absurd h.1.symm h5
   rw [if_neg h47] at h
   simp only [Prod.mk.injEq] at h
   have hm := h.2
   unfold markL at hm
   split at hm
   ·rename_i h2
    simp only [List.length_cons] at hm
    match t', hm with
    | [d], _ =>
     have h2' : [c, d] ∈ marks2 := h2
     have h47' : ¬ (c = 47 ∧ d = 47) := by simpa using h47
     rw [if_neg (show ¬ (c :: ([d] ++ z)).take 2 = [47, 47] from by simpa using h47')]
     have hmk : markL (c :: ([d] ++ z)) = 2 := by
      unfold markL
      rw [if_pos (show (c :: ([d] ++ z)).take 2 ∈ marks2 from h2')]
     rw [hmk, ← h.1]; rfl
   ·split at hm
    ·rename_i h2 h1
     simp only [List.length_cons] at hm
     have : t' = [] := List.eq_nil_of_length_eq_zero (by omega)
     subst this
     have h1' : [c] ∈ marks1 := h1
     have hz2 : (c :: z).take 2 ∉ marks2 ∧ (c :: z).take 2 ≠ [47, 47] := by
      rcases hz with rfl | ⟨d, z', rfl, hd⟩
      ·refine ⟨?_, by simp⟩
       have : ∀ m ∈ marks2, m.length = 2 := by decide +kernel
       intro hm
       have := this _ hm
       simp at this
      ·simp only [List.take_succ_cons, List.take_zero]
       refine ⟨mark2_soft hd, ?_⟩
       intro e
       simp at e
       rcases hd with hd | hd
       ·have := blk_iff.1 hd; omega
       ·omega
     rw [if_neg (show ¬ (c :: ([] ++ z)).take 2 = [47, 47] from hz2.2)]
     have hmk : markL (c :: ([] ++ z)) = 1 := by
      unfold markL
      rw [if_neg (show (c :: ([] ++ z)).take 2 ∉ marks2 from hz2.1), if_pos (show (c :: ([] ++ z)).take 1 ∈ marks1 from h1')]
     rw [hmk, ← h.1]; rfl
    ·simp at hm
  ·rw [if_neg k4] at h ⊢
   exact h
theorem stay5 {t r z : List Int} (h : piece (t ++ r) = (5, t.length)) : piece (t ++ 10 :: z) = (5, t.length) := by
 obtain ⟨h2, hr⟩ := piece_five h
 have hle := trimL_le ((t ++ r).take (lineL (t ++ r)))
 rw [List.length_take] at hle
 have hrem : remL (t ++ r) = trimL ((t ++ r).take (lineL (t ++ r))) := rfl
 have hll : t.length ≤ lineL (t ++ r) := by omega
 have hnn : ∀ x ∈ t, (x != 10) = true := fun x hx => by
  obtain ⟨i, hi, rfl⟩ := List.mem_iff_getElem.1 hx
  have := lead_all (fun c => c != 10) (t ++ r) i (by unfold lineL at hll; omega)
  simp only [List.getD] at this
  rw [List.getElem?_append_left hi, List.getElem?_eq_getElem hi, Option.getD_some] at this
  exact this
 have hlt : lineL t = t.length := lead_top hnn
 have hl2 : lineL (t ++ 10 :: z) = t.length := by unfold lineL; rw [lead_nl _ rfl]; exact hlt
 have ht0 : 2 ≤ t.length := by
  have h3 : trimL ((t ++ r).take (lineL (t ++ r))) = t.length := by omega
  match hxx : t ++ r, h2 with
  | a :: b :: u, h2 =>
   simp only [List.take_succ_cons, List.take_zero] at h2
   simp only [List.cons.injEq, and_true] at h2
   obtain ⟨rfl, rfl⟩ := h2
   rw [hxx] at h3
   have e : ∃ v, (47 :: 47 :: u : List Int).take (lineL (47 :: 47 :: u)) = 47 :: 47 :: v := ⟨u.take (lead (fun c => c != 10) u), by
    show List.take (lead (fun c => c != 10) (47 :: 47 :: u)) (47 :: 47 :: u) = _
    simp [lead]⟩
   obtain ⟨v, e⟩ := e
   rw [e, trimL_front _ rfl, trimL_front _ rfl] at h3
   omega
  | [a], h2 => simp at h2
  | [], h2 => simp at h2
 have htr : trimL t = t.length := by
  refine trimL_is t t.length (Nat.le_refl _) (fun hp => ?_) (fun i h1 h2 => absurd h2 (by omega))
  have h3 : trimL ((t ++ r).take (lineL (t ++ r))) = t.length := by omega
  have := trimL_last ((t ++ r).take (lineL (t ++ r))) (by omega)
  rw [h3, getD_take (by omega)] at this
  simp only [List.getD] at this ⊢
  rw [List.getElem?_append_left (by omega)] at this
  exact this
 match t, ht0 with
 | a :: b :: u, _ =>
  have h2' : [a, b] = [47, 47] := by simpa using h2
  have ea : a = 47 ∧ b = 47 := by simpa using h2'
  obtain ⟨rfl, rfl⟩ := ea
  rw [List.cons_append, piece_cons, show kd 47 = 4 from rfl, if_neg (by omega), if_neg (by omega), if_neg (by omega), if_pos rfl, if_pos (by simp)]
  have : remL (47 :: (47 :: u ++ 10 :: z)) = (47 :: 47 :: u).length := by
   have hx : remL ((47 :: 47 :: u) ++ 10 :: z) = trimL (((47 :: 47 :: u) ++ 10 :: z).take (lineL ((47 :: 47 :: u) ++ 10 :: z))) := rfl
   rw [hl2, List.take_left, htr] at hx
   exact hx
  rw [this]

/-! ### The pieces of what is written again -/
/-- A token that is a piece, or an end that was put in. -/
def TokOk (t : Tok) : Prop := isEnd t ∨ (t.kind ≠ 7 ∧ t.kind ≠ 8 ∧ t.text.length ≠ 0 ∧ ∃ r, piece (t.text ++ r) = (t.kind, t.text.length))
theorem over_fin : ∀ (ps : List (Int × List Int)) (n : Nat) (f : Bool), over ps = false → (∀ p ∈ ps, p.2.length ≠ 0) → ∃ t r, fin ps n f = t :: r ∧ t.kind ≠ 5 ∧ t.kind ≠ 7 ∧ t.kind ≠ 8 ∧ t.text.length ≠ 0
 | [], _, _, h, _ => by simp [over] at h
 | (k, t) :: ps, n, f, h, hp => by
  by_cases h7 : k = 7
  ·subst h7
   simp only [over, if_true] at h
   obtain ⟨x, r, e, hx⟩ := over_fin ps (n + t.length) f h (fun p hm => hp p (by simp [hm]))
   exact ⟨x, r, by simp [fin, e], hx⟩
  ·simp only [over, if_neg h7, decide_eq_false_iff_not, not_or] at h
   exact ⟨⟨k, t, n, f⟩, _, by simp only [fin, if_neg h7, if_neg h.1]; rfl, h.2, h7, h.1, hp (k, t) (by simp)⟩
theorem fin_nl (ps : List (Int × List Int)) (n : Nat) (f : Bool) : fin ((8, [10]) :: ps) n f = fin ps (n + 1) true := by simp [fin]
end Go.Proofs.YtaiihnniblibaaaGreatDoor.Lex

/-
 Plain mathematics of layer 4 (lex), more: what is written again is a program of the same tokens. Nothing of the program is imported.
-/
namespace Go.Proofs.YtaiihnniblibaaaGreatDoor.Lex
open Utf

theorem marks_asc : (∀ m ∈ marks2, 0 ≤ m.getD 0 0 ∧ m.getD 0 0 < 128) ∧ (∀ m ∈ marks1, 0 ≤ m.getD 0 0 ∧ m.getD 0 0 < 128) := by decide +kernel
theorem piece_asc {c : Int} {r : List Int} (h : (piece (c :: r)).2 ≠ 0) : 0 ≤ c ∧ c < 128 := by
 have h1 := @kd_let c; have h2 := @kd_dig c; have h3 := @kd_quo c; have h6 := @kd_semi c; have h7 := @kd_blk c; have h8 := @kd_nl c
 rcases kd_cases c with e | e | e | e | e | e | e
 ·have := h1.1 e; omega
 ·have := h2.1 e; omega
 ·have := h3.1 e; omega
 ·rw [piece_cons, if_neg (by omega), if_neg (by omega), if_neg (by omega), if_pos e] at h
  split at h
  ·rename_i h47
   have : c = 47 := by
    cases r with
    | nil => simp at h47
    | cons d r' => simp at h47; exact h47.1
   omega
  ·simp only [markL] at h
   split at h
   ·rename_i hm
    have := marks_asc.1 _ hm
    simpa using this
   ·split at h
    ·rename_i hm
     have := marks_asc.2 _ hm
     simpa using this
    ·exact absurd rfl h
 ·have := h6.1 e; omega
 ·have := h7.1 e; omega
 ·have := h8.1 e; omega

def TextOk (t : List Int) : Prop := Byt t ∧ bad t = t.length
theorem text_nil : TextOk [] := ⟨Byt.nil, rfl⟩
theorem text_join {a b : List Int} (ha : TextOk a) (hb : TextOk b) : TextOk (a ++ b) := ⟨ha.1.append hb.1, by rw [bad_join ha.1 hb.1 ha.2, hb.2, List.length_append]⟩
theorem text_asc {a : List Int} (h : Asc a) : TextOk a := ⟨asc_byt h, asc_text h⟩

/-- The texts of a text's pieces are texts. -/
theorem tiles_text : ∀ (ps : List (Int × List Int)) (l : List Int), Byt l → bad l = l.length → Tiles l ps [] → ∀ p ∈ ps, TextOk p.2
 | [], _, _, _, _, p, hp => by cases hp
 | (k, t) :: ps, l, hb, ht, ⟨r, h1, h2, h3, h4⟩, p, hp => by
  subst h1
  have hbt : Byt t := fun x hx => hb x (by simp [hx])
  have hbr : Byt r := fun x hx => hb x (by simp [hx])
  have key : bad t = t.length ∧ bad r = r.length := by
   cases r with
   | nil => rw [List.append_nil] at ht; exact ⟨ht, rfl⟩
   | cons c r' =>
    have hc : 0 ≤ c ∧ c < 128 := by
     cases ps with
     | nil => have := h4.1; cases this
     | cons q ps' =>
      obtain ⟨k', t'⟩ := q
      obtain ⟨r2, e1, e2, e3, _⟩ := h4
      exact piece_asc (by rw [e2]; exact e3)
    exact text_cut hbt (fun x hx => hbr x (by simp [hx])) hc ht
  rcases List.mem_cons.1 hp with e | e
  ·subst e; exact ⟨hbt, key.1⟩
  ·exact tiles_text ps r hbr key.2 h4 p e
theorem fin_mem : ∀ (ps : List (Int × List Int)) (n : Nat) (f : Bool) (t : Tok), t ∈ fin ps n f → isEnd t ∨ (t.kind ≠ 7 ∧ t.kind ≠ 8 ∧ (t.kind, t.text) ∈ ps)
 | [], _, _, _, h => by cases h
 | (k, s) :: ps, n, f, t, h => by
  have lift : (isEnd t ∨ (t.kind ≠ 7 ∧ t.kind ≠ 8 ∧ (t.kind, t.text) ∈ ps)) → isEnd t ∨ (t.kind ≠ 7 ∧ t.kind ≠ 8 ∧ (t.kind, t.text) ∈ (k, s) :: ps) := fun h => by
   rcases h with h | ⟨a, b, c⟩
   ·exact .inl h
   ·exact .inr ⟨a, b, by simp [c]⟩
  by_cases h8 : k = 8
  ·subst h8
   exact lift (fin_mem ps (n + s.length) true t (by simpa [fin] using h))
  by_cases h7 : k = 7
  ·subst h7
   exact lift (fin_mem ps (n + s.length) f t (by simpa [fin] using h))
  simp only [fin, if_neg h8, if_neg h7] at h
  rcases List.mem_cons.1 h with e | e
  ·subst e; exact .inr ⟨h7, h8, by simp⟩
  ·rcases List.mem_append.1 e with e | e
   ·split at e
    ·simp at e; subst e; exact .inl ⟨rfl, rfl⟩
    ·cases e
   ·exact lift (fin_mem ps (n + s.length) false t e)
theorem tiles_good : ∀ (ps : List (Int × List Int)) (l z : List Int), Tiles l ps z → ∀ p ∈ ps, p.2.length ≠ 0 ∧ ∃ r, piece (p.2 ++ r) = (p.1, p.2.length)
 | [], _, _, _, p, hp => by cases hp
 | (k, t) :: ps, l, z, ⟨r, h1, h2, h3, h4⟩, p, hp => by
  rcases List.mem_cons.1 hp with e | e
  ·subst e; exact ⟨h3, r, by rw [← h1]; exact h2⟩
  ·exact tiles_good ps r z h4 p e

/-! ### How long it is -/
theorem fin_count : ∀ (ps : List (Int × List Int)) (n : Nat) (f : Bool), (fin ps n f).length ≤ 2 * ps.length ∧ ((fin ps n f).map fun t => t.text.length).sum ≤ (cat ps).length
 | [], _, _ => ⟨Nat.le_refl _, Nat.le_refl _⟩
 | (k, t) :: ps, n, f => by
  by_cases h8 : k = 8
  ·subst h8
   have := fin_count ps (n + t.length) true
   simp only [fin, if_true, cat, List.length_cons, List.length_append]; omega
  by_cases h7 : k = 7
  ·subst h7
   have := fin_count ps (n + t.length) f
   have e : fin ((7, t) :: ps) n f = fin ps (n + t.length) f := by simp [fin]
   rw [e]; simp only [cat, List.length_cons, List.length_append]; omega
  have := fin_count ps (n + t.length) false
  simp only [fin, if_neg h8, if_neg h7, cat, List.length_cons, List.length_append, List.map_cons, List.map_append, List.sum_cons, List.sum_append]
  split
  ·simp; omega
  ·simp; omega
theorem pcs_count : ∀ {ps : List (Int × List Int)} {l z : List Int}, Tiles l ps z → ps.length ≤ l.length
 | [], _, _, _ => Nat.zero_le _
 | (k, t) :: ps, l, z, ⟨r, h1, _, h3, h4⟩ => by
  have := pcs_count h4
  rw [h1, List.length_append, List.length_cons]; omega
theorem toks_count {b : List Int} : (lexT b).length ≤ 2 * b.length ∧ ((lexT b).map fun t => t.text.length).sum ≤ b.length := by
 unfold lexT
 split
 ·have h := fin_count (pieces b) 0 true
  have h2 := pcs_count (tiles_of b)
  have h3 := congrArg List.length (tiles_cat (tiles_of b))
  rw [List.length_append] at h3
  unfold toks; omega
 ·simp
end Go.Proofs.YtaiihnniblibaaaGreatDoor.Lex
