/-
  Plain mathematics of layer 4 (lex), more: tokens written again are the same tokens. Nothing of the program is imported.
-/
import Derived.Test.YtiadbagfajhjfaaDoorLexMore
namespace Go.Proofs.YtiadbagfajhjfaaDoor.Lex
open Utf

def isEnd (t : Tok) : Prop := t.kind = 6 ∧ t.text = []
instance (t : Tok) : Decidable (isEnd t) := by unfold isEnd; exact inferInstance
def remHead : List Tok → Bool
  | [] => false
  | u :: _ => decide (u.kind = 5) && !u.first
/-- What is written for a token. -/
def part (gp : List Int) (t : Tok) (r : List Tok) : List Int :=
  if isEnd t then (if remHead r then [] else [10]) else gp ++ t.text ++ (if t.kind = 5 then [10] else [])
def ag (gp : List Int) : List Tok → List Int
  | [] => []
  | t :: r => part gp t r ++ ag gp r
def partP (gp : List Int) (t : Tok) (r : List Tok) : List (Int × List Int) :=
  if isEnd t then (if remHead r then [] else [(8, [10])]) else blanksP gp ++ (t.kind, t.text) :: (if t.kind = 5 then [(8, [10])] else [])
def agP (gp : List Int) : List Tok → List (Int × List Int)
  | [] => []
  | t :: r => partP gp t r ++ agP gp r

/-! ### A piece stays what it is, whatever blank or newline stands behind it -/
def Soft (z : List Int) : Prop := z = [] ∨ ∃ c z', z = c :: z' ∧ (blk c = true ∨ c = 10)
theorem soft_not {z : List Int} (h : Soft z) {p : Int → Bool} (hb : ∀ c, blk c = true → p c = false) (hn : p 10 = false) : ∀ c r, z = c :: r → p c = false := by
  rintro c r rfl
  rcases h with h | ⟨c', z', h, hc⟩
  · cases h
  · injection h with h1 _
    subst h1
    rcases hc with hc | rfl
    · exact hb _ hc
    · exact hn
theorem mark2_soft {c d : Int} (h : blk d = true ∨ d = 10) : [c, d] ∉ marks2 := by
  intro hm
  have : ∀ m ∈ marks2, ¬ (blk (m.getD 1 0) = true ∨ m.getD 1 0 = 10) := by decide +kernel
  exact this _ hm (by simpa using h)
theorem stay {t r z : List Int} {k : Int} (h : piece (t ++ r) = (k, t.length)) (h0 : t.length ≠ 0) (h5 : k ≠ 5) (hz : Soft z) : piece (t ++ z) = (k, t.length) := by
  cases t with
  | nil => simp at h0
  | cons c t' =>
    rw [List.cons_append, piece_cons] at h ⊢
    by_cases k1 : kd c = 1
    · rw [if_pos k1] at h ⊢
      simp only [Prod.mk.injEq] at h ⊢
      refine ⟨h.1, ?_⟩
      have hw : lead lord ((c :: t') ++ r) = (c :: t').length := h.2
      have ht : lead lord (c :: t') = (c :: t').length := lead_top (fun x hx => by
        obtain ⟨i, hi, rfl⟩ := List.mem_iff_getElem.1 hx
        have := lead_all lord ((c :: t') ++ r) i (by omega)
        simp only [List.getD] at this
        rw [List.getElem?_append_left hi, List.getElem?_eq_getElem hi, Option.getD_some] at this
        exact this)
      exact lead_stay lord (c :: t') z ht (soft_not hz (fun c hc => by
        have := blk_iff.1 hc
        unfold lord; rcases this with rfl | rfl | rfl <;> rfl) rfl)
    rw [if_neg k1] at h ⊢
    by_cases k2 : kd c = 2
    · rw [if_pos k2] at h ⊢
      simp only [Prod.mk.injEq] at h ⊢
      refine ⟨h.1, ?_⟩
      have hn : numL ((c :: t') ++ r) = (c :: t').length := h.2
      unfold numL at hn
      split at hn
      · simp at hn
      rename_i hcond
      have ht : lead dig (c :: t') = (c :: t').length := lead_top (fun x hx => by
        obtain ⟨i, hi, rfl⟩ := List.mem_iff_getElem.1 hx
        have := lead_all dig ((c :: t') ++ r) i (by unfold digL at hn; omega)
        simp only [List.getD] at this
        rw [List.getElem?_append_left hi, List.getElem?_eq_getElem hi, Option.getD_some] at this
        exact this)
      have hd : digL ((c :: t') ++ z) = (c :: t').length := lead_stay dig (c :: t') z ht (soft_not hz (fun c hc => by
        have := blk_iff.1 hc
        unfold dig; rcases this with rfl | rfl | rfl <;> rfl) rfl)
      show numL ((c :: t') ++ z) = _
      unfold numL
      rw [hd, if_neg]
      intro ⟨a, b⟩
      apply hcond
      rw [hn]
      exact ⟨a, by simpa using b⟩
    rw [if_neg k2] at h ⊢
    by_cases k3 : kd c = 3
    · rw [if_pos k3] at h ⊢
      simp only [Prod.mk.injEq] at h ⊢
      refine ⟨h.1, ?_⟩
      have hq := h.2
      simp only [quoL, List.length_cons] at hq ⊢
      split at hq
      · omega
      rename_i hs0
      have hne : t' ≠ [] := by
        intro e; subst e
        simp only [List.nil_append, List.length_nil] at hq hs0
        omega
      rw [strT_stay z t'.length t' r (Nat.le_refl _) (by omega) hne, if_neg (by have := List.length_pos_iff.2 hne; omega)]
    rw [if_neg k3] at h ⊢
    by_cases k4 : kd c = 4
    · rw [if_pos k4] at h ⊢
      by_cases h47 : ((c :: (t' ++ r)).take 2 = [47, 47])
      · rw [if_pos h47] at h
        simp only [Prod.mk.injEq] at h
        exact absurd h.1.symm h5
      rw [if_neg h47] at h
      simp only [Prod.mk.injEq] at h
      have hm := h.2
      unfold markL at hm
      split at hm
      · rename_i h2
        simp only [List.length_cons] at hm
        match t', hm with
        | [d], _ =>
          have h2' : [c, d] ∈ marks2 := h2
          have h47' : ¬ (c = 47 ∧ d = 47) := by simpa using h47
          rw [if_neg (show ¬ (c :: ([d] ++ z)).take 2 = [47, 47] from by simpa using h47')]
          have hmk : markL (c :: ([d] ++ z)) = 2 := by
            unfold markL
            rw [if_pos (show (c :: ([d] ++ z)).take 2 ∈ marks2 from h2')]
          rw [hmk, ← h.1]; rfl
      · split at hm
        · rename_i h2 h1
          simp only [List.length_cons] at hm
          have : t' = [] := List.eq_nil_of_length_eq_zero (by omega)
          subst this
          have h1' : [c] ∈ marks1 := h1
          have hz2 : (c :: z).take 2 ∉ marks2 ∧ (c :: z).take 2 ≠ [47, 47] := by
            rcases hz with rfl | ⟨d, z', rfl, hd⟩
            · refine ⟨?_, by simp⟩
              have : ∀ m ∈ marks2, m.length = 2 := by decide +kernel
              intro hm
              have := this _ hm
              simp at this
            · simp only [List.take_succ_cons, List.take_zero]
              refine ⟨mark2_soft hd, ?_⟩
              intro e
              simp at e
              rcases hd with hd | hd
              · have := blk_iff.1 hd; omega
              · omega
          rw [if_neg (show ¬ (c :: ([] ++ z)).take 2 = [47, 47] from hz2.2)]
          have hmk : markL (c :: ([] ++ z)) = 1 := by
            unfold markL
            rw [if_neg (show (c :: ([] ++ z)).take 2 ∉ marks2 from hz2.1), if_pos (show (c :: ([] ++ z)).take 1 ∈ marks1 from h1')]
          rw [hmk, ← h.1]; rfl
        · simp at hm
    · rw [if_neg k4] at h ⊢
      exact h
theorem stay5 {t r z : List Int} (h : piece (t ++ r) = (5, t.length)) : piece (t ++ 10 :: z) = (5, t.length) := by
  obtain ⟨h2, hr⟩ := piece_five h
  have hle := trimL_le ((t ++ r).take (lineL (t ++ r)))
  rw [List.length_take] at hle
  have hrem : remL (t ++ r) = trimL ((t ++ r).take (lineL (t ++ r))) := rfl
  have hll : t.length ≤ lineL (t ++ r) := by omega
  have hnn : ∀ x ∈ t, (x != 10) = true := fun x hx => by
    obtain ⟨i, hi, rfl⟩ := List.mem_iff_getElem.1 hx
    have := lead_all (fun c => c != 10) (t ++ r) i (by unfold lineL at hll; omega)
    simp only [List.getD] at this
    rw [List.getElem?_append_left hi, List.getElem?_eq_getElem hi, Option.getD_some] at this
    exact this
  have hlt : lineL t = t.length := lead_top hnn
  have hl2 : lineL (t ++ 10 :: z) = t.length := by unfold lineL; rw [lead_nl _ rfl]; exact hlt
  have ht0 : 2 ≤ t.length := by
    have h3 : trimL ((t ++ r).take (lineL (t ++ r))) = t.length := by omega
    match hxx : t ++ r, h2 with
    | a :: b :: u, h2 =>
      simp only [List.take_succ_cons, List.take_zero] at h2
      simp only [List.cons.injEq, and_true] at h2
      obtain ⟨rfl, rfl⟩ := h2
      rw [hxx] at h3
      have e : ∃ v, (47 :: 47 :: u : List Int).take (lineL (47 :: 47 :: u)) = 47 :: 47 :: v := ⟨u.take (lead (fun c => c != 10) u), by
        show List.take (lead (fun c => c != 10) (47 :: 47 :: u)) (47 :: 47 :: u) = _
        simp [lead]⟩
      obtain ⟨v, e⟩ := e
      rw [e, trimL_front _ rfl, trimL_front _ rfl] at h3
      omega
    | [a], h2 => simp at h2
    | [], h2 => simp at h2
  have htr : trimL t = t.length := by
    refine trimL_is t t.length (Nat.le_refl _) (fun hp => ?_) (fun i h1 h2 => absurd h2 (by omega))
    have h3 : trimL ((t ++ r).take (lineL (t ++ r))) = t.length := by omega
    have := trimL_last ((t ++ r).take (lineL (t ++ r))) (by omega)
    rw [h3, getD_take (by omega)] at this
    simp only [List.getD] at this ⊢
    rw [List.getElem?_append_left (by omega)] at this
    exact this
  match t, ht0 with
  | a :: b :: u, _ =>
    have h2' : [a, b] = [47, 47] := by simpa using h2
    have ea : a = 47 ∧ b = 47 := by simpa using h2'
    obtain ⟨rfl, rfl⟩ := ea
    rw [List.cons_append, piece_cons, show kd 47 = 4 from rfl, if_neg (by omega), if_neg (by omega), if_neg (by omega), if_pos rfl, if_pos (by simp)]
    have : remL (47 :: (47 :: u ++ 10 :: z)) = (47 :: 47 :: u).length := by
      have hx : remL ((47 :: 47 :: u) ++ 10 :: z) = trimL (((47 :: 47 :: u) ++ 10 :: z).take (lineL ((47 :: 47 :: u) ++ 10 :: z))) := rfl
      rw [hl2, List.take_left, htr] at hx
      exact hx
    rw [this]

/-! ### The pieces of what is written again -/
/-- A token that is a piece, or an end that was put in. -/
def TokOk (t : Tok) : Prop := isEnd t ∨ (t.kind ≠ 7 ∧ t.kind ≠ 8 ∧ t.text.length ≠ 0 ∧ ∃ r, piece (t.text ++ r) = (t.kind, t.text.length))
theorem soft_ag {gp : List Int} (hg : gp ≠ []) (hb : ∀ x ∈ gp, blk x = true) : ∀ L, Soft (ag gp L)
  | [] => .inl rfl
  | t :: r => by
    unfold ag part
    split
    · split
      · simpa using soft_ag hg hb r
      · exact .inr ⟨10, _, rfl, .inr rfl⟩
    · cases gp with
      | nil => exact absurd rfl hg
      | cons c gp' => exact .inr ⟨c, _, rfl, .inl (hb c (by simp))⟩
theorem tiles_ag {gp : List Int} (hg : gp ≠ []) (hb : ∀ x ∈ gp, blk x = true) : ∀ L : List Tok, (∀ t ∈ L, TokOk t) → Tiles (ag gp L) (agP gp L) []
  | [], _ => ⟨rfl, rfl⟩
  | t :: r, h => by
    have ih := tiles_ag hg hb r (fun x hx => h x (by simp [hx]))
    unfold ag agP part partP
    by_cases he : isEnd t
    · rw [if_pos he, if_pos he]
      split
      · simpa using ih
      · exact ⟨ag gp r, rfl, rfl, by simp, ih⟩
    · rw [if_neg he, if_neg he]
      rcases h t (by simp) with h' | ⟨_, _, h0, q, hp⟩
      · exact absurd h' he
      by_cases h5 : t.kind = 5
      · rw [if_pos h5, if_pos h5]
        simp only [List.append_assoc, List.cons_append, List.nil_append]
        refine blanks_tiles gp _ _ _ hb ⟨10 :: ag gp r, rfl, ?_, h0, ag gp r, rfl, rfl, by simp, ih⟩
        rw [h5] at hp ⊢
        exact stay5 hp
      · rw [if_neg h5, if_neg h5]
        simp only [List.append_assoc, List.nil_append]
        exact blanks_tiles gp _ _ _ hb ⟨ag gp r, rfl, stay hp h0 h5 (soft_ag hg hb r), h0, ih⟩

def kt (t : Tok) : Int × List Int := (t.kind, t.text)
theorem over_fin : ∀ (ps : List (Int × List Int)) (n : Nat) (f : Bool), over ps = false → (∀ p ∈ ps, p.2.length ≠ 0) → ∃ t r, fin ps n f = t :: r ∧ t.kind ≠ 5 ∧ t.kind ≠ 7 ∧ t.kind ≠ 8 ∧ t.text.length ≠ 0
  | [], _, _, h, _ => by simp [over] at h
  | (k, t) :: ps, n, f, h, hp => by
    by_cases h7 : k = 7
    · subst h7
      simp only [over, if_true] at h
      obtain ⟨x, r, e, hx⟩ := over_fin ps (n + t.length) f h (fun p hm => hp p (by simp [hm]))
      exact ⟨x, r, by simp [fin, e], hx⟩
    · simp only [over, if_neg h7, decide_eq_false_iff_not, not_or] at h
      exact ⟨⟨k, t, n, f⟩, _, by simp only [fin, if_neg h7, if_neg h.1]; rfl, h.2, h7, h.1, hp (k, t) (by simp)⟩
theorem over_rem {gp : List Int} {L : List Tok} (h : remHead L = true) : over (agP gp L) = true := by
  cases L with
  | nil => cases h
  | cons u r =>
    simp only [remHead, Bool.and_eq_true, decide_eq_true_eq] at h
    have he : ¬ isEnd u := fun e => by unfold isEnd at e; omega
    unfold agP partP
    rw [if_neg he, List.append_assoc, blanks_over]
    simp [over, h.1]
theorem over_tok {gp : List Int} {t : Tok} {r : List Tok} (h5 : t.kind ≠ 5) (h7 : t.kind ≠ 7) (h8 : t.kind ≠ 8) (h0 : t.text.length ≠ 0) : over (agP gp (t :: r)) = false := by
  have he : ¬ isEnd t := fun e => by unfold isEnd at e; rw [e.2] at h0; simp at h0
  unfold agP partP
  rw [if_neg he, List.append_assoc, blanks_over]
  simp [over, h5, h7, h8]

theorem fin_nl (ps : List (Int × List Int)) (n : Nat) (f : Bool) : fin ((8, [10]) :: ps) n f = fin ps (n + 1) true := by simp [fin]
theorem kt_again {gp : List Int} : ∀ (ps : List (Int × List Int)) (n : Nat) (f : Bool) (n' : Nat) (f' : Bool), (∀ p ∈ ps, p.2.length ≠ 0) → (fin (agP gp (fin ps n f)) n' f').map kt = (fin ps n f).map kt
  | [], _, _, _, _, _ => rfl
  | (k, t) :: ps, n, f, n', f', hp => by
    have hp' : ∀ p ∈ ps, p.2.length ≠ 0 := fun p hm => hp p (by simp [hm])
    have h0 : t.length ≠ 0 := hp (k, t) (by simp)
    by_cases h8 : k = 8
    · subst h8
      have := kt_again (gp := gp) ps (n + t.length) true n' f' hp'
      simpa [fin] using this
    by_cases h7 : k = 7
    · subst h7
      have := kt_again (gp := gp) ps (n + t.length) f n' f' hp'
      simpa [fin] using this
    have he : ¬ isEnd ⟨k, t, n, f⟩ := fun e => h0 (by have := e.2; simp only at this; rw [this]; rfl)
    have hE : isEnd ⟨6, [], n + t.length, false⟩ := ⟨rfl, rfl⟩
    have IH := fun m g => kt_again (gp := gp) ps (n + t.length) false m g hp'
    by_cases hco : (closes k t && over ps) = true
    · have hf : fin ((k, t) :: ps) n f = ⟨k, t, n, f⟩ :: ⟨6, [], n + t.length, false⟩ :: fin ps (n + t.length) false := by
        simp only [fin, if_neg h8, if_neg h7, hco, if_true]; rfl
      have hcl : closes k t = true := by simp only [Bool.and_eq_true] at hco; exact hco.1
      have h5 : k ≠ 5 := fun e => by rw [closes_seven t k (by omega)] at hcl; cases hcl
      rw [hf]
      generalize fin ps (n + t.length) false = R at *
      have h1 : agP gp (⟨k, t, n, f⟩ :: ⟨6, [], n + t.length, false⟩ :: R) = blanksP gp ++ ((k, t) :: ((if remHead R then [] else [(8, [10])]) ++ agP gp R)) := by
        simp only [agP, partP, if_neg he, if_pos hE, if_neg h5, List.append_assoc, List.cons_append, List.nil_append]
      rw [h1, blanks_fin]
      by_cases hr : remHead R = true
      · rw [if_pos hr, List.nil_append]
        have ho := over_rem (gp := gp) hr
        have h2 : ∀ m g, fin ((k, t) :: agP gp R) m g = ⟨k, t, m, g⟩ :: ⟨6, [], m + t.length, false⟩ :: fin (agP gp R) (m + t.length) false := fun m g => by
          simp only [fin, if_neg h8, if_neg h7, hcl, ho, Bool.and_true, if_true]; rfl
        rw [h2]
        simp only [List.map_cons, IH, kt]
      · rw [if_neg hr]
        have h2 : ∀ m g, fin ((k, t) :: ([(8, [10])] ++ agP gp R)) m g = ⟨k, t, m, g⟩ :: ⟨6, [], m + t.length, false⟩ :: fin (agP gp R) (m + t.length + 1) true := fun m g => by
          have ho : over ((8, [10]) :: agP gp R) = true := rfl
          simp only [List.cons_append, List.nil_append]
          conv => lhs; unfold fin
          rw [if_neg h8, if_neg h7, hcl, ho, fin_nl]; rfl
        rw [h2]
        simp only [List.map_cons, IH, kt]
    · have hco' : (closes k t && over ps) = false := by simpa using hco
      have hf : fin ((k, t) :: ps) n f = ⟨k, t, n, f⟩ :: fin ps (n + t.length) false := by
        simp only [fin, if_neg h8, if_neg h7, hco', Bool.false_eq_true, if_false, List.nil_append]
      rw [hf]
      have hov : closes k t = true → over (agP gp (fin ps (n + t.length) false)) = false := fun hcl => by
        rw [hcl, Bool.true_and] at hco'
        obtain ⟨x, r, e, a, b, c, d⟩ := over_fin ps (n + t.length) false hco' hp'
        rw [e]; exact over_tok a b c d
      generalize fin ps (n + t.length) false = R at *
      have h1 : agP gp (⟨k, t, n, f⟩ :: R) = blanksP gp ++ ((k, t) :: ((if k = 5 then [(8, [10])] else []) ++ agP gp R)) := by
        simp only [agP, partP, if_neg he, List.append_assoc, List.cons_append]
      rw [h1, blanks_fin]
      by_cases h5 : k = 5
      · rw [if_pos h5]
        have hcl : closes k t = false := closes_seven t k (by omega)
        have h2 : ∀ m g, fin ((k, t) :: ([(8, [10])] ++ agP gp R)) m g = ⟨k, t, m, g⟩ :: fin (agP gp R) (m + t.length + 1) true := fun m g => by
          simp only [List.cons_append, List.nil_append]
          conv => lhs; unfold fin
          rw [if_neg h8, if_neg h7, hcl, fin_nl]; rfl
        rw [h2]
        simp only [List.map_cons, IH, kt]
      · rw [if_neg h5, List.nil_append]
        have hb : (closes k t && over (agP gp R)) = false := by
          cases hcl : closes k t
          · rfl
          · rw [hov hcl]; rfl
        have h2 : ∀ m g, fin ((k, t) :: agP gp R) m g = ⟨k, t, m, g⟩ :: fin (agP gp R) (m + t.length) false := fun m g => by
          simp only [fin, if_neg h8, if_neg h7, hb, Bool.false_eq_true, if_false, List.nil_append]
        rw [h2]
        simp only [List.map_cons, IH, kt]

end Go.Proofs.YtiadbagfajhjfaaDoor.Lex
