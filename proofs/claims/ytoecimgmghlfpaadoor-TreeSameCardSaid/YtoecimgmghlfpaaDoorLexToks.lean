/-
  Plain mathematics of layer 4 (lex), more: a program's pieces, and its tokens with the ends that are put in, reckoned in two ways. Nothing of the program is imported.
-/
import Derived.Test.YtoecimgmghlfpaaDoorLexMath
namespace Go.Proofs.YtoecimgmghlfpaaDoor.Lex

/-- A token: its kind, its bytes, its place, and whether it is its line's first. -/
structure Tok where
  kind : Int
  text : List Int
  place : Nat
  first : Bool
deriving DecidableEq

theorem piece_cons (c : Int) (r : List Int) : piece (c :: r) =
    if kd c = 1 then (1, wordL (c :: r))
    else if kd c = 2 then (2, numL (c :: r))
    else if kd c = 3 then (3, quoL (c :: r))
    else if kd c = 4 then (if (c :: r).take 2 = [47, 47] then (5, remL (c :: r)) else (4, markL (c :: r)))
    else (kd c, 1) := rfl

theorem piece_le : ∀ l, (piece l).2 ≤ l.length
  | [] => Nat.le_refl _
  | c :: r => by
    have h1 : wordL (c :: r) ≤ (c :: r).length := lead_le _ _
    have h2 : numL (c :: r) ≤ (c :: r).length := by
      unfold numL digL; have := lead_le dig (c :: r); split <;> omega
    have h3 : quoL (c :: r) ≤ (c :: r).length := by
      have := strT_le r.length r (Nat.le_refl _)
      simp only [quoL, List.length_cons]; split <;> omega
    have h5 : remL (c :: r) ≤ (c :: r).length := by
      unfold remL; have := trimL_le ((c :: r).take (lineL (c :: r))); rw [List.length_take] at this; omega
    have h4 : markL (c :: r) ≤ (c :: r).length := by
      unfold markL
      split
      · rename_i h
        cases r with
        | nil => simp [marks2] at h
        | cons d r' => simp
      · split <;> simp
    rw [piece_cons]
    split
    · exact h1
    split
    · exact h2
    split
    · exact h3
    split
    · split
      · exact h5
      · exact h4
    · simp

theorem piece_kind (l : List Int) : (piece l).1 = 1 ∨ (piece l).1 = 2 ∨ (piece l).1 = 3 ∨ (piece l).1 = 4 ∨ (piece l).1 = 5 ∨ (piece l).1 = 6 ∨ (piece l).1 = 7 ∨ (piece l).1 = 8 := by
  cases l with
  | nil => simp [piece]
  | cons c r =>
    have := kd_cases c
    rw [piece_cons]
    repeat' split
    all_goals first
      | (simp; done)
      | (show kd c = 1 ∨ kd c = 2 ∨ kd c = 3 ∨ kd c = 4 ∨ kd c = 5 ∨ kd c = 6 ∨ kd c = 7 ∨ kd c = 8; omega)

/-- A program's pieces, and what is left where none begins. -/
def pcs : Nat → List Int → List (Int × List Int) × List Int
  | 0, l => ([], l)
  | f + 1, l => if (piece l).2 = 0 then ([], l) else (((piece l).1, l.take (piece l).2) :: (pcs f (l.drop (piece l).2)).1, (pcs f (l.drop (piece l).2)).2)

/-- Where a program is made of these pieces up to z, at which none begins. -/
def Tiles : List Int → List (Int × List Int) → List Int → Prop
  | l, [], z => l = z ∧ (piece z).2 = 0
  | l, (k, t) :: ps, z => ∃ r, l = t ++ r ∧ piece l = (k, t.length) ∧ t.length ≠ 0 ∧ Tiles r ps z

theorem tiles_pcs : ∀ (f : Nat) (l : List Int), l.length ≤ f → Tiles l (pcs f l).1 (pcs f l).2
  | 0, l, h => by
    have : l = [] := List.eq_nil_of_length_eq_zero (by omega)
    subst this; exact ⟨rfl, rfl⟩
  | f + 1, l, h => by
    unfold pcs
    split
    · rename_i h0; exact ⟨rfl, h0⟩
    · rename_i h0
      have hle := piece_le l
      have hlen : (l.take (piece l).2).length = (piece l).2 := by rw [List.length_take]; omega
      exact ⟨l.drop (piece l).2, (List.take_append_drop _ _).symm, by rw [hlen], by omega, tiles_pcs f _ (by rw [List.length_drop]; omega)⟩
theorem tiles_uniq : ∀ (ps : List (Int × List Int)) (f : Nat) (l z : List Int), l.length ≤ f → Tiles l ps z → pcs f l = (ps, z)
  | [], 0, l, z, _, h => by obtain ⟨rfl, _⟩ := h; rfl
  | [], f + 1, l, z, _, h => by
    obtain ⟨rfl, h0⟩ := h
    unfold pcs; rw [if_pos h0]
  | (k, t) :: ps, 0, l, z, hf, h => by
    obtain ⟨r, rfl, h1, h2, h3⟩ := h
    rw [List.length_append] at hf; omega
  | (k, t) :: ps, f + 1, l, z, hf, h => by
    obtain ⟨r, rfl, h1, h2, h3⟩ := h
    have ih := tiles_uniq ps f r z (by rw [List.length_append] at hf; omega) h3
    unfold pcs
    rw [h1, if_neg (by exact h2)]
    simp only [List.drop_left, List.take_left, ih]

def pieces (l : List Int) : List (Int × List Int) := (pcs l.length l).1
def left (l : List Int) : List Int := (pcs l.length l).2
theorem tiles_of (l : List Int) : Tiles l (pieces l) (left l) := tiles_pcs _ _ (Nat.le_refl _)
theorem tiles_is {l z : List Int} {ps : List (Int × List Int)} (h : Tiles l ps z) : pieces l = ps ∧ left l = z := by
  have := tiles_uniq ps l.length l z (Nat.le_refl _) h
  unfold pieces left; rw [this]; exact ⟨rfl, rfl⟩

def cat : List (Int × List Int) → List Int
  | [] => []
  | (_, t) :: ps => t ++ cat ps
theorem tiles_cat : ∀ {ps : List (Int × List Int)} {l z : List Int}, Tiles l ps z → l = cat ps ++ z
  | [], _, _, h => h.1
  | (k, t) :: ps, l, z, ⟨r, h1, _, _, h3⟩ => by
    rw [h1, tiles_cat h3]; simp [cat]
theorem tiles_end : ∀ {ps : List (Int × List Int)} {l z : List Int}, Tiles l ps z → (piece z).2 = 0
  | [], _, _, h => h.2
  | _ :: _, _, _, ⟨_, _, _, _, h3⟩ => tiles_end h3

/-! ### The program's words; where an end is put in -/
def words : List (List Int) := [[112, 97, 99, 107, 97, 103, 101], [105, 109, 112, 111, 114, 116], [99, 111, 110, 115, 116], [118, 97, 114], [116, 121, 112, 101], [102, 117, 110, 99], [109, 97, 112], [115, 116, 114, 117, 99, 116],
  [105, 102], [101, 108, 115, 101], [102, 111, 114], [114, 101, 116, 117, 114, 110], [98, 114, 101, 97, 107], [99, 111, 110, 116, 105, 110, 117, 101]]
def wRet : List Int := [114, 101, 116, 117, 114, 110]
def wBrk : List Int := [98, 114, 101, 97, 107]
def wCon : List Int := [99, 111, 110, 116, 105, 110, 117, 101]
def isWord (t : List Int) : Bool := decide (t ∈ words)
def shutM : List (List Int) := [[41], [93], [125], [43, 43], [45, 45]]
/-- Is an end put in behind it? -/
def closes (k : Int) (t : List Int) : Bool :=
  if k = 2 ∨ k = 3 then true
  else if k = 1 then !isWord t || decide (t = wRet) || decide (t = wBrk) || decide (t = wCon)
  else if k = 4 then decide (t ∈ shutM)
  else false

structure St where
  toks : List Tok
  first : Bool
  opn : Bool
  beh : Nat

def ended (s : St) : St := ⟨s.toks ++ [⟨6, [], s.beh, false⟩], s.first, false, s.beh⟩
/-- One piece more. -/
def keep (s : St) (k : Int) (t : List Int) (at_ : Nat) : St :=
  let s1 := if s.opn = true ∧ (k = 8 ∨ k = 5) then ended s else s
  if k = 8 then ⟨s1.toks, true, s1.opn, s1.beh⟩
  else if k = 7 then s1
  else ⟨s1.toks ++ [⟨k, t, at_, s1.first⟩], false, closes k t, at_ + t.length⟩

def foldK : St → Nat → List (Int × List Int) → St
  | s, _, [] => s
  | s, n, (k, t) :: ps => foldK (keep s k t n) (n + t.length) ps

/-- Does the line, remarks aside, end here? -/
def over : List (Int × List Int) → Bool
  | [] => true
  | (k, _) :: ps => if k = 7 then over ps else decide (k = 8 ∨ k = 5)

/-- The tokens, with the ends that are put in, of a program of these pieces. -/
def fin : List (Int × List Int) → Nat → Bool → List Tok
  | [], _, _ => []
  | (k, t) :: ps, n, f =>
    if k = 8 then fin ps (n + t.length) true
    else if k = 7 then fin ps (n + t.length) f
    else ⟨k, t, n, f⟩ :: ((if closes k t && over ps then [⟨6, [], n + t.length, false⟩] else []) ++ fin ps (n + t.length) false)

theorem closes_seven (t : List Int) (k : Int) (h : k = 7 ∨ k = 8 ∨ k = 5 ∨ k = 6) : closes k t = false := by
  unfold closes
  rw [if_neg (by omega), if_neg (by omega), if_neg (by omega)]

theorem foldK_fin : ∀ (ps : List (Int × List Int)) (s : St) (n : Nat),
    (keep (foldK s n ps) 8 [] 0).toks = s.toks ++ ((if s.opn && over ps then [⟨6, [], s.beh, false⟩] else []) ++ fin ps n s.first)
  | [], s, n => by
    cases ho : s.opn <;> simp [foldK, keep, fin, over, ended, ho]
  | (k, t) :: ps, s, n => by
    simp only [foldK]
    rw [foldK_fin ps]
    by_cases h8 : k = 8
    · subst h8
      cases ho : s.opn <;> simp [keep, fin, over, ended, ho]
    · by_cases h7 : k = 7
      · subst h7
        cases ho : s.opn <;> simp [keep, fin, over, ho]
      · by_cases h5 : k = 5
        · subst h5
          have hc := closes_seven t 5 (by omega)
          cases ho : s.opn <;> simp [keep, fin, over, ended, ho, hc]
        · cases ho : s.opn <;> simp [keep, fin, over, ho, h8, h7, h5]

def st0 : St := ⟨[], true, false, 0⟩
/-- The program's tokens. -/
def toks (l : List Int) : List Tok := fin (pieces l) 0 true
theorem fold_toks (l : List Int) : (keep (foldK st0 0 (pieces l)) 8 [] 0).toks = toks l := by
  rw [foldK_fin]; simp [st0, toks]

/-! ### The walk over the pieces -/
def walkS : Nat → List Int → Nat → St → St × Nat
  | 0, _, n, s => (s, n)
  | f + 1, l, n, s => if (piece l).2 = 0 then (s, n) else walkS f (l.drop (piece l).2) (n + (piece l).2) (keep s (piece l).1 (l.take (piece l).2) n)
theorem walkS_pcs : ∀ (f : Nat) (l : List Int) (n : Nat) (s : St), walkS f l n s = (foldK s n (pcs f l).1, n + (l.length - (pcs f l).2.length))
  | 0, l, n, s => by simp [walkS, pcs, foldK]
  | f + 1, l, n, s => by
    unfold walkS pcs
    split
    · simp [foldK]
    · rename_i h0
      have hle := piece_le l
      have hlen : (l.take (piece l).2).length = (piece l).2 := by rw [List.length_take]; omega
      have hl2 : (pcs f (l.drop (piece l).2)).2.length ≤ (l.drop (piece l).2).length := by
        generalize l.drop (piece l).2 = r
        clear h0 hle hlen
        induction f generalizing r with
        | zero => exact Nat.le_refl _
        | succ f ih =>
          unfold pcs
          split
          · exact Nat.le_refl _
          · have := ih (r.drop (piece r).2)
            rw [List.length_drop] at this
            simp only; omega
      rw [walkS_pcs f]
      simp only [foldK, hlen]
      rw [List.length_drop] at hl2 ⊢
      congr 1
      omega
theorem walk_all (l : List Int) : walkS l.length l 0 st0 = (foldK st0 0 (pieces l), l.length - (left l).length) := by
  rw [walkS_pcs]; simp [pieces, left]
theorem left_le (l : List Int) : (left l).length ≤ l.length := by
  have := congrArg List.length (tiles_cat (tiles_of l))
  rw [List.length_append] at this; omega

/-! ### The document's way: first all tokens with their lines, then the ends -/
def plain : List (Int × List Int) → Nat → Nat → Bool → List (Tok × Nat)
  | [], _, _, _ => []
  | (k, t) :: ps, n, ln, f =>
    if k = 8 then plain ps (n + t.length) (ln + 1) true
    else if k = 7 then plain ps (n + t.length) ln f
    else (⟨k, t, n, f⟩, ln) :: plain ps (n + t.length) ln false
def overL (ln : Nat) : List (Tok × Nat) → Bool
  | [] => true
  | (t, m) :: r => if t.kind = 5 ∧ m = ln then overL ln r else decide (ln < m)
def outL : List (Tok × Nat) → List Tok
  | [] => []
  | (t, ln) :: r => t :: ((if overL ln r && closes t.kind t.text then [⟨6, [], t.place + t.text.length, false⟩] else []) ++ outL r)

/-- Behind a remark stand blanks and a newline or the end. -/
def Still : List (Int × List Int) → Prop
  | [] => True
  | (k, _) :: ps => (k = 7 ∧ Still ps) ∨ k = 8
def RemOk : List (Int × List Int) → Prop
  | [] => True
  | (k, _) :: ps => (k = 5 → Still ps) ∧ RemOk ps

theorem plain_line : ∀ (ps : List (Int × List Int)) (n ln : Nat) (f : Bool) (x : Tok × Nat), x ∈ plain ps n ln f → ln ≤ x.2
  | [], _, _, _, _, h => by cases h
  | (k, t) :: ps, n, ln, f, x, h => by
    unfold plain at h
    split at h
    · have := plain_line ps _ _ _ x h; omega
    split at h
    · exact plain_line ps _ _ _ x h
    · rcases List.mem_cons.1 h with h | h
      · subst h; exact Nat.le_refl _
      · exact plain_line ps _ _ _ x h
theorem overL_above {ln : Nat} : ∀ {r : List (Tok × Nat)}, (∀ x ∈ r, ln + 1 ≤ x.2) → overL ln r = true
  | [], _ => rfl
  | (t, m) :: r, h => by
    have := h (t, m) (by simp)
    simp only at this
    unfold overL
    rw [if_neg (by omega)]; simp; omega
theorem overL_still : ∀ (ps : List (Int × List Int)) (n ln : Nat) (f : Bool), Still ps → overL ln (plain ps n ln f) = true
  | [], _, _, _, _ => rfl
  | (k, t) :: ps, n, ln, f, h => by
    rcases h with ⟨rfl, h⟩ | rfl
    · simp only [plain]
      exact overL_still ps _ _ _ h
    · simp only [plain, if_true]
      exact overL_above (fun x hx => plain_line ps _ _ _ x hx)
theorem overL_plain : ∀ (ps : List (Int × List Int)) (n ln : Nat) (f : Bool), RemOk ps → overL ln (plain ps n ln f) = over ps
  | [], _, _, _, _ => rfl
  | (k, t) :: ps, n, ln, f, h => by
    by_cases h8 : k = 8
    · subst h8
      simp only [plain, if_true, over]
      exact overL_above (fun x hx => plain_line ps _ _ _ x hx)
    by_cases h7 : k = 7
    · subst h7
      simp only [plain, over, if_true]
      exact overL_plain ps _ _ _ h.2
    by_cases h5 : k = 5
    · subst h5
      have := overL_still ps (n + t.length) ln false (h.1 rfl)
      simp [plain, over, overL, this]
    · simp [plain, over, overL, h8, h7, h5]
theorem outL_plain : ∀ (ps : List (Int × List Int)) (n ln : Nat) (f : Bool), RemOk ps → outL (plain ps n ln f) = fin ps n f
  | [], _, _, _, _ => rfl
  | (k, t) :: ps, n, ln, f, h => by
    by_cases h8 : k = 8
    · subst h8
      simp only [plain, if_true, fin]
      exact outL_plain ps _ _ _ h.2
    by_cases h7 : k = 7
    · subst h7
      simp only [plain, fin]
      exact outL_plain ps _ _ _ h.2
    · simp only [plain, fin, h8, h7, if_false, outL]
      rw [outL_plain ps _ _ _ h.2, overL_plain ps _ _ _ h.2, Bool.and_comm]

/-- What is left behind a remark begins with blanks, then a newline, or nothing is left. -/
theorem blank_piece {c : Int} (r : List Int) (h : blk c = true) : piece (c :: r) = (7, 1) := by
  have h7 : kd c = 7 := by unfold blk at h; simpa using h
  rw [piece_cons, h7]; rfl
theorem nl_piece (r : List Int) : piece (10 :: r) = (8, 1) := rfl
theorem still_of : ∀ (m : Nat) (l : List Int) (ps : List (Int × List Int)), (∀ i, i < m → blk (l.getD i 0) = true) → m ≤ l.length → (m < l.length → l.getD m 0 = 10) → Tiles l ps [] → Still ps
  | _, _, [], _, _, _, _ => trivial
  | 0, l, (k, t) :: ps, _, _, h2, ⟨r, h3, h4, h5, h6⟩ => by
    cases l with
    | nil =>
      have := congrArg List.length h3
      rw [List.length_append] at this; simp at this; omega
    | cons c l' =>
      have : c = 10 := by simpa using h2 (by simp)
      subst this
      rw [nl_piece] at h4
      have : k = 8 := by injection h4 with a _; exact a.symm
      exact .inr this
  | m + 1, l, (k, t) :: ps, h0, h1, h2, ⟨r, h3, h4, h5, h6⟩ => by
    cases l with
    | nil => simp at h1
    | cons c l' =>
      have hb : blk c = true := by simpa using h0 0 (by omega)
      rw [blank_piece l' hb] at h4
      have hk : k = 7 ∧ t.length = 1 := by injection h4 with a b; exact ⟨a.symm, b.symm⟩
      obtain ⟨d, rfl⟩ : ∃ d, t = [d] := by
        match t, hk.2 with
        | [d], _ => exact ⟨d, rfl⟩
      simp only [List.cons_append, List.nil_append, List.cons.injEq] at h3
      obtain ⟨rfl, rfl⟩ := h3
      exact .inl ⟨hk.1, still_of m l' ps (fun i hi => by simpa using h0 (i + 1) (by omega)) (by simpa using h1) (fun h => by simpa using h2 (by simpa using h)) h6⟩
theorem getD_drop (l : List Int) (n i : Nat) : (l.drop n).getD i 0 = l.getD (n + i) 0 := by simp [List.getD, List.getElem?_drop]
theorem getD_take {l : List Int} {n i : Nat} (h : i < n) : (l.take n).getD i 0 = l.getD i 0 := by simp [List.getD, h]

theorem piece_five {l : List Int} {n : Nat} (h : piece l = (5, n)) : l.take 2 = [47, 47] ∧ n = remL l := by
  cases l with
  | nil => simp [piece] at h
  | cons c r =>
    rw [piece_cons] at h
    repeat' split at h
    all_goals first
      | (simp only [Prod.mk.injEq] at h; exact ⟨by assumption, h.2.symm⟩)
      | (exfalso; simp only [Prod.mk.injEq] at h; have := kd_cases c; omega)
theorem still_rem {l : List Int} {n : Nat} {ps : List (Int × List Int)} (h : piece l = (5, n)) (ht : Tiles (l.drop n) ps []) : Still ps := by
  obtain ⟨_, rfl⟩ := piece_five h
  have hle : lineL l ≤ l.length := lead_le _ _
  have htr := trimL_le (l.take (lineL l))
  rw [List.length_take] at htr
  have hr : remL l = trimL (l.take (lineL l)) := rfl
  refine still_of (lineL l - remL l) _ ps (fun i hi => ?_) (by rw [List.length_drop]; omega) (fun hlt => ?_) ht
  · have := trimL_blk (l.take (lineL l)) (remL l + i) (by omega) (by rw [List.length_take]; omega)
    rw [getD_take (by omega)] at this
    rw [getD_drop]; exact this
  · rw [List.length_drop] at hlt
    have := lead_stop (fun c => c != 10) l (by unfold lineL at *; omega)
    rw [getD_drop, show remL l + (lineL l - remL l) = lineL l from by omega]
    unfold lineL; simpa using this
theorem remOk_of : ∀ (ps : List (Int × List Int)) (l : List Int), Tiles l ps [] → RemOk ps
  | [], _, _ => trivial
  | (k, t) :: ps, l, ⟨r, h1, h2, _, h4⟩ => ⟨fun hk => by
      subst hk
      have : l.drop t.length = r := by rw [h1, List.drop_left]
      exact still_rem h2 (by rw [this]; exact h4), remOk_of ps r h4⟩
/-- The document's tokens are the program's. -/
theorem outL_toks {l : List Int} (h : left l = []) : outL (plain (pieces l) 0 0 true) = toks l :=
  outL_plain _ _ _ _ (remOk_of _ l (by have := tiles_of l; rw [h] at this; exact this))

end Go.Proofs.YtoecimgmghlfpaaDoor.Lex
