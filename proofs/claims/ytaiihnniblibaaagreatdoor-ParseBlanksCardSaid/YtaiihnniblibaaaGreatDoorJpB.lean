import Derived.Test.YtaiihnniblibaaaGreatDoorJpA
import Derived.Test.YtaiihnniblibaaaGreatDoorChecked
import Derived.WalkKit
import Derived.ProofKit
import Derived.OpenShut
import Derived.Below
import Derived.Lib.Hide
import Derived.Outline
import Derived.WalkMore
import Derived.OneCell
import Derived.OwnWalk
import Derived.Maps.AppendAt
import Derived.StillTailTactics
import Derived.Shelf.Abstract

/-
 Plain mathematics of layer 4 (lex): pieces of a program, and its tokens with the ends that are put in. Nothing of the program is imported.
-/
namespace Go.Proofs.YtaiihnniblibaaaGreatDoor.Lex

/-- What begins with a byte: 1 letter, 2 digit, 3 quote, 6 semicolon, 7 blank, 8 newline, 4 all else. -/
def kd (c : Int) : Int :=
 if 97 ≤ c ∧ c ≤ 122 then 1 else if 65 ≤ c ∧ c ≤ 90 then 1 else if c = 95 then 1 else if 48 ≤ c ∧ c ≤ 57 then 2 else if c = 34 then 3 else if c = 59 then 6
 else if c = 32 then 7 else if c = 9 then 7 else if c = 13 then 7 else if c = 10 then 8 else 4

def lord (c : Int) : Bool := kd c == 1 || kd c == 2
def dig (c : Int) : Bool := kd c == 2
def blk (c : Int) : Bool := kd c == 7

/-- How many of the first elements meet p. -/
def lead (p : Int → Bool) : List Int → Nat
 | [] => 0
 | c :: r => if p c then lead p r + 1 else 0

def wordL (l : List Int) : Nat := lead lord l
def digL (l : List Int) : Nat := lead dig l
def numL (l : List Int) : Nat := if 1 < digL l ∧ l.getD 0 0 = 48 then 0 else digL l

/-- Behind a quote: the length up to the string's end, and with it; 0, if there is none. -/
def strT : List Int → Nat
 | [] => 0
 | c :: r =>
  if c = 34 then 1
  else if c = 10 then 0
  else if c = 92 then
   match r with
   | [] => 0
   | d :: r' => if d = 10 then 0 else if strT r' = 0 then 0 else strT r' + 2
  else if strT r = 0 then 0 else strT r + 1
def quoL : List Int → Nat
 | [] => 0
 | _ :: r => if strT r = 0 then 0 else strT r + 1

def lineL (l : List Int) : Nat := lead (fun c => c != 10) l
/-- The length without the blanks at the end. -/
def trimL : List Int → Nat
 | [] => 0
 | c :: r => if trimL r = 0 then (if blk c then 0 else 1) else trimL r + 1
def remL (l : List Int) : Nat := trimL (l.take (lineL l))

def marks2 : List (List Int) := [[60, 60], [62, 62], [38, 94], [38, 38], [124, 124], [61, 61], [33, 61], [60, 61], [62, 61], [58, 61], [43, 61], [45, 61], [42, 61], [47, 61], [37, 61], [43, 43], [45, 45]]
def marks1 : List (List Int) := [[40], [41], [91], [93], [123], [125], [44], [46], [61], [43], [45], [42], [47], [37], [38], [124], [94], [60], [62], [33]]
def markL (l : List Int) : Nat := if l.take 2 ∈ marks2 then 2 else if l.take 1 ∈ marks1 then 1 else 0

/-- The piece with which bytes begin: its kind and length; length 0: none. -/
def piece : List Int → Int × Nat
 | [] => (4, 0)
 | c :: r =>
  if kd c = 1 then (1, wordL (c :: r))
  else if kd c = 2 then (2, numL (c :: r))
  else if kd c = 3 then (3, quoL (c :: r))
  else if kd c = 4 then (if (c :: r).take 2 = [47, 47] then (5, remL (c :: r)) else (4, markL (c :: r)))
  else (kd c, 1)

theorem lead_le (p : Int → Bool) : ∀ l, lead p l ≤ l.length
 | [] => Nat.le_refl _
 | c :: r => by
  have := lead_le p r
  simp only [lead, List.length_cons]; split <;> omega
theorem lead_all (p : Int → Bool) : ∀ (l : List Int) (i : Nat), i < lead p l → p (l.getD i 0) = true
 | [], i, h => by simp [lead] at h
 | c :: r, i, h => by
  simp only [lead] at h
  split at h
  ·rename_i hc
   cases i with
   | zero => simpa using hc
   | succ i => simpa using lead_all p r i (by omega)
  ·omega
theorem lead_stop (p : Int → Bool) : ∀ (l : List Int), lead p l < l.length → p (l.getD (lead p l) 0) = false
 | [], h => by simp [lead] at h
 | c :: r, h => by
  simp only [lead, List.length_cons] at h ⊢
  split
  ·rename_i hc
   rw [if_pos hc] at h
   simpa using lead_stop p r (by omega)
  ·rename_i hc
   simpa using hc
theorem lead_nl (p : Int → Bool) (hp : p 10 = false) (z : List Int) : ∀ l, lead p (l ++ 10 :: z) = lead p l
 | [] => by simp [lead, hp]
 | c :: r => by simp only [List.cons_append, lead, lead_nl p hp z r]
theorem lead_stay (p : Int → Bool) (t z : List Int) (h : lead p t = t.length) (hz : ∀ c r, z = c :: r → p c = false) : lead p (t ++ z) = t.length := by
 induction t with
 | nil =>
  cases z with
  | nil => rfl
  | cons c r => simp [lead, hz c r rfl]
 | cons c r ih =>
  simp only [lead, List.length_cons] at h
  split at h
  ·rename_i hc
   simp only [List.cons_append, lead, hc, if_true, List.length_cons, ih (by omega)]
  ·omega
theorem kd_cases (c : Int) : kd c = 1 ∨ kd c = 2 ∨ kd c = 3 ∨ kd c = 4 ∨ kd c = 6 ∨ kd c = 7 ∨ kd c = 8 := by
 unfold kd; repeat' split
 all_goals omega
theorem kd_nl {c : Int} : kd c = 8 ↔ c = 10 := by
 unfold kd; repeat' split
 all_goals omega
theorem kd_blk {c : Int} : kd c = 7 ↔ c = 32 ∨ c = 9 ∨ c = 13 := by
 unfold kd; repeat' split
 all_goals omega
theorem kd_quo {c : Int} : kd c = 3 ↔ c = 34 := by
 unfold kd; repeat' split
 all_goals omega
theorem kd_semi {c : Int} : kd c = 6 ↔ c = 59 := by
 unfold kd; repeat' split
 all_goals omega
theorem kd_let {c : Int} : kd c = 1 ↔ (65 ≤ c ∧ c ≤ 90) ∨ (97 ≤ c ∧ c ≤ 122) ∨ c = 95 := by
 unfold kd; repeat' split
 all_goals omega
theorem kd_dig {c : Int} : kd c = 2 ↔ (48 ≤ c ∧ c ≤ 57) := by
 unfold kd; repeat' split
 all_goals omega
theorem blk_iff {c : Int} : blk c = true ↔ c = 32 ∨ c = 9 ∨ c = 13 := by unfold blk; rw [beq_iff_eq]; exact kd_blk

/-! ### Strings -/
theorem strT_le : ∀ (n : Nat) (l : List Int), l.length ≤ n → strT l ≤ l.length
 | _, [], _ => by simp [strT]
 | 0, _ :: _, h => by simp at h
 | n + 1, c :: r, h => by
  have hr := strT_le n r (by simpa using h)
  unfold strT
  split
  ·simp
  split
  ·simp
  split
  ·cases r with
   | nil => simp
   | cons d r' =>
    have hr' := strT_le n r' (by simp at h; omega)
    simp only [List.length_cons]
    split
    ·omega
    ·split <;> omega
  ·simp only [List.length_cons]; split <;> omega
theorem strT_ten (z : List Int) : strT (10 :: z) = 0 := by
 unfold strT; rw [if_neg (by omega), if_pos rfl]
/-- A string stays, whatever stands behind it. -/
theorem strT_stay (z : List Int) : ∀ (n : Nat) (t : List Int) (u : List Int), t.length ≤ n → strT (t ++ u) = t.length → t ≠ [] → strT (t ++ z) = t.length
 | _, [], _, _, _, h => absurd rfl h
 | 0, _ :: _, _, h, _, _ => by simp at h
 | n + 1, c :: r, u, h, h1, _ => by
  rw [List.cons_append] at h1 ⊢
  unfold strT at h1 ⊢
  split at h1
  ·rename_i hc; rw [if_pos hc]; exact h1
  rename_i hc; rw [if_neg hc]
  split at h1
  ·simp at h1
  rename_i hc2; rw [if_neg hc2]
  split at h1
  ·rename_i hc3; rw [if_pos hc3]
   cases r with
   | nil =>
    cases u with
    | nil => simp at h1
    | cons d u' =>
     simp only [List.nil_append, List.length_cons, List.length_nil] at h1
     split at h1
     ·omega
     ·split at h1 <;> omega
   | cons d r' =>
    simp only [List.cons_append, List.length_cons] at h1 ⊢
    split at h1
    ·omega
    rename_i hd; rw [if_neg hd]
    split at h1
    ·omega
    rename_i h0
    by_cases hr' : r' = []
    ·subst hr'; simp at h0 h1; omega
    ·have := strT_stay z n r' u (by simp at h; omega) (by omega) hr'
     rw [this, if_neg (by have := List.length_pos_iff.2 hr'; omega)]
  ·rename_i hc3; rw [if_neg hc3]
   split at h1
   ·simp at h1
   rename_i h0
   simp only [List.length_cons] at h1 ⊢
   by_cases hr : r = []
   ·subst hr; simp at h0 h1; omega
   ·have := strT_stay z n r u (by simpa using h) (by omega) hr
    rw [this, if_neg (by have := List.length_pos_iff.2 hr; omega)]

/-! ### Remarks -/
theorem trimL_le : ∀ l, trimL l ≤ l.length
 | [] => Nat.le_refl _
 | c :: r => by
  have := trimL_le r
  simp only [trimL, List.length_cons]
  split
  ·split <;> omega
  ·omega
/-- The end without blanks: what is cut off are blanks, and what stands ahead is none. -/
theorem trimL_blk : ∀ (l : List Int) (i : Nat), trimL l ≤ i → i < l.length → blk (l.getD i 0) = true
 | [], i, _, h => by simp at h
 | c :: r, i, h1, h2 => by
  have ih := trimL_blk r
  simp only [trimL] at h1
  split at h1
  ·rename_i h0
   split at h1
   ·rename_i hc
    cases i with
    | zero => simpa using hc
    | succ i => simpa using ih i (by omega) (by simpa using h2)
   ·cases i with
    | zero => omega
    | succ i => simpa using ih i (by omega) (by simpa using h2)
  ·cases i with
   | zero => omega
   | succ i => simpa using ih i (by omega) (by simpa using h2)
theorem trimL_last : ∀ (l : List Int), 0 < trimL l → blk (l.getD (trimL l - 1) 0) = false
 | [], h => by simp [trimL] at h
 | c :: r, h => by
  have ih := trimL_last r
  simp only [trimL] at h ⊢
  split
  ·rename_i h0
   rw [if_pos h0] at h
   split
   ·rename_i hc; rw [if_pos hc] at h; omega
   ·rename_i hc; simpa using hc
  ·rename_i h0
   obtain ⟨k, hk⟩ : ∃ k, trimL r = k + 1 := ⟨trimL r - 1, by omega⟩
   have := ih (by omega)
   rw [hk] at this ⊢
   simpa using this
theorem trimL_is : ∀ (l : List Int) (n : Nat), n ≤ l.length → (0 < n → blk (l.getD (n - 1) 0) = false) → (∀ i, n ≤ i → i < l.length → blk (l.getD i 0) = true) → trimL l = n := by
 intro l n hn h1 h2
 have _hn := hn
 have hle := trimL_le l
 rcases Nat.lt_trichotomy (trimL l) n with h | h | h
 ·have := trimL_blk l (n - 1) (by omega) (by omega)
  rw [h1 (by omega)] at this; cases this
 ·exact h
 ·have := trimL_last l (by omega)
  rw [h2 (trimL l - 1) (by omega) (by omega)] at this; cases this

/-! ### Pieces -/
end Go.Proofs.YtaiihnniblibaaaGreatDoor.Lex

/-
 Plain mathematics of layer 4 (lex), more: a program's pieces, and its tokens with the ends that are put in, reckoned in two ways. Nothing of the program is imported.
-/
namespace Go.Proofs.YtaiihnniblibaaaGreatDoor.Lex

/-- A token: its kind, its bytes, its place, and whether it is its line's first. -/
structure Tok where
 kind : Int
 text : List Int
 place : Nat
 first : Bool
deriving DecidableEq

theorem piece_cons (c : Int) (r : List Int) : piece (c :: r) =
  if kd c = 1 then (1, wordL (c :: r))
  else if kd c = 2 then (2, numL (c :: r))
  else if kd c = 3 then (3, quoL (c :: r))
  else if kd c = 4 then (if (c :: r).take 2 = [47, 47] then (5, remL (c :: r)) else (4, markL (c :: r)))
  else (kd c, 1) := rfl

theorem piece_le : ∀ l, (piece l).2 ≤ l.length
 | [] => Nat.le_refl _
 | c :: r => by
  have h1 : wordL (c :: r) ≤ (c :: r).length := lead_le _ _
  have h2 : numL (c :: r) ≤ (c :: r).length := by
   unfold numL digL; have := lead_le dig (c :: r); split <;> omega
  have h3 : quoL (c :: r) ≤ (c :: r).length := by
   have := strT_le r.length r (Nat.le_refl _)
   simp only [quoL, List.length_cons]; split <;> omega
  have h5 : remL (c :: r) ≤ (c :: r).length := by
   unfold remL; have := trimL_le ((c :: r).take (lineL (c :: r))); rw [List.length_take] at this; omega
  have h4 : markL (c :: r) ≤ (c :: r).length := by
   unfold markL
   split
   ·rename_i h
    cases r with
    | nil => simp [marks2] at h
    | cons d r' => simp
   ·split <;> simp
  rw [piece_cons]
  split
  ·exact h1
  split
  ·exact h2
  split
  ·exact h3
  split
  ·split
   ·exact h5
   ·exact h4
  ·simp

/-- A program's pieces, and what is left where none begins. -/
def pcs : Nat → List Int → List (Int × List Int) × List Int
 | 0, l => ([], l)
 | f + 1, l => if (piece l).2 = 0 then ([], l) else (((piece l).1, l.take (piece l).2) :: (pcs f (l.drop (piece l).2)).1, (pcs f (l.drop (piece l).2)).2)

/-- Where a program is made of these pieces up to z, at which none begins. -/
def Tiles : List Int → List (Int × List Int) → List Int → Prop
 | l, [], z => l = z ∧ (piece z).2 = 0
 | l, (k, t) :: ps, z => ∃ r, l = t ++ r ∧ piece l = (k, t.length) ∧ t.length ≠ 0 ∧ Tiles r ps z

theorem tiles_pcs : ∀ (f : Nat) (l : List Int), l.length ≤ f → Tiles l (pcs f l).1 (pcs f l).2
 | 0, l, h => by
  have : l = [] := List.eq_nil_of_length_eq_zero (by omega)
  subst this; exact ⟨rfl, rfl⟩
 | f + 1, l, h => by
  unfold pcs
  split
  ·rename_i h0; exact ⟨rfl, h0⟩
  ·rename_i h0
   have hle := piece_le l
   have hlen : (l.take (piece l).2).length = (piece l).2 := by rw [List.length_take]; omega
   exact ⟨l.drop (piece l).2, (List.take_append_drop _ _).symm, by rw [hlen], by omega, tiles_pcs f _ (by rw [List.length_drop]; omega)⟩
theorem tiles_uniq : ∀ (ps : List (Int × List Int)) (f : Nat) (l z : List Int), l.length ≤ f → Tiles l ps z → pcs f l = (ps, z)
 | [], 0, l, z, _, h => by obtain ⟨rfl, _⟩ := h; rfl
 | [], f + 1, l, z, _, h => by
  obtain ⟨rfl, h0⟩ := h
  unfold pcs; rw [if_pos h0]
 | (k, t) :: ps, 0, l, z, hf, h => by
  obtain ⟨r, rfl, h1, h2, h3⟩ := h
  rw [List.length_append] at hf; omega
 | (k, t) :: ps, f + 1, l, z, hf, h => by
  obtain ⟨r, rfl, h1, h2, h3⟩ := h
  have ih := tiles_uniq ps f r z (by rw [List.length_append] at hf; omega) h3
  unfold pcs
  rw [h1, if_neg (by exact h2)]
  simp only [List.drop_left, List.take_left, ih]

def pieces (l : List Int) : List (Int × List Int) := (pcs l.length l).1
def left (l : List Int) : List Int := (pcs l.length l).2
theorem tiles_of (l : List Int) : Tiles l (pieces l) (left l) := tiles_pcs _ _ (Nat.le_refl _)
theorem tiles_is {l z : List Int} {ps : List (Int × List Int)} (h : Tiles l ps z) : pieces l = ps ∧ left l = z := by
 have := tiles_uniq ps l.length l z (Nat.le_refl _) h
 unfold pieces left; rw [this]; exact ⟨rfl, rfl⟩

def cat : List (Int × List Int) → List Int
 | [] => []
 | (_, t) :: ps => t ++ cat ps
theorem tiles_cat : ∀ {ps : List (Int × List Int)} {l z : List Int}, Tiles l ps z → l = cat ps ++ z
 | [], _, _, h => h.1
 | (k, t) :: ps, l, z, ⟨r, h1, _, _, h3⟩ => by
  rw [h1, tiles_cat h3]; simp [cat]
/-! ### The program's words; where an end is put in -/
def words : List (List Int) := [[112, 97, 99, 107, 97, 103, 101], [105, 109, 112, 111, 114, 116], [99, 111, 110, 115, 116], [118, 97, 114], [116, 121, 112, 101], [102, 117, 110, 99], [109, 97, 112], [115, 116, 114, 117, 99, 116],
 [105, 102], [101, 108, 115, 101], [102, 111, 114], [114, 101, 116, 117, 114, 110], [98, 114, 101, 97, 107], [99, 111, 110, 116, 105, 110, 117, 101]]
def wRet : List Int := [114, 101, 116, 117, 114, 110]
def wBrk : List Int := [98, 114, 101, 97, 107]
def wCon : List Int := [99, 111, 110, 116, 105, 110, 117, 101]
def isWord (t : List Int) : Bool := decide (t ∈ words)
def shutM : List (List Int) := [[41], [93], [125], [43, 43], [45, 45]]
/-- Is an end put in behind it? -/
def closes (k : Int) (t : List Int) : Bool :=
 if k = 2 ∨ k = 3 then true
 else if k = 1 then !isWord t || decide (t = wRet) || decide (t = wBrk) || decide (t = wCon)
 else if k = 4 then decide (t ∈ shutM)
 else false

structure St where
 toks : List Tok
 first : Bool
 opn : Bool
 beh : Nat

def ended (s : St) : St := ⟨s.toks ++ [⟨6, [], s.beh, false⟩], s.first, false, s.beh⟩
/-- One piece more. -/
def keep (s : St) (k : Int) (t : List Int) (at_ : Nat) : St :=
 let s1 := if s.opn = true ∧ (k = 8 ∨ k = 5) then ended s else s
 if k = 8 then ⟨s1.toks, true, s1.opn, s1.beh⟩
 else if k = 7 then s1
 else ⟨s1.toks ++ [⟨k, t, at_, s1.first⟩], false, closes k t, at_ + t.length⟩

def foldK : St → Nat → List (Int × List Int) → St
 | s, _, [] => s
 | s, n, (k, t) :: ps => foldK (keep s k t n) (n + t.length) ps

/-- Does the line, remarks aside, end here? -/
def over : List (Int × List Int) → Bool
 | [] => true
 | (k, _) :: ps => if k = 7 then over ps else decide (k = 8 ∨ k = 5)

/-- The tokens, with the ends that are put in, of a program of these pieces. -/
def fin : List (Int × List Int) → Nat → Bool → List Tok
 | [], _, _ => []
 | (k, t) :: ps, n, f =>
  if k = 8 then fin ps (n + t.length) true
  else if k = 7 then fin ps (n + t.length) f
  else ⟨k, t, n, f⟩ :: ((if closes k t && over ps then [⟨6, [], n + t.length, false⟩] else []) ++ fin ps (n + t.length) false)

theorem closes_seven (t : List Int) (k : Int) (h : k = 7 ∨ k = 8 ∨ k = 5 ∨ k = 6) : closes k t = false := by
 unfold closes
 rw [if_neg (by omega), if_neg (by omega), if_neg (by omega)]

theorem foldK_fin : ∀ (ps : List (Int × List Int)) (s : St) (n : Nat),
  (keep (foldK s n ps) 8 [] 0).toks = s.toks ++ ((if s.opn && over ps then [⟨6, [], s.beh, false⟩] else []) ++ fin ps n s.first)
 | [], s, n => by
  cases ho : s.opn <;> simp [foldK, keep, fin, over, ended, ho]
 | (k, t) :: ps, s, n => by
  simp only [foldK]
  rw [foldK_fin ps]
  by_cases h8 : k = 8
  ·subst h8
   cases ho : s.opn <;> simp [keep, fin, over, ended, ho]
  ·by_cases h7 : k = 7
   ·subst h7
    cases ho : s.opn <;> simp [keep, fin, over, ho]
   ·by_cases h5 : k = 5
    ·subst h5
     have hc := closes_seven t 5 (by omega)
     cases ho : s.opn <;> simp [keep, fin, over, ended, ho, hc]
    ·cases ho : s.opn <;> simp [keep, fin, over, ho, h8, h7, h5]

def st0 : St := ⟨[], true, false, 0⟩
/-- The program's tokens. -/
def toks (l : List Int) : List Tok := fin (pieces l) 0 true
theorem fold_toks (l : List Int) : (keep (foldK st0 0 (pieces l)) 8 [] 0).toks = toks l := by
 rw [foldK_fin]; simp [st0, toks]

/-! ### The walk over the pieces -/
def walkS : Nat → List Int → Nat → St → St × Nat
 | 0, _, n, s => (s, n)
 | f + 1, l, n, s => if (piece l).2 = 0 then (s, n) else walkS f (l.drop (piece l).2) (n + (piece l).2) (keep s (piece l).1 (l.take (piece l).2) n)
theorem walkS_pcs : ∀ (f : Nat) (l : List Int) (n : Nat) (s : St), walkS f l n s = (foldK s n (pcs f l).1, n + (l.length - (pcs f l).2.length))
 | 0, l, n, s => by simp [walkS, pcs, foldK]
 | f + 1, l, n, s => by
  unfold walkS pcs
  split
  ·simp [foldK]
  ·rename_i h0
   have hle := piece_le l
   have hlen : (l.take (piece l).2).length = (piece l).2 := by rw [List.length_take]; omega
   have hl2 : (pcs f (l.drop (piece l).2)).2.length ≤ (l.drop (piece l).2).length := by
    generalize l.drop (piece l).2 = r
    clear h0 hle hlen
    induction f generalizing r with
    | zero => exact Nat.le_refl _
    | succ f ih =>
     unfold pcs
     split
     ·exact Nat.le_refl _
     ·have := ih (r.drop (piece r).2)
      rw [List.length_drop] at this
      simp only; omega
   rw [walkS_pcs f]
   simp only [foldK, hlen]
   rw [List.length_drop] at hl2 ⊢
   congr 1
   omega
theorem walk_all (l : List Int) : walkS l.length l 0 st0 = (foldK st0 0 (pieces l), l.length - (left l).length) := by
 rw [walkS_pcs]; simp [pieces, left]
theorem left_le (l : List Int) : (left l).length ≤ l.length := by
 have := congrArg List.length (tiles_cat (tiles_of l))
 rw [List.length_append] at this; omega

/-! ### The document's way: first all tokens with their lines, then the ends -/
def plain : List (Int × List Int) → Nat → Nat → Bool → List (Tok × Nat)
 | [], _, _, _ => []
 | (k, t) :: ps, n, ln, f =>
  if k = 8 then plain ps (n + t.length) (ln + 1) true
  else if k = 7 then plain ps (n + t.length) ln f
  else (⟨k, t, n, f⟩, ln) :: plain ps (n + t.length) ln false
def overL (ln : Nat) : List (Tok × Nat) → Bool
 | [] => true
 | (t, m) :: r => if t.kind = 5 ∧ m = ln then overL ln r else decide (ln < m)
def outL : List (Tok × Nat) → List Tok
 | [] => []
 | (t, ln) :: r => t :: ((if overL ln r && closes t.kind t.text then [⟨6, [], t.place + t.text.length, false⟩] else []) ++ outL r)

/-- Behind a remark stand blanks and a newline or the end. -/
def Still : List (Int × List Int) → Prop
 | [] => True
 | (k, _) :: ps => (k = 7 ∧ Still ps) ∨ k = 8
def RemOk : List (Int × List Int) → Prop
 | [] => True
 | (k, _) :: ps => (k = 5 → Still ps) ∧ RemOk ps

theorem plain_line : ∀ (ps : List (Int × List Int)) (n ln : Nat) (f : Bool) (x : Tok × Nat), x ∈ plain ps n ln f → ln ≤ x.2
 | [], _, _, _, _, h => by cases h
 | (k, t) :: ps, n, ln, f, x, h => by
  unfold plain at h
  split at h
  ·have := plain_line ps _ _ _ x h; omega
  split at h
  ·exact plain_line ps _ _ _ x h
  ·rcases List.mem_cons.1 h with h | h
   ·subst h; exact Nat.le_refl _
   ·exact plain_line ps _ _ _ x h
theorem overL_above {ln : Nat} : ∀ {r : List (Tok × Nat)}, (∀ x ∈ r, ln + 1 ≤ x.2) → overL ln r = true
 | [], _ => rfl
 | (t, m) :: r, h => by
  have := h (t, m) (by simp)
  simp only at this
  unfold overL
  rw [if_neg (by omega)]; simp; omega
theorem overL_still : ∀ (ps : List (Int × List Int)) (n ln : Nat) (f : Bool), Still ps → overL ln (plain ps n ln f) = true
 | [], _, _, _, _ => rfl
 | (k, t) :: ps, n, ln, f, h => by
  rcases h with ⟨rfl, h⟩ | rfl
  ·simp only [plain]
   exact overL_still ps _ _ _ h
  ·simp only [plain, if_true]
   exact overL_above (fun x hx => plain_line ps _ _ _ x hx)
theorem overL_plain : ∀ (ps : List (Int × List Int)) (n ln : Nat) (f : Bool), RemOk ps → overL ln (plain ps n ln f) = over ps
 | [], _, _, _, _ => rfl
 | (k, t) :: ps, n, ln, f, h => by
  by_cases h8 : k = 8
  ·subst h8
   simp only [plain, if_true, over]
   exact overL_above (fun x hx => plain_line ps _ _ _ x hx)
  by_cases h7 : k = 7
  ·subst h7
   simp only [plain, over, if_true]
   exact overL_plain ps _ _ _ h.2
  by_cases h5 : k = 5
  ·subst h5
   have := overL_still ps (n + t.length) ln false (h.1 rfl)
   simp [plain, over, overL, this]
  ·simp [plain, over, overL, h8, h7, h5]
theorem outL_plain : ∀ (ps : List (Int × List Int)) (n ln : Nat) (f : Bool), RemOk ps → outL (plain ps n ln f) = fin ps n f
 | [], _, _, _, _ => rfl
 | (k, t) :: ps, n, ln, f, h => by
  by_cases h8 : k = 8
  ·subst h8
   simp only [plain, if_true, fin]
   exact outL_plain ps _ _ _ h.2
  by_cases h7 : k = 7
  ·subst h7
   simp only [plain, fin]
   exact outL_plain ps _ _ _ h.2
  ·simp only [plain, fin, h8, h7, if_false, outL]
   rw [outL_plain ps _ _ _ h.2, overL_plain ps _ _ _ h.2, Bool.and_comm]

/-- What is left behind a remark begins with blanks, then a newline, or nothing is left. -/
theorem blank_piece {c : Int} (r : List Int) (h : blk c = true) : piece (c :: r) = (7, 1) := by
 have h7 : kd c = 7 := by unfold blk at h; simpa using h
 rw [piece_cons, h7]; rfl
theorem nl_piece (r : List Int) : piece (10 :: r) = (8, 1) := rfl
theorem still_of : ∀ (m : Nat) (l : List Int) (ps : List (Int × List Int)), (∀ i, i < m → blk (l.getD i 0) = true) → m ≤ l.length → (m < l.length → l.getD m 0 = 10) → Tiles l ps [] → Still ps
 | _, _, [], _, _, _, _ => trivial
 | 0, l, (k, t) :: ps, _, _, h2, ⟨r, h3, h4, h5, h6⟩ => by
  cases l with
  | nil =>
   have := congrArg List.length h3
   rw [List.length_append] at this; simp at this; omega
  | cons c l' =>
   have : c = 10 := by simpa using h2 (by simp)
   subst this
   rw [nl_piece] at h4
   have : k = 8 := by injection h4 with a _; exact a.symm
   exact .inr this
 | m + 1, l, (k, t) :: ps, h0, h1, h2, ⟨r, h3, h4, h5, h6⟩ => by
  cases l with
  | nil => simp at h1
  | cons c l' =>
   have hb : blk c = true := by simpa using h0 0 (by omega)
   rw [blank_piece l' hb] at h4
   have hk : k = 7 ∧ t.length = 1 := by injection h4 with a b; exact ⟨a.symm, b.symm⟩
   obtain ⟨d, rfl⟩ : ∃ d, t = [d] := by
    match t, hk.2 with
    | [d], _ => exact ⟨d, rfl⟩
   simp only [List.cons_append, List.nil_append, List.cons.injEq] at h3
   obtain ⟨rfl, rfl⟩ := h3
   exact .inl ⟨hk.1, still_of m l' ps (fun i hi => by simpa using h0 (i + 1) (by omega)) (by simpa using h1) (fun h => by simpa using h2 (by simpa using h)) h6⟩
theorem getD_drop (l : List Int) (n i : Nat) : (l.drop n).getD i 0 = l.getD (n + i) 0 := by simp [List.getD, List.getElem?_drop]
theorem getD_take {l : List Int} {n i : Nat} (h : i < n) : (l.take n).getD i 0 = l.getD i 0 := by simp [List.getD, h]

theorem piece_five {l : List Int} {n : Nat} (h : piece l = (5, n)) : l.take 2 = [47, 47] ∧ n = remL l := by
 cases l with
 | nil => simp [piece] at h
 | cons c r =>
  rw [piece_cons] at h
  repeat' split at h
  all_goals first
   | (simp only [Prod.mk.injEq] at h; exact ⟨by assumption, h.2.symm⟩)
   | (exfalso; simp only [Prod.mk.injEq] at h; have := kd_cases c; omega)
theorem still_rem {l : List Int} {n : Nat} {ps : List (Int × List Int)} (h : piece l = (5, n)) (ht : Tiles (l.drop n) ps []) : Still ps := by
 obtain ⟨_, rfl⟩ := piece_five h
 have hle : lineL l ≤ l.length := lead_le _ _
 have htr := trimL_le (l.take (lineL l))
 rw [List.length_take] at htr
 have hr : remL l = trimL (l.take (lineL l)) := rfl
 refine still_of (lineL l - remL l) _ ps (fun i hi => ?_) (by rw [List.length_drop]; omega) (fun hlt => ?_) ht
 ·have := trimL_blk (l.take (lineL l)) (remL l + i) (by omega) (by rw [List.length_take]; omega)
  rw [getD_take (by omega)] at this
  rw [getD_drop]; exact this
 ·rw [List.length_drop] at hlt
  have := lead_stop (fun c => c != 10) l (by unfold lineL at *; omega)
  rw [getD_drop, show remL l + (lineL l - remL l) = lineL l from by omega]
  unfold lineL; simpa using this
theorem remOk_of : ∀ (ps : List (Int × List Int)) (l : List Int), Tiles l ps [] → RemOk ps
 | [], _, _ => trivial
 | (k, t) :: ps, l, ⟨r, h1, h2, _, h4⟩ => ⟨fun hk => by
   subst hk
   have : l.drop t.length = r := by rw [h1, List.drop_left]
   exact still_rem h2 (by rw [this]; exact h4), remOk_of ps r h4⟩
/-- The document's tokens are the program's. -/
theorem outL_toks {l : List Int} (h : left l = []) : outL (plain (pieces l) 0 0 true) = toks l :=
 outL_plain _ _ _ _ (remOk_of _ l (by have := tiles_of l; rw [h] at this; exact this))

end Go.Proofs.YtaiihnniblibaaaGreatDoor.Lex

/-
 Plain mathematics of layer 6 (parse): what is read from a row of tokens, or what is thrown. Nothing of the program is imported.
-/
namespace Go.Proofs.YtaiihnniblibaaaGreatDoor.Parse
open Tree
set_option linter.unusedVariables false

/-- A token: its kind, its text, its place, and whether it is its line's first. -/
structure Tk where
 kind : Int
 x : ByteArray
 place : Nat
 first : Bool

def nmI (x : ByteArray) : List Int := x.toList.map fun b => (b.toNat : Int)
def isT (t : Tk) (u : List UInt8) : Bool := t.x.toList == u
def isNm (t : Tk) : Bool := t.kind == 1 && !Lex.isWord (nmI t.x)
def isSign (t : Tk) : Bool := isT t [45] || isT t [33] || isT t [94] || isT t [42] || isT t [38] || isT t [43]
def begT (t : Tk) : Bool := isT t [42] || isT t [91] || isT t [109, 97, 112] || isT t [115, 116, 114, 117, 99, 116] || isNm t
def begU (t : Tk) : Bool := t.kind == 2 || (t.kind == 3 || (isT t [40] || (isNm t || isSign t)))
def e0 : ByteArray := ⟨#[]⟩

/-- What is read, and the tokens behind it; or what is thrown: a place and an error. -/
inductive Rd (α : Type) where
 | ok (a : α) (r : List Tk)
 | bad (p : Nat) (e : Int)
def Rd.bind {α β : Type} (x : Rd α) (f : α → List Tk → Rd β) : Rd β :=
 match x with
 | .ok a r => f a r
 | .bad p e => .bad p e
theorem Rd.bind_ok {α β : Type} (a : α) (r : List Tk) (f : α → List Tk → Rd β) : (Rd.ok a r).bind f = f a r := rfl
theorem Rd.bind_bad {α β : Type} (p : Nat) (e : Int) (f : α → List Tk → Rd β) : (Rd.bad p e).bind f = .bad p e := rfl

/-- The next token; behind the last one it is none, at the program's end z. -/
def hd (z : Nat) : List Tk → Tk
 | [] => ⟨0, e0, z, false⟩
 | t :: _ => t
def beg (z : Nat) (f : Bool) (d : Nat) (l : List Tk) : Rd Tk :=
 if f = true then (if 256 < d then .bad (hd z l).place 6 else .ok (hd z l) l.tail) else .bad (hd z l).place 5
def must (z : Nat) (f : Bool) (l : List Tk) : Rd Unit := if f = true then .ok () l else .bad (hd z l).place 5
def want (z : Nat) (u : List UInt8) (l : List Tk) : Rd Unit := if isT (hd z l) u = true then .ok () l.tail else .bad (hd z l).place 5
def name (z : Nat) (l : List Tk) : Rd ByteArray := if isNm (hd z l) = true then .ok (hd z l).x l.tail else .bad (hd z l).place 5
def over (z : Nat) (l : List Tk) : Rd ByteArray :=
 if isT (hd z l) [125] = true then .ok e0 l
 else if (hd z l).kind = 6 then (if (hd z l.tail).kind = 5 ∧ (hd z l.tail).first = false then .ok (hd z l.tail).x l.tail.tail else .ok e0 l.tail)
 else .bad (hd z l).place 5

def oneF (n : Nd) (r : F) : F := .cons n.k n.x n.y n.c r
def one (n : Nd) : F := oneF n .nil
def noneN : Nd := ⟨33, e0, e0, .nil⟩
def node (k : Int) (x : ByteArray) (c : F) : Nd := ⟨k, x, e0, c⟩

/-- An item: a remark, or what rd reads and what is behind that. -/
def item (z : Nat) (rd : Nat → List Tk → Rd Nd) (d : Nat) (l : List Tk) : Rd Nd :=
 if (hd z l).kind = 5 then (beg z true d l).bind fun t l => .ok (node 8 t.x .nil) l
 else (rd d l).bind fun n l => (over z l).bind fun y l => .ok ⟨n.k, n.x, y, n.c⟩ l
/-- Items up to a shutting brace. -/
def items (z : Nat) (it : List Tk → Rd Nd) : Nat → List Tk → Rd F
 | 0, _ => .bad 0 0
 | f + 1, l => if isT (hd z l) [125] = true then .ok .nil l else (it l).bind fun n l => (items z it f l).bind fun c l => .ok (oneF n c) l
def braces (z : Nat) (rd : Nat → List Tk → Rd Nd) (d : Nat) (l : List Tk) : Rd F :=
 (beg z (isT (hd z l) [123]) d l).bind fun _ l => (items z (item z rd (d + 1)) (l.length + 1) l).bind fun c l => (want z [125] l).bind fun _ l => .ok c l
/-- What stands between parentheses. -/
def comma (z : Nat) (l : List Tk) : Rd Unit := if isT (hd z l) [41] = true then .ok () l else want z [44] l
def args (z : Nat) (rd : List Tk → Rd Nd) : Nat → List Tk → Rd F
 | 0, _ => .bad 0 0
 | f + 1, l => if isT (hd z l) [41] = true then .ok .nil l else (rd l).bind fun n l => (comma z l).bind fun _ l => (args z rd f l).bind fun c l => .ok (oneF n c) l
def list (z : Nat) (rd : Nat → List Tk → Rd Nd) (d : Nat) (l : List Tk) : Rd F :=
 (want z [40] l).bind fun _ l => (args z (rd (d + 1)) (l.length + 1) l).bind fun c l => (want z [41] l).bind fun _ l => .ok c l

/-! ### Types -/
def typed (z : Nat) (k : Int) (ty : Nat → List Tk → Rd Nd) (d : Nat) (l : List Tk) : Rd Nd :=
 (beg z (isNm (hd z l)) d l).bind fun t l => (ty d l).bind fun n l => .ok (node k t.x (one n)) l
/-- What stands behind a type's first token. -/
def typRest (z : Nat) (ty : Nat → List Tk → Rd Nd) (d : Nat) (t : Tk) (l : List Tk) : Rd Nd :=
 if isT t [42] = true then (ty (d + 1) l).bind fun n l => .ok (node 10 e0 (one n)) l
 else if isT t [91] = true then (want z [93] l).bind fun _ l => (ty (d + 1) l).bind fun n l => .ok (node 11 e0 (one n)) l
 else if isT t [109, 97, 112] = true then (want z [91] l).bind fun _ l => (ty (d + 1) l).bind fun k l => (want z [93] l).bind fun _ l => (ty (d + 1) l).bind fun n l => .ok (node 12 e0 (oneF k (one n))) l
 else if isT t [115, 116, 114, 117, 99, 116] = true then (braces z (typed z 14 ty) d l).bind fun c l => .ok (node 13 e0 c) l
 else .ok (node 9 t.x .nil) l
def typR (z : Nat) : Nat → Nat → List Tk → Rd Nd
 | 0, _, _ => .bad 0 0
 | f + 1, d, l => (beg z (begT (hd z l)) d l).bind fun t l => typRest z (typR z f) d t l
def tyR (z : Nat) (d : Nat) (l : List Tk) : Rd Nd := typR z (l.length + 1) d l

/-! ### Expressions. ex least d: an expression whose operators bind at least so strongly -/
def first (z : Nat) (ex : Nat → Nat → List Tk → Rd Nd) (d : Nat) (t : Tk) (l : List Tk) : Rd Nd :=
 if t.kind = 2 then .ok (node 26 t.x .nil) l
 else if t.kind = 3 then .ok (node 27 t.x .nil) l
 else if isT t [40] = true then (ex 1 (d + 1) l).bind fun n l => (want z [41] l).bind fun _ l => .ok n l
 else .ok (node 9 t.x .nil) l
def behind (z : Nat) (ex : Nat → Nat → List Tk → Rd Nd) (d : Nat) : Nat → Nd → List Tk → Rd Nd
 | 0, _, _ => .bad 0 0
 | f + 1, n, l =>
  if isT (hd z l) [40] = true then (list z (ex 1) d l).bind fun c l => behind z ex d f (node 30 e0 (oneF n c)) l
  else if isT (hd z l) [91] = true then (ex 1 (d + 1) l.tail).bind fun m l => (want z [93] l).bind fun _ l => behind z ex d f (node 31 e0 (oneF n (one m))) l
  else if isT (hd z l) [46] = true then (name z l.tail).bind fun s l => behind z ex d f (node 32 s (one n)) l
  else .ok n l
def unR (z : Nat) (ex : Nat → Nat → List Tk → Rd Nd) : Nat → Nat → List Tk → Rd Nd
 | 0, _, _ => .bad 0 0
 | f + 1, d, l => (beg z (begU (hd z l)) d l).bind fun t l =>
  if isSign t = true then (unR z ex f (d + if isSign (hd z l) = true then 2 else 1) l).bind fun n l => .ok (node 28 t.x (one n)) l
  else (first z ex d t l).bind fun n l => behind z ex d (l.length + 1) n l
def loopB (z : Nat) (ex : Nat → Nat → List Tk → Rd Nd) (least d : Nat) : Nat → Nd → List Tk → Rd Nd
 | 0, _, _ => .bad 0 0
 | f + 1, n, l =>
  if least ≤ level (hd z l).x then (ex (level (hd z l).x + 1) d l.tail).bind fun m l' => loopB z ex least d f (node 29 (hd z l).x (oneF n (one m))) l'
  else .ok n l
def bindR (z : Nat) : Nat → Nat → Nat → List Tk → Rd Nd
 | 0, _, _, _ => .bad 0 0
 | f + 1, least, d, l => (unR z (bindR z f) (l.length + 1) d l).bind fun n l => loopB z (bindR z f) least d (l.length + 1) n l
def exR (z : Nat) (d : Nat) (l : List Tk) : Rd Nd := bindR z (l.length + 1) 1 d l

/-! ### Statements -/
def varR (z : Nat) (d : Nat) (l : List Tk) : Rd Nd :=
 (beg z (isT (hd z l) [118, 97, 114]) d l).bind fun _ l => (name z l).bind fun s l =>
 (if isT (hd z l) [61] = true then .ok noneN l else tyR z d l).bind fun t l =>
 (if isT (hd z l) [61] = true then exR z d l.tail else .ok noneN l).bind fun v l => .ok (node 5 s (oneF t (one v))) l
def blockR (z : Nat) (st : Nat → List Tk → Rd Nd) (d : Nat) (l : List Tk) : Rd Nd := (braces z st d l).bind fun c l => .ok (node 17 e0 c) l
def branchR (z : Nat) (st : Nat → List Tk → Rd Nd) : Nat → Nat → List Tk → Rd Nd
 | 0, _, _ => .bad 0 0
 | f + 1, d, l => (beg z (isT (hd z l) [105, 102]) d l).bind fun _ l => (exR z d l).bind fun c l => (blockR z st d l).bind fun b l =>
  (if isT (hd z l) [101, 108, 115, 101] = true then (if isT (hd z l.tail) [105, 102] = true then branchR z st f (d + 1) l.tail else blockR z st d l.tail) else .ok noneN l).bind fun o l =>
  .ok (node 18 e0 (oneF c (oneF b (one o)))) l
def forR (z : Nat) (st : Nat → List Tk → Rd Nd) (d : Nat) (l : List Tk) : Rd Nd :=
 (beg z (isT (hd z l) [102, 111, 114]) d l).bind fun _ l => (if isT (hd z l) [123] = true then .ok noneN l else exR z d l).bind fun c l =>
 (blockR z st d l).bind fun b l => .ok (node 19 e0 (oneF c (one b))) l
def commas (z : Nat) (d : Nat) : Nat → List Tk → Rd F
 | 0, _ => .bad 0 0
 | f + 1, l => if isT (hd z l) [44] = true then (exR z d l.tail).bind fun n l => (commas z d f l).bind fun c l => .ok (oneF n c) l else .ok .nil l
def retR (z : Nat) (d : Nat) (l : List Tk) : Rd Nd :=
 (beg z (isT (hd z l) [114, 101, 116, 117, 114, 110]) d l).bind fun _ l =>
 if (hd z l).kind = 6 ∨ isT (hd z l) [125] = true then .ok (node 20 e0 .nil) l
 else (exR z d l).bind fun n l => (commas z d (l.length + 1) l).bind fun c l => .ok (node 20 e0 (oneF n c)) l
def jumpR (z : Nat) (k : Int) (d : Nat) (l : List Tk) : Rd Nd := (beg z true d l).bind fun _ l => .ok (node k e0 .nil) l
def plc (n : Nd) : Bool := n.k == 9 || (n.k == 31 || (n.k == 32 || (n.k == 28 && n.x.toList == [42])))
def asgT (t : Tk) : Bool := isT t [61] || (isT t [43, 61] || (isT t [45, 61] || (isT t [42, 61] || (isT t [47, 61] || isT t [37, 61]))))
def incT (t : Tk) : Bool := isT t [43, 43] || isT t [45, 45]
def simpleR (z : Nat) (d : Nat) (l : List Tk) : Rd Nd :=
 (exR z d l).bind fun n l =>
 if isT (hd z l) [58, 61] = true then (must z (n.k == 9) l).bind fun _ l => (exR z d l.tail).bind fun m l' => .ok (node 21 (hd z l).x (oneF n (one m))) l'
 else if asgT (hd z l) = true then (must z (plc n) l).bind fun _ l => (exR z d l.tail).bind fun m l' => .ok (node 21 (hd z l).x (oneF n (one m))) l'
 else if incT (hd z l) = true then (must z (plc n) l).bind fun _ l => .ok (node 22 (hd z l).x (one n)) l.tail
 else (must z (n.k == 30) l).bind fun _ l => .ok (node 23 e0 (one n)) l
def stRest (z : Nat) (st : Nat → List Tk → Rd Nd) (d : Nat) (l : List Tk) : Rd Nd :=
 if isT (hd z l) [118, 97, 114] = true then varR z d l
 else if isT (hd z l) [123] = true then blockR z st d l
 else if isT (hd z l) [105, 102] = true then branchR z st (l.length + 1) d l
 else if isT (hd z l) [102, 111, 114] = true then forR z st d l
 else if isT (hd z l) [114, 101, 116, 117, 114, 110] = true then retR z d l
 else if isT (hd z l) [98, 114, 101, 97, 107] = true then jumpR z 24 d l
 else if isT (hd z l) [99, 111, 110, 116, 105, 110, 117, 101] = true then jumpR z 25 d l
 else simpleR z d l
def stR (z : Nat) : Nat → Nat → List Tk → Rd Nd
 | 0, _, _ => .bad 0 0
 | f + 1, d, l => stRest z (stR z f) d l
def stmR (z : Nat) (d : Nat) (l : List Tk) : Rd Nd := stR z (l.length + 1) d l

/-! ### Items of a file -/
def funcR (z : Nat) (d : Nat) (l : List Tk) : Rd Nd :=
 (beg z (isT (hd z l) [102, 117, 110, 99]) d l).bind fun _ l =>
 (if isT (hd z l) [40] = true then (typed z 16 (tyR z) d l.tail).bind fun n l => (want z [41] l).bind fun _ l => .ok n l else .ok noneN l).bind fun r l =>
 (name z l).bind fun s l => (list z (typed z 16 (tyR z)) d l).bind fun ps l =>
 (if isT (hd z l) [123] = true then .ok noneN l else tyR z d l).bind fun t l =>
 (blockR z (stmR z) d l).bind fun b l => .ok (node 7 s (oneF r (oneF (node 15 e0 ps) (oneF t (one b))))) l
def declR (z : Nat) (d : Nat) (l : List Tk) : Rd Nd :=
 if isT (hd z l) [112, 97, 99, 107, 97, 103, 101] = true then (name z l.tail).bind fun s l => .ok (node 2 s .nil) l
 else if isT (hd z l) [105, 109, 112, 111, 114, 116] = true then (must z ((hd z l.tail).kind == 3) l.tail).bind fun _ l => .ok (node 3 (hd z l).x .nil) l.tail
 else if isT (hd z l) [99, 111, 110, 115, 116] = true then (name z l.tail).bind fun s l => (want z [61] l).bind fun _ l => (exR z d l).bind fun n l => .ok (node 4 s (one n)) l
 else if isT (hd z l) [116, 121, 112, 101] = true then (name z l.tail).bind fun s l => (tyR z d l).bind fun n l => .ok (node 6 s (one n)) l
 else if isT (hd z l) [118, 97, 114] = true then varR z d l
 else funcR z d l
/-- Remarks, and items that begin with one of some words. -/
def rows (z : Nat) (ws : List (List UInt8)) : Nat → List Tk → Rd F
 | 0, _ => .bad 0 0
 | f + 1, l => if (hd z l).kind = 5 ∨ (ws.any fun u => isT (hd z l) u) = true then (item z (declR z) 0 l).bind fun n l => (rows z ws f l).bind fun c l => .ok (oneF n c) l else .ok .nil l
def appF : F → F → F
 | .nil, g => g
 | .cons k x y c r, g => .cons k x y c (appF r g)
def wImp : List (List UInt8) := [[105, 109, 112, 111, 114, 116]]
def wDecl : List (List UInt8) := [[99, 111, 110, 115, 116], [118, 97, 114], [116, 121, 112, 101], [102, 117, 110, 99]]
def fileR (z : Nat) (l : List Tk) : Rd F :=
 (rows z [] (l.length + 1) l).bind fun c1 l => (must z (isT (hd z l) [112, 97, 99, 107, 97, 103, 101]) l).bind fun _ l => (item z (declR z) 0 l).bind fun p l =>
 (rows z wImp (l.length + 1) l).bind fun c2 l => (rows z wDecl (l.length + 1) l).bind fun c3 l => (must z (decide (l.length = 0)) l).bind fun _ l => .ok (appF c1 (oneF p (appF c2 c3))) l

end Go.Proofs.YtaiihnniblibaaaGreatDoor.Parse

/-
 Words for memory, of no layer: rows of structs (elements of several one-cell fields) of a call's own: append of one element, and how such a row reads.
-/
namespace Go.Proofs.YtaiihnniblibaaaGreatDoor.MemT
open Go.ChangeShapes Go.WideShapes Go.ChangeAt Go.RowKit
set_option linter.unusedVariables false

/-- The slice at A reads as the elements xs, each of sz cells; it lies below block B. -/
def RT {α : Type} (f : α → List Value) (sz : Nat) (w : World) (B : Nat) (A : Option Addr) (xs : List α) : Prop :=
 xs = [] ∨ ∃ b, A = some ⟨b, 0, none⟩ ∧ b < B ∧ ∀ i x, xs[i]? = some x → ∀ j u, (f x)[j]? = some u → w.cell? ⟨b, i * sz + j, none⟩ = some u
section
variable {α : Type} {f : α → List Value} {sz : Nat} {w w' : World} {B B' : Nat} {A : Option Addr} {xs : List α}
theorem RT.below (h : RT f sz w B A xs) {B0 : Nat} (hb : Below B0 w w') (hB : B ≤ B0) : RT f sz w' B A xs := by
 rcases h with h | ⟨b, e, hl, hc⟩
 ·exact .inl h
 ·exact .inr ⟨b, e, hl, fun i x hx j u hu => (hb.cell (by show b < B0; omega)).trans (hc i x hx j u hu)⟩
theorem RT.more (h : RT f sz w B A xs) (hB : B ≤ B') : RT f sz w B' A xs := by
 rcases h with h | ⟨b, e, hl, hc⟩
 ·exact .inl h
 ·exact .inr ⟨b, e, by omega, hc⟩
theorem RT.at_ (h : RT f sz w B A xs) (hn : 0 < xs.length) : ∃ b, A = some ⟨b, 0, none⟩ ∧ b < B ∧ ∀ i x, xs[i]? = some x → ∀ j u, (f x)[j]? = some u → w.cell? ⟨b, i * sz + j, none⟩ = some u := by
 rcases h with h | h
 ·subst h; simp at hn
 ·exact h
end

theorem flat_len {α : Type} {f : α → List Value} {sz : Nat} (hf : ∀ x, (f x).length = sz) : ∀ xs : List α, (xs.flatMap f).length = xs.length * sz
 | [] => by simp
 | x :: xs => by
  rw [List.flatMap_cons, List.length_append, hf, flat_len hf xs, List.length_cons, Nat.add_mul]; omega
theorem flat_at {α : Type} {f : α → List Value} {sz : Nat} (hf : ∀ x, (f x).length = sz) : ∀ (xs : List α) (i : Nat) (x : α), xs[i]? = some x → ∀ (j : Nat) (u : Value), (f x)[j]? = some u → (xs.flatMap f)[i * sz + j]? = some u
 | [], i, x, h => by simp at h
 | y :: ys, 0, x, h => fun j u hu => by
  simp only [List.getElem?_cons_zero, Option.some.injEq] at h
  subst h
  have hj : j < (f y).length := by
   rcases Nat.lt_or_ge j (f y).length with h' | h'
   ·exact h'
   ·rw [List.getElem?_eq_none h'] at hu; cases hu
  rw [List.flatMap_cons, Nat.zero_mul, Nat.zero_add, List.getElem?_append_left hj]; exact hu
 | y :: ys, i + 1, x, h => fun j u hu => by
  have ih := flat_at hf ys i x (by simpa using h) j u hu
  have hl := hf y
  rw [List.flatMap_cons, List.getElem?_append_right (by rw [hl, Nat.add_mul]; omega), hl]
  rw [show (i + 1) * sz + j - sz = i * sz + j from by rw [Nat.add_mul]; omega]
  exact ih

theorem own_rt {α : Type} {f : α → List Value} {sz : Nat} (hf : ∀ x, (f x).length = sz) {w : World} {base n c : Nat} {E : TypeId} {A : Option Addr} {xs : List α} (h : w.ownsRow base E sz (.slice A n c) n (xs.flatMap f)) (hn : xs.length = n) :
  RT f sz w w.heap.size A xs := by
 rcases h.2 with ⟨_, h0⟩ | ⟨g, cap, cur, hv, hg0, hg, h1, h2, h3, h4⟩
 ·exact .inl (List.eq_nil_of_length_eq_zero (by omega))
 ·injection hv with hA _ _
  refine .inr ⟨g, hA, lt_of_block hg, fun i x hx j u hu => ?_⟩
  have e := flat_at hf xs i x hx j u hu
  rw [← h4, List.getElem?_take] at e
  split at e
  ·simpa [World.cell?, hg] using e
  ·cases e

section
variable {P : Program} {T E : TypeId} {i0 : TypeInfo} {z : Value} {sz by_ : Nat}
/-- append of one struct onto a row of the call's own. -/
theorem app_cells (w : World) {ops : Array Oper} {rest : List Oper} {o : Oper} {a : Act} {Q : Exit → Act → World → Prop} (hgd : o.guard = none) (s x : Operand)
  (ho : o.op = .call { callee := .builtin .append, args := #[s, x], argTypes := #[T, T] }) (hT : P.underlying T = some (.slice E)) (hi0 : P.info? E = some i0) (hz0 : i0.zero = some z) (hz1 : i0.size = sz) (hz2 : i0.bytes = by_) (hzc : z.cells.size = sz) (hsz : 0 < sz)
  (base : Nat) (v : Value) (n : Nat) (vs cs : List Value) (hs : a.eval s = v) (hown : w.ownsRow base E sz v n vs) (hcs : cs.length = sz) (hu : ∀ u ∈ cs, u.oneCell' = true) (g : Nat) (hg : g = w.heap.size) (hx : a.eval x = .slice (some ⟨g, 0, none⟩) 1 1)
  (h63 : n ≤ 10000000) (hb : by_ ≤ 100) (hbase : base ≤ w.heap.size)
  (h : ∀ v' w', w'.ownsRow base E sz v' (n + 1) (vs ++ cs) → (w.alloc (.cells cs.toArray E)).grownBy w' v.ownBlock → (∀ B, (∀ b, v.ownBlock = some b → B ≤ b) → B ≤ w.heap.size → Below B w w') →
   (v'.ownBlock = v.ownBlock ∨ v'.ownBlock = some (w.heap.size + 1)) → wpList P ops Q rest (a.put o.dst v') w') :
  wpList P ops Q (o :: rest) a (w.alloc (.cells cs.toArray E)) := by
 subst hg
 have hmul : (n + 1) * by_ ≤ 10000001 * 100 := Nat.mul_le_mul (by omega) hb
 refine wpList_append_own_at (P := P) _ hgd s x T ho base E i0 z sz by_ hT hi0 hz0 hz1 hz2 hzc hsz v n vs hs (hown.alloc _) ⟨w.heap.size, 0, none⟩ 1 1 cs hx (by omega) (fun j u hj => ?_) hu (by unfold maxLen; omega) (by omega) (by simp; omega) fun v' w' h1 h2 _ h4 => ?_
 ·have e2 : (⟨w.heap.size, 0, none⟩ : Addr).add j = ⟨w.heap.size, j, none⟩ := by unfold Addr.add; split <;> simp_all
  rw [e2, World.cell?_alloc_at _ _ _ _ rfl]
  simpa using hj
 ·exact h v' w' h1 h2 (fun B hv hB => ((Below.refl B w).alloc hB _).grown h2 (by simp; omega) hv) (by simpa using h4)
end
end Go.Proofs.YtaiihnniblibaaaGreatDoor.MemT

/-
 Words of no layer: a region that draws its order, some of whose operations (the writers) turn the world from phase to phase: G says how the world is, by which operations are done and what they left.
-/
namespace Go.Proofs.YtaiihnniblibaaaGreatDoor.Mem
set_option linter.unusedVariables false

/-- Does operation s wait for operation i? -/
def waitsP (l : List Oper) (s i : Nat) : Bool := ((l[s]?).map fun o => o.after.any fun e => Region.binds .any e && e.on == i).getD false
def setD (d : Nat → Bool) (i : Nat) : Nat → Bool := fun j => if j = i then true else d j
/-- What is asked of operation i. -/
def StepP (P : Program) (l : List Oper) (Q : Exit → Act → World → Prop) (ws : List Nat) (G : (Nat → Bool) → (Nat → Value) → World → Prop) {T : World → World → Prop} (Φ : List (Cd T)) (x : Nat → Value) (a : Act) (W : World) (i : Nat) (o : Oper) : Prop :=
 ∀ d : Nat → Bool, d i = false → (∀ j, waitsP l i j = true → d j = true) → (∀ k j, d k = true → waitsP l k j = true → d j = true) → (∀ j, d j = true → (atC Φ j).p (x j) W) → G d x W →
 ∀ K : Act → World → Prop, Shut (∀ v W', (if ws.contains i = true then T W W' ∧ G (setD d i) (updX x i v) W' else RowKit.Below W.heap.size W W') → (atC Φ i).p v W' → K (a.put o.dst v) W') → wantOp P l Q o K a W
def StepsP (P : Program) (l : List Oper) (Q : Exit → Act → World → Prop) (ws : List Nat) (G : (Nat → Bool) → (Nat → Value) → World → Prop) {T : World → World → Prop} (Φ : List (Cd T)) (x : Nat → Value) (a : Act) (W : World) : Nat → List Oper → Prop
 | _, [] => True
 | i, o :: os => StepP P l Q ws G Φ x a W i o ∧ StepsP P l Q ws G Φ x a W (i + 1) os
variable {P : Program} {Q : Exit → Act → World → Prop}
theorem StepsP.get {l : List Oper} {ws : List Nat} {G : (Nat → Bool) → (Nat → Value) → World → Prop} {T : World → World → Prop} {Φ : List (Cd T)} {x : Nat → Value} {a : Act} {W : World} : ∀ (os : List Oper) (k i : Nat) (o : Oper), StepsP P l Q ws G Φ x a W k os → os[i]? = some o → StepP P l Q ws G Φ x a W (k + i) o
 | [], _, _, _, _, h => by simp at h
 | p :: os, k, 0, o, hs, h => by
  simp only [List.getElem?_cons_zero, Option.some.injEq] at h
  subst h
  exact hs.1
 | p :: os, k, i + 1, o, hs, h => by
  have := StepsP.get os (k + 1) i o hs.2 (by simpa using h)
  rwa [show k + 1 + i = k + (i + 1) by omega] at this

def doneOf (n : Nat) (listed : Array Bool) : Nat → Bool := fun j => decide (j < n) && listed.getD j true
theorem ph_any {l : List Oper} {ws : List Nat} {G : (Nat → Bool) → (Nat → Value) → World → Prop} {T : World → World → Prop} {Φ : List (Cd T)} {a0 : Act} {w1 : World} (hn : (dsts l).Nodup) (he : edgesBack l = true) (htr : ∀ W1 W2 W3, T W1 W2 → T W2 W3 → T W1 W3)
  (hTB : ∀ W W', RowKit.Below W.heap.size W W' → T W W')
  (hG : ∀ d d' x x' W W', (∀ j, ws.contains j = true → d' j = d j ∧ (d j = true → x' j = x j)) → RowKit.Below W.heap.size W W' → G d x W → G d' x' W')
  (hsteps : ∀ x W, T w1 W → ∀ a, a = (⟨fillA x 0 l a0.tmps, a0.defers⟩ : Act) → StepsP P l Q ws G Φ x a W 0 l)
  (hdone : ∀ d x W, T w1 W → (∀ i, i < l.length → d i = true) → (∀ i, i < l.length → (atC Φ i).p (x i) W) → G d x W → ∀ a, a = (⟨fillA x 0 l a0.tmps, a0.defers⟩ : Act) → Q .normal a W) :
  ∀ (fuel : Nat) (listed : Array Bool) (x : Nat → Value) (a : Act) (W : World), unl listed l.length = fuel → a = ⟨fillA x 0 l a0.tmps, a0.defers⟩ → T w1 W → (∀ i, i < l.length → listed.getD i true = true → (atC Φ i).p (x i) W) →
   (∀ k j, doneOf l.length listed k = true → waitsP l k j = true → doneOf l.length listed j = true) → G (doneOf l.length listed) x W →
   wpAny P .any l.toArray Q fuel listed a W := by
 have all : ∀ listed : Array Bool, Region.ready .any l.toArray listed = [] → ∀ i, i < l.length → listed.getD i true = true := by
  intro listed hr i
  induction i using Nat.strongRecOn with
  | _ i ih =>
   intro hi
   by_cases hl : listed.getD i true = true
   ·exact hl
   ·exfalso
    have hm : i ∈ Region.ready .any l.toArray listed := mem_ready.2 ⟨by simpa using hl, l[i], by simp [hi], fun e hm hb => by
     have h1 := List.all_eq_true.1 he i (List.mem_range.2 hi)
     simp only [List.getElem?_eq_getElem hi] at h1
     have h2 := Array.all_eq_true_iff_forall_mem.1 h1 e hm
     simp only [hb, Bool.not_true, Bool.false_or, decide_eq_true_eq] at h2
     have h3 := ih e.on h2 (by omega)
     rcases Nat.lt_or_ge e.on listed.size with h' | h'
     ·simpa [h'] using h3
     ·exfalso
      have h4 : listed.getD i true = true := by simp [Array.getElem?_eq_none (show listed.size ≤ i by omega)]
      exact hl h4⟩
    rw [hr] at hm
    cases hm
 intro fuel
 induction fuel with
 | zero =>
  intro listed x a W hf ha hT hx hcl hg
  have hall := unl_none hf
  refine ⟨?_, hdone _ x W hT (fun i hi => by simp only [doneOf, hi, decide_true, Bool.true_and]; exact hall i hi) (fun i hi => hx i hi (hall i hi)) hg a ha⟩
  cases hr : Region.ready .any l.toArray listed with
  | nil => rfl
  | cons i rs =>
   exfalso
   obtain ⟨h0, o, ho, _⟩ := mem_ready.1 (show i ∈ Region.ready .any l.toArray listed by rw [hr]; exact List.mem_cons_self ..)
   have hi : i < l.length := by
    have := (Array.getElem?_eq_some_iff.1 ho).1
    simpa using this
   rw [hall i hi] at h0
   cases h0
 | succ fuel ih =>
  intro listed x a W hf ha hT hx hcl hg
  refine ⟨fun hr => hdone _ x W hT (fun i hi => by simp only [doneOf, hi, decide_true, Bool.true_and]; exact all listed hr i hi) (fun i hi => hx i hi (all listed hr i hi)) hg a ha, fun i hi => ?_⟩
  obtain ⟨h0, o, ho, hdep⟩ := mem_ready.1 hi
  have ho' : l[i]? = some o := by simpa using ho
  have hil : i < l.length := (List.getElem?_eq_some_iff.1 ho').1
  have hdi : doneOf l.length listed i = false := by simp only [doneOf, hil, decide_true, Bool.true_and]; exact h0
  have hwd : ∀ j, waitsP l i j = true → doneOf l.length listed j = true := fun j hj => by
   unfold waitsP at hj
   simp only [ho', Option.map_some, Option.getD_some] at hj
   rw [← Array.any_toList, List.any_eq_true] at hj
   obtain ⟨e, hm0, hb⟩ := hj
   have hm : e ∈ o.after := Array.mem_toList_iff.1 hm0
   simp only [Bool.and_eq_true, beq_iff_eq] at hb
   have h1 := hdep e hm hb.1
   rw [hb.2] at h1
   have hjl : j < listed.size := by
    rcases Nat.lt_or_ge j listed.size with h' | h'
    ·exact h'
    ·simp [Array.getElem?_eq_none h'] at h1
   have h2 := List.all_eq_true.1 he i (List.mem_range.2 hil)
   simp only [ho'] at h2
   have h3 := Array.all_eq_true_iff_forall_mem.1 h2 e hm
   simp only [hb.1, Bool.not_true, Bool.false_or, decide_eq_true_eq] at h3
   have hj' : j < l.length := by omega
   simp only [doneOf, hj', decide_true, Bool.true_and]
   simpa [hjl] using h1
  have hset : ∀ j, doneOf l.length (listed.setIfInBounds i true) j = setD (doneOf l.length listed) i j := fun j => by
   unfold doneOf setD
   by_cases hji : j = i
   ·subst hji
    have hs : j < listed.size := by
     rcases Nat.lt_or_ge j listed.size with h' | h'
     ·exact h'
     ·simp [Array.getElem?_eq_none h'] at h0
    simp [hil, hs]
   ·rw [if_neg hji, getD_set_ne true (Ne.symm hji)]
  have hfill : ∀ v, a.put o.dst v = ⟨fillA (updX x i v) 0 l a0.tmps, a0.defers⟩ := fun v => by
   rw [ha]
   cases hd : o.dst with
   | none =>
    simp only [Act.put]
    congr 1
    have key : ∀ (os : List Oper) (k m : Nat) (t : Array Value), os[m]? = some o → fillA (updX x (k + m) v) k os t = fillA x k os t := by
     intro os
     induction os with
     | nil => intro k m t h; rfl
     | cons p os ihs =>
      intro k m t h
      cases m with
      | zero =>
       simp only [List.getElem?_cons_zero, Option.some.injEq] at h
       subst h
       simp only [fillA, hd]
       exact fillA_congr os (k + 1) _ fun j hj => by simp only [updX]; rw [if_neg (by omega)]
      | succ m =>
       simp only [fillA]
       have e1 : updX x (k + (m + 1)) v k = x k := by simp only [updX]; rw [if_neg (by omega)]
       rw [e1, show k + (m + 1) = k + 1 + m by omega]
       exact ihs (k + 1) m _ (by simpa using h)
    have := key l 0 i a0.tmps ho'
    rw [Nat.zero_add] at this
    exact this.symm
   | some d =>
    simp only [Act.put]
    congr 1
    have := fillA_upd (x := x) (v := v) l 0 i o a0.tmps hn ho' hd
    rw [Nat.zero_add] at this
    exact this.symm
  have hst := StepsP.get l 0 i o (hsteps x W hT a ha) ho' (doneOf l.length listed) (by rw [Nat.zero_add]; exact hdi) (by rw [Nat.zero_add]; exact hwd) hcl
   (fun j hj => by
    simp only [doneOf, Bool.and_eq_true, decide_eq_true_eq] at hj
    exact hx j hj.1 hj.2) hg
   (fun a' W' => wpAny P .any l.toArray Q fuel (listed.setIfInBounds i true) a' W')
   (by
    intro v W' hTW hv
    rw [Nat.zero_add] at hv hTW
    have hTW' : T W W' := by
     split at hTW
     ·exact hTW.1
     ·exact hTB _ _ hTW
    have hde : doneOf l.length (listed.setIfInBounds i true) = setD (doneOf l.length listed) i := funext hset
    refine ih (listed.setIfInBounds i true) (updX x i v) _ W' (by have := unl_set h0 hil; omega) (hfill v) (htr _ _ _ hT hTW') (fun j hj hl => ?_) (fun k j hk hw => ?_) ?_
    ·by_cases hji : j = i
     ·subst hji
      simpa [updX] using hv
     ·have e1 : updX x i v j = x j := by simp only [updX]; rw [if_neg hji]
      rw [e1]
      rw [getD_set_ne true (Ne.symm hji)] at hl
      exact (atC Φ j).mono _ _ _ hTW' (hx j hj hl)
    ·rw [hde] at hk ⊢
     unfold setD at hk ⊢
     by_cases hji : j = i
     ·rw [if_pos hji]
     ·rw [if_neg hji]
      by_cases hki : k = i
      ·subst hki; exact hwd j hw
      ·rw [if_neg hki] at hk; exact hcl k j hk hw
    ·rw [hde]
     split at hTW
     ·exact hTW.2
     ·rename_i hns
      refine hG _ _ _ _ _ _ (fun j hj => ?_) hTW hg
      have hji : j ≠ i := fun e => hns (e ▸ hj)
      exact ⟨by unfold setD; rw [if_neg hji], fun _ => by simp only [updX]; rw [if_neg hji]⟩)
  unfold wantOp at hst
  unfold wpOp
  simp only [ho]
  split
  ·rename_i hw
   rw [if_pos hw] at hst
   exact .inl hst
  ·rename_i hw
   rw [if_neg hw] at hst
   exact hst

/-- A REGION THAT DRAWS ITS ORDER, BY PHASES. -/
theorem region_ph {id : Nat} {l : List Oper} {a0 : Act} {w : World} (ws : List Nat) (G : (Nat → Bool) → (Nat → Value) → World → Prop) (T : World → World → Prop) (Φ : List (Cd T)) (hm : P.follows .mixedOrders = true) (hn : (dsts l).Nodup) (he : edgesBack l = true)
  (hrf : T w.drew w.drew) (htr : ∀ W1 W2 W3, T W1 W2 → T W2 W3 → T W1 W3)
  (hTB : ∀ W W', RowKit.Below W.heap.size W W' → T W W')
  (hG : ∀ d d' x x' W W', (∀ j, ws.contains j = true → d' j = d j ∧ (d j = true → x' j = x j)) → RowKit.Below W.heap.size W W' → G d x W → G d' x' W')
  (hG0 : ∀ x, G (fun _ => false) x w.drew)
  (hsteps : ∀ x W, T w.drew W → ∀ a, a = (⟨fillA x 0 l a0.tmps, a0.defers⟩ : Act) → StepsP P l Q ws G Φ x a W 0 l)
  (hdone : ∀ d x W, T w.drew W → (∀ i, i < l.length → d i = true) → (∀ i, i < l.length → (atC Φ i).p (x i) W) → G d x W → ∀ a, a = (⟨fillA x 0 l a0.tmps, a0.defers⟩ : Act) → Q .normal a W) :
  (Code.region id l.toArray true).wp P Q a0 w := by
 have hdf : doneOf l.length (Array.replicate l.toArray.size false) = fun _ => false := by
  funext j
  unfold doneOf
  by_cases hj : j < l.length
  ·simp [hj]
  ·simp [hj]
 refine wp_region_any hm (ph_any (a0 := a0) (w1 := w.drew) (Φ := Φ) hn he htr hTB hG hsteps hdone l.toArray.size (Array.replicate l.toArray.size false) (asIs l a0.tmps) a0 w.drew ?_ ?_ hrf ?_ ?_ ?_)
 ·simpa using unl_false l.length l.length (Nat.le_refl _)
 ·rw [fillA_start]
 ·intro i hi h
  exfalso
  simp [hi] at h
 ·intro k j hk
  rw [hdf] at hk
  cases hk
 ·rw [hdf]
  exact hG0 _
end Go.Proofs.YtaiihnniblibaaaGreatDoor.Mem

/-
 Layer 6 (parse): how the parser lies in memory, and what a call leaves.
-/
namespace Go.Proofs.YtaiihnniblibaaaGreatDoor.Parse
open Go.ChangeShapes Go.WideShapes Go.ChangeAt Go.RowKit Tree MemT Mem
set_option linter.unusedVariables false

def tkC (t : Tk) : List Value := [.int .i64 t.kind, .string t.x, .int .i64 (t.place : Int), .bool t.first]
def tkV (t : Tk) : Value := .agg #[.int .i64 t.kind, .string t.x, .int .i64 (t.place : Int), .bool t.first]

/-- All but block P is as it was. -/
structure Bes (P : Nat) (w w' : World) : Prop where
 os : w'.os = w.os
 tape : w'.tape = w.tape
 output : w'.output = w.output
 size : w.heap.size ≤ w'.heap.size
 block : ∀ b, b < w.heap.size → b ≠ P → w'.heap[b]? = w.heap[b]?
section
variable {P B : Nat} {w w' w2 : World}
theorem Bes.refl (P : Nat) (w : World) : Bes P w w := ⟨rfl, rfl, rfl, Nat.le_refl _, fun _ _ _ => rfl⟩
theorem Bes.of (h : Below w.heap.size w w') (P : Nat) : Bes P w w' := ⟨h.os, h.tape, h.output, h.size, fun b hb _ => h.block b hb⟩
theorem Bes.trans (h : Bes P w w') (k : Bes P w' w2) : Bes P w w2 :=
 ⟨k.os.trans h.os, k.tape.trans h.tape, k.output.trans h.output, Nat.le_trans h.size k.size, fun b hb hP => (k.block b (Nat.lt_of_lt_of_le hb h.size) hP).trans (h.block b hb hP)⟩
theorem Bes.then_ (h : Bes P w w') (k : Below w'.heap.size w' w2) : Bes P w w2 := h.trans (Bes.of k P)
theorem Bes.lo (h : Bes P w w') (hP : P ≤ w.heap.size) : Below P w w' := ⟨h.os, h.tape, h.output, h.size, fun b hb => h.block b (by omega) (by omega)⟩
theorem Bes.cell (h : Bes P w w') {p : Addr} (hp : p.block < w.heap.size) (hP : p.block ≠ P) : w'.cell? p = w.cell? p := World.cell?_of_block (w := w) (h.block p.block hp hP)
theorem Bes.frozen (h : Bes P w w') {p : Addr} (hp : p.block < w.heap.size) (hP : p.block ≠ P) : w'.frozen? p = w.frozen? p := World.frozen?_of_block (w := w) (h.block p.block hp hP)
/-- A cell of the parser, or of a block of the call's own, is written. -/
theorem Bes.set (h : Bes P w w') {p : Addr} (hp : p.block = P ∨ w.heap.size ≤ p.block) (u : Value) : Bes P w (w'.setCell p u) :=
 ⟨h.os, h.tape, h.output, by simp [World.setCell]; exact h.size, fun b hb hP => (Below.heap_setCell w' p u b (by rcases hp with hp | hp <;> omega)).trans (h.block b hb hP)⟩
theorem Bes.alloc (h : Bes P w w') (o : Obj) : Bes P w (w'.alloc o) := h.then_ ((Below.refl _ _).alloc (Nat.le_refl _) o)
theorem Bes.drewN (h : Bes P w w') (q : Nat) : Bes P w (w'.drewN q) := ⟨h.os, h.tape, h.output, h.size, h.block⟩
theorem lt_block {w : World} {b : Nat} {x : _} (h : w.heap[b]? = some x) : b < w.heap.size := by
 rcases Nat.lt_or_ge b w.heap.size with h' | h'
 ·exact h'
 ·rw [Array.getElem?_eq_none h'] at h; cases h

/-- The parser in block P: its tokens, of which k are taken, the program's length, how deep the next one stands. -/
structure PSat (w : World) (P z : Nat) (A : Option Addr) (n C k : Nat) (L : List Tk) (d : Nat) : Prop where
 blk : w.heap[P]? = some (.cells #[.slice A n C, .int .i64 (k : Int), .int .i64 (z : Int), .int .i64 (d : Int)] 46 (0, 0))
 rt : RT tkC 4 w P A L
 len : L.length = n
 hk : k ≤ n
 hn : n ≤ 10000000
 hC : n ≤ C
 hCm : C ≤ 9223372036854775807
def PS (w : World) (P z : Nat) (l : List Tk) (d : Nat) : Prop := ∃ A n C k L, PSat w P z A n C k L d ∧ l = L.drop k
theorem PSat.keep {z : Nat} {A : Option Addr} {n C k : Nat} {L : List Tk} {d : Nat} (h : PSat w P z A n C k L d) (hb : ∀ b, b ≤ P → w'.heap[b]? = w.heap[b]?) : PSat w' P z A n C k L d :=
 ⟨(hb P (Nat.le_refl _)).trans h.blk, by
  rcases h.rt with e | ⟨b, e, hl, hc⟩
  ·exact .inl e
  ·exact .inr ⟨b, e, hl, fun i x hx j u hu => (World.cell?_of_block (w := w) (a := ⟨b, i * 4 + j, none⟩) (hb b (Nat.le_of_lt hl))).trans (hc i x hx j u hu)⟩, h.len, h.hk, h.hn, h.hC, h.hCm⟩
theorem PS.lt {z : Nat} {l : List Tk} {d : Nat} (h : PS w P z l d) : P < w.heap.size := by
 obtain ⟨A, n, C, k, L, h, _⟩ := h
 exact lt_block h.blk
theorem PS.len {z : Nat} {l : List Tk} {d : Nat} (h : PS w P z l d) : l.length ≤ 10000000 := by
 obtain ⟨A, n, C, k, L, h, rfl⟩ := h
 have := h.len; have := h.hn
 rw [List.length_drop]; omega
theorem PS.later {z : Nat} {l : List Tk} {d : Nat} (h : PS w P z l d) (hb : Below w.heap.size w w') : PS w' P z l d := by
 have hl := h.lt
 obtain ⟨A, n, C, k, L, h, e⟩ := h
 exact ⟨A, n, C, k, L, h.keep fun b hb' => hb.block b (by omega), e⟩
theorem PS.alloc {z : Nat} {l : List Tk} {d : Nat} (h : PS w P z l d) (o : Obj) : PS (w.alloc o) P z l d := h.later ((Below.refl _ _).alloc (Nat.le_refl _) o)
theorem PS.drewN {z : Nat} {l : List Tk} {d : Nat} (h : PS w P z l d) (q : Nat) : PS (w.drewN q) P z l d := by
 obtain ⟨A, n, C, k, L, h, e⟩ := h
 exact ⟨A, n, C, k, L, h.keep fun b hb' => rfl, e⟩
/-- Another block is written. -/
theorem PS.set {z : Nat} {l : List Tk} {d : Nat} (h : PS w P z l d) {p : Addr} (hp : P < p.block) (u : Value) : PS (w.setCell p u) P z l d := by
 obtain ⟨A, n, C, k, L, h, e⟩ := h
 exact ⟨A, n, C, k, L, h.keep fun b hb => Below.heap_setCell _ _ _ _ (by omega), e⟩

/-- The blocks from one on and below another. -/
def Mi (B0 B : Nat) : Nat → Prop := fun b => B0 ≤ b ∧ b < B
theorem mi_later {B0 B n : Nat} {v : Value} {f : F} (h : Fs w (Mi B0 B) v f) (hb : Below n w w') (hB : B ≤ n) : Fs w' (Mi B0 B) v f :=
 h.keep fun b hb' => hb.block b (Nat.lt_of_lt_of_le hb'.2 hB)
theorem mi_more {B0 B B0' B' : Nat} {v : Value} {f : F} (h : Fs w (Mi B0 B) v f) (h0 : B0' ≤ B0) (h1 : B ≤ B') : Fs w (Mi B0' B') v f :=
 h.more fun b hb => ⟨Nat.le_trans h0 hb.1, Nat.lt_of_lt_of_le hb.2 h1⟩
theorem mi_bes {B0 B : Nat} {v : Value} {f : F} (h : Fs w (Mi B0 B) v f) (hb : Bes P w w') (hP : P < B0) (hB : B ≤ w.heap.size) : Fs w' (Mi B0 B) v f :=
 h.keep fun b hb' => hb.block b (Nat.lt_of_lt_of_le hb'.2 hB) (by have := hb'.1; omega)
theorem mi_set {B0 B : Nat} {v : Value} {f : F} (h : Fs w (Mi B0 B) v f) {p : Addr} (hp : p.block < B0 ∨ B ≤ p.block) (u : Value) : Fs (w.setCell p u) (Mi B0 B) v f :=
 h.keep fun b hb' => Below.heap_setCell _ _ _ _ (by have := hb'.1; have := hb'.2; omega)
end

/-- What is thrown. -/
def pan (p : Nat) (er : Int) : List PanicEntry := [{ v := .iface 58 (.agg #[.int .i64 (p : Int), .int .i64 er]), recovered := false }]
/-- Behind a call that reads, or throws. -/
def RPost {α : Type} (V : World → World → Value → α → Prop) (w : World) (P z d : Nat) (R : Rd α) (e : Ending) (w' : World) : Prop :=
 match R with
 | .ok a l => ∃ v, e = .returned v ∧ V w w' v a ∧ PS w' P z l d ∧ Bes P w w'
 | .bad p er => e = .panicked (pan p er) ∧ Bes P w w'
def TV (w w' : World) (v : Value) (t : Tk) : Prop := v = tkV t
def SV (w w' : World) (v : Value) (s : ByteArray) : Prop := v = .string s
def UV (w w' : World) (v : Value) (_ : Unit) : Prop := v = .tuple #[]
def NV (w w' : World) (v : Value) (n : Nd) : Prop := ∃ A C, v = .agg #[.int .i64 n.k, .string n.x, .string n.y, .slice A n.c.len C] ∧ Fs w' (Mi w.heap.size w'.heap.size) (.slice A n.c.len C) n.c
def FV (w w' : World) (v : Value) (c : F) : Prop := ∃ A C, v = .slice A c.len C ∧ Fs w' (Mi w.heap.size w'.heap.size) (.slice A c.len C) c

section
variable {w w' : World} {P z d : Nat}
theorem rpost_bad {α : Type} {V : World → World → Value → α → Prop} {R : Rd α} {p : Nat} {er : Int} (hR : R = .bad p er) (hb : Bes P w w') : RPost V w P z d R (.panicked (pan p er)) w' := by
 rw [hR]; exact ⟨rfl, hb⟩
theorem rpost_ok {α : Type} {V : World → World → Value → α → Prop} {R : Rd α} {a : α} {l : List Tk} {v : Value} (hR : R = .ok a l) (hv : V w w' v a) (hps : PS w' P z l d) (hb : Bes P w w') : RPost V w P z d R (.returned v) w' := by
 rw [hR]; exact ⟨v, rfl, hv, hps, hb⟩
/-- Behind a call of which the result is known. -/
theorem calls_ok {α : Type} {V : World → World → Value → α → Prop} {R : Rd α} {a : α} {l : List Tk} {f : Nat} {vs : Array Value} (h : Calls Tryz.prog f vs w (RPost V w P z d R)) (hR : R = .ok a l) :
  Calls Tryz.prog f vs w fun e w' => ∃ v, e = .returned v ∧ V w w' v a ∧ PS w' P z l d ∧ Bes P w w' := by
 rw [hR] at h; exact h
theorem calls_bad {α : Type} {V : World → World → Value → α → Prop} {R : Rd α} {p : Nat} {er : Int} {f : Nat} {vs : Array Value} (h : Calls Tryz.prog f vs w (RPost V w P z d R)) (hR : R = .bad p er) :
  Calls Tryz.prog f vs w fun e w' => e = .panicked (pan p er) ∧ Bes P w w' := by
 rw [hR] at h; exact h
end

/-- A block of four cells. -/
def Box4 (w : World) (g : Nat) (T : TypeId) (a b c d : Value) : Prop := w.heap[g]? = some (.cells #[a, b, c, d] T (0, 0))
section
variable {w w' : World} {g : Nat} {T : TypeId} {a b c d : Value}
theorem Box4.cells (h : Box4 w g T a b c d) : w.cell? ⟨g, 0, none⟩ = some a ∧ w.cell? ⟨g, 1, none⟩ = some b ∧ w.cell? ⟨g, 2, none⟩ = some c ∧ w.cell? ⟨g, 3, none⟩ = some d := by
 unfold Box4 at h
 simp [World.cell?, h]
theorem Box4.frz (h : Box4 w g T a b c d) : w.frozen? ⟨g, 0, none⟩ = false ∧ w.frozen? ⟨g, 1, none⟩ = false ∧ w.frozen? ⟨g, 2, none⟩ = false ∧ w.frozen? ⟨g, 3, none⟩ = false := by
 unfold Box4 at h
 simp [World.frozen?, h]
theorem Box4.lt (h : Box4 w g T a b c d) : g < w.heap.size := lt_block h
theorem Box4.later (h : Box4 w g T a b c d) (hb : Below w.heap.size w w') : Box4 w' g T a b c d := (hb.block g h.lt).trans h
theorem Box4.bes {P : Nat} (h : Box4 w g T a b c d) (hb : Bes P w w') (hP : g ≠ P) : Box4 w' g T a b c d := (hb.block g h.lt hP).trans h
theorem Box4.other (h : Box4 w g T a b c d) {p : Addr} (hp : p.block ≠ g) (u : Value) : Box4 (w.setCell p u) g T a b c d := (Below.heap_setCell w p u g (Ne.symm hp)).trans h
theorem Box4.set4 (h : Box4 w g T a b c d) (a' b' c' d' : Value) : Box4 ((((w.setCell ⟨g, 0, none⟩ a').setCell ⟨g, 1, none⟩ b').setCell ⟨g, 2, none⟩ c').setCell ⟨g, 3, none⟩ d') g T a' b' c' d' := by
 have hl := h.lt
 unfold Box4 at h ⊢
 have e : w.heap[g]'hl = .cells #[a, b, c, d] T (0, 0) := by
  rw [Array.getElem?_eq_getElem hl] at h; exact Option.some.inj h
 simp [World.setCell, Array.getElem?_modify, h]
theorem box4_new (w : World) (T : TypeId) (a b c d : Value) : Box4 (w.alloc (.cells #[a, b, c, d] T)) w.heap.size T a b c d := heap_alloc_new _ _
end

theorem bel_drewN {B : Nat} {a w : World} (h : Below B a w) (n : Nat) : Below B a (w.drewN n) := ⟨h.os, h.tape, h.output, h.size, h.block⟩
theorem Box4.drewN {w : World} {g : Nat} {T : TypeId} {a b c d : Value} (h : Box4 w g T a b c d) (q : Nat) : Box4 (w.drewN q) g T a b c d := h
section
variable {P B z d g : Nat} {w w' : World}
theorem below_set4 (h : Below B w w') (hg : B ≤ g) (v0 v1 v2 v3 : Value) : Below B w ((((w'.setCell ⟨g, 0, none⟩ v0).setCell ⟨g, 1, none⟩ v1).setCell ⟨g, 2, none⟩ v2).setCell ⟨g, 3, none⟩ v3) :=
 (((h.setCell (p := ⟨g, 0, none⟩) hg _).setCell (p := ⟨g, 1, none⟩) hg _).setCell (p := ⟨g, 2, none⟩) hg _).setCell (p := ⟨g, 3, none⟩) hg _
theorem bes_set4 (h : Bes P w w') (hg : w.heap.size ≤ g) (v0 v1 v2 v3 : Value) : Bes P w ((((w'.setCell ⟨g, 0, none⟩ v0).setCell ⟨g, 1, none⟩ v1).setCell ⟨g, 2, none⟩ v2).setCell ⟨g, 3, none⟩ v3) :=
 (((h.set (p := ⟨g, 0, none⟩) (.inr hg) _).set (p := ⟨g, 1, none⟩) (.inr hg) _).set (p := ⟨g, 2, none⟩) (.inr hg) _).set (p := ⟨g, 3, none⟩) (.inr hg) _
theorem ps_set4 {l : List Tk} (h : PS w P z l d) (hg : P < g) (v0 v1 v2 v3 : Value) : PS ((((w.setCell ⟨g, 0, none⟩ v0).setCell ⟨g, 1, none⟩ v1).setCell ⟨g, 2, none⟩ v2).setCell ⟨g, 3, none⟩ v3) P z l d :=
 (((h.set (p := ⟨g, 0, none⟩) hg _).set (p := ⟨g, 1, none⟩) hg _).set (p := ⟨g, 2, none⟩) hg _).set (p := ⟨g, 3, none⟩) hg _
theorem mi_set4 {B0 B : Nat} {v : Value} {f : F} (h : Fs w (Mi B0 B) v f) (hg : g < B0 ∨ B ≤ g) (v0 v1 v2 v3 : Value) : Fs ((((w.setCell ⟨g, 0, none⟩ v0).setCell ⟨g, 1, none⟩ v1).setCell ⟨g, 2, none⟩ v2).setCell ⟨g, 3, none⟩ v3) (Mi B0 B) v f :=
 mi_set (p := ⟨g, 3, none⟩) (mi_set (p := ⟨g, 2, none⟩) (mi_set (p := ⟨g, 1, none⟩) (mi_set (p := ⟨g, 0, none⟩) h hg _) hg _) hg _) hg _
theorem size_set4 (w : World) (g : Nat) (v0 v1 v2 v3 : Value) : ((((w.setCell ⟨g, 0, none⟩ v0).setCell ⟨g, 1, none⟩ v1).setCell ⟨g, 2, none⟩ v2).setCell ⟨g, 3, none⟩ v3).heap.size = w.heap.size := by simp [World.setCell]
end
end Go.Proofs.YtaiihnniblibaaaGreatDoor.Parse
