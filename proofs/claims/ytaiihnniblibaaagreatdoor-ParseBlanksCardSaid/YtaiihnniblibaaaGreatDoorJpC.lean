import Derived.Test.YtaiihnniblibaaaGreatDoorChecked
import Derived.WalkKit
import Derived.ProofKit
import Derived.OpenShut
import Derived.Below
import Derived.Lib.Hide
import Derived.Laws.BytesArg
import Derived.Outline
import Derived.Deep.QuietTactic
import Derived.BigQuiet
import Derived.WalkMore
import Derived.OneCell
import Derived.OwnWalk
import Derived.Maps.AppendAt

/-
  Plain mathematics of layer 1 (utf): the bytes of a sign, the sign with which bytes begin, and the signs of a text. Nothing of the program is imported.
-/
namespace Go.Proofs.YtaiihnniblibaaaGreatDoor.Utf

/-- How many bytes a sign has; 0, if the number is no sign. -/
def lenI (n : Int) : Nat :=
  if n < 0 then 0 else if n < 128 then 1 else if n < 2048 then 2 else if 55296 ≤ n ∧ n < 57344 then 0 else if n < 65536 then 3 else if n < 1114112 then 4 else 0

/-- A sign's bytes; none, if the number is no sign. -/
def enc (n : Int) : List Int :=
  if lenI n = 1 then [n] else if lenI n = 2 then [192 + n / 64, 128 + n % 64] else if lenI n = 3 then [224 + n / 4096, 128 + n / 64 % 64, 128 + n % 64]
  else if lenI n = 4 then [240 + n / 262144, 128 + n / 4096 % 64, 128 + n / 64 % 64, 128 + n % 64] else []

def begN (c : Int) : Nat := if c < 128 then 1 else if c < 192 then 0 else if c < 224 then 2 else if c < 240 then 3 else if c < 248 then 4 else 0
def begB (c : Int) : Int := if c < 128 then c else if c < 192 then 0 else if c < 224 then c - 192 else if c < 240 then c - 224 else if c < 248 then c - 240 else 0
def cont (c : Int) : Bool := decide (128 ≤ c ∧ c < 192)
def acc (s : Int) : List Int → Int
  | [] => s
  | c :: r => acc (s * 64 + c % 64) r

/-- The sign with which bytes begin, and how many they are; -1 and 0, if there is none. -/
def nxt : List Int → Int × Nat
  | [] => (-1, 0)
  | c :: r =>
    if begN c = 0 ∨ r.length + 1 < begN c then (-1, 0)
    else if (r.take (begN c - 1)).all cont = false then (-1, 0)
    else if lenI (acc (begB c) (r.take (begN c - 1))) = begN c then (acc (begB c) (r.take (begN c - 1)), begN c) else (-1, 0)

theorem nxt_cons (c : Int) (r : List Int) : nxt (c :: r) =
    if begN c = 0 ∨ r.length + 1 < begN c then (-1, 0)
    else if (r.take (begN c - 1)).all cont = false then (-1, 0)
    else if lenI (acc (begB c) (r.take (begN c - 1))) = begN c then (acc (begB c) (r.take (begN c - 1)), begN c) else (-1, 0) := rfl

def Byt (l : List Int) : Prop := ∀ x ∈ l, 0 ≤ x ∧ x < 256

theorem Byt.take {l : List Int} (h : Byt l) (n : Nat) : Byt (l.take n) := fun x hx => h x (List.mem_of_mem_take hx)
theorem Byt.drop {l : List Int} (h : Byt l) (n : Nat) : Byt (l.drop n) := fun x hx => h x (List.mem_of_mem_drop hx)
theorem Byt.append {l m : List Int} (h : Byt l) (k : Byt m) : Byt (l ++ m) := fun x hx => by
  rcases List.mem_append.1 hx with h' | h'
  · exact h x h'
  · exact k x h'
theorem Byt.nil : Byt [] := fun x hx => by cases hx
theorem Byt.getD {l : List Int} (h : Byt l) (i : Nat) : 0 ≤ l.getD i 0 ∧ l.getD i 0 < 256 := by
  by_cases hi : i < l.length
  · have e : l.getD i 0 = l[i] := by simp [List.getD, hi]
    rw [e]; exact h _ (List.getElem_mem hi)
  · have e : l.getD i 0 = 0 := by simp [List.getD, List.getElem?_eq_none (show l.length ≤ i by omega)]
    rw [e]; omega

theorem lenI_le (n : Int) : lenI n ≤ 4 := by unfold lenI; repeat' split
                                             all_goals omega
theorem lenI_one {n : Int} (h : lenI n = 1) : 0 ≤ n ∧ n < 128 := by
  unfold lenI at h; repeat' split at h
  all_goals omega
theorem lenI_two {n : Int} (h : lenI n = 2) : 128 ≤ n ∧ n < 2048 := by
  unfold lenI at h; repeat' split at h
  all_goals omega
theorem lenI_three {n : Int} (h : lenI n = 3) : 2048 ≤ n ∧ n < 65536 ∧ (n < 55296 ∨ 57344 ≤ n) := by
  unfold lenI at h; repeat' split at h
  all_goals omega
theorem lenI_four {n : Int} (h : lenI n = 4) : 65536 ≤ n ∧ n < 1114112 := by
  unfold lenI at h; repeat' split at h
  all_goals omega
theorem lenI_zero {n : Int} (h : lenI n = 0) : n < 0 ∨ (55296 ≤ n ∧ n < 57344) ∨ 1114112 ≤ n := by
  unfold lenI at h; repeat' split at h
  all_goals omega
theorem lenI_cases (n : Int) : lenI n = 0 ∨ lenI n = 1 ∨ lenI n = 2 ∨ lenI n = 3 ∨ lenI n = 4 := by have := lenI_le n; omega
theorem lenI_is1 {n : Int} (h : 0 ≤ n) (h' : n < 128) : lenI n = 1 := by
  unfold lenI; rw [if_neg (by omega), if_pos h']
theorem enc1 {n : Int} (h : lenI n = 1) : enc n = [n] := by unfold enc; rw [if_pos h]
theorem enc2 {n : Int} (h : lenI n = 2) : enc n = [192 + n / 64, 128 + n % 64] := by unfold enc; rw [if_neg (by omega), if_pos h]
theorem enc3 {n : Int} (h : lenI n = 3) : enc n = [224 + n / 4096, 128 + n / 64 % 64, 128 + n % 64] := by unfold enc; rw [if_neg (by omega), if_neg (by omega), if_pos h]
theorem enc4 {n : Int} (h : lenI n = 4) : enc n = [240 + n / 262144, 128 + n / 4096 % 64, 128 + n / 64 % 64, 128 + n % 64] := by
  unfold enc; rw [if_neg (by omega), if_neg (by omega), if_neg (by omega), if_pos h]
theorem enc0 {n : Int} (h : lenI n = 0) : enc n = [] := by unfold enc; rw [if_neg (by omega), if_neg (by omega), if_neg (by omega), if_neg (by omega)]

theorem enc_length (n : Int) : (enc n).length = lenI n := by
  rcases lenI_cases n with h | h | h | h | h
  · rw [enc0 h, h]; rfl
  · rw [enc1 h, h]; rfl
  · rw [enc2 h, h]; rfl
  · rw [enc3 h, h]; rfl
  · rw [enc4 h, h]; rfl

theorem enc_byt (n : Int) : Byt (enc n) := by
  intro x hx
  rcases lenI_cases n with h | h | h | h | h
  · rw [enc0 h] at hx; cases hx
  · rw [enc1 h] at hx; have := lenI_one h; simp at hx; omega
  · rw [enc2 h] at hx; have := lenI_two h; simp at hx; omega
  · rw [enc3 h] at hx; have := lenI_three h; simp at hx; omega
  · rw [enc4 h] at hx; have := lenI_four h; simp at hx; omega

theorem begN_le (c : Int) : begN c ≤ 4 := by unfold begN; repeat' split
                                             all_goals omega

/-- Whatever begins with a sign's bytes begins with that sign. -/
theorem nxt_of {k : Int} (hk : lenI k ≠ 0) (r : List Int) : nxt (enc k ++ r) = (k, lenI k) := by
  rcases lenI_cases k with h | h | h | h | h
  · exact absurd h hk
  · rw [enc1 h, h]
    have hb := lenI_one h
    have e1 : begN k = 1 := by unfold begN; rw [if_pos hb.2]
    have e2 : begB k = k := by unfold begB; rw [if_pos hb.2]
    simp [nxt, e1, e2, acc, h]
  · rw [enc2 h, h]
    have hb := lenI_two h
    have e1 : begN (192 + k / 64) = 2 := by unfold begN; rw [if_neg (by omega), if_neg (by omega), if_pos (by omega)]
    have e2 : begB (192 + k / 64) = k / 64 := by unfold begB; rw [if_neg (by omega), if_neg (by omega), if_pos (by omega)]; omega
    have e3 : cont (128 + k % 64) = true := by unfold cont; apply decide_eq_true; omega
    have e4 : acc (k / 64) [128 + k % 64] = k := by simp only [acc]; omega
    simp [nxt, e1, e2, e3, e4, h]
  · rw [enc3 h, h]
    have hb := lenI_three h
    have e1 : begN (224 + k / 4096) = 3 := by unfold begN; rw [if_neg (by omega), if_neg (by omega), if_neg (by omega), if_pos (by omega)]
    have e2 : begB (224 + k / 4096) = k / 4096 := by unfold begB; rw [if_neg (by omega), if_neg (by omega), if_neg (by omega), if_pos (by omega)]; omega
    have e3 : cont (128 + k % 64) = true := by unfold cont; apply decide_eq_true; omega
    have e3' : cont (128 + k / 64 % 64) = true := by unfold cont; apply decide_eq_true; omega
    have e4 : acc (k / 4096) [128 + k / 64 % 64, 128 + k % 64] = k := by simp only [acc]; omega
    simp [nxt, e1, e2, e3, e3', e4, h]
  · rw [enc4 h, h]
    have hb := lenI_four h
    have e1 : begN (240 + k / 262144) = 4 := by unfold begN; rw [if_neg (by omega), if_neg (by omega), if_neg (by omega), if_neg (by omega), if_pos (by omega)]
    have e2 : begB (240 + k / 262144) = k / 262144 := by unfold begB; rw [if_neg (by omega), if_neg (by omega), if_neg (by omega), if_neg (by omega), if_pos (by omega)]; omega
    have e3 : cont (128 + k % 64) = true := by unfold cont; apply decide_eq_true; omega
    have e3' : cont (128 + k / 64 % 64) = true := by unfold cont; apply decide_eq_true; omega
    have e3'' : cont (128 + k / 4096 % 64) = true := by unfold cont; apply decide_eq_true; omega
    have e4 : acc (k / 262144) [128 + k / 4096 % 64, 128 + k / 64 % 64, 128 + k % 64] = k := by simp only [acc]; omega
    simp [nxt, e1, e2, e3, e3', e3'', e4, h]

theorem begN_cases (c : Int) : (begN c = 0 ∧ (128 ≤ c ∧ c < 192 ∨ 248 ≤ c)) ∨ (begN c = 1 ∧ begB c = c ∧ c < 128) ∨ (begN c = 2 ∧ begB c = c - 192 ∧ 192 ≤ c ∧ c < 224) ∨
    (begN c = 3 ∧ begB c = c - 224 ∧ 224 ≤ c ∧ c < 240) ∨ (begN c = 4 ∧ begB c = c - 240 ∧ 240 ≤ c ∧ c < 248) := by
  by_cases h1 : c < 128
  · exact .inr (.inl ⟨by unfold begN; rw [if_pos h1], by unfold begB; rw [if_pos h1], h1⟩)
  by_cases h2 : c < 192
  · exact .inl ⟨by unfold begN; rw [if_neg h1, if_pos h2], .inl ⟨by omega, h2⟩⟩
  by_cases h3 : c < 224
  · exact .inr (.inr (.inl ⟨by unfold begN; rw [if_neg h1, if_neg h2, if_pos h3], by unfold begB; rw [if_neg h1, if_neg h2, if_pos h3], by omega, h3⟩))
  by_cases h4 : c < 240
  · exact .inr (.inr (.inr (.inl ⟨by unfold begN; rw [if_neg h1, if_neg h2, if_neg h3, if_pos h4], by unfold begB; rw [if_neg h1, if_neg h2, if_neg h3, if_pos h4], by omega, h4⟩)))
  by_cases h5 : c < 248
  · exact .inr (.inr (.inr (.inr ⟨by unfold begN; rw [if_neg h1, if_neg h2, if_neg h3, if_neg h4, if_pos h5], by unfold begB; rw [if_neg h1, if_neg h2, if_neg h3, if_neg h4, if_pos h5], by omega, h5⟩)))
  · exact .inl ⟨by unfold begN; rw [if_neg h1, if_neg h2, if_neg h3, if_neg h4, if_neg h5], .inr (by omega)⟩

theorem cont_iff {c : Int} : cont c = true ↔ 128 ≤ c ∧ c < 192 := by unfold cont; simp

/-- Where bytes begin with a sign, they begin with its bytes. -/
theorem nxt_some {l : List Int} (hl : Byt l) {k : Int} {n : Nat} (h : nxt l = (k, n)) (hn : n ≠ 0) : lenI k = n ∧ l = enc k ++ l.drop n := by
  match l, hl, h with
  | [], _, h => simp [nxt] at h; omega
  | c :: r, hl, h =>
    have hc := hl c (by simp)
    rw [nxt_cons] at h
    split at h
    · simp at h; omega
    · rename_i h1
      split at h
      · simp at h; omega
      · rename_i h2
        split at h
        · rename_i h3
          simp only [Prod.mk.injEq] at h
          obtain ⟨rfl, rfl⟩ := h
          refine ⟨h3, ?_⟩
          rcases begN_cases c with ⟨e, _⟩ | ⟨e, b, _⟩ | ⟨e, b, _⟩ | ⟨e, b, _⟩ | ⟨e, b, _⟩
          · omega
          · rw [e, b] at h3 ⊢
            simp only [Nat.sub_self, List.take_zero, acc] at h3 ⊢
            rw [enc1 h3]; rfl
          · rw [e, b] at h3 ⊢; rw [e] at h1 h2
            match r, h1, h2, h3 with
            | [], h1, _, _ => simp at h1
            | d :: r', _, h2, h3 =>
              simp [acc, cont_iff] at h2 h3 ⊢
              rw [enc2 h3]; simp; omega
          · rw [e, b] at h3 ⊢; rw [e] at h1 h2
            match r, h1, h2, h3 with
            | [], h1, _, _ => simp at h1
            | [_], h1, _, _ => simp at h1
            | d :: d' :: r', _, h2, h3 =>
              simp [acc, cont_iff] at h2 h3 ⊢
              rw [enc3 h3]; simp; omega
          · rw [e, b] at h3 ⊢; rw [e] at h1 h2
            match r, h1, h2, h3 with
            | [], h1, _, _ => simp at h1
            | [_], h1, _, _ => simp at h1
            | [_, _], h1, _, _ => simp at h1
            | d :: d' :: d'' :: r', _, h2, h3 =>
              simp [acc, cont_iff] at h2 h3 ⊢
              rw [enc4 h3]; simp; omega
        · simp at h; omega

theorem nxt_zero {l : List Int} (h : (nxt l).2 = 0) : nxt l = (-1, 0) := by
  match l, h with
  | [], _ => rfl
  | c :: r, h =>
    rw [nxt_cons] at h ⊢
    split
    · rfl
    · rename_i h1
      rw [if_neg h1] at h
      split
      · rfl
      · rename_i h2
        rw [if_neg h2] at h
        split
        · rename_i h3
          rw [if_pos h3] at h
          simp at h; omega
        · rfl

theorem nxt_le {l : List Int} (hl : Byt l) : (nxt l).2 ≤ l.length := by
  rcases Nat.eq_zero_or_pos (nxt l).2 with h | h
  · omega
  · have := nxt_some (k := (nxt l).1) (n := (nxt l).2) hl rfl (by omega)
    have h2 := congrArg List.length this.2
    rw [List.length_append, enc_length, this.1] at h2; omega

/-! ### The other reckoning: all four lengths, one behind the other -/
def md (n : Nat) (c : Int) : Int := if n = 2 then c % 32 else if n = 3 then c % 16 else if n = 4 then c % 8 else c
def refK (n : Nat) (l : List Int) : Int := acc (md n (l.getD 0 0)) ((l.drop 1).take (n - 1))
def hit (n : Nat) (l : List Int) : Prop := lenI (refK n l) ≠ 0 ∧ enc (refK n l) = l.take n

theorem hit_nxt {l : List Int} {n : Nat} (hn : n ≤ l.length) (h : hit n l) : nxt l = (refK n l, n) := by
  have e : l = enc (refK n l) ++ l.drop n := by rw [h.2, List.take_append_drop]
  have hlen : lenI (refK n l) = n := by rw [← enc_length, h.2, List.length_take]; omega
  have := nxt_of h.1 (l.drop n)
  rw [← e, hlen] at this
  exact this

theorem nxt_hit {l : List Int} (hl : Byt l) {k : Int} {n : Nat} (h : nxt l = (k, n)) (hn : n ≠ 0) : 1 ≤ n ∧ n ≤ 4 ∧ n ≤ l.length ∧ hit n l := by
  obtain ⟨h1, h2⟩ := nxt_some hl h hn
  have h4 := lenI_le k
  have h5 := nxt_le hl
  rw [h] at h5
  have hk : refK n l = k := by
    generalize l.drop n = r at h2
    subst h2
    rcases lenI_cases k with e | e | e | e | e
    · omega
    · obtain rfl : n = 1 := by omega
      rw [enc1 e]; simp [refK, md, acc]
    · obtain rfl : n = 2 := by omega
      have := lenI_two e
      rw [enc2 e]; simp [refK, md, acc]; omega
    · obtain rfl : n = 3 := by omega
      have := lenI_three e
      rw [enc3 e]; simp [refK, md, acc]; omega
    · obtain rfl : n = 4 := by omega
      have := lenI_four e
      rw [enc4 e]; simp [refK, md, acc]; omega
  refine ⟨by omega, by omega, h5, ?_⟩
  unfold hit
  rw [hk]
  refine ⟨by omega, ?_⟩
  have e : l.take n = (enc k ++ l.drop n).take n := by rw [← h2]
  rw [e, List.take_append_of_le_length (by rw [enc_length]; omega), List.take_of_length_le (by rw [enc_length]; omega)]

theorem no_hit {l : List Int} (hl : Byt l) (h : ∀ n, 1 ≤ n → n ≤ 4 → n ≤ l.length → ¬ hit n l) : nxt l = (-1, 0) := by
  rcases Nat.eq_zero_or_pos (nxt l).2 with h0 | h0
  · exact nxt_zero h0
  · obtain ⟨h1, h2, h3, h4⟩ := nxt_hit (k := (nxt l).1) (n := (nxt l).2) hl rfl (by omega)
    exact absurd h4 (h _ h1 h2 h3)

theorem acc_bd (l : List Int) : ∀ (s B : Int), 0 ≤ s → s < B → 0 ≤ acc s l ∧ acc s l < B * 64 ^ l.length := by
  induction l with
  | nil => intro s B h0 h1; simp only [acc, List.length_nil, Int.pow_zero]; omega
  | cons c r ih =>
    intro s B h0 h1
    have := ih (s * 64 + c % 64) (B * 64) (by omega) (by omega)
    refine ⟨this.1, ?_⟩
    have e : B * 64 * 64 ^ r.length = B * 64 ^ (r.length + 1) := by rw [Int.mul_assoc, Int.pow_succ, Int.mul_comm 64]
    simp only [acc, List.length_cons]
    rw [← e]; exact this.2

theorem acc_snoc (l : List Int) (c : Int) : ∀ s, acc s (l ++ [c]) = acc s l * 64 + c % 64 := by
  induction l with
  | nil => intro s; rfl
  | cons d r ih => intro s; exact ih _

/-! ### The signs of a text -/
def encs : List Int → List Int
  | [] => []
  | k :: r => enc k ++ encs r
def Sgs (l : List Int) : Prop := ∀ k ∈ l, lenI k ≠ 0

theorem encs_append (a b : List Int) : encs (a ++ b) = encs a ++ encs b := by
  induction a with
  | nil => rfl
  | cons k r ih => simp only [List.cons_append, encs, ih, List.append_assoc]
theorem encs_snoc (a : List Int) (k : Int) : encs (a ++ [k]) = encs a ++ enc k := by rw [encs_append]; simp [encs]
theorem encs_byt : ∀ l, Byt (encs l)
  | [] => Byt.nil
  | k :: r => (enc_byt k).append (encs_byt r)
theorem Sgs.nil : Sgs [] := fun _ h => by cases h
theorem Sgs.snoc {l : List Int} (h : Sgs l) {k : Int} (hk : lenI k ≠ 0) : Sgs (l ++ [k]) := fun x hx => by
  rcases List.mem_append.1 hx with h' | h'
  · exact h x h'
  · simp at h'; subst h'; exact hk

def runS : Nat → List Int → List Int × Nat
  | 0, _ => ([], 0)
  | f + 1, l => if (nxt l).2 = 0 then ([], 0) else ((nxt l).1 :: (runS f (l.drop (nxt l).2)).1, (nxt l).2 + (runS f (l.drop (nxt l).2)).2)
/-- The signs of a text, as far as it is one. -/
def sgn (l : List Int) : List Int := (runS l.length l).1
/-- The first place from which on there is no sign. -/
def bad (l : List Int) : Nat := (runS l.length l).2

theorem run_spec : ∀ (f : Nat) (l : List Int), Byt l → l.length ≤ f → Sgs (runS f l).1 ∧ (runS f l).2 ≤ l.length ∧ l = encs (runS f l).1 ++ l.drop (runS f l).2 ∧ (encs (runS f l).1).length = (runS f l).2 ∧ nxt (l.drop (runS f l).2) = (-1, 0)
  | 0, l, _, hf => by
    have : l = [] := List.eq_nil_of_length_eq_zero (by omega)
    subst this
    exact ⟨Sgs.nil, Nat.le_refl _, rfl, rfl, rfl⟩
  | f + 1, l, hl, hf => by
    unfold runS
    by_cases h0 : (nxt l).2 = 0
    · rw [if_pos h0]
      exact ⟨Sgs.nil, Nat.zero_le _, rfl, rfl, nxt_zero h0⟩
    · rw [if_neg h0]
      have hs := nxt_some (k := (nxt l).1) (n := (nxt l).2) hl rfl h0
      have hle := nxt_le hl
      have hlen : (l.drop (nxt l).2).length ≤ f := by rw [List.length_drop]; omega
      obtain ⟨a1, a2, a3, a4, a5⟩ := run_spec f (l.drop (nxt l).2) (hl.drop _) hlen
      rw [List.drop_drop] at a5
      rw [List.drop_drop] at a3
      rw [List.length_drop] at a2
      generalize hr : runS f (l.drop (nxt l).2) = q at *
      generalize hq : nxt l = p at *
      refine ⟨?_, by simp only; omega, ?_, ?_, ?_⟩
      · intro k hk
        rcases List.mem_cons.1 hk with h | h
        · subst h; omega
        · exact a1 k h
      · simp only [encs, List.append_assoc]
        rw [← a3]
        exact hs.2
      · simp only [encs, List.length_append, enc_length]; omega
      · exact a5

theorem bad_spec {l : List Int} (hl : Byt l) : Sgs (sgn l) ∧ bad l ≤ l.length ∧ l = encs (sgn l) ++ l.drop (bad l) ∧ (encs (sgn l)).length = bad l ∧ nxt (l.drop (bad l)) = (-1, 0) :=
  run_spec l.length l hl (Nat.le_refl _)

theorem uniq : ∀ (a b r s : List Int), Sgs a → Sgs b → encs a ++ r = encs b ++ s → (nxt r).2 = 0 → (nxt s).2 = 0 → a = b ∧ r = s
  | [], [], r, s, _, _, h, _, _ => ⟨rfl, h⟩
  | [], k :: b, r, s, _, hb, h, hr, _ => by
    have hk := hb k (by simp)
    simp only [encs, List.nil_append, List.append_assoc] at h
    rw [h, nxt_of hk] at hr
    exact absurd hr hk
  | k :: a, [], r, s, ha, _, h, _, hs => by
    have hk := ha k (by simp)
    simp only [encs, List.nil_append, List.append_assoc] at h
    rw [← h, nxt_of hk] at hs
    exact absurd hs hk
  | k :: a, m :: b, r, s, ha, hb, h, hr, hs => by
    have hk := ha k (by simp)
    have hm := hb m (by simp)
    simp only [encs, List.append_assoc] at h
    have e1 := nxt_of hk (encs a ++ r)
    have e2 := nxt_of hm (encs b ++ s)
    rw [h, e2] at e1
    obtain ⟨rfl, _⟩ : m = k ∧ _ := by simpa using e1
    have h' := List.append_cancel_left h
    obtain ⟨rfl, rfl⟩ := uniq a b r s (fun x hx => ha x (by simp [hx])) (fun x hx => hb x (by simp [hx])) h' hr hs
    exact ⟨rfl, rfl⟩

/-- What a walk from the front comes to is the signs, and the place where it ends. -/
theorem bad_of {l a : List Int} (hl : Byt l) {n : Nat} (ha : Sgs a) (hn : n ≤ l.length) (h : encs a = l.take n) (h0 : (nxt (l.drop n)).2 = 0) : a = sgn l ∧ n = bad l := by
  obtain ⟨b1, b2, b3, b4, b5⟩ := bad_spec hl
  have e : encs a ++ l.drop n = encs (sgn l) ++ l.drop (bad l) := by rw [h, List.take_append_drop, ← b3]
  obtain ⟨h1, h2⟩ := uniq a (sgn l) _ _ ha b1 e h0 (by rw [b5])
  refine ⟨h1, ?_⟩
  rw [← b4, ← h1, h, List.length_take]; omega

theorem bad_le {l : List Int} (hl : Byt l) : bad l ≤ l.length := (bad_spec hl).2.1
theorem bad_take {l : List Int} (hl : Byt l) : encs (sgn l) = l.take (bad l) := by
  obtain ⟨b1, b2, b3, b4, b5⟩ := bad_spec hl
  have e : l.take (bad l) = (encs (sgn l) ++ l.drop (bad l)).take (bad l) := by rw [← b3]
  rw [e, List.take_append_of_le_length (by omega), List.take_of_length_le (by omega)]
/-- The bytes of signs are a text of just these signs. -/
theorem text_encs {a : List Int} (ha : Sgs a) : sgn (encs a) = a ∧ bad (encs a) = (encs a).length := by
  have := bad_of (l := encs a) (a := a) (n := (encs a).length) (encs_byt a) ha (Nat.le_refl _) (by rw [List.take_length]) (by rw [List.drop_length]; rfl)
  exact ⟨this.1.symm, this.2.symm⟩

end Go.Proofs.YtaiihnniblibaaaGreatDoor.Utf

/-
  Layer 1 (utf): words for bytes in memory, and what the small functions (begin, length, more, Bytes, the document's own Bytes) answer at every input.
-/
namespace Go.Proofs.YtaiihnniblibaaaGreatDoor.Utf
open Go.ChangeShapes Go.WideShapes Go.ChangeAt Go.RowKit
set_option linter.unusedVariables false

/-- The slice at A, of as many bytes as xs has, reads as xs; it lies below block B. -/
def RB (w : World) (B : Nat) (A : Option Addr) (xs : List Int) : Prop :=
  Byt xs ∧ (xs = [] ∨ ∃ b off, A = some ⟨b, off, none⟩ ∧ b < B ∧ ∀ i, i < xs.length → w.cell? ⟨b, off + i, none⟩ = some (.int .u8 (xs.getD i 0)))

section
variable {w w' : World} {B B' : Nat} {A : Option Addr} {xs : List Int}
theorem RB.byt (h : RB w B A xs) : Byt xs := h.1
theorem RB.keep (h : RB w B A xs) (hk : ∀ p : Addr, p.block < B → w'.cell? p = w.cell? p) : RB w' B A xs :=
  ⟨h.1, by
    rcases h.2 with e | ⟨b, off, e, hb, hc⟩
    · exact .inl e
    · exact .inr ⟨b, off, e, hb, fun i hi => (hk _ hb).trans (hc i hi)⟩⟩
theorem RB.more (h : RB w B A xs) (hB : B ≤ B') : RB w B' A xs :=
  ⟨h.1, by
    rcases h.2 with e | ⟨b, off, e, hb, hc⟩
    · exact .inl e
    · exact .inr ⟨b, off, e, by omega, hc⟩⟩
theorem RB.below (h : RB w B A xs) {B0 : Nat} (hb : Below B0 w w') (hB : B ≤ B0) : RB w' B A xs := h.keep fun _ hp => hb.cell (by omega)
theorem RB.nil (w : World) (B : Nat) (A : Option Addr) : RB w B A [] := ⟨Byt.nil, .inl rfl⟩
theorem RB.take (h : RB w B A xs) (n : Nat) : RB w B A (xs.take n) :=
  ⟨h.1.take n, by
    rcases h.2 with e | ⟨b, off, e, hb, hc⟩
    · exact .inl (by rw [e]; simp)
    · refine .inr ⟨b, off, e, hb, fun i hi => ?_⟩
      rw [List.length_take] at hi
      rw [hc i (by omega)]
      simp [List.getD, show i < n by omega]⟩
theorem RB.drop (h : RB w B A xs) {k cap : Nat} (hk : k ≤ xs.length) (hc : xs.length ≤ cap) :
    RB w B (if cap = k then A else A.map (·.add k)) (xs.drop k) :=
  ⟨h.1.drop k, by
    by_cases hz : xs.length = k
    · exact .inl (by rw [← hz, List.drop_length])
    · rcases h.2 with e | ⟨b, off, e, hb, hcell⟩
      · rw [e] at hz hk; simp at hz hk; omega
      · rw [if_neg (by omega)]
        refine .inr ⟨b, off + k, ?_, hb, fun i hi => ?_⟩
        · rw [e]; simp only [Option.map_some, Addr.add]; split <;> simp_all
        · rw [List.length_drop] at hi
          rw [Nat.add_assoc, hcell (k + i) (by omega)]
          simp [List.getD, List.getElem?_drop]⟩
theorem RB.cell (h : RB w B A xs) (hn : xs ≠ []) : ∃ b off, A = some ⟨b, off, none⟩ ∧ b < B ∧ ∀ i, i < xs.length → w.cell? ⟨b, off + i, none⟩ = some (.int .u8 (xs.getD i 0)) := by
  rcases h.2 with e | h'
  · exact absurd e hn
  · exact h'
end

theorem run_conv {P : Program} (w : World) (src dst e : TypeId) (hs : P.underlying src = some (.slice e)) (he : P.underlying e = some (.int .u8)) (hd : P.underlying dst = some .string)
    {B : Nat} {A : Option Addr} {xs : List Int} (h : RB w B A xs) (c : Nat) : (convert src dst (.slice A xs.length c)).run P w = .ok (.string (strOfNums xs)) w := by
  rcases h.2 with e0 | ⟨b, off, e0, _, hc⟩
  · subst e0
    rcases A with _ | a
    · exact run_convert_bytes_nil w src e hs he _ c dst hd
    · rw [run_convert_bytes_string w src dst e _ _ c hs he hd]
      rw [run_bytesToString w a _ c [] (by simp [loadCells, loadCellsFrom])]
      rfl
  · subst e0
    exact run_convert_bytes_arg w src e hs he b off _ c xs rfl hc dst hd

theorem u8_of (n : Nat) (h : n < 256) : (UInt8.ofNat n).toNat = n := by simp; omega

theorem strOfNums_inj {a b : List Int} (ha : Byt a) (hb : Byt b) (h : strOfNums a = strOfNums b) : a = b := by
  have h1 : a.map (fun n => UInt8.ofNat n.toNat) = b.map (fun n => UInt8.ofNat n.toNat) := by
    have := congrArg (fun s : ByteArray => s.data.toList) h
    simpa [strOfNums] using this
  clear h
  induction a generalizing b with
  | nil => cases b with
    | nil => rfl
    | cons y b => simp at h1
  | cons x a ih =>
    cases b with
    | nil => simp at h1
    | cons y b =>
      simp only [List.map_cons, List.cons.injEq] at h1
      have hx := ha x (by simp)
      have hy := hb y (by simp)
      have e : x.toNat = y.toNat := by
        have := congrArg UInt8.toNat h1.1
        rw [u8_of x.toNat (by omega), u8_of y.toNat (by omega)] at this
        exact this
      have exy : x = y := by omega
      rw [exy, ih (fun z hz => ha z (by simp [hz])) (fun z hz => hb z (by simp [hz])) h1.2]

/-- A sign's bytes as cells. -/
def encV (n : Int) : Array Value := ((enc n).map (Value.int .u8)).toArray
theorem rb_enc (w : World) (n : Int) (T : TypeId) : RB (w.alloc (.cells (encV n) T)) (w.heap.size + 1) (some ⟨w.heap.size, 0, none⟩) (enc n) :=
  ⟨enc_byt n, .inr ⟨_, _, rfl, by omega, fun i hi => by
    rw [World.cell?_alloc_at _ _ _ _ rfl]
    simp [encV, List.getD, hi]⟩⟩

/-! ### begin, length, more, sign -/
theorem andNot_table : ∀ c : Fin 256, (192 ≤ c.val → c.val < 224 → bits .andNot .u8 (c.val : Int) 192 = (c.val : Int) - 192) ∧ (224 ≤ c.val → c.val < 240 → bits .andNot .u8 (c.val : Int) 224 = (c.val : Int) - 224) ∧
    (240 ≤ c.val → c.val < 248 → bits .andNot .u8 (c.val : Int) 240 = (c.val : Int) - 240) ∧ ((bits .andNot .u8 (c.val : Int) 63 != 128) = !cont (c.val : Int)) := by decide +kernel
theorem andNot_of (c : Int) (h0 : 0 ≤ c) (h1 : c < 256) : (192 ≤ c → c < 224 → bits .andNot .u8 c 192 = c - 192) ∧ (224 ≤ c → c < 240 → bits .andNot .u8 c 224 = c - 224) ∧
    (240 ≤ c → c < 248 → bits .andNot .u8 c 240 = c - 240) ∧ ((bits .andNot .u8 c 63 != 128) = !cont c) := by
  obtain ⟨n, rfl⟩ := Int.eq_ofNat_of_zero_le h0
  obtain ⟨a, b, d, e⟩ := andNot_table ⟨n, by omega⟩
  exact ⟨fun x y => a (by simp only; omega) (by simp only; omega), fun x y => b (by simp only; omega) (by simp only; omega), fun x y => d (by simp only; omega) (by simp only; omega), e⟩

set_option maxHeartbeats 400000 in
theorem begin_any (c : Int) (w : World) (h0 : 0 ≤ c) (h1 : c < 256) :
    Calls Tryz.prog 77 #[.int .u8 c] w fun e w' => e = .returned (.tuple #[.int .i64 (begN c), .int .i32 (begB c)]) ∧ w = w' := by
  obtain ⟨a1, a2, a3, _⟩ := andNot_of c h0 h1
  have hN : begN c = if c < 128 then 1 else if c < 192 then 0 else if c < 224 then 2 else if c < 240 then 3 else if c < 248 then 4 else 0 := rfl
  have hB : begB c = if c < 128 then c else if c < 192 then 0 else if c < 224 then c - 192 else if c < 240 then c - 224 else if c < 248 then c - 240 else 0 := rfl
  generalize begN c = n at *
  generalize begB c = s at *
  have HN := Lib.hid hN; clear hN
  have HB := Lib.hid hB; clear hB
  by_cases c1 : c < 128
  · rw [if_pos c1] at HN HB
    obtain rfl := HN.out; obtain rfl := HB.out; clear HN HB a1 a2 a3
    go_enter Tryz.func77, Tryz.ntmps77
    go_wp2
    go_ret2
    exact ⟨rfl, rfl⟩
  rw [if_neg c1] at HN HB
  by_cases c2 : c < 192
  · rw [if_pos c2] at HN HB
    obtain rfl := HN.out; obtain rfl := HB.out; clear HN HB a1 a2 a3
    go_enter Tryz.func77, Tryz.ntmps77
    go_wp2
    go_ret2
    exact ⟨rfl, rfl⟩
  rw [if_neg c2] at HN HB
  by_cases c3 : c < 224
  · rw [if_pos c3] at HN HB
    obtain rfl := HN.out; obtain rfl := HB.out; clear HN HB a2 a3
    have b1 := a1 (by omega) c3; clear a1
    go_enter Tryz.func77, Tryz.ntmps77
    go_wp2
    go_ret2
    exact ⟨rfl, rfl⟩
  rw [if_neg c3] at HN HB
  by_cases c4 : c < 240
  · rw [if_pos c4] at HN HB
    obtain rfl := HN.out; obtain rfl := HB.out; clear HN HB a1 a3
    have b1 := a2 (by omega) c4; clear a2
    go_enter Tryz.func77, Tryz.ntmps77
    go_wp2
    go_ret2
    exact ⟨rfl, rfl⟩
  rw [if_neg c4] at HN HB
  by_cases c5 : c < 248
  · rw [if_pos c5] at HN HB
    obtain rfl := HN.out; obtain rfl := HB.out; clear HN HB a1 a2
    have b1 := a3 (by omega) c5; clear a3
    go_enter Tryz.func77, Tryz.ntmps77
    go_wp2
    go_ret2
    exact ⟨rfl, rfl⟩
  rw [if_neg c5] at HN HB
  obtain rfl := HN.out; obtain rfl := HB.out; clear HN HB a1 a2 a3
  go_enter Tryz.func77, Tryz.ntmps77
  go_wp2
  go_ret2
  exact ⟨rfl, rfl⟩

theorem ret1 {k : IntKind} {a b : Int} (h : a = b) : Ending.returned (.int k a) = .returned (.int k b) := by rw [h]

theorem length_any (n : Int) (w : World) :
    Calls Tryz.prog 78 #[.int .i32 n] w fun e w' => e = .returned (.int .i64 (lenI n)) ∧ w = w' := by
  have hN : lenI n = if n < 0 then 0 else if n < 128 then 1 else if n < 2048 then 2 else if 55296 ≤ n ∧ n < 57344 then 0 else if n < 65536 then 3 else if n < 1114112 then 4 else 0 := rfl
  generalize lenI n = l at *
  have HN := Lib.hid hN; clear hN
  by_cases c1 : n < 0
  · rw [if_pos c1] at HN; obtain rfl := HN.out; clear HN
    go_enter Tryz.func78, Tryz.ntmps78
    go_wp2
    go_ret
    exact ⟨rfl, rfl⟩
  rw [if_neg c1] at HN
  by_cases c2 : n < 128
  · rw [if_pos c2] at HN; obtain rfl := HN.out; clear HN
    go_enter Tryz.func78, Tryz.ntmps78
    go_wp2
    go_ret
    exact ⟨rfl, rfl⟩
  rw [if_neg c2] at HN
  by_cases c3 : n < 2048
  · rw [if_pos c3] at HN; obtain rfl := HN.out; clear HN
    go_enter Tryz.func78, Tryz.ntmps78
    go_wp2
    go_ret
    exact ⟨rfl, rfl⟩
  rw [if_neg c3] at HN
  by_cases c4 : 55296 ≤ n ∧ n < 57344
  · rw [if_pos c4] at HN; obtain rfl := HN.out; clear HN
    obtain ⟨d1, d2⟩ := c4
    go_enter Tryz.func78, Tryz.ntmps78
    go_wp2
    go_ret
    exact ⟨rfl, rfl⟩
  rw [if_neg c4] at HN
  have c4' : n < 55296 ∨ 57344 ≤ n := by omega
  by_cases c5 : n < 65536
  · rw [if_pos c5] at HN; obtain rfl := HN.out; clear HN c4
    rcases c4' with c4 | c4
    all_goals
      go_enter Tryz.func78, Tryz.ntmps78
      go_wp2
      go_ret
      exact ⟨rfl, rfl⟩
  rw [if_neg c5] at HN
  clear c4 c4'
  by_cases c6 : n < 1114112
  · rw [if_pos c6] at HN; obtain rfl := HN.out; clear HN
    go_enter Tryz.func78, Tryz.ntmps78
    go_wp2
    go_ret
    exact ⟨rfl, rfl⟩
  rw [if_neg c6] at HN; obtain rfl := HN.out; clear HN
  go_enter Tryz.func78, Tryz.ntmps78
  go_wp2
  go_ret
  exact ⟨rfl, rfl⟩


set_option maxHeartbeats 1000000 in
theorem refBytes_yes (n : Int) (w : World) (h : lenI n ≠ 0) :
    Calls Tryz.prog 76 #[.int .i64 n] w fun e w' => e = .returned (.tuple #[.slice (some ⟨w.heap.size, 0, none⟩) (lenI n) (lenI n), .int .i64 0]) ∧ w.alloc (.cells (encV n) 5) = w' := by
  rcases lenI_cases n with e | e | e | e | e
  · exact absurd e h
  · obtain ⟨h0, h1⟩ := lenI_one e
    have E : encV n = #[.int .u8 n] := by unfold encV; rw [enc1 e]; rfl
    rw [e, E]; clear e E h
    go_enter Tryz.func76, Tryz.ntmps76
    go_wp2
    go_ret2
    exact ⟨rfl, rfl⟩
  · obtain ⟨h0, h1⟩ := lenI_two e
    have E : encV n = #[.int .u8 (192 + n / 64), .int .u8 (128 + n % 64)] := by unfold encV; rw [enc2 e]; rfl
    rw [e, E]; clear e E h
    go_enter Tryz.func76, Tryz.ntmps76
    go_wp2
    go_ret2
    exact ⟨rfl, rfl⟩
  · obtain ⟨h0, h1, h2⟩ := lenI_three e
    have E : encV n = #[.int .u8 (224 + n / 4096), .int .u8 (128 + n / 64 % 64), .int .u8 (128 + n % 64)] := by unfold encV; rw [enc3 e]; rfl
    rw [e, E]; clear e E h
    rcases h2 with h2 | h2
    all_goals
      go_enter Tryz.func76, Tryz.ntmps76
      go_wp2
      go_ret2
      exact ⟨rfl, rfl⟩
  · obtain ⟨h0, h1⟩ := lenI_four e
    have E : encV n = #[.int .u8 (240 + n / 262144), .int .u8 (128 + n / 4096 % 64), .int .u8 (128 + n / 64 % 64), .int .u8 (128 + n % 64)] := by unfold encV; rw [enc4 e]; rfl
    rw [e, E]; clear e E h
    go_enter Tryz.func76, Tryz.ntmps76
    go_wp2
    go_ret2
    exact ⟨rfl, rfl⟩

set_option maxHeartbeats 1000000 in
theorem refBytes_no (n : Int) (w : World) (h : lenI n = 0) :
    Calls Tryz.prog 76 #[.int .i64 n] w fun e w' => e = .returned (.tuple #[.slice none 0 0, .int .i64 1]) ∧ w = w' := by
  have h' := lenI_zero h; clear h
  rcases h' with h | ⟨h, h'⟩ | h
  all_goals
    go_enter Tryz.func76, Tryz.ntmps76
    go_wp2
    go_ret2
    exact ⟨rfl, rfl⟩

end Go.Proofs.YtaiihnniblibaaaGreatDoor.Utf

/-
  Layer 1 (utf): Next answers the sign with which bytes begin, at every slice of bytes.
-/
namespace Go.Proofs.YtaiihnniblibaaaGreatDoor.Utf
open Go.ChangeShapes Go.WideShapes Go.ChangeAt Go.RowKit
set_option linter.unusedVariables false

theorem acc_small {c : Int} {n : Nat} {r : List Int} {k : Nat} (h0 : 0 ≤ c) (hn : begN c = n) (hk : k + 1 < n) : 0 ≤ acc (begB c) (r.take k) ∧ acc (begB c) (r.take k) < 32768 := by
  have hl : (r.take k).length ≤ k := List.length_take_le _ _
  rcases begN_cases c with ⟨e, _⟩ | ⟨e, b, _⟩ | ⟨e, b, _⟩ | ⟨e, b, _⟩ | ⟨e, b, _⟩
  · omega
  · omega
  · have := acc_bd (r.take k) (begB c) 32 (by omega) (by omega)
    have e0 : (r.take k).length = 0 := by omega
    rw [e0] at this; omega
  · have := acc_bd (r.take k) (begB c) 16 (by omega) (by omega)
    have e0 : (r.take k).length = 0 ∨ (r.take k).length = 1 := by omega
    rcases e0 with e0 | e0 <;> rw [e0] at this <;> omega
  · have := acc_bd (r.take k) (begB c) 8 (by omega) (by omega)
    have e0 : (r.take k).length = 0 ∨ (r.take k).length = 1 ∨ (r.take k).length = 2 := by omega
    rcases e0 with e0 | e0 | e0 <;> rw [e0] at this <;> omega

theorem acc_end {c s : Int} {n : Nat} {r : List Int} (h0 : 0 ≤ c) (h1 : c < 256) (hn : begN c = n) (hs : begB c = s) : 0 ≤ acc s (r.take (n - 1)) ∧ acc s (r.take (n - 1)) < 2147483648 := by
  have hl : (r.take (n - 1)).length ≤ n - 1 := List.length_take_le _ _
  have hle : n ≤ 4 := by rw [← hn]; exact begN_le c
  have hb : 0 ≤ s ∧ s < 256 := by
    rw [← hs]
    unfold begB; repeat' split
    all_goals omega
  have := acc_bd (r.take (n - 1)) s 256 hb.1 hb.2
  have e0 : (r.take (n - 1)).length = 0 ∨ (r.take (n - 1)).length = 1 ∨ (r.take (n - 1)).length = 2 ∨ (r.take (n - 1)).length = 3 := by omega
  rcases e0 with e0 | e0 | e0 | e0 <;> rw [e0] at this <;> omega

set_option maxHeartbeats 1000000 in
theorem next_cons (b off : Nat) (cap : Nat) (c : Int) (r : List Int) (w : World) (hb : Byt (c :: r)) (hcap : r.length + 1 ≤ cap) (hcap' : cap ≤ maxLen)
    (hcell : ∀ i, i < r.length + 1 → w.cell? ⟨b, off + i, none⟩ = some (.int .u8 ((c :: r).getD i 0))) :
    Calls Tryz.prog 62 #[.slice (some ⟨b, off, none⟩) (r.length + 1) cap] w fun e w' => e = .returned (.tuple #[.int .i64 (nxt (c :: r)).1, .int .i64 ((nxt (c :: r)).2 : Nat)]) ∧ w = w' := by
  have hc := hb c (by simp)
  unfold maxLen at hcap'
  have hc0 : w.cell? ⟨b, off, none⟩ = some (.int .u8 c) := by simpa using hcell 0 (by omega)
  have hbeg := begin_any c w hc.1 hc.2
  obtain ⟨n, hn⟩ : ∃ n, begN c = n := ⟨_, rfl⟩
  obtain ⟨s, hs⟩ : ∃ s, begB c = s := ⟨_, rfl⟩
  rw [hn, hs] at hbeg
  have Hbeg := Lib.hid hbeg; clear hbeg
  have hle : n ≤ 4 := by rw [← hn]; exact begN_le c
  have hx := nxt_cons c r
  rw [hn, hs] at hx
  have Hn := Lib.hid hn; have Hs := Lib.hid hs; clear hn hs
  by_cases h0 : n = 0
  · subst h0
    rw [if_pos (.inl rfl)] at hx
    rw [hx]; clear hx Hn Hs
    have hr : ((r.length : Int) + 1 == 0) = false := by rw [beq_eq_false_iff_ne]; omega
    go_enter Tryz.func62, Tryz.ntmps62
    go_wp2_with (go_at_call 77; refine Hbeg.out.mono ?_; rintro e w' ⟨rfl, rfl⟩)
    go_ret2
    exact ⟨rfl, rfl⟩
  have hr : ((r.length : Int) + 1 == 0) = false := by rw [beq_eq_false_iff_ne]; omega
  have hn0 : ((n : Int) == 0) = false := by rw [beq_eq_false_iff_ne]; omega
  by_cases h1 : r.length + 1 < n
  · rw [if_pos (.inr h1)] at hx
    rw [hx]; clear hx Hn Hs
    go_enter Tryz.func62, Tryz.ntmps62
    go_wp2_with (go_at_call 77; refine Hbeg.out.mono ?_; rintro e w' ⟨rfl, rfl⟩)
    go_ret2
    exact ⟨rfl, rfl⟩
  rw [if_neg (by omega)] at hx
  have Hx := Lib.hid hx; clear hx
  have hnr : n ≤ r.length + 1 := by omega
  have hn1 : 1 ≤ n := by omega
  have hnr' : (n : Int) ≤ (r.length : Int) + 1 := by omega
  by_cases hcap1 : cap = 1
  · subst hcap1
    obtain rfl : r = [] := List.eq_nil_of_length_eq_zero (by omega)
    simp only [List.length_nil, Nat.zero_add] at hnr
    obtain rfl : n = 1 := by omega
    have hres : nxt [c] = (c, 1) := by
      have hcs := begN_cases c
      rw [Hn.out] at hcs
      have h3 : c < 128 := by omega
      have := nxt_of (k := c) (by rw [lenI_is1 hc.1 h3]; omega) []
      rw [enc1 (lenI_is1 hc.1 h3), lenI_is1 hc.1 h3] at this
      exact this
    have hsc : s = c := by
      have hcs := begN_cases c
      rw [Hn.out, Hs.out] at hcs
      omega
    subst hsc
    have h3 : s < 128 := by
      have hcs := begN_cases s
      rw [Hn.out] at hcs
      omega
    obtain ⟨s0, s1⟩ := hc
    have Hres := Lib.hid hres; clear hres
    have hL := length_any s w
    rw [lenI_is1 s0 h3] at hL
    have HL := Lib.hid hL; clear hL
    go_enter Tryz.func62, Tryz.ntmps62
    go_wp2_with (go_at_call 77; refine Hbeg.out.mono ?_; rintro e w' ⟨rfl, rfl⟩)
    go_loop [5, 7, 30] (fun sg _ i => i = .int .i64 0 ∧ sg = .int .i32 s) (fun _ _ _ => 0)
    case atStart => exact ⟨rfl, rfl⟩
    case round =>
      obtain ⟨rfl, rfl⟩ := hrel
      go_wp2_with (go_at_call 78; refine HL.out.mono ?_; rintro e w' ⟨rfl, rfl⟩)
      go_ret2
      rw [Hres.out]
      exact ⟨rfl, rfl⟩
  go_enter Tryz.func62, Tryz.ntmps62
  go_wp2_with (go_at_call 77; refine Hbeg.out.mono ?_; rintro e w' ⟨rfl, rfl⟩)
  go_loop [5, 7, 30] (fun sg _ i => ∃ k : Nat, k ≤ n - 1 ∧ i = .int .i64 k ∧ sg = .int .i32 (acc s (r.take k)) ∧ (r.take k).all cont = true) (fun _ _ i => (n - 1) - (intOf i).toNat)
  case atStart => exact ⟨0, Nat.zero_le _, rfl, rfl, rfl⟩
  case round =>
    obtain ⟨k, hk, rfl, rfl, hall⟩ := hrel
    by_cases hlt : k < n - 1
    · have hkr : k < r.length := by omega
      have hd := hb (r.getD k 0) (by simp [List.getD, hkr])
      have hck : w.cell? ⟨b, off + 1 + k, none⟩ = some (.int .u8 (r.getD k 0)) := by
        have := hcell (k + 1) (by omega)
        rw [show off + (k + 1) = off + 1 + k from by omega] at this
        rw [this]; simp [List.getD]
      have htk : r.take (k + 1) = r.take k ++ [r.getD k 0] := by
        rw [List.take_succ_eq_append_getElem hkr]; simp [List.getD, hkr]
      have hS : 0 ≤ acc s (r.take k) ∧ acc s (r.take k) < 32768 := by
        have := acc_small (r := r) hc.1 Hn.out (k := k) (by omega)
        rw [Hs.out] at this; exact this
      have hsn := acc_snoc (r.take k) (r.getD k 0) s
      rw [← htk] at hsn
      obtain ⟨_, _, _, hb63⟩ := andNot_of _ hd.1 hd.2
      have hal2 : (r.take (k + 1)).all cont = cont (r.getD k 0) := by rw [htk, List.all_append, hall]; simp
      generalize hde : r.getD k 0 = d at *
      generalize hSe : acc s (r.take k) = S at *
      have Hsn := Lib.hid hsn; have Hde := Lib.hid hde; have HSe := Lib.hid hSe; have Htk := Lib.hid htk; have Hall := Lib.hid hall; have Hal2 := Lib.hid hal2
      clear hsn hde hSe htk hall hal2
      obtain ⟨hS0, hS1⟩ := hS
      obtain ⟨hd0, hd1⟩ := hd
      by_cases hcd : cont d = true
      · rw [hcd] at hb63
        go_wp2
        go_round
        case rel => exact ⟨k + 1, by omega, by go_num, by rw [Hsn.out], by rw [Hal2.out, hcd]⟩
        case measure => simp [intOf]; omega
      · have hcd' : cont d = false := by simpa using hcd
        rw [hcd'] at hb63
        have hres : nxt (c :: r) = (-1, 0) := by
          rw [Hx.out, if_pos]
          have e : r.take (n - 1) = r.take (k + 1) ++ (r.drop (k + 1)).take (n - 1 - (k + 1)) := by
            rw [← List.take_append_drop (k + 1) (r.take (n - 1)), List.take_take, List.drop_take, Nat.min_eq_left (by omega)]
          rw [e, List.all_append, Hal2.out, hcd', Bool.false_and]
        have Hres := Lib.hid hres; clear hres hcd
        go_wp2
        go_ret2
        rw [Hres.out]
        exact ⟨rfl, rfl⟩
    · obtain rfl : k = n - 1 := by omega
      have hS : 0 ≤ acc s (r.take (n - 1)) ∧ acc s (r.take (n - 1)) < 2147483648 := acc_end hc.1 hc.2 Hn.out Hs.out
      have hres := Hx.out
      rw [if_neg (by rw [hall]; simp)] at hres
      generalize acc s (r.take (n - 1)) = S at *
      clear hall
      obtain ⟨hS0, hS1⟩ := hS
      by_cases hlen : lenI S = n
      · rw [if_pos hlen] at hres
        have Hres := Lib.hid hres; clear hres
        have hL := length_any S w
        rw [hlen] at hL
        have HL := Lib.hid hL; clear hL hlen
        have hnn : ((n : Int) != n) = false := by simp
        go_wp2_with (go_at_call 78; refine HL.out.mono ?_; rintro e w' ⟨rfl, rfl⟩)
        go_ret2
        rw [Hres.out]
        exact ⟨rfl, rfl⟩
      · rw [if_neg hlen] at hres
        have Hres := Lib.hid hres; clear hres
        have hL := length_any S w
        have hnn : ((lenI S : Int) != n) = true := by rw [bne_iff_ne]; omega
        generalize lenI S = L at *
        have HL := Lib.hid hL; clear hL hlen
        go_wp2_with (go_at_call 78; refine HL.out.mono ?_; rintro e w' ⟨rfl, rfl⟩)
        go_ret2
        rw [Hres.out]
        exact ⟨rfl, rfl⟩
theorem next_nil (A : Option Addr) (cap : Nat) (w : World) :
    Calls Tryz.prog 62 #[.slice A 0 cap] w fun e w' => e = .returned (.tuple #[.int .i64 (-1), .int .i64 0]) ∧ w = w' := by
  go_enter Tryz.func62, Tryz.ntmps62
  go_wp2
  go_ret2
  exact ⟨rfl, rfl⟩

/-- utf.Next, at every slice of bytes. -/
theorem next_any (A : Option Addr) (cap : Nat) (xs : List Int) (w : World) (B : Nat) (h : RB w B A xs) (hcap : xs.length ≤ cap) (hcap' : cap ≤ maxLen) :
    Calls Tryz.prog 62 #[.slice A xs.length cap] w fun e w' => e = .returned (.tuple #[.int .i64 (nxt xs).1, .int .i64 ((nxt xs).2 : Nat)]) ∧ w = w' := by
  cases xs with
  | nil => exact next_nil A cap w
  | cons c r =>
    obtain ⟨b, off, rfl, _, hc⟩ := h.cell (by simp)
    exact next_cons b off cap c r w h.byt hcap hcap' hc

end Go.Proofs.YtaiihnniblibaaaGreatDoor.Utf

/-
  Layer 1 (utf): the chapter's examples hold in the program.
-/
namespace Go.Proofs.YtaiihnniblibaaaGreatDoor.Utf
open Go.ChangeShapes Go.WideShapes Go.ChangeAt Go.RowKit
set_option linter.unusedVariables false

end Go.Proofs.YtaiihnniblibaaaGreatDoor.Utf

/-
  Layer 1 (utf): the document's own Next answers the sign with which bytes begin, at every slice of bytes.
-/
namespace Go.Proofs.YtaiihnniblibaaaGreatDoor.Utf
open Go.ChangeShapes Go.WideShapes Go.ChangeAt Go.RowKit
set_option linter.unusedVariables false

theorem below_drewN {B : Nat} {a w : World} (h : Below B a w) (n : Nat) : Below B a (w.drewN n) := ⟨h.os, h.tape, h.output, h.size, h.block⟩

theorem str_toList {a b : ByteArray} (h : a.toList = b.toList) : a = b := by
  rw [ByteArray.toList_eq, ByteArray.toList_eq] at h
  cases a; cases b; simp at h; rw [h]

/-- No sign of fewer than m bytes stands at the front. -/
def NoHit (xs : List Int) (m : Nat) : Prop := ∀ j, 1 ≤ j → j < m → j ≤ xs.length → ¬ hit j xs

theorem md_bd {m : Nat} {c : Int} (h0 : 0 ≤ c) (h1 : c < 256) : 0 ≤ md m c ∧ md m c < 256 := by
  unfold md; repeat' split
  all_goals omega

theorem acc_mid {m : Nat} {c : Int} {r : List Int} {k : Nat} (h0 : 0 ≤ c) (h1 : c < 256) (hk : k ≤ 3) : 0 ≤ acc (md m c) (r.take k) ∧ acc (md m c) (r.take k) < 67108864 := by
  have hl : (r.take k).length ≤ k := List.length_take_le _ _
  have hb := md_bd (m := m) h0 h1
  have := acc_bd (r.take k) (md m c) 256 hb.1 hb.2
  have e0 : (r.take k).length = 0 ∨ (r.take k).length = 1 ∨ (r.take k).length = 2 ∨ (r.take k).length = 3 := by omega
  rcases e0 with e0 | e0 | e0 | e0 <;> rw [e0] at this <;> omega

set_option maxHeartbeats 4000000 in
theorem refNext_cons (b off : Nat) (cap : Nat) (c : Int) (r : List Int) (w : World) (hb : Byt (c :: r)) (hcap : r.length + 1 ≤ cap) (hcap' : cap ≤ maxLen) (hbw : b < w.heap.size)
    (hcell : ∀ i, i < r.length + 1 → w.cell? ⟨b, off + i, none⟩ = some (.int .u8 ((c :: r).getD i 0))) :
    Calls Tryz.prog 56 #[.slice (some ⟨b, off, none⟩) (r.length + 1) cap] w fun e w' => e = .returned (.tuple #[.int .i64 (nxt (c :: r)).1, .int .i64 ((nxt (c :: r)).2 : Nat)]) ∧ Below w.heap.size w w' := by
  unfold maxLen at hcap'
  obtain ⟨hc0, hc1⟩ := hb c (by simp)
  have hce : w.cell? ⟨b, off, none⟩ = some (.int .u8 c) := by simpa using hcell 0 (by omega)
  go_enter Tryz.func56, Tryz.ntmps56
  go_wp2
  go_loopw [4, 5, 6, 7, 8] (fun n _ _ _ _ wr => ∃ m : Nat, 1 ≤ m ∧ m ≤ 5 ∧ n = .int .i64 m ∧ NoHit (c :: r) m ∧ Below w.heap.size w wr) (fun n _ _ _ _ _ => 5 - (intOf n).toNat)
  case atStart => exact ⟨1, by omega, by omega, rfl, fun j _ _ => by omega, Below.refl _ _⟩
  case round =>
    obtain ⟨m, hm1, hm5, rfl, hno, hbel⟩ := hrel
    by_cases hend : m = 5 ∨ r.length + 1 < m
    · have hres : nxt (c :: r) = (-1, 0) := no_hit hb (fun j h1 h4 hl => hno j h1 (by rw [List.length_cons] at hl; omega) hl)
      have Hres := Lib.hid hres; clear hres
      rcases hend with hend | hend
      · have h54 : ¬ (m : Int) ≤ 4 := by omega
        clear hend
        go_wp2
        go_ret2
        rw [Hres.out]
        exact ⟨rfl, hbel⟩
      · have hlm : ¬ (m : Int) ≤ (r.length : Int) + 1 := by omega
        by_cases h54 : (m : Int) ≤ 4
        all_goals
          go_wp2
          go_ret2
          rw [Hres.out]
          exact ⟨rfl, hbel⟩
    · have hm4 : (m : Int) ≤ 4 := by omega
      have hml : (m : Int) ≤ (r.length : Int) + 1 := by omega
      have hce' : wr.cell? ⟨b, off, none⟩ = some (.int .u8 c) := (hbel.cell hbw).trans hce
      have hcell' : ∀ i, i < r.length + 1 → wr.cell? ⟨b, off + i, none⟩ = some (.int .u8 ((c :: r).getD i 0)) := fun i hi => (hbel.cell hbw).trans (hcell i hi)
      have Hcell := Lib.hid hcell'; clear hcell'
      have hmc : m = 1 ∨ m = 2 ∨ m = 3 ∨ m = 4 := by omega
      have hmd : md m c = if m = 2 then c % 32 else if m = 3 then c % 16 else if m = 4 then c % 8 else c := rfl
      have Hmid := Lib.hid (fun k (hk : k ≤ 3) => acc_mid (m := m) (r := r) (k := k) hc0 hc1 hk)
      have hK : refK m (c :: r) = acc (md m c) (r.take (m - 1)) := rfl
      generalize md m c = k0 at *
      have HK := Lib.hid hK; clear hK
      have h2 : ((m : Int) == 2) = decide (m = 2) := by by_cases h : m = 2 <;> simp [h]; omega
      have h3 : ((m : Int) == 3) = decide (m = 3) := by by_cases h : m = 3 <;> simp [h]; omega
      have h4 : ((m : Int) == 4) = decide (m = 4) := by by_cases h : m = 4 <;> simp [h]; omega
      obtain ⟨b2, e2⟩ : ∃ b2, decide (m = 2) = b2 := ⟨_, rfl⟩
      obtain ⟨b3, e3⟩ : ∃ b3, decide (m = 3) = b3 := ⟨_, rfl⟩
      obtain ⟨b4, e4⟩ : ∃ b4, decide (m = 4) = b4 := ⟨_, rfl⟩
      rw [e2] at h2; rw [e3] at h3; rw [e4] at h4
      have hk0 : k0 = if b2 then c % 32 else if b3 then c % 16 else if b4 then c % 8 else c := by rw [hmd, ← e2, ← e3, ← e4]; simp
      have hbs : (b2 = false ∧ b3 = false ∧ b4 = false) ∨ (b2 = true ∧ b3 = false ∧ b4 = false) ∨ (b2 = false ∧ b3 = true ∧ b4 = false) ∨ (b2 = false ∧ b3 = false ∧ b4 = true) := by
        rw [← e2, ← e3, ← e4]; simp; omega
      clear e2 e3 e4 hmd hmc hend
      rcases hbs with ⟨rfl, rfl, rfl⟩ | ⟨rfl, rfl, rfl⟩ | ⟨rfl, rfl, rfl⟩ | ⟨rfl, rfl, rfl⟩
      all_goals
        simp only [if_true, if_false, Bool.false_eq_true] at hk0
        have Hk0 := Lib.hid hk0; clear hk0
        go_wp2
        go_loop [5, 6] (fun k i => ∃ j : Nat, 1 ≤ j ∧ j ≤ m ∧ i = .int .i64 j ∧ k = .int .i64 (acc k0 (r.take (j - 1)))) (fun _ i => m - (intOf i).toNat)
        case atStart => exact ⟨1, by omega, hm1, rfl, by rw [Hk0.out]; rfl⟩
        case round =>
          obtain ⟨j, hj1, hjm, rfl, rfl⟩ := hrel
          by_cases hlt : j < m
          · have hck := Hcell.out j (by omega)
            have hd := hb.getD j
            have hj0 : (c :: r).getD j 0 = r.getD (j - 1) 0 := by
              obtain ⟨i, rfl⟩ : ∃ i, j = i + 1 := ⟨j - 1, by omega⟩
              simp [List.getD]
            have htk : r.take (j + 1 - 1) = r.take (j - 1) ++ [r.getD (j - 1) 0] := by
              have hjr : j - 1 < r.length := by omega
              rw [show j + 1 - 1 = (j - 1) + 1 from by omega, List.take_succ_eq_append_getElem hjr]; simp [List.getD, hjr]
            have hS := Hmid.out (j - 1) (by omega)
            have hsn := acc_snoc (r.take (j - 1)) (r.getD (j - 1) 0) k0
            rw [← htk] at hsn
            rw [hj0] at hck hd
            generalize r.getD (j - 1) 0 = d at *
            generalize acc k0 (r.take (j - 1)) = S at *
            have Hsn := Lib.hid hsn; clear hsn htk hj0
            obtain ⟨hd0, hd1⟩ := hd
            obtain ⟨hS0, hS1⟩ := hS
            have hjl : (j : Int) < (r.length : Int) + 1 := by omega
            go_wp2
            go_round
            case rel => exact ⟨j + 1, by omega, by omega, by go_num, by rw [Hsn.out]; congr 1; omega⟩
            case measure => simp [intOf]; omega
          · obtain rfl : j = m := by omega
            rw [← HK.out]
            obtain ⟨hS0, hS1⟩ := Hmid.out (j - 1) (by omega)
            rw [← HK.out] at hS0 hS1
            have hnh : ¬ hit j (c :: r) → NoHit (c :: r) (j + 1) := fun hh i h1 h2 h3 => by
              by_cases e : i = j
              · rw [e]; exact hh
              · exact hno i h1 (by omega) h3
            have hhit : hit j (c :: r) → nxt (c :: r) = (refK j (c :: r), j) := hit_nxt (by rw [List.length_cons]; omega)
            have hdef : hit j (c :: r) ↔ lenI (refK j (c :: r)) ≠ 0 ∧ enc (refK j (c :: r)) = (c :: r).take j := Iff.rfl
            generalize refK j (c :: r) = K at *
            generalize hit j (c :: r) = HIT at *
            have Hnh := Lib.hid hnh; have Hhit := Lib.hid hhit; have Hdef := Lib.hid hdef; clear hnh hhit hdef
            by_cases hz : lenI K = 0
            · have hB := Lib.hid (refBytes_no K wr hz)
              have hno' := Lib.hid (Hnh.out (fun h => (Hdef.out.1 h).1 hz))
              clear hz
              go_wp2_with (go_at_call 76; refine hB.out.mono ?_; rintro e w' ⟨rfl, rfl⟩)
              go_quiet (fail)
              go_wp2
              go_roundw
              case rel => exact ⟨j + 1, by omega, by omega, by go_num, hno'.out, below_drewN hbel _⟩
              case measure => simp [intOf]; omega
            · have hB := Lib.hid (refBytes_yes K wr hz)
              have hL := enc_length K
              have r1 := rb_enc wr K 5
              have hcw : ∀ i, i < r.length + 1 → (wr.alloc (.cells (encV K) 5)).cell? ⟨b, off + i, none⟩ = some (.int .u8 ((c :: r).getD i 0)) := fun i hi => by
                rw [World.cell?_alloc_lt _ _ _ (by have := hbel.size; show b < _; omega)]; exact Hcell.out i hi
              have hbelA : Below w.heap.size w (wr.alloc (.cells (encV K) 5)) := hbel.alloc hbel.size _
              have r2 : RB (wr.alloc (.cells (encV K) 5)) (b + 1) (some ⟨b, off, none⟩) (c :: r) := ⟨hb, .inr ⟨b, off, rfl, by omega, hcw⟩⟩
              have hlt2 : ((c :: r).take j).length = j := by rw [List.length_take, List.length_cons]; omega
              have c1 : ∀ nq, (convert 30 9 (.slice (some ⟨wr.heap.size, 0, none⟩) (lenI K) (lenI K))).run Tryz.prog ((wr.alloc (.cells (encV K) 5)).drewN nq) = .ok (.string (strOfNums (enc K))) ((wr.alloc (.cells (encV K) 5)).drewN nq) := fun nq => by
                have := run_conv (P := Tryz.prog) ((wr.alloc (.cells (encV K) 5)).drewN nq) 30 9 5 Tryz.underlying30 Tryz.underlying5 Tryz.underlying9 r1 (lenI K)
                rw [hL] at this; exact this
              have c2 : ∀ nq, (convert 30 9 (.slice (some ⟨b, off, none⟩) j cap)).run Tryz.prog ((wr.alloc (.cells (encV K) 5)).drewN nq) = .ok (.string (strOfNums ((c :: r).take j))) ((wr.alloc (.cells (encV K) 5)).drewN nq) := fun nq => by
                have := run_conv (P := Tryz.prog) ((wr.alloc (.cells (encV K) 5)).drewN nq) 30 9 5 Tryz.underlying30 Tryz.underlying5 Tryz.underlying9 (r2.take j) cap
                rw [hlt2] at this; exact this
              have hjc : (j : Int) ≤ cap := by omega
              by_cases heq : enc K = (c :: r).take j
              · have hres := Lib.hid (Hhit.out (Hdef.out.2 ⟨hz, heq⟩))
                rw [← heq] at c2
                clear hL hcw r1 r2 hlt2 hz heq
                generalize lenI K = L at *
                go_wp2_with (go_at_call 76; refine hB.out.mono ?_; rintro e w' ⟨rfl, rfl⟩)
                go_quiet (fail)
                go_wp2
                go_ret2
                rw [hres.out]
                exact ⟨rfl, below_drewN hbelA _⟩
              · have hno' := Lib.hid (Hnh.out (fun h => heq (Hdef.out.1 h).2))
                have hsne : ((strOfNums (enc K)).toList == (strOfNums ((c :: r).take j)).toList) = false := by
                  rw [beq_eq_false_iff_ne]; exact fun h => heq (strOfNums_inj (enc_byt K) (hb.take j) (str_toList h))
                clear hL hcw r1 r2 hlt2 hz heq
                generalize lenI K = L at *
                generalize strOfNums (enc K) = s1 at *
                generalize strOfNums ((c :: r).take j) = s2 at *
                go_wp2_with (go_at_call 76; refine hB.out.mono ?_; rintro e w' ⟨rfl, rfl⟩)
                go_quiet (fail)
                go_wp2
                go_roundw
                case rel => exact ⟨j + 1, by omega, by omega, by go_num, hno'.out, below_drewN hbelA _⟩
                case measure => simp [intOf]; omega

theorem refNext_nil (A : Option Addr) (cap : Nat) (w : World) :
    Calls Tryz.prog 56 #[.slice A 0 cap] w fun e w' => e = .returned (.tuple #[.int .i64 (-1), .int .i64 0]) ∧ Below w.heap.size w w' := by
  go_enter Tryz.func56, Tryz.ntmps56
  go_wp2
  go_loopw [4, 5, 6, 7, 8] (fun n _ _ _ _ wr => n = .int .i64 1 ∧ wr = w) (fun n _ _ _ _ _ => 5 - (intOf n).toNat)
  case atStart => exact ⟨rfl, rfl⟩
  case round =>
    obtain ⟨rfl, rfl⟩ := hrel
    go_wp2
    go_ret2
    exact ⟨rfl, Below.refl _ _⟩

/-- The document's Next, at every slice of bytes. -/
theorem refNext_any (A : Option Addr) (n cap : Nat) (xs : List Int) (w : World) (B : Nat) (h : RB w B A xs) (hn : xs.length = n) (hB : B ≤ w.heap.size) (hcap : n ≤ cap) (hcap' : cap ≤ maxLen) :
    Calls Tryz.prog 56 #[.slice A n cap] w fun e w' => e = .returned (.tuple #[.int .i64 (nxt xs).1, .int .i64 ((nxt xs).2 : Nat)]) ∧ Below w.heap.size w w' := by
  subst hn
  cases xs with
  | nil => exact refNext_nil A cap w
  | cons c r =>
    obtain ⟨b, off, rfl, hb, hc⟩ := h.cell (by simp)
    exact refNext_cons b off cap c r w h.byt hcap hcap' (by omega) hc

/-- utf.Next, its length by a name of its own. -/
theorem next_at (A : Option Addr) (n cap : Nat) (xs : List Int) (w : World) (B : Nat) (h : RB w B A xs) (hn : xs.length = n) (hcap : n ≤ cap) (hcap' : cap ≤ maxLen) :
    Calls Tryz.prog 62 #[.slice A n cap] w fun e w' => e = .returned (.tuple #[.int .i64 (nxt xs).1, .int .i64 ((nxt xs).2 : Nat)]) ∧ w = w' := by
  subst hn
  exact next_any A cap xs w B h hcap hcap'

/-- What the law's frame tells of a slice of integers that came in. -/
def Row (k : IntKind) (w : World) (a : Option Addr) (len cap : Nat) (zs : List Int) : Prop :=
  (a = none ∧ len = 0 ∧ cap = 0 ∧ zs = []) ∨
  ∃ x, a = some x ∧ len ≤ cap ∧ cap ≤ maxLen ∧ zs.length = cap ∧ (∀ i, i < zs.length → w.cell? (x.add i) = some (.int k (zs.getD i 0))) ∧ ∀ n ∈ zs, (Lit.int k n).wf = true

theorem block_lt {w : World} {a : Addr} {v : Value} (h : w.cell? a = some v) : a.block < w.heap.size := by
  rcases Nat.lt_or_ge a.block w.heap.size with h' | h'
  · exact h'
  · simp [World.cell?, Array.getElem?_eq_none h'] at h

theorem row_rb {w : World} {a : Option Addr} {len cap : Nat} {zs : List Int} (h : Row .u8 w a len cap zs) : ∃ xs, xs.length = len ∧ len ≤ cap ∧ cap ≤ maxLen ∧ RB w w.heap.size a xs := by
  rcases h with ⟨rfl, rfl, rfl, rfl⟩ | ⟨x, rfl, hl, hm, hz, hc, hw⟩
  · exact ⟨[], rfl, Nat.le_refl _, by simp [maxLen], RB.nil _ _ _⟩
  · refine ⟨zs.take len, by rw [List.length_take]; omega, hl, hm, ?_, ?_⟩
    · intro y hy
      have := bounds_u8 (hw y (List.mem_of_mem_take hy))
      omega
    · by_cases h0 : len = 0
      · subst h0; exact .inl rfl
      · obtain ⟨b, off, spot⟩ := x
        have hspot : spot = none := by simpa [Addr.add] using World.cell?_spot (hc 0 (by omega))
        subst hspot
        refine .inr ⟨b, off, rfl, by simpa [Addr.add] using block_lt (hc 0 (by omega)), fun i hi => ?_⟩
        rw [List.length_take] at hi
        have e : (⟨b, off, none⟩ : Addr).add i = ⟨b, off + i, none⟩ := by unfold Addr.add; split <;> simp_all
        rw [← e, hc i (by omega)]
        simp [List.getD, show i < len by omega]

end Go.Proofs.YtaiihnniblibaaaGreatDoor.Utf

/-
  Layer 1 (utf): the walk over the signs from the front: Bad and Text.
-/
namespace Go.Proofs.YtaiihnniblibaaaGreatDoor.Utf
open Go.ChangeShapes Go.WideShapes Go.ChangeAt Go.RowKit
set_option linter.unusedVariables false

/-- One sign more. -/
theorem step_more {xs ks : List Int} {k : Nat} (hb : Byt xs) (h1 : Sgs ks) (h2 : encs ks = xs.take k) (h0 : (nxt (xs.drop k)).2 ≠ 0) (hk : k ≤ xs.length) :
    k + (nxt (xs.drop k)).2 ≤ xs.length ∧ Sgs (ks ++ [(nxt (xs.drop k)).1]) ∧ encs (ks ++ [(nxt (xs.drop k)).1]) = xs.take (k + (nxt (xs.drop k)).2) := by
  obtain ⟨e1, e2⟩ := nxt_some (k := (nxt (xs.drop k)).1) (n := (nxt (xs.drop k)).2) (hb.drop k) rfl h0
  have hle := nxt_le (hb.drop k)
  rw [List.length_drop] at hle
  refine ⟨by omega, h1.snoc (by omega), ?_⟩
  rw [encs_snoc, h2, List.take_add]
  congr 1
  generalize nxt (xs.drop k) = p at *
  rw [e2, List.take_append_of_le_length (by rw [enc_length]; omega), List.take_of_length_le (by rw [enc_length]; omega)]

theorem bad1_any (k : Int) (w : World) : Calls Tryz.prog 40 #[.int .i64 k] w fun e w' => e = .returned (.tuple #[]) ∧ w = w' := by
  go_enter Tryz.func40, Tryz.ntmps40
  go_wp2
  go_end0
  exact ⟨rfl, rfl⟩

set_option maxHeartbeats 1000000 in
theorem bad_any (A : Option Addr) (n cap : Nat) (xs : List Int) (w : World) (B : Nat) (h : RB w B A xs) (hn : xs.length = n) (hcap : n ≤ cap) (hcap' : cap ≤ maxLen) :
    Calls Tryz.prog 25 #[.slice A n cap] w fun e w' => e = .returned (.int .i64 (bad xs)) ∧ w = w' := by
  have hB := Lib.hid h.byt
  have Hn := Lib.hid hn; clear hn
  have h := Lib.hid h
  unfold maxLen at hcap'
  go_enter Tryz.func25, Tryz.ntmps25
  go_wp2
  go_step3
  go_wp2
  go_step3
  go_wp2
  go_loop [5, 6, 7] (fun at_ _ _ => ∃ (k : Nat) (ks : List Int), k ≤ n ∧ at_ = .int .i64 k ∧ Hid (Sgs ks ∧ encs ks = xs.take k)) (fun at_ _ _ => n - (intOf at_).toNat)
  case atStart => exact ⟨0, [], Nat.zero_le _, rfl, Sgs.nil, rfl⟩
  case round =>
    obtain ⟨k, ks, hk, rfl, hks⟩ := hrel
    have hstep : Hid ((nxt (xs.drop k)).2 = 0 → k = bad xs) := fun h0 => (bad_of hB.out hks.out.1 (by rw [Hn.out]; exact hk) hks.out.2 h0).2
    have hmore : Hid ((nxt (xs.drop k)).2 ≠ 0 → k + (nxt (xs.drop k)).2 ≤ n ∧ Sgs (ks ++ [(nxt (xs.drop k)).1]) ∧ encs (ks ++ [(nxt (xs.drop k)).1]) = xs.take (k + (nxt (xs.drop k)).2)) := fun h0 => by
      have := step_more hB.out hks.out.1 hks.out.2 h0 (by rw [Hn.out]; exact hk)
      rw [Hn.out] at this; exact this
    have hC : ∀ A', (A' = if cap = k then A else A.map (·.add k)) → Calls Tryz.prog 62 #[.slice A' (n - k) (cap - k)] w fun e w' => e = .returned (.tuple #[.int .i64 (nxt (xs.drop k)).1, .int .i64 ((nxt (xs.drop k)).2 : Nat)]) ∧ w = w' := fun A' hA => by
      rw [hA]
      exact next_at _ (n - k) (cap - k) (xs.drop k) w _ (h.out.drop (by rw [Hn.out]; exact hk) (by rw [Hn.out]; omega)) (by rw [List.length_drop, Hn.out]) (by omega) (by unfold maxLen; omega)
    generalize nxt (xs.drop k) = p at *
    obtain ⟨sg, m⟩ := p
    have HC := Lib.hid hC; clear hC
    by_cases h0 : m = 0
    · subst h0
      have hend := Lib.hid (hstep.out rfl)
      clear hstep hmore hks
      by_cases hck : cap = k
      · have HC2 := Lib.hid (HC.out A (by rw [if_pos hck]))
        have hck2 : cap - k = 0 := by omega
        rw [hck2] at HC2
        go_wp2_with (go_at_call 62; refine HC2.out.mono ?_; rintro e w' ⟨rfl, rfl⟩)
        rw [Exit.noGoto_ret]
        go_wp2
        go_ret
        rw [← hend.out]
        exact ⟨rfl, rfl⟩
      · have HC2 := Lib.hid (HC.out _ (by rw [if_neg hck]))
        go_wp2_with (go_at_call 62; refine HC2.out.mono ?_; rintro e w' ⟨rfl, rfl⟩)
        rw [Exit.noGoto_ret]
        go_wp2
        go_ret
        rw [← hend.out]
        exact ⟨rfl, rfl⟩
    · have hm0 : ((m : Int) == 0) = false := by rw [beq_eq_false_iff_ne]; omega
      obtain ⟨hm1, hm2⟩ := hmore.out h0
      have HM := Lib.hid hm2; clear hm2 hstep hmore
      have hck : ¬ cap = k := by omega
      have HC2 := Lib.hid (HC.out _ (by rw [if_neg hck]))
      go_wp2_with (go_at_call 62; refine HC2.out.mono ?_; rintro e w' ⟨rfl, rfl⟩)
      refine (bad1_any _ _).mono ?_
      rintro e w' ⟨rfl, rfl⟩
      go_wp2
      go_round
      case rel => exact ⟨k + m, ks ++ [sg], by omega, by go_num, HM.out⟩
      case measure => simp [intOf]; omega

theorem int_info : (Tryz.prog.info? 3).map (fun i => (i.zero, i.size, i.bytes)) = some (some (.int .i64 0), 1, 8) := by kernel_rfl
theorem own_slice {w : World} {base : Nat} {e : TypeId} {size : Nat} {v : Value} {n : Nat} {xs : List Value} (h : w.ownsRow base e size v n xs) : ∃ a cap, v = .slice a n cap ∧ n ≤ cap ∧ cap ≤ maxLen := by
  rcases h.2 with ⟨hv, h0⟩ | ⟨g, cap, _, hv, _, _, h1, h2, _⟩
  · exact ⟨none, 0, by rw [hv, h0], by omega, by unfold maxLen; omega⟩
  · exact ⟨_, cap, hv, h1, h2⟩

theorem sgs_len : ∀ (ks : List Int), Sgs ks → ks.length ≤ (encs ks).length
  | [], _ => Nat.le_refl _
  | k :: r, h => by
    have h1 := h k (by simp)
    have := sgs_len r (fun x hx => h x (by simp [hx]))
    simp only [encs, List.length_append, List.length_cons, enc_length]; omega

theorem own_base {w : World} {base base' : Nat} {e : TypeId} {size : Nat} {v : Value} {n : Nat} {xs : List Value} (h : w.ownsRow base e size v n xs) (hb : base' ≤ base) : w.ownsRow base' e size v n xs :=
  ⟨h.1, by
    rcases h.2 with h' | ⟨g, cap, cur, a, b, c⟩
    · exact .inl h'
    · exact .inr ⟨g, cap, cur, a, by omega, c⟩⟩

end Go.Proofs.YtaiihnniblibaaaGreatDoor.Utf

/-
  Layer 1 (utf): rows of the call's own, append onto them, two rows that are alike, the document's own Signs.
-/
namespace Go.Proofs.YtaiihnniblibaaaGreatDoor.Utf
open Go.ChangeShapes Go.WideShapes Go.ChangeAt Go.RowKit
set_option linter.unusedVariables false
set_option maxRecDepth 100000

section
variable {w w' : World} {base : Nat} {e : TypeId} {size : Nat} {v : Value} {n : Nat} {vs : List Value}
theorem own_below (h : w.ownsRow base e size v n vs) {B : Nat} (hb : Below B w w') (hB : w.heap.size ≤ B) : w'.ownsRow base e size v n vs :=
  ⟨h.1, by
    rcases h.2 with h' | ⟨g, cap, cur, a, b, hg, r⟩
    · exact .inl h'
    · exact .inr ⟨g, cap, cur, a, b, (hb.block g (by have := lt_of_block hg; omega)).trans hg, r⟩⟩
theorem own_drewN (h : w.ownsRow base e size v n vs) (k : Nat) : (w.drewN k).ownsRow base e size v n vs := h
theorem own_apart {e' : TypeId} {base' size' n' : Nat} {v' : Value} {vs' : List Value} (h : w.ownsRow base e size v n vs) (h' : w.ownsRow base' e' size' v' n' vs') (hne : e ≠ e') : v.ownBlock = none ∨ v.ownBlock ≠ v'.ownBlock := by
  rcases h.2 with ⟨rfl, _⟩ | ⟨g, cap, cur, rfl, _, hg, _⟩
  · exact .inl rfl
  · rcases h'.2 with ⟨rfl, _⟩ | ⟨g', cap', cur', rfl, _, hg', _⟩
    · exact .inr (by simp [Value.ownBlock])
    · refine .inr fun hh => ?_
      have hgg : g = g' := by simpa [Value.ownBlock] using hh
      subst hgg
      rw [hg] at hg'
      injection hg' with hg'
      injection hg' with _ he
      exact hne he
end

/-- The slice at A, of as many integers as xs has, reads as xs; it lies below block B. -/
def RI (w : World) (B : Nat) (A : Option Addr) (xs : List Int) : Prop :=
  xs = [] ∨ ∃ b off, A = some ⟨b, off, none⟩ ∧ b < B ∧ ∀ i, i < xs.length → w.cell? ⟨b, off + i, none⟩ = some (.int .i64 (xs.getD i 0))
theorem RI.below {w w' : World} {B : Nat} {A : Option Addr} {xs : List Int} (h : RI w B A xs) {B0 : Nat} (hb : Below B0 w w') (hB : B ≤ B0) : RI w' B A xs := by
  rcases h with h | ⟨b, off, e, hl, hc⟩
  · exact .inl h
  · exact .inr ⟨b, off, e, hl, fun i hi => (hb.cell (by show b < B0; omega)).trans (hc i hi)⟩
theorem RI.at_ {w : World} {B : Nat} {A : Option Addr} {xs : List Int} (h : RI w B A xs) {i : Nat} (hi : i < xs.length) : ∃ b off, A = some ⟨b, off, none⟩ ∧ b < B ∧ w.cell? ⟨b, off + i, none⟩ = some (.int .i64 (xs.getD i 0)) := by
  rcases h with h | ⟨b, off, e, hl, hc⟩
  · subst h; simp at hi
  · exact ⟨b, off, e, hl, hc i hi⟩
theorem RI.take {w : World} {B : Nat} {A : Option Addr} {xs : List Int} (h : RI w B A xs) (n : Nat) : RI w B A (xs.take n) := by
  rcases h with h | ⟨b, off, e, hl, hc⟩
  · exact .inl (by rw [h]; simp)
  · refine .inr ⟨b, off, e, hl, fun i hi => ?_⟩
    rw [List.length_take] at hi
    rw [hc i (by omega)]
    simp [List.getD, show i < n by omega]

theorem own_ri {w : World} {base n c : Nat} {A : Option Addr} {xs : List Int} (h : w.ownsRow base 3 1 (.slice A n c) n (xs.map (Value.int .i64))) : RI w w.heap.size A xs := by
  by_cases hx : xs = []
  · exact .inl hx
  · have hn : n = xs.length := by have := h.1; simpa using this.symm
    have hp : 0 < xs.length := List.length_pos_iff.2 hx
    rcases h.2 with ⟨_, h0⟩ | ⟨g, cap, cur, hv, hg0, hg, h1, h2, h3, h4⟩
    · omega
    · injection hv with hA _ _
      refine .inr ⟨g, 0, hA, lt_of_block hg, fun i hi => ?_⟩
      have hlt : i < cur.size := by omega
      have e1 : w.cell? ⟨g, 0 + i, none⟩ = cur[i]? := by simp [World.cell?, hg]
      rw [e1]
      have e2 : (xs.map (Value.int .i64))[i]? = cur.toList[i]? := by rw [← h4, List.getElem?_take]; simp; omega
      rw [← Array.getElem?_toList, ← e2]
      simp [List.getD, hi]

/-- append of one integer onto a row of the call's own. -/
theorem app_int (w : World) {ops : Array Oper} {rest : List Oper} {o : Oper} {a : Act} {Q : Exit → Act → World → Prop} (hgd : o.guard = none) (s x : Operand)
    (ho : o.op = .call { callee := .builtin .append, args := #[s, x], argTypes := #[61, 61] }) (base : Nat) (v : Value) (ks : List Int) (k : Int) (hs : a.eval s = v)
    (hown : w.ownsRow base 3 1 v ks.length (ks.map (Value.int .i64))) (g : Nat) (hg : g = w.heap.size) (hx : a.eval x = .slice (some ⟨g, 0, none⟩) 1 1)
    (h63 : ks.length ≤ 1000000) (hbase : base ≤ w.heap.size)
    (h : ∀ v' w', w'.ownsRow base 3 1 v' (ks ++ [k]).length ((ks ++ [k]).map (Value.int .i64)) → Below w.heap.size w w' ∨ (∃ b, v.ownBlock = some b ∧ w.grownBy w' (some b)) → (∀ B, (∀ b, v.ownBlock = some b → B ≤ b) → B ≤ w.heap.size → Below B w w') →
      (v'.ownBlock = v.ownBlock ∨ v'.ownBlock = some (w.heap.size + 1)) → wpList Tryz.prog ops Q rest (a.put o.dst v') w') :
    wpList Tryz.prog ops Q (o :: rest) a (w.alloc (.cells #[.int .i64 k] 3)) := by
  obtain ⟨i0, hi0, hz0, hz1, hz2⟩ := info_parts int_info
  subst hg
  refine wpList_append_own_at (P := Tryz.prog) _ hgd s x 61 ho base 3 i0 (.int .i64 0) 1 8 Tryz.underlying61 hi0 hz0 hz1 hz2 rfl (by decide) v ks.length (ks.map (Value.int .i64)) hs (hown.alloc _) ⟨w.heap.size, 0, none⟩ 1 1 [.int .i64 k] hx rfl (cell_one_new _ _ _) (by simp [Value.oneCell']) (by unfold maxLen; omega) (by omega) (by simp; omega) fun v' w' h1 h2 _ h4 => ?_
  have hB : ∀ B, (∀ b, v.ownBlock = some b → B ≤ b) → B ≤ w.heap.size → Below B w w' := fun B hv hB =>
    ((Below.refl B w).alloc hB _).grown h2 (by simp; omega) hv
  refine h v' w' (by simpa using h1) ?_ hB (by simpa using h4)
  rcases hv : v.ownBlock with _ | b
  · exact .inl (hB _ (by simp [hv]) (Nat.le_refl _))
  · refine .inr ⟨b, rfl, ?_⟩
    rw [hv] at h2
    exact ⟨h2.os, h2.tape, h2.output, by have := h2.size; simp at this; omega, fun i hi hne => (h2.block i (by simp; omega) hne).trans (Below.heap_alloc w _ i hi)⟩

/-- What the document's Signs leaves. -/
def RefPost (xs : List Int) (w : World) (e : Ending) (w' : World) : Prop :=
  Below w.heap.size w w' ∧
  ((bad xs ≠ xs.length ∧ e = .returned (.tuple #[.slice none 0 0, .int .i64 (bad xs)])) ∨
   (bad xs = xs.length ∧ ∃ v, e = .returned (.tuple #[v, .int .i64 (bad xs)]) ∧ w'.ownsRow w.heap.size 3 1 v (sgn xs).length ((sgn xs).map (Value.int .i64))))

set_option maxHeartbeats 2000000 in
theorem refSigns_any (A : Option Addr) (n cap : Nat) (xs : List Int) (w : World) (B : Nat) (h : RB w B A xs) (hn : xs.length = n) (hB : B ≤ w.heap.size) (hcap : n ≤ cap) (hcap' : cap ≤ maxLen) (hsm : n ≤ 1000000) :
    Calls Tryz.prog 30 #[.slice A n cap] w (RefPost xs w) := by
  have hb := Lib.hid h.byt
  have Hn := Lib.hid hn; clear hn
  have h := Lib.hid h
  unfold maxLen at hcap'
  go_enter Tryz.func30, Tryz.ntmps30
  go_wp2
  go_loopw [4, 5, 6, 7] (fun l at_ _ _ wr => ∃ (k : Nat) (ks : List Int), k ≤ n ∧ at_ = .int .i64 k ∧ Hid (Sgs ks ∧ encs ks = xs.take k) ∧ wr.ownsRow w.heap.size 3 1 l ks.length (ks.map (Value.int .i64)) ∧ Below w.heap.size w wr) (fun _ at_ _ _ _ => n - (intOf at_).toNat)
  case atStart => exact ⟨0, [], Nat.zero_le _, rfl, ⟨Sgs.nil, rfl⟩, World.ownsRow_nil _ _ _ _, Below.refl _ _⟩
  case round =>
    obtain ⟨k, ks, hk, rfl, hks, hown, hbel⟩ := hrel
    have hkl : ks.length ≤ 1000000 := by
      have := sgs_len ks hks.out.1
      rw [hks.out.2, List.length_take] at this; omega
    have hstep : Hid ((nxt (xs.drop k)).2 = 0 → ks = sgn xs ∧ k = bad xs) := fun h0 => bad_of hb.out hks.out.1 (by rw [Hn.out]; exact hk) hks.out.2 h0
    have hmore : Hid ((nxt (xs.drop k)).2 ≠ 0 → k + (nxt (xs.drop k)).2 ≤ n ∧ Sgs (ks ++ [(nxt (xs.drop k)).1]) ∧ encs (ks ++ [(nxt (xs.drop k)).1]) = xs.take (k + (nxt (xs.drop k)).2)) := fun h0 => by
      have := step_more hb.out hks.out.1 hks.out.2 h0 (by rw [Hn.out]; exact hk)
      rw [Hn.out] at this; exact this
    by_cases hkn : k < n
    · have hC : Calls Tryz.prog 56 #[.slice (A.map (·.add k)) (n - k) (cap - k)] wr fun e w' => e = .returned (.tuple #[.int .i64 (nxt (xs.drop k)).1, .int .i64 ((nxt (xs.drop k)).2 : Nat)]) ∧ Below wr.heap.size wr w' := by
        have := (h.out.below hbel hB).drop (k := k) (cap := cap) (by rw [Hn.out]; exact hk) (by rw [Hn.out]; omega)
        rw [if_neg (by omega)] at this
        exact refNext_any _ (n - k) (cap - k) (xs.drop k) wr _ this (by rw [List.length_drop, Hn.out]) (by have := hbel.size; omega) (by omega) (by unfold maxLen; omega)
      generalize nxt (xs.drop k) = p at *
      obtain ⟨sg, m⟩ := p
      have HC := Lib.hid hC; clear hC
      have hkn' : (k : Int) < (n : Int) := by omega
      have hck : ¬ cap = k := by omega
      by_cases h0 : m = 0
      · subst h0
        obtain ⟨e1, e2⟩ := hstep.out rfl
        have hF : Hid (∀ w', Below wr.heap.size wr w' → RefPost xs w (.returned (.tuple #[.slice none 0 0, .int .i64 k])) w') := fun w' hb' => ⟨hbel.trans (hb'.mono hbel.size), .inl ⟨by rw [← e2, Hn.out]; omega, by rw [← e2]⟩⟩
        clear e1 e2 hstep hmore hks hown hbel
        go_wp2_with (go_at_call 56; refine HC.out.mono ?_; rintro e w' ⟨rfl, hb1⟩)
        go_ret2
        exact hF.out _ hb1
      · have hm0 : ((m : Int) == 0) = false := by rw [beq_eq_false_iff_ne]; omega
        obtain ⟨hm1, hm2⟩ := hmore.out h0
        have HM := Lib.hid hm2; clear hm2 hstep hmore hks
        go_wp2_with (first | (go_at_call 56; refine HC.out.mono ?_; rintro e w1 ⟨rfl, hb1⟩) | (at_builtin; refine app_int w1 rfl _ _ rfl w.heap.size _ ks sg rfl (own_below hown hb1 (Nat.le_refl _)) _ rfl rfl hkl (Nat.le_trans hbel.size hb1.size) ?_; intro v2 w2 hown2 _ hB2 _))
        have hbel2 : Below w.heap.size w w2 := (hbel.trans (hb1.mono hbel.size)).trans (hB2 _ (fun b hv => (hown.lt b hv).1) (Nat.le_trans hbel.size hb1.size))
        go_roundw
        case rel => exact ⟨k + m, ks ++ [sg], by omega, by go_num, HM.out, hown2, hbel2⟩
        case measure => simp [intOf]; omega
    · obtain rfl : k = n := by omega
      have hge : ¬ (k : Int) < (k : Int) := by omega
      have hz : nxt (xs.drop k) = (-1, 0) := by rw [List.drop_of_length_le (by rw [Hn.out]; omega)]; rfl
      obtain ⟨e1, e2⟩ := hstep.out (by rw [hz])
      obtain ⟨va, vc, rfl, _, _⟩ := own_slice hown
      have hF : Hid (RefPost xs w (.returned (.tuple #[.slice va ks.length vc, .int .i64 k])) wr) := ⟨hbel, .inr ⟨by rw [← e2, Hn.out], _, by rw [← e2], by rw [← e1]; exact hown⟩⟩
      clear e1 e2 hstep hmore hks hown hbel hz
      go_wp2
      go_ret2
      exact hF.out
end Go.Proofs.YtaiihnniblibaaaGreatDoor.Utf
