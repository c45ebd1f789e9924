/-
  Plain mathematics of layer 1 (utf): the bytes of a sign, the sign with which bytes begin, and the signs of a text. Nothing of the program is imported.
-/
namespace Go.Proofs.YtoecimgmghlfpaaDoor.Utf

/-- How many bytes a sign has; 0, if the number is no sign. -/
def lenI (n : Int) : Nat :=
  if n < 0 then 0 else if n < 128 then 1 else if n < 2048 then 2 else if 55296 ≤ n ∧ n < 57344 then 0 else if n < 65536 then 3 else if n < 1114112 then 4 else 0

/-- A sign's bytes; none, if the number is no sign. -/
def enc (n : Int) : List Int :=
  if lenI n = 1 then [n] else if lenI n = 2 then [192 + n / 64, 128 + n % 64] else if lenI n = 3 then [224 + n / 4096, 128 + n / 64 % 64, 128 + n % 64]
  else if lenI n = 4 then [240 + n / 262144, 128 + n / 4096 % 64, 128 + n / 64 % 64, 128 + n % 64] else []

def begN (c : Int) : Nat := if c < 128 then 1 else if c < 192 then 0 else if c < 224 then 2 else if c < 240 then 3 else if c < 248 then 4 else 0
def begB (c : Int) : Int := if c < 128 then c else if c < 192 then 0 else if c < 224 then c - 192 else if c < 240 then c - 224 else if c < 248 then c - 240 else 0
def cont (c : Int) : Bool := decide (128 ≤ c ∧ c < 192)
def acc (s : Int) : List Int → Int
  | [] => s
  | c :: r => acc (s * 64 + c % 64) r

/-- The sign with which bytes begin, and how many they are; -1 and 0, if there is none. -/
def nxt : List Int → Int × Nat
  | [] => (-1, 0)
  | c :: r =>
    if begN c = 0 ∨ r.length + 1 < begN c then (-1, 0)
    else if (r.take (begN c - 1)).all cont = false then (-1, 0)
    else if lenI (acc (begB c) (r.take (begN c - 1))) = begN c then (acc (begB c) (r.take (begN c - 1)), begN c) else (-1, 0)

theorem nxt_cons (c : Int) (r : List Int) : nxt (c :: r) =
    if begN c = 0 ∨ r.length + 1 < begN c then (-1, 0)
    else if (r.take (begN c - 1)).all cont = false then (-1, 0)
    else if lenI (acc (begB c) (r.take (begN c - 1))) = begN c then (acc (begB c) (r.take (begN c - 1)), begN c) else (-1, 0) := rfl

def Byt (l : List Int) : Prop := ∀ x ∈ l, 0 ≤ x ∧ x < 256

theorem Byt.take {l : List Int} (h : Byt l) (n : Nat) : Byt (l.take n) := fun x hx => h x (List.mem_of_mem_take hx)
theorem Byt.drop {l : List Int} (h : Byt l) (n : Nat) : Byt (l.drop n) := fun x hx => h x (List.mem_of_mem_drop hx)
theorem Byt.append {l m : List Int} (h : Byt l) (k : Byt m) : Byt (l ++ m) := fun x hx => by
  rcases List.mem_append.1 hx with h' | h'
  · exact h x h'
  · exact k x h'
theorem Byt.nil : Byt [] := fun x hx => by cases hx
theorem Byt.getD {l : List Int} (h : Byt l) (i : Nat) : 0 ≤ l.getD i 0 ∧ l.getD i 0 < 256 := by
  by_cases hi : i < l.length
  · have e : l.getD i 0 = l[i] := by simp [List.getD, hi]
    rw [e]; exact h _ (List.getElem_mem hi)
  · have e : l.getD i 0 = 0 := by simp [List.getD, List.getElem?_eq_none (show l.length ≤ i by omega)]
    rw [e]; omega

theorem lenI_le (n : Int) : lenI n ≤ 4 := by unfold lenI; repeat' split
                                             all_goals omega
theorem lenI_one {n : Int} (h : lenI n = 1) : 0 ≤ n ∧ n < 128 := by
  unfold lenI at h; repeat' split at h
  all_goals omega
theorem lenI_two {n : Int} (h : lenI n = 2) : 128 ≤ n ∧ n < 2048 := by
  unfold lenI at h; repeat' split at h
  all_goals omega
theorem lenI_three {n : Int} (h : lenI n = 3) : 2048 ≤ n ∧ n < 65536 ∧ (n < 55296 ∨ 57344 ≤ n) := by
  unfold lenI at h; repeat' split at h
  all_goals omega
theorem lenI_four {n : Int} (h : lenI n = 4) : 65536 ≤ n ∧ n < 1114112 := by
  unfold lenI at h; repeat' split at h
  all_goals omega
theorem lenI_zero {n : Int} (h : lenI n = 0) : n < 0 ∨ (55296 ≤ n ∧ n < 57344) ∨ 1114112 ≤ n := by
  unfold lenI at h; repeat' split at h
  all_goals omega
theorem lenI_cases (n : Int) : lenI n = 0 ∨ lenI n = 1 ∨ lenI n = 2 ∨ lenI n = 3 ∨ lenI n = 4 := by have := lenI_le n; omega
theorem lenI_is1 {n : Int} (h : 0 ≤ n) (h' : n < 128) : lenI n = 1 := by
  unfold lenI; rw [if_neg (by omega), if_pos h']
theorem lenI_is2 {n : Int} (h : 128 ≤ n) (h' : n < 2048) : lenI n = 2 := by
  unfold lenI; rw [if_neg (by omega), if_neg (by omega), if_pos h']
theorem lenI_is3 {n : Int} (h : 2048 ≤ n) (h' : n < 65536) (h'' : n < 55296 ∨ 57344 ≤ n) : lenI n = 3 := by
  unfold lenI; rw [if_neg (by omega), if_neg (by omega), if_neg (by omega), if_neg (by omega), if_pos h']
theorem lenI_is4 {n : Int} (h : 65536 ≤ n) (h' : n < 1114112) : lenI n = 4 := by
  unfold lenI; rw [if_neg (by omega), if_neg (by omega), if_neg (by omega), if_neg (by omega), if_neg (by omega), if_pos h']

theorem enc1 {n : Int} (h : lenI n = 1) : enc n = [n] := by unfold enc; rw [if_pos h]
theorem enc2 {n : Int} (h : lenI n = 2) : enc n = [192 + n / 64, 128 + n % 64] := by unfold enc; rw [if_neg (by omega), if_pos h]
theorem enc3 {n : Int} (h : lenI n = 3) : enc n = [224 + n / 4096, 128 + n / 64 % 64, 128 + n % 64] := by unfold enc; rw [if_neg (by omega), if_neg (by omega), if_pos h]
theorem enc4 {n : Int} (h : lenI n = 4) : enc n = [240 + n / 262144, 128 + n / 4096 % 64, 128 + n / 64 % 64, 128 + n % 64] := by
  unfold enc; rw [if_neg (by omega), if_neg (by omega), if_neg (by omega), if_pos h]
theorem enc0 {n : Int} (h : lenI n = 0) : enc n = [] := by unfold enc; rw [if_neg (by omega), if_neg (by omega), if_neg (by omega), if_neg (by omega)]

theorem enc_length (n : Int) : (enc n).length = lenI n := by
  rcases lenI_cases n with h | h | h | h | h
  · rw [enc0 h, h]; rfl
  · rw [enc1 h, h]; rfl
  · rw [enc2 h, h]; rfl
  · rw [enc3 h, h]; rfl
  · rw [enc4 h, h]; rfl

theorem enc_byt (n : Int) : Byt (enc n) := by
  intro x hx
  rcases lenI_cases n with h | h | h | h | h
  · rw [enc0 h] at hx; cases hx
  · rw [enc1 h] at hx; have := lenI_one h; simp at hx; omega
  · rw [enc2 h] at hx; have := lenI_two h; simp at hx; omega
  · rw [enc3 h] at hx; have := lenI_three h; simp at hx; omega
  · rw [enc4 h] at hx; have := lenI_four h; simp at hx; omega

theorem begN_le (c : Int) : begN c ≤ 4 := by unfold begN; repeat' split
                                             all_goals omega

/-- Whatever begins with a sign's bytes begins with that sign. -/
theorem nxt_of {k : Int} (hk : lenI k ≠ 0) (r : List Int) : nxt (enc k ++ r) = (k, lenI k) := by
  rcases lenI_cases k with h | h | h | h | h
  · exact absurd h hk
  · rw [enc1 h, h]
    have hb := lenI_one h
    have e1 : begN k = 1 := by unfold begN; rw [if_pos hb.2]
    have e2 : begB k = k := by unfold begB; rw [if_pos hb.2]
    simp [nxt, e1, e2, acc, h]
  · rw [enc2 h, h]
    have hb := lenI_two h
    have e1 : begN (192 + k / 64) = 2 := by unfold begN; rw [if_neg (by omega), if_neg (by omega), if_pos (by omega)]
    have e2 : begB (192 + k / 64) = k / 64 := by unfold begB; rw [if_neg (by omega), if_neg (by omega), if_pos (by omega)]; omega
    have e3 : cont (128 + k % 64) = true := by unfold cont; apply decide_eq_true; omega
    have e4 : acc (k / 64) [128 + k % 64] = k := by simp only [acc]; omega
    simp [nxt, e1, e2, e3, e4, h]
  · rw [enc3 h, h]
    have hb := lenI_three h
    have e1 : begN (224 + k / 4096) = 3 := by unfold begN; rw [if_neg (by omega), if_neg (by omega), if_neg (by omega), if_pos (by omega)]
    have e2 : begB (224 + k / 4096) = k / 4096 := by unfold begB; rw [if_neg (by omega), if_neg (by omega), if_neg (by omega), if_pos (by omega)]; omega
    have e3 : cont (128 + k % 64) = true := by unfold cont; apply decide_eq_true; omega
    have e3' : cont (128 + k / 64 % 64) = true := by unfold cont; apply decide_eq_true; omega
    have e4 : acc (k / 4096) [128 + k / 64 % 64, 128 + k % 64] = k := by simp only [acc]; omega
    simp [nxt, e1, e2, e3, e3', e4, h]
  · rw [enc4 h, h]
    have hb := lenI_four h
    have e1 : begN (240 + k / 262144) = 4 := by unfold begN; rw [if_neg (by omega), if_neg (by omega), if_neg (by omega), if_neg (by omega), if_pos (by omega)]
    have e2 : begB (240 + k / 262144) = k / 262144 := by unfold begB; rw [if_neg (by omega), if_neg (by omega), if_neg (by omega), if_neg (by omega), if_pos (by omega)]; omega
    have e3 : cont (128 + k % 64) = true := by unfold cont; apply decide_eq_true; omega
    have e3' : cont (128 + k / 64 % 64) = true := by unfold cont; apply decide_eq_true; omega
    have e3'' : cont (128 + k / 4096 % 64) = true := by unfold cont; apply decide_eq_true; omega
    have e4 : acc (k / 262144) [128 + k / 4096 % 64, 128 + k / 64 % 64, 128 + k % 64] = k := by simp only [acc]; omega
    simp [nxt, e1, e2, e3, e3', e3'', e4, h]

theorem begN_cases (c : Int) : (begN c = 0 ∧ (128 ≤ c ∧ c < 192 ∨ 248 ≤ c)) ∨ (begN c = 1 ∧ begB c = c ∧ c < 128) ∨ (begN c = 2 ∧ begB c = c - 192 ∧ 192 ≤ c ∧ c < 224) ∨
    (begN c = 3 ∧ begB c = c - 224 ∧ 224 ≤ c ∧ c < 240) ∨ (begN c = 4 ∧ begB c = c - 240 ∧ 240 ≤ c ∧ c < 248) := by
  by_cases h1 : c < 128
  · exact .inr (.inl ⟨by unfold begN; rw [if_pos h1], by unfold begB; rw [if_pos h1], h1⟩)
  by_cases h2 : c < 192
  · exact .inl ⟨by unfold begN; rw [if_neg h1, if_pos h2], .inl ⟨by omega, h2⟩⟩
  by_cases h3 : c < 224
  · exact .inr (.inr (.inl ⟨by unfold begN; rw [if_neg h1, if_neg h2, if_pos h3], by unfold begB; rw [if_neg h1, if_neg h2, if_pos h3], by omega, h3⟩))
  by_cases h4 : c < 240
  · exact .inr (.inr (.inr (.inl ⟨by unfold begN; rw [if_neg h1, if_neg h2, if_neg h3, if_pos h4], by unfold begB; rw [if_neg h1, if_neg h2, if_neg h3, if_pos h4], by omega, h4⟩)))
  by_cases h5 : c < 248
  · exact .inr (.inr (.inr (.inr ⟨by unfold begN; rw [if_neg h1, if_neg h2, if_neg h3, if_neg h4, if_pos h5], by unfold begB; rw [if_neg h1, if_neg h2, if_neg h3, if_neg h4, if_pos h5], by omega, h5⟩)))
  · exact .inl ⟨by unfold begN; rw [if_neg h1, if_neg h2, if_neg h3, if_neg h4, if_neg h5], .inr (by omega)⟩

theorem cont_iff {c : Int} : cont c = true ↔ 128 ≤ c ∧ c < 192 := by unfold cont; simp

/-- Where bytes begin with a sign, they begin with its bytes. -/
theorem nxt_some {l : List Int} (hl : Byt l) {k : Int} {n : Nat} (h : nxt l = (k, n)) (hn : n ≠ 0) : lenI k = n ∧ l = enc k ++ l.drop n := by
  match l, hl, h with
  | [], _, h => simp [nxt] at h; omega
  | c :: r, hl, h =>
    have hc := hl c (by simp)
    rw [nxt_cons] at h
    split at h
    · simp at h; omega
    · rename_i h1
      split at h
      · simp at h; omega
      · rename_i h2
        split at h
        · rename_i h3
          simp only [Prod.mk.injEq] at h
          obtain ⟨rfl, rfl⟩ := h
          refine ⟨h3, ?_⟩
          rcases begN_cases c with ⟨e, _⟩ | ⟨e, b, _⟩ | ⟨e, b, _⟩ | ⟨e, b, _⟩ | ⟨e, b, _⟩
          · omega
          · rw [e, b] at h3 ⊢
            simp only [Nat.sub_self, List.take_zero, acc] at h3 ⊢
            rw [enc1 h3]; rfl
          · rw [e, b] at h3 ⊢; rw [e] at h1 h2
            match r, h1, h2, h3 with
            | [], h1, _, _ => simp at h1
            | d :: r', _, h2, h3 =>
              simp [acc, cont_iff] at h2 h3 ⊢
              rw [enc2 h3]; simp; omega
          · rw [e, b] at h3 ⊢; rw [e] at h1 h2
            match r, h1, h2, h3 with
            | [], h1, _, _ => simp at h1
            | [_], h1, _, _ => simp at h1
            | d :: d' :: r', _, h2, h3 =>
              simp [acc, cont_iff] at h2 h3 ⊢
              rw [enc3 h3]; simp; omega
          · rw [e, b] at h3 ⊢; rw [e] at h1 h2
            match r, h1, h2, h3 with
            | [], h1, _, _ => simp at h1
            | [_], h1, _, _ => simp at h1
            | [_, _], h1, _, _ => simp at h1
            | d :: d' :: d'' :: r', _, h2, h3 =>
              simp [acc, cont_iff] at h2 h3 ⊢
              rw [enc4 h3]; simp; omega
        · simp at h; omega

theorem nxt_zero {l : List Int} (h : (nxt l).2 = 0) : nxt l = (-1, 0) := by
  match l, h with
  | [], _ => rfl
  | c :: r, h =>
    rw [nxt_cons] at h ⊢
    split
    · rfl
    · rename_i h1
      rw [if_neg h1] at h
      split
      · rfl
      · rename_i h2
        rw [if_neg h2] at h
        split
        · rename_i h3
          rw [if_pos h3] at h
          simp at h; omega
        · rfl

theorem nxt_le {l : List Int} (hl : Byt l) : (nxt l).2 ≤ l.length := by
  rcases Nat.eq_zero_or_pos (nxt l).2 with h | h
  · omega
  · have := nxt_some (k := (nxt l).1) (n := (nxt l).2) hl rfl (by omega)
    have h2 := congrArg List.length this.2
    rw [List.length_append, enc_length, this.1] at h2; omega

/-! ### The other reckoning: all four lengths, one behind the other -/
def md (n : Nat) (c : Int) : Int := if n = 2 then c % 32 else if n = 3 then c % 16 else if n = 4 then c % 8 else c
def refK (n : Nat) (l : List Int) : Int := acc (md n (l.getD 0 0)) ((l.drop 1).take (n - 1))
def hit (n : Nat) (l : List Int) : Prop := lenI (refK n l) ≠ 0 ∧ enc (refK n l) = l.take n

theorem hit_nxt {l : List Int} {n : Nat} (hn : n ≤ l.length) (h : hit n l) : nxt l = (refK n l, n) := by
  have e : l = enc (refK n l) ++ l.drop n := by rw [h.2, List.take_append_drop]
  have hlen : lenI (refK n l) = n := by rw [← enc_length, h.2, List.length_take]; omega
  have := nxt_of h.1 (l.drop n)
  rw [← e, hlen] at this
  exact this

theorem nxt_hit {l : List Int} (hl : Byt l) {k : Int} {n : Nat} (h : nxt l = (k, n)) (hn : n ≠ 0) : 1 ≤ n ∧ n ≤ 4 ∧ n ≤ l.length ∧ hit n l := by
  obtain ⟨h1, h2⟩ := nxt_some hl h hn
  have h4 := lenI_le k
  have h5 := nxt_le hl
  rw [h] at h5
  have hk : refK n l = k := by
    generalize l.drop n = r at h2
    subst h2
    rcases lenI_cases k with e | e | e | e | e
    · omega
    · obtain rfl : n = 1 := by omega
      rw [enc1 e]; simp [refK, md, acc]
    · obtain rfl : n = 2 := by omega
      have := lenI_two e
      rw [enc2 e]; simp [refK, md, acc]; omega
    · obtain rfl : n = 3 := by omega
      have := lenI_three e
      rw [enc3 e]; simp [refK, md, acc]; omega
    · obtain rfl : n = 4 := by omega
      have := lenI_four e
      rw [enc4 e]; simp [refK, md, acc]; omega
  refine ⟨by omega, by omega, h5, ?_⟩
  unfold hit
  rw [hk]
  refine ⟨by omega, ?_⟩
  have e : l.take n = (enc k ++ l.drop n).take n := by rw [← h2]
  rw [e, List.take_append_of_le_length (by rw [enc_length]; omega), List.take_of_length_le (by rw [enc_length]; omega)]

theorem no_hit {l : List Int} (hl : Byt l) (h : ∀ n, 1 ≤ n → n ≤ 4 → n ≤ l.length → ¬ hit n l) : nxt l = (-1, 0) := by
  rcases Nat.eq_zero_or_pos (nxt l).2 with h0 | h0
  · exact nxt_zero h0
  · obtain ⟨h1, h2, h3, h4⟩ := nxt_hit (k := (nxt l).1) (n := (nxt l).2) hl rfl (by omega)
    exact absurd h4 (h _ h1 h2 h3)

theorem acc_bd (l : List Int) : ∀ (s B : Int), 0 ≤ s → s < B → 0 ≤ acc s l ∧ acc s l < B * 64 ^ l.length := by
  induction l with
  | nil => intro s B h0 h1; simp only [acc, List.length_nil, Int.pow_zero]; omega
  | cons c r ih =>
    intro s B h0 h1
    have := ih (s * 64 + c % 64) (B * 64) (by omega) (by omega)
    refine ⟨this.1, ?_⟩
    have e : B * 64 * 64 ^ r.length = B * 64 ^ (r.length + 1) := by rw [Int.mul_assoc, Int.pow_succ, Int.mul_comm 64]
    simp only [acc, List.length_cons]
    rw [← e]; exact this.2

theorem acc_snoc (l : List Int) (c : Int) : ∀ s, acc s (l ++ [c]) = acc s l * 64 + c % 64 := by
  induction l with
  | nil => intro s; rfl
  | cons d r ih => intro s; exact ih _

/-! ### The signs of a text -/
def encs : List Int → List Int
  | [] => []
  | k :: r => enc k ++ encs r
def Sgs (l : List Int) : Prop := ∀ k ∈ l, lenI k ≠ 0

theorem encs_append (a b : List Int) : encs (a ++ b) = encs a ++ encs b := by
  induction a with
  | nil => rfl
  | cons k r ih => simp only [List.cons_append, encs, ih, List.append_assoc]
theorem encs_snoc (a : List Int) (k : Int) : encs (a ++ [k]) = encs a ++ enc k := by rw [encs_append]; simp [encs]
theorem encs_byt : ∀ l, Byt (encs l)
  | [] => Byt.nil
  | k :: r => (enc_byt k).append (encs_byt r)
theorem Sgs.nil : Sgs [] := fun _ h => by cases h
theorem Sgs.snoc {l : List Int} (h : Sgs l) {k : Int} (hk : lenI k ≠ 0) : Sgs (l ++ [k]) := fun x hx => by
  rcases List.mem_append.1 hx with h' | h'
  · exact h x h'
  · simp at h'; subst h'; exact hk

def runS : Nat → List Int → List Int × Nat
  | 0, _ => ([], 0)
  | f + 1, l => if (nxt l).2 = 0 then ([], 0) else ((nxt l).1 :: (runS f (l.drop (nxt l).2)).1, (nxt l).2 + (runS f (l.drop (nxt l).2)).2)
/-- The signs of a text, as far as it is one. -/
def sgn (l : List Int) : List Int := (runS l.length l).1
/-- The first place from which on there is no sign. -/
def bad (l : List Int) : Nat := (runS l.length l).2

theorem run_spec : ∀ (f : Nat) (l : List Int), Byt l → l.length ≤ f → Sgs (runS f l).1 ∧ (runS f l).2 ≤ l.length ∧ l = encs (runS f l).1 ++ l.drop (runS f l).2 ∧ (encs (runS f l).1).length = (runS f l).2 ∧ nxt (l.drop (runS f l).2) = (-1, 0)
  | 0, l, _, hf => by
    have : l = [] := List.eq_nil_of_length_eq_zero (by omega)
    subst this
    exact ⟨Sgs.nil, Nat.le_refl _, rfl, rfl, rfl⟩
  | f + 1, l, hl, hf => by
    unfold runS
    by_cases h0 : (nxt l).2 = 0
    · rw [if_pos h0]
      exact ⟨Sgs.nil, Nat.zero_le _, rfl, rfl, nxt_zero h0⟩
    · rw [if_neg h0]
      have hs := nxt_some (k := (nxt l).1) (n := (nxt l).2) hl rfl h0
      have hle := nxt_le hl
      have hlen : (l.drop (nxt l).2).length ≤ f := by rw [List.length_drop]; omega
      obtain ⟨a1, a2, a3, a4, a5⟩ := run_spec f (l.drop (nxt l).2) (hl.drop _) hlen
      rw [List.drop_drop] at a5
      rw [List.drop_drop] at a3
      rw [List.length_drop] at a2
      generalize hr : runS f (l.drop (nxt l).2) = q at *
      generalize hq : nxt l = p at *
      refine ⟨?_, by simp only; omega, ?_, ?_, ?_⟩
      · intro k hk
        rcases List.mem_cons.1 hk with h | h
        · subst h; omega
        · exact a1 k h
      · simp only [encs, List.append_assoc]
        rw [← a3]
        exact hs.2
      · simp only [encs, List.length_append, enc_length]; omega
      · exact a5

theorem bad_spec {l : List Int} (hl : Byt l) : Sgs (sgn l) ∧ bad l ≤ l.length ∧ l = encs (sgn l) ++ l.drop (bad l) ∧ (encs (sgn l)).length = bad l ∧ nxt (l.drop (bad l)) = (-1, 0) :=
  run_spec l.length l hl (Nat.le_refl _)

theorem uniq : ∀ (a b r s : List Int), Sgs a → Sgs b → encs a ++ r = encs b ++ s → (nxt r).2 = 0 → (nxt s).2 = 0 → a = b ∧ r = s
  | [], [], r, s, _, _, h, _, _ => ⟨rfl, h⟩
  | [], k :: b, r, s, _, hb, h, hr, _ => by
    have hk := hb k (by simp)
    simp only [encs, List.nil_append, List.append_assoc] at h
    rw [h, nxt_of hk] at hr
    exact absurd hr hk
  | k :: a, [], r, s, ha, _, h, _, hs => by
    have hk := ha k (by simp)
    simp only [encs, List.nil_append, List.append_assoc] at h
    rw [← h, nxt_of hk] at hs
    exact absurd hs hk
  | k :: a, m :: b, r, s, ha, hb, h, hr, hs => by
    have hk := ha k (by simp)
    have hm := hb m (by simp)
    simp only [encs, List.append_assoc] at h
    have e1 := nxt_of hk (encs a ++ r)
    have e2 := nxt_of hm (encs b ++ s)
    rw [h, e2] at e1
    obtain ⟨rfl, _⟩ : m = k ∧ _ := by simpa using e1
    have h' := List.append_cancel_left h
    obtain ⟨rfl, rfl⟩ := uniq a b r s (fun x hx => ha x (by simp [hx])) (fun x hx => hb x (by simp [hx])) h' hr hs
    exact ⟨rfl, rfl⟩

/-- What a walk from the front comes to is the signs, and the place where it ends. -/
theorem bad_of {l a : List Int} (hl : Byt l) {n : Nat} (ha : Sgs a) (hn : n ≤ l.length) (h : encs a = l.take n) (h0 : (nxt (l.drop n)).2 = 0) : a = sgn l ∧ n = bad l := by
  obtain ⟨b1, b2, b3, b4, b5⟩ := bad_spec hl
  have e : encs a ++ l.drop n = encs (sgn l) ++ l.drop (bad l) := by rw [h, List.take_append_drop, ← b3]
  obtain ⟨h1, h2⟩ := uniq a (sgn l) _ _ ha b1 e h0 (by rw [b5])
  refine ⟨h1, ?_⟩
  rw [← b4, ← h1, h, List.length_take]; omega

theorem bad_le {l : List Int} (hl : Byt l) : bad l ≤ l.length := (bad_spec hl).2.1
theorem bad_take {l : List Int} (hl : Byt l) : encs (sgn l) = l.take (bad l) := by
  obtain ⟨b1, b2, b3, b4, b5⟩ := bad_spec hl
  have e : l.take (bad l) = (encs (sgn l) ++ l.drop (bad l)).take (bad l) := by rw [← b3]
  rw [e, List.take_append_of_le_length (by omega), List.take_of_length_le (by omega)]
/-- The bytes of signs are a text of just these signs. -/
theorem text_encs {a : List Int} (ha : Sgs a) : sgn (encs a) = a ∧ bad (encs a) = (encs a).length := by
  have := bad_of (l := encs a) (a := a) (n := (encs a).length) (encs_byt a) ha (Nat.le_refl _) (by rw [List.take_length]) (by rw [List.drop_length]; rfl)
  exact ⟨this.1.symm, this.2.symm⟩

end Go.Proofs.YtoecimgmghlfpaaDoor.Utf
