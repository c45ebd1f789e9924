/-
  Plain mathematics of layer 4 (lex): pieces of a program, and its tokens with the ends that are put in. Nothing of the program is imported.
-/
namespace Go.Proofs.YtoecimgmghlfpaaDoor.Lex

/-- What begins with a byte: 1 letter, 2 digit, 3 quote, 6 semicolon, 7 blank, 8 newline, 4 all else. -/
def kd (c : Int) : Int :=
  if 97 ≤ c ∧ c ≤ 122 then 1 else if 65 ≤ c ∧ c ≤ 90 then 1 else if c = 95 then 1 else if 48 ≤ c ∧ c ≤ 57 then 2 else if c = 34 then 3 else if c = 59 then 6
  else if c = 32 then 7 else if c = 9 then 7 else if c = 13 then 7 else if c = 10 then 8 else 4

def lord (c : Int) : Bool := kd c == 1 || kd c == 2
def dig (c : Int) : Bool := kd c == 2
def blk (c : Int) : Bool := kd c == 7

/-- How many of the first elements meet p. -/
def lead (p : Int → Bool) : List Int → Nat
  | [] => 0
  | c :: r => if p c then lead p r + 1 else 0

def wordL (l : List Int) : Nat := lead lord l
def digL (l : List Int) : Nat := lead dig l
def numL (l : List Int) : Nat := if 1 < digL l ∧ l.getD 0 0 = 48 then 0 else digL l

/-- Behind a quote: the length up to the string's end, and with it; 0, if there is none. -/
def strT : List Int → Nat
  | [] => 0
  | c :: r =>
    if c = 34 then 1
    else if c = 10 then 0
    else if c = 92 then
      match r with
      | [] => 0
      | d :: r' => if d = 10 then 0 else if strT r' = 0 then 0 else strT r' + 2
    else if strT r = 0 then 0 else strT r + 1
def quoL : List Int → Nat
  | [] => 0
  | _ :: r => if strT r = 0 then 0 else strT r + 1

def lineL (l : List Int) : Nat := lead (fun c => c != 10) l
/-- The length without the blanks at the end. -/
def trimL : List Int → Nat
  | [] => 0
  | c :: r => if trimL r = 0 then (if blk c then 0 else 1) else trimL r + 1
def remL (l : List Int) : Nat := trimL (l.take (lineL l))

def marks2 : List (List Int) := [[60, 60], [62, 62], [38, 94], [38, 38], [124, 124], [61, 61], [33, 61], [60, 61], [62, 61], [58, 61], [43, 61], [45, 61], [42, 61], [47, 61], [37, 61], [43, 43], [45, 45]]
def marks1 : List (List Int) := [[40], [41], [91], [93], [123], [125], [44], [46], [61], [43], [45], [42], [47], [37], [38], [124], [94], [60], [62], [33]]
def markL (l : List Int) : Nat := if l.take 2 ∈ marks2 then 2 else if l.take 1 ∈ marks1 then 1 else 0

/-- The piece with which bytes begin: its kind and length; length 0: none. -/
def piece : List Int → Int × Nat
  | [] => (4, 0)
  | c :: r =>
    if kd c = 1 then (1, wordL (c :: r))
    else if kd c = 2 then (2, numL (c :: r))
    else if kd c = 3 then (3, quoL (c :: r))
    else if kd c = 4 then (if (c :: r).take 2 = [47, 47] then (5, remL (c :: r)) else (4, markL (c :: r)))
    else (kd c, 1)

theorem lead_le (p : Int → Bool) : ∀ l, lead p l ≤ l.length
  | [] => Nat.le_refl _
  | c :: r => by
    have := lead_le p r
    simp only [lead, List.length_cons]; split <;> omega
theorem lead_all (p : Int → Bool) : ∀ (l : List Int) (i : Nat), i < lead p l → p (l.getD i 0) = true
  | [], i, h => by simp [lead] at h
  | c :: r, i, h => by
    simp only [lead] at h
    split at h
    · rename_i hc
      cases i with
      | zero => simpa using hc
      | succ i => simpa using lead_all p r i (by omega)
    · omega
theorem lead_stop (p : Int → Bool) : ∀ (l : List Int), lead p l < l.length → p (l.getD (lead p l) 0) = false
  | [], h => by simp [lead] at h
  | c :: r, h => by
    simp only [lead, List.length_cons] at h ⊢
    split
    · rename_i hc
      rw [if_pos hc] at h
      simpa using lead_stop p r (by omega)
    · rename_i hc
      simpa using hc
/-- The first place at which p fails, or the end, is just the lead. -/
theorem lead_is (p : Int → Bool) : ∀ (l : List Int) (k : Nat), k ≤ l.length → (∀ i, i < k → p (l.getD i 0) = true) → (k < l.length → p (l.getD k 0) = false) → lead p l = k
  | [], k, hk, _, _ => by simp at hk; subst hk; rfl
  | c :: r, k, hk, h1, h2 => by
    cases k with
    | zero =>
      have := h2 (by simp)
      simp only [List.getD_cons_zero] at this
      simp [lead, this]
    | succ k =>
      have h0 := h1 0 (by omega)
      simp only [List.getD_cons_zero] at h0
      simp only [lead, h0, if_true]
      rw [lead_is p r k (by simpa using hk) (fun i hi => by simpa using h1 (i + 1) (by omega)) (fun h => by simpa using h2 (by simpa using h))]
theorem lead_nl (p : Int → Bool) (hp : p 10 = false) (z : List Int) : ∀ l, lead p (l ++ 10 :: z) = lead p l
  | [] => by simp [lead, hp]
  | c :: r => by simp only [List.cons_append, lead, lead_nl p hp z r]
theorem lead_stay (p : Int → Bool) (t z : List Int) (h : lead p t = t.length) (hz : ∀ c r, z = c :: r → p c = false) : lead p (t ++ z) = t.length := by
  induction t with
  | nil =>
    cases z with
    | nil => rfl
    | cons c r => simp [lead, hz c r rfl]
  | cons c r ih =>
    simp only [lead, List.length_cons] at h
    split at h
    · rename_i hc
      simp only [List.cons_append, lead, hc, if_true, List.length_cons, ih (by omega)]
    · omega
theorem lead_take (p : Int → Bool) : ∀ (l : List Int), lead p (l.take (lead p l)) = (l.take (lead p l)).length
  | [] => rfl
  | c :: r => by
    have := lead_take p r
    simp only [lead]
    split
    · rename_i hc
      simp only [List.take_succ_cons, lead, hc, if_true, List.length_cons, this]
    · simp [lead]

theorem kd_cases (c : Int) : kd c = 1 ∨ kd c = 2 ∨ kd c = 3 ∨ kd c = 4 ∨ kd c = 6 ∨ kd c = 7 ∨ kd c = 8 := by
  unfold kd; repeat' split
  all_goals omega
theorem kd_ten : kd 10 = 8 := rfl
theorem kd_nl {c : Int} : kd c = 8 ↔ c = 10 := by
  unfold kd; repeat' split
  all_goals omega
theorem kd_blk {c : Int} : kd c = 7 ↔ c = 32 ∨ c = 9 ∨ c = 13 := by
  unfold kd; repeat' split
  all_goals omega
theorem kd_quo {c : Int} : kd c = 3 ↔ c = 34 := by
  unfold kd; repeat' split
  all_goals omega
theorem kd_semi {c : Int} : kd c = 6 ↔ c = 59 := by
  unfold kd; repeat' split
  all_goals omega
theorem kd_let {c : Int} : kd c = 1 ↔ (65 ≤ c ∧ c ≤ 90) ∨ (97 ≤ c ∧ c ≤ 122) ∨ c = 95 := by
  unfold kd; repeat' split
  all_goals omega
theorem kd_dig {c : Int} : kd c = 2 ↔ (48 ≤ c ∧ c ≤ 57) := by
  unfold kd; repeat' split
  all_goals omega
theorem blk_iff {c : Int} : blk c = true ↔ c = 32 ∨ c = 9 ∨ c = 13 := by unfold blk; rw [beq_iff_eq]; exact kd_blk

/-! ### Strings -/
theorem strT_le : ∀ (n : Nat) (l : List Int), l.length ≤ n → strT l ≤ l.length
  | _, [], _ => by simp [strT]
  | 0, _ :: _, h => by simp at h
  | n + 1, c :: r, h => by
    have hr := strT_le n r (by simpa using h)
    unfold strT
    split
    · simp
    split
    · simp
    split
    · cases r with
      | nil => simp
      | cons d r' =>
        have hr' := strT_le n r' (by simp at h; omega)
        simp only [List.length_cons]
        split
        · omega
        · split <;> omega
    · simp only [List.length_cons]; split <;> omega
theorem strT_ten (z : List Int) : strT (10 :: z) = 0 := by
  unfold strT; rw [if_neg (by omega), if_pos rfl]
theorem strT_nl (z : List Int) : ∀ (n : Nat) (l : List Int), l.length ≤ n → strT (l ++ 10 :: z) = strT l
  | _, [], _ => by rw [List.nil_append, strT_ten]; rfl
  | 0, _ :: _, h => by simp at h
  | n + 1, c :: r, h => by
    have hr := strT_nl z n r (by simpa using h)
    rw [List.cons_append]
    unfold strT
    split
    · rfl
    split
    · rfl
    split
    · cases r with
      | nil => simp
      | cons d r' =>
        have hr' := strT_nl z n r' (by simp at h; omega)
        simp only [List.cons_append, hr']
    · rw [hr]
/-- A string stays, whatever stands behind it. -/
theorem strT_stay (z : List Int) : ∀ (n : Nat) (t : List Int) (u : List Int), t.length ≤ n → strT (t ++ u) = t.length → t ≠ [] → strT (t ++ z) = t.length
  | _, [], _, _, _, h => absurd rfl h
  | 0, _ :: _, _, h, _, _ => by simp at h
  | n + 1, c :: r, u, h, h1, _ => by
    rw [List.cons_append] at h1 ⊢
    unfold strT at h1 ⊢
    split at h1
    · rename_i hc; rw [if_pos hc]; exact h1
    rename_i hc; rw [if_neg hc]
    split at h1
    · simp at h1
    rename_i hc2; rw [if_neg hc2]
    split at h1
    · rename_i hc3; rw [if_pos hc3]
      cases r with
      | nil =>
        cases u with
        | nil => simp at h1
        | cons d u' =>
          simp only [List.nil_append, List.length_cons, List.length_nil] at h1
          split at h1
          · omega
          · split at h1 <;> omega
      | cons d r' =>
        simp only [List.cons_append, List.length_cons] at h1 ⊢
        split at h1
        · omega
        rename_i hd; rw [if_neg hd]
        split at h1
        · omega
        rename_i h0
        by_cases hr' : r' = []
        · subst hr'; simp at h0 h1; omega
        · have := strT_stay z n r' u (by simp at h; omega) (by omega) hr'
          rw [this, if_neg (by have := List.length_pos_iff.2 hr'; omega)]
    · rename_i hc3; rw [if_neg hc3]
      split at h1
      · simp at h1
      rename_i h0
      simp only [List.length_cons] at h1 ⊢
      by_cases hr : r = []
      · subst hr; simp at h0 h1; omega
      · have := strT_stay z n r u (by simpa using h) (by omega) hr
        rw [this, if_neg (by have := List.length_pos_iff.2 hr; omega)]

/-! ### Remarks -/
theorem trimL_le : ∀ l, trimL l ≤ l.length
  | [] => Nat.le_refl _
  | c :: r => by
    have := trimL_le r
    simp only [trimL, List.length_cons]
    split
    · split <;> omega
    · omega
/-- The end without blanks: what is cut off are blanks, and what stands ahead is none. -/
theorem trimL_blk : ∀ (l : List Int) (i : Nat), trimL l ≤ i → i < l.length → blk (l.getD i 0) = true
  | [], i, _, h => by simp at h
  | c :: r, i, h1, h2 => by
    have ih := trimL_blk r
    simp only [trimL] at h1
    split at h1
    · rename_i h0
      split at h1
      · rename_i hc
        cases i with
        | zero => simpa using hc
        | succ i => simpa using ih i (by omega) (by simpa using h2)
      · cases i with
        | zero => omega
        | succ i => simpa using ih i (by omega) (by simpa using h2)
    · cases i with
      | zero => omega
      | succ i => simpa using ih i (by omega) (by simpa using h2)
theorem trimL_last : ∀ (l : List Int), 0 < trimL l → blk (l.getD (trimL l - 1) 0) = false
  | [], h => by simp [trimL] at h
  | c :: r, h => by
    have ih := trimL_last r
    simp only [trimL] at h ⊢
    split
    · rename_i h0
      rw [if_pos h0] at h
      split
      · rename_i hc; rw [if_pos hc] at h; omega
      · rename_i hc; simpa using hc
    · rename_i h0
      obtain ⟨k, hk⟩ : ∃ k, trimL r = k + 1 := ⟨trimL r - 1, by omega⟩
      have := ih (by omega)
      rw [hk] at this ⊢
      simpa using this
theorem trimL_is : ∀ (l : List Int) (n : Nat), n ≤ l.length → (0 < n → blk (l.getD (n - 1) 0) = false) → (∀ i, n ≤ i → i < l.length → blk (l.getD i 0) = true) → trimL l = n := by
  intro l n hn h1 h2
  have _hn := hn
  have hle := trimL_le l
  rcases Nat.lt_trichotomy (trimL l) n with h | h | h
  · have := trimL_blk l (n - 1) (by omega) (by omega)
    rw [h1 (by omega)] at this; cases this
  · exact h
  · have := trimL_last l (by omega)
    rw [h2 (trimL l - 1) (by omega) (by omega)] at this; cases this

/-! ### Pieces -/
theorem ten_marks2 (c : Int) : [c, 10] ∉ marks2 := by
  simp [marks2]
theorem piece_nl (c : Int) (r z : List Int) : piece ((c :: r) ++ 10 :: z) = piece (c :: r) := by
  have hw : wordL ((c :: r) ++ 10 :: z) = wordL (c :: r) := lead_nl _ rfl _ _
  have hn : numL ((c :: r) ++ 10 :: z) = numL (c :: r) := by
    unfold numL digL
    rw [lead_nl _ rfl]; simp
  have hq : quoL ((c :: r) ++ 10 :: z) = quoL (c :: r) := by
    simp only [List.cons_append, quoL, strT_nl z r.length r (Nat.le_refl _)]
  have hl : lineL ((c :: r) ++ 10 :: z) = lineL (c :: r) := lead_nl _ rfl _ _
  have hr : remL ((c :: r) ++ 10 :: z) = remL (c :: r) := by
    unfold remL
    rw [hl, List.take_append_of_le_length (by unfold lineL; exact lead_le _ _)]
  have h2 : ((c :: r) ++ 10 :: z).take 2 = [47, 47] ↔ (c :: r).take 2 = [47, 47] := by
    cases r with
    | nil => simp
    | cons d r' => simp
  have hm : markL ((c :: r) ++ 10 :: z) = markL (c :: r) := by
    unfold markL
    cases r with
    | nil =>
      have e1 : [c] ∉ marks2 := by simp [marks2]
      have e2 := ten_marks2 c
      simp only [List.cons_append, List.nil_append, List.take_succ_cons, List.take_zero, List.take_nil, e1, e2, if_false]
      rfl
    | cons d r' => rfl
  rw [List.cons_append] at *
  simp only [piece, hw, hn, hq, hr, hm, h2]

end Go.Proofs.YtoecimgmghlfpaaDoor.Lex
