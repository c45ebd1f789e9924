/-
  Plain mathematics of layer 3 (rank): the order of places, put one by one, merged two by two; where a number stands. Nothing of the program is imported.
-/
namespace Go.Proofs.Ytakgkfdbgjljkaa.Rank

/-- An order of places: of three, what is less than what isn't greater is less. -/
structure WO (lt : Nat → Nat → Bool) : Prop where
  asym : ∀ i j, lt i j = true → lt j i = false
  ntr : ∀ i j k, lt i j = false → lt j k = false → lt i k = false

/-- i stands ahead of j. -/
def Bef (lt : Nat → Nat → Bool) (i j : Nat) : Prop := lt i j = true ∨ (lt j i = false ∧ i < j)

section
variable {lt : Nat → Nat → Bool}

theorem Bef.notLess (h : WO lt) {i j : Nat} (a : Bef lt i j) : lt j i = false := by
  rcases a with a | a
  · exact h.asym _ _ a
  · exact a.1

theorem Bef.trans (h : WO lt) {i j k : Nat} (a : Bef lt i j) (b : Bef lt j k) : Bef lt i k := by
  have a' := a.notLess h
  have b' := b.notLess h
  by_cases hik : lt i k = true
  · exact .inl hik
  · have hik : lt i k = false := by simpa using hik
    have h1 := h.ntr _ _ _ hik b'
    have h2 := h.ntr _ _ _ a' hik
    rcases a with a | a
    · rw [h1] at a; cases a
    · rcases b with b | b
      · rw [h2] at b; cases b
      · exact .inr ⟨h.ntr _ _ _ b' a', by omega⟩

theorem Bef.asymm (h : WO lt) {i j : Nat} (a : Bef lt i j) (b : Bef lt j i) : False := by
  have a' := a.notLess h
  have b' := b.notLess h
  rcases a with a | a
  · rw [b'] at a; cases a
  · rcases b with b | b
    · rw [a'] at b; cases b
    · omega

theorem uniq (h : WO lt) : ∀ (xs ys : List Nat), xs.Perm ys → xs.Pairwise (Bef lt) → ys.Pairwise (Bef lt) → xs = ys
  | [], ys, hp, _, _ => by simpa using hp.symm
  | x :: xs, [], hp, _, _ => by simp at hp
  | x :: xs, y :: ys, hp, hx, hy => by
    rw [List.pairwise_cons] at hx hy
    have e : x = y := by
      by_cases e : x = y
      · exact e
      · have h1 : x ∈ y :: ys := hp.mem_iff.1 (by simp)
        have h2 : y ∈ x :: xs := hp.mem_iff.2 (by simp)
        simp only [List.mem_cons] at h1 h2
        have h1 : x ∈ ys := by rcases h1 with h1 | h1; exact absurd h1 e; exact h1
        have h2 : y ∈ xs := by rcases h2 with h2 | h2; exact absurd h2.symm e; exact h2
        exact absurd (hy.1 _ h1) (fun a => (hx.1 _ h2).asymm h a)
    subst e
    rw [uniq h xs ys (List.Perm.cons_inv hp) hx.2 hy.2]

/-- The order of the places below n. -/
def IsOrd (lt : Nat → Nat → Bool) (n : Nat) (xs : List Nat) : Prop := xs.Perm (List.range n) ∧ xs.Pairwise (Bef lt)

theorem IsOrd.len {n : Nat} {xs : List Nat} (h : IsOrd lt n xs) : xs.length = n := by have := h.1.length_eq; simpa using this
theorem IsOrd.below {n : Nat} {xs : List Nat} (h : IsOrd lt n xs) {x : Nat} (hx : x ∈ xs) : x < n := by simpa using h.1.mem_iff.1 hx
theorem IsOrd.mem {n : Nat} {xs : List Nat} (h : IsOrd lt n xs) {x : Nat} (hx : x < n) : x ∈ xs := h.1.mem_iff.2 (by simpa using hx)
theorem IsOrd.nodup {n : Nat} {xs : List Nat} (h : IsOrd lt n xs) : xs.Nodup := h.1.nodup_iff.2 List.nodup_range
theorem IsOrd.uniq (hw : WO lt) {n : Nat} {xs ys : List Nat} (h : IsOrd lt n xs) (k : IsOrd lt n ys) : xs = ys := Rank.uniq hw _ _ (h.1.trans k.1.symm) h.2 k.2
theorem IsOrd.next {n : Nat} {xs : List Nat} (h : IsOrd lt n xs) {i : Nat} (hi : i + 1 < xs.length) : Bef lt (xs.getD i 0) (xs.getD (i + 1) 0) := by
  have := List.pairwise_iff_getElem.1 h.2 i (i + 1) (by omega) hi (by omega)
  simpa [List.getD, show i < xs.length by omega, hi] using this

/-! ### Put one by one -/
def atp (lt : Nat → Nat → Bool) (x : Nat) (row : List Nat) : Nat → Nat
  | 0 => 0
  | k + 1 => if lt x (row.getD k 0) then atp lt x row k else k + 1

theorem atp_le (x : Nat) (row : List Nat) : ∀ k, atp lt x row k ≤ k
  | 0 => Nat.le_refl _
  | k + 1 => by
    unfold atp
    split
    · have := atp_le x row k; omega
    · omega
theorem atp_above (x : Nat) (row : List Nat) : ∀ k j, atp lt x row k ≤ j → j < k → lt x (row.getD j 0) = true
  | 0, j, _, h => by omega
  | k + 1, j, h1, h2 => by
    unfold atp at h1
    split at h1
    · rename_i hl
      by_cases e : j = k
      · rw [e]; exact hl
      · exact atp_above x row k j h1 (by omega)
    · omega
theorem atp_stop (x : Nat) (row : List Nat) : ∀ k, 0 < atp lt x row k → lt x (row.getD (atp lt x row k - 1) 0) = false
  | 0, h => by simp [atp] at h
  | k + 1, h => by
    unfold atp at h ⊢
    split
    · rename_i hl
      rw [if_pos hl] at h
      exact atp_stop x row k h
    · rename_i hl
      simpa using hl

def ins (lt : Nat → Nat → Bool) (x : Nat) (row : List Nat) : List Nat := row.take (atp lt x row row.length) ++ x :: row.drop (atp lt x row row.length)
def ordN (lt : Nat → Nat → Bool) : Nat → List Nat
  | 0 => []
  | k + 1 => ins lt k (ordN lt k)

theorem ins_perm (x : Nat) (row : List Nat) : (ins lt x row).Perm (x :: row) := by
  unfold ins
  refine List.perm_middle.trans ?_
  rw [List.take_append_drop]

theorem ins_sorted (h : WO lt) (x : Nat) (row : List Nat) (hr : row.Pairwise (Bef lt)) (hx : ∀ y ∈ row, y < x) : (ins lt x row).Pairwise (Bef lt) := by
  unfold ins
  have hle : atp lt x row row.length ≤ row.length := atp_le x row _
  have hab : ∀ j, atp lt x row row.length ≤ j → j < row.length → lt x (row.getD j 0) = true := atp_above x row _
  have hst : 0 < atp lt x row row.length → lt x (row.getD (atp lt x row row.length - 1) 0) = false := atp_stop x row _
  generalize atp lt x row row.length = p at *
  have hg := List.pairwise_iff_getElem.1 hr
  have hD : ∀ y ∈ row.drop p, Bef lt x y := by
    intro y hy
    obtain ⟨i, hi, rfl⟩ := List.getElem_of_mem hy
    rw [List.length_drop] at hi
    have := hab (p + i) (by omega) (by omega)
    refine .inl ?_
    simpa [List.getD, show p + i < row.length by omega] using this
  have hT : ∀ y ∈ row.take p, Bef lt y x := by
    intro y hy
    obtain ⟨i, hi, rfl⟩ := List.getElem_of_mem hy
    rw [List.length_take] at hi
    rw [List.getElem_take]
    have h1 := hst (by omega)
    have hp : p - 1 < row.length := by omega
    have h1 : lt x row[p - 1] = false := by simpa [List.getD, hp] using h1
    have h2 : Bef lt row[p - 1] x := .inr ⟨h1, hx _ (List.getElem_mem hp)⟩
    by_cases e : i = p - 1
    · subst e; exact h2
    · exact (hg i (p - 1) (by omega) hp (by omega)).trans h h2
  rw [List.pairwise_append, List.pairwise_cons]
  refine ⟨hr.sublist (List.take_sublist _ _), ⟨hD, hr.sublist (List.drop_sublist _ _)⟩, ?_⟩
  intro a ha b hb
  rcases List.mem_cons.1 hb with e | hb
  · rw [e]; exact hT a ha
  · exact (hT a ha).trans h (hD b hb)

theorem ordN_is (h : WO lt) : ∀ n, IsOrd lt n (ordN lt n)
  | 0 => ⟨by simp [ordN], by simp [ordN]⟩
  | n + 1 => by
    have ih := ordN_is h n
    refine ⟨?_, ins_sorted h _ _ ih.2 fun y hy => ih.below hy⟩
    refine (ins_perm _ _).trans ?_
    rw [List.range_succ]
    exact (List.Perm.cons n ih.1).trans (List.perm_append_singleton n _).symm

theorem ordN_len (h : WO lt) (n : Nat) : (ordN lt n).length = n := (ordN_is h n).len

/-! ### Two runs as one -/
/-- pre is what was taken of two runs, a and b what is left. -/
structure Mg (lt : Nat → Nat → Bool) (full pre a b : List Nat) : Prop where
  perm : (pre ++ (a ++ b)).Perm full
  done : pre.Pairwise (Bef lt)
  left : ∀ x ∈ pre, ∀ y ∈ a ++ b, Bef lt x y
  fst : a.Pairwise (Bef lt)
  snd : b.Pairwise (Bef lt)
  ahead : ∀ x ∈ a, ∀ y ∈ b, x < y

theorem Mg.start {a b : List Nat} (ha : a.Pairwise (Bef lt)) (hb : b.Pairwise (Bef lt)) (hab : ∀ x ∈ a, ∀ y ∈ b, x < y) : Mg lt (a ++ b) [] a b :=
  ⟨List.Perm.refl _, List.Pairwise.nil, fun _ h => by simp at h, ha, hb, hab⟩

theorem Mg.fstStep (h : WO lt) {full pre a b : List Nat} {x : Nat} (m : Mg lt full pre (x :: a) b) (hl : b = [] ∨ ∃ y r, b = y :: r ∧ lt y x = false) : Mg lt full (pre ++ [x]) a b := by
  have hxa := List.pairwise_cons.1 m.fst
  have hxb : ∀ y ∈ b, Bef lt x y := by
    rcases hl with rfl | ⟨y, r, rfl, hyx⟩
    · simp
    · have h1 : Bef lt x y := .inr ⟨hyx, m.ahead x (by simp) y (by simp)⟩
      intro z hz
      rcases List.mem_cons.1 hz with e | hz
      · rw [e]; exact h1
      · exact h1.trans h ((List.pairwise_cons.1 m.snd).1 z hz)
  refine ⟨by have := m.perm; simpa using this, ?_, ?_, hxa.2, m.snd, fun u hu v hv => m.ahead u (by simp [hu]) v hv⟩
  · rw [List.pairwise_append]
    refine ⟨m.done, by simp, fun u hu v hv => ?_⟩
    have : v = x := by simpa using hv
    rw [this]; exact m.left u hu x (by simp)
  · intro u hu v hv
    rcases List.mem_append.1 hu with hu | hu
    · exact m.left u hu v (by simp only [List.cons_append, List.mem_cons]; exact .inr hv)
    · have : u = x := by simpa using hu
      rw [this]
      rcases List.mem_append.1 hv with hv | hv
      · exact hxa.1 v hv
      · exact hxb v hv

theorem Mg.sndStep (h : WO lt) {full pre a b : List Nat} {y : Nat} (m : Mg lt full pre a (y :: b)) (hl : a = [] ∨ ∃ x r, a = x :: r ∧ lt y x = true) : Mg lt full (pre ++ [y]) a b := by
  have hyb := List.pairwise_cons.1 m.snd
  have hya : ∀ x ∈ a, Bef lt y x := by
    rcases hl with rfl | ⟨x, r, rfl, hyx⟩
    · simp
    · have h1 : Bef lt y x := .inl hyx
      intro z hz
      rcases List.mem_cons.1 hz with e | hz
      · rw [e]; exact h1
      · exact h1.trans h ((List.pairwise_cons.1 m.fst).1 z hz)
  refine ⟨?_, ?_, ?_, m.fst, hyb.2, fun u hu v hv => m.ahead u hu v (by simp [hv])⟩
  · refine List.Perm.trans ?_ m.perm
    rw [List.append_assoc]
    exact List.Perm.append_left pre (show (y :: (a ++ b)).Perm (a ++ y :: b) from List.perm_middle.symm)
  · rw [List.pairwise_append]
    refine ⟨m.done, by simp, fun u hu v hv => ?_⟩
    have : v = y := by simpa using hv
    rw [this]; exact m.left u hu y (by simp)
  · intro u hu v hv
    rcases List.mem_append.1 hu with hu | hu
    · refine m.left u hu v ?_
      rcases List.mem_append.1 hv with hv | hv <;> simp [hv]
    · have : u = y := by simpa using hu
      rw [this]
      rcases List.mem_append.1 hv with hv | hv
      · exact hya v hv
      · exact hyb.1 v hv

theorem Mg.len {full pre a b : List Nat} (m : Mg lt full pre a b) : pre.length + (a.length + b.length) = full.length := by
  have := m.perm.length_eq; simpa using this

/-! ### Runs -/
def seg (xs : List Nat) (a b : Nat) : List Nat := (xs.take b).drop a
theorem seg_len (xs : List Nat) (a b : Nat) (hb : b ≤ xs.length) : (seg xs a b).length = b - a := by unfold seg; rw [List.length_drop, List.length_take]; omega
/-- From a to b stand just the places from a to b, in order. -/
def Run (lt : Nat → Nat → Bool) (xs : List Nat) (a b : Nat) : Prop := (seg xs a b).Perm (List.range' a (b - a)) ∧ (seg xs a b).Pairwise (Bef lt)
theorem Run.mem {xs : List Nat} {a b : Nat} (h : Run lt xs a b) {x : Nat} (hx : x ∈ seg xs a b) : a ≤ x ∧ x < a + (b - a) := by
  have := h.1.mem_iff.1 hx
  simpa [List.mem_range'_1] using this
theorem Run.nil (xs : List Nat) (a : Nat) : Run lt xs a a := by
  have e : seg xs a a = [] := by
    unfold seg; apply List.drop_eq_nil_of_le; rw [List.length_take]; omega
  refine ⟨by rw [e]; simp, by rw [e]; exact List.Pairwise.nil⟩

theorem seg_range (n a b : Nat) (hb : b ≤ n) : seg (List.range n) a b = List.range' a (b - a) := by
  unfold seg
  apply List.ext_getElem
  · simp; omega
  · intro i h1 h2
    simp

/-- Runs of s places each, of n places. -/
def Runs (lt : Nat → Nat → Bool) (s n : Nat) (xs : List Nat) : Prop := xs.length = n ∧ ∀ i, i * s < n → Run lt xs (i * s) (min (i * s + s) n)
theorem Runs.one (n : Nat) : Runs lt 1 n (List.range n) := by
  refine ⟨by simp, fun i hi => ?_⟩
  rw [Run, seg_range _ _ _ (by omega)]
  refine ⟨List.Perm.refl _, ?_⟩
  have : min (i * 1 + 1) n - i * 1 ≤ 1 := by omega
  match hk : min (i * 1 + 1) n - i * 1, this with
  | 0, _ => simp
  | 1, _ => simp
theorem Runs.whole {s n : Nat} {xs : List Nat} (h : Runs lt s n xs) (hs : n ≤ s) : IsOrd lt n xs := by
  by_cases h0 : n = 0
  · have : xs = [] := by have := h.1; rw [h0] at this; exact List.length_eq_zero_iff.1 this
    rw [h0, this]; exact ⟨by simp, by simp⟩
  · have := h.2 0 (by omega)
    have e : min (0 * s + s) n = n := by omega
    rw [e, Nat.zero_mul, Run] at this
    have e2 : seg xs 0 n = xs := by unfold seg; rw [List.drop_zero, List.take_of_length_le (by have := h.1; omega)]
    rw [e2] at this
    refine ⟨?_, this.2⟩
    rw [List.range_eq_range']; exact this.1

/-- The first j runs of 2 s places each are done. -/
def Half (lt : Nat → Nat → Bool) (s n j : Nat) (ys : List Nat) : Prop := ys.length = n ∧ ∀ i, i < j → i * (2 * s) < n → Run lt ys (i * (2 * s)) (min (i * (2 * s) + 2 * s) n)
theorem Half.start {s n : Nat} {ys : List Nat} (h : ys.length = n) : Half lt s n 0 ys := ⟨h, fun i hi => by omega⟩
theorem Half.all {s n j : Nat} {ys : List Nat} (h : Half lt s n j ys) (hj : n ≤ j * (2 * s)) : Runs lt (2 * s) n ys := by
  refine ⟨h.1, fun i hi => h.2 i ?_ hi⟩
  rcases Nat.lt_or_ge i j with h' | h'
  · exact h'
  · have := Nat.mul_le_mul_right (2 * s) h'; omega

/-- The two runs that are merged next. -/
theorem Runs.pair {s n : Nat} {xs : List Nat} (h : Runs lt s n xs) (j : Nat) (hf : j * (2 * s) < n) :
    Run lt xs (j * (2 * s)) (min (j * (2 * s) + s) n) ∧ Run lt xs (min (j * (2 * s) + s) n) (min (j * (2 * s) + 2 * s) n) := by
  have e : j * (2 * s) = (2 * j) * s := by rw [Nat.mul_comm 2 s, ← Nat.mul_assoc, Nat.mul_comm 2 j, Nat.mul_assoc j 2 s, Nat.mul_comm 2 s, ← Nat.mul_assoc]
  have e1 : (2 * j + 1) * s = j * (2 * s) + s := by rw [Nat.add_mul, Nat.one_mul, e]
  refine ⟨?_, ?_⟩
  · have := h.2 (2 * j) (by rw [← e]; exact hf)
    rw [← e] at this; exact this
  · by_cases hm : j * (2 * s) + s < n
    · have := h.2 (2 * j + 1) (by rw [e1]; exact hm)
      rw [e1] at this
      rw [Nat.min_eq_left (by omega : j * (2 * s) + s ≤ n), show j * (2 * s) + 2 * s = j * (2 * s) + s + s by omega]
      exact this
    · rw [Nat.min_eq_right (by omega : n ≤ j * (2 * s) + s), Nat.min_eq_right (by omega : n ≤ j * (2 * s) + 2 * s)]
      exact Run.nil _ _

theorem Run.mg {xs : List Nat} {a m b : Nat} (hm : a ≤ m) (h1 : Run lt xs a m) (h2 : Run lt xs m b) : Mg lt (seg xs a m ++ seg xs m b) [] (seg xs a m) (seg xs m b) :=
  Mg.start h1.2 h2.2 fun x hx y hy => by
    have := h1.mem hx; have := h2.mem hy; omega

theorem seg_splice_same {ys pre : List Nat} {f e : Nat} (hf : f ≤ e) (he : e ≤ ys.length) (hp : pre.length = e - f) : seg (ys.take f ++ pre ++ ys.drop e) f e = pre := by
  unfold seg
  have h1 : (ys.take f ++ pre).length = e := by rw [List.length_append, List.length_take]; omega
  rw [← h1, List.take_left]
  have h2 : (ys.take f).length = f := by rw [List.length_take]; omega
  conv => lhs; arg 1; rw [← h2]
  rw [List.drop_left]
theorem seg_splice_low {ys pre : List Nat} {f e a b : Nat} (hb : b ≤ f) (hf : f ≤ ys.length) : seg (ys.take f ++ pre ++ ys.drop e) a b = seg ys a b := by
  unfold seg
  congr 1
  rw [List.append_assoc, List.take_append_of_le_length (by rw [List.length_take]; omega), List.take_take, Nat.min_eq_left hb]

/-- One pair of runs more. -/
theorem Half.step {s n j : Nat} {xs ys pre : List Nat} (h : Half lt s n j ys) (hx : Runs lt s n xs) (hf : j * (2 * s) < n)
    (m : Mg lt (seg xs (j * (2 * s)) (min (j * (2 * s) + s) n) ++ seg xs (min (j * (2 * s) + s) n) (min (j * (2 * s) + 2 * s) n)) pre [] []) :
    Half lt s n (j + 1) (ys.take (j * (2 * s)) ++ pre ++ ys.drop (min (j * (2 * s) + 2 * s) n)) := by
  obtain ⟨r1, r2⟩ := hx.pair j hf
  have hlen := m.len
  rw [List.length_append, seg_len _ _ _ (by rw [hx.1]; omega), seg_len _ _ _ (by rw [hx.1]; omega)] at hlen
  simp only [List.length_nil] at hlen
  have hpl : pre.length = min (j * (2 * s) + 2 * s) n - j * (2 * s) := by omega
  have hperm : pre.Perm (List.range' (j * (2 * s)) (min (j * (2 * s) + 2 * s) n - j * (2 * s))) := by
    have h1 := m.perm
    simp only [List.append_nil] at h1
    refine h1.trans ((List.Perm.append r1.1 r2.1).trans ?_)
    have := List.range'_append_1 (s := j * (2 * s)) (m := min (j * (2 * s) + s) n - j * (2 * s)) (n := min (j * (2 * s) + 2 * s) n - min (j * (2 * s) + s) n)
    rw [show j * (2 * s) + (min (j * (2 * s) + s) n - j * (2 * s)) = min (j * (2 * s) + s) n by omega, show min (j * (2 * s) + s) n - j * (2 * s) + (min (j * (2 * s) + 2 * s) n - min (j * (2 * s) + s) n) = min (j * (2 * s) + 2 * s) n - j * (2 * s) by omega] at this
    rw [this]
  refine ⟨?_, fun i hi hin => ?_⟩
  · rw [List.length_append, List.length_append, List.length_take, List.length_drop]; have := h.1; omega
  · by_cases e : i = j
    · subst e
      rw [Run, seg_splice_same (by omega) (by rw [h.1]; omega) hpl]
      exact ⟨hperm, m.done⟩
    · have hij : i < j := by omega
      have h1 := h.2 i hij hin
      have h2 := Nat.mul_le_mul_right (2 * s) (show i + 1 ≤ j by omega)
      rw [Nat.add_mul, Nat.one_mul] at h2
      rw [Run, seg_splice_low (by omega) (by rw [h.1]; omega)]
      exact h1
end

/-! ### Orders of numbers -/
def ltI (xs : List Int) (i j : Nat) : Bool := decide (xs.getD i 0 < xs.getD j 0)
theorem ltI_wo (xs : List Int) : WO (ltI xs) := ⟨fun i j h => by simp [ltI] at *; omega, fun i j k h1 h2 => by simp [ltI] at *; omega⟩
def gtI (xs : List Int) (i j : Nat) : Bool := decide (xs.getD j 0 < xs.getD i 0)
theorem gtI_wo (xs : List Int) : WO (gtI xs) := ⟨fun i j h => by simp [gtI] at *; omega, fun i j k h1 h2 => by simp [gtI] at *; omega⟩
/-- The order of numbers. -/
def oI (xs : List Int) : List Nat := ordN (ltI xs) xs.length
theorem oI_is (xs : List Int) : IsOrd (ltI xs) xs.length (oI xs) := ordN_is (ltI_wo xs) _
theorem oI_len (xs : List Int) : (oI xs).length = xs.length := (oI_is xs).len
/-- The numbers in order. -/
def put (xs : List Int) : List Int := (oI xs).map fun i => xs.getD i 0
theorem put_len (xs : List Int) : (put xs).length = xs.length := by simp [put, oI_len]

/-- A list that doesn't fall. -/
def Up (xs : List Int) : Prop := ∀ i, i + 1 < xs.length → xs.getD i 0 ≤ xs.getD (i + 1) 0
theorem Up.le {xs : List Int} (h : Up xs) (i : Nat) : ∀ d, i + d < xs.length → xs.getD i 0 ≤ xs.getD (i + d) 0
  | 0, _ => Int.le_refl _
  | d + 1, hd => Int.le_trans (h.le i d (by omega)) (h (i + d) hd)
theorem Up.le' {xs : List Int} (h : Up xs) {i j : Nat} (hij : i ≤ j) (hj : j < xs.length) : xs.getD i 0 ≤ xs.getD j 0 := by
  have := h.le i (j - i) (by omega)
  rwa [show i + (j - i) = j by omega] at this

theorem put_getD (xs : List Int) (i : Nat) (hi : i < xs.length) : (put xs).getD i 0 = xs.getD ((oI xs).getD i 0) 0 := by
  have : i < (oI xs).length := by rw [oI_len]; exact hi
  simp [put, List.getD, this]
theorem put_up (xs : List Int) : Up (put xs) := by
  intro i hi
  rw [put_len] at hi
  rw [put_getD xs i (by omega), put_getD xs (i + 1) hi]
  have h1 := (oI_is xs).next (i := i) (by rw [oI_len]; exact hi)
  have := h1.notLess (ltI_wo xs)
  simp [ltI] at this ⊢
  omega

/-- A list that doesn't fall is told as it is. -/
theorem oI_up {xs : List Int} (h : Up xs) : oI xs = List.range xs.length := by
  refine (oI_is xs).uniq (ltI_wo xs) ⟨List.Perm.refl _, ?_⟩
  rw [List.pairwise_iff_getElem]
  intro i j hi hj hij
  simp only [List.length_range] at hi hj
  simp only [List.getElem_range]
  refine .inr ⟨?_, hij⟩
  have := h.le' (i := i) (j := j) (by omega) hj
  simp only [ltI, decide_eq_false_iff_not]; omega

/-! ### Where a number stands -/
/-- k is a place where n may stand. -/
def Spot (xs : List Int) (n : Int) (k : Nat) : Prop := k ≤ xs.length ∧ (0 < k → xs.getD (k - 1) 0 < n) ∧ (k < xs.length → n ≤ xs.getD k 0)
def cnt (n : Int) : List Int → Nat
  | [] => 0
  | x :: r => (if x < n then 1 else 0) + cnt n r
theorem cnt_append (n : Int) : ∀ (a b : List Int), cnt n (a ++ b) = cnt n a + cnt n b
  | [], b => by simp [cnt]
  | x :: a, b => by simp [cnt, cnt_append n a b]; omega
theorem cnt_all (n : Int) : ∀ (a : List Int), (∀ x ∈ a, x < n) → cnt n a = a.length
  | [], _ => rfl
  | x :: a, h => by simp [cnt, cnt_all n a (fun y hy => h y (by simp [hy])), h x (by simp)]; omega
theorem cnt_none (n : Int) : ∀ (a : List Int), (∀ x ∈ a, n ≤ x) → cnt n a = 0
  | [], _ => rfl
  | x :: a, h => by
    have h1 := h x (by simp)
    simp [cnt, cnt_none n a (fun y hy => h y (by simp [hy]))]; omega
theorem cnt_le (n : Int) : ∀ (a : List Int), cnt n a ≤ a.length
  | [] => Nat.le_refl _
  | x :: a => by have := cnt_le n a; simp only [cnt, List.length_cons]; split <;> omega
theorem cnt_snoc (n : Int) (xs : List Int) (k : Nat) (h : k < xs.length) : cnt n (xs.take (k + 1)) = cnt n (xs.take k) + if xs.getD k 0 < n then 1 else 0 := by
  rw [List.take_succ_eq_append_getElem h, cnt_append]
  simp [cnt, List.getD, h]
theorem spot_cnt {xs : List Int} (h : Up xs) {n : Int} {k : Nat} (s : Spot xs n k) : cnt n xs = k := by
  have h1 : cnt n (xs.take k) = k := by
    rw [cnt_all, List.length_take]; have := s.1; omega
    intro x hx
    obtain ⟨i, hi, rfl⟩ := List.getElem_of_mem hx
    rw [List.length_take] at hi
    rw [List.getElem_take]
    have h2 := s.2.1 (by omega)
    have h3 := h.le' (i := i) (j := k - 1) (by omega) (by have := s.1; omega)
    have h4 : xs.getD i 0 = xs[i] := by simp [List.getD, show i < xs.length by omega]
    omega
  have h2 : cnt n (xs.drop k) = 0 := by
    apply cnt_none
    intro x hx
    obtain ⟨i, hi, rfl⟩ := List.getElem_of_mem hx
    rw [List.length_drop] at hi
    rw [List.getElem_drop]
    have h2 := s.2.2 (by omega)
    have h3 := h.le' (i := k) (j := k + i) (by omega) (by omega)
    have h4 : xs.getD (k + i) 0 = xs[k + i] := by simp [List.getD, show k + i < xs.length by omega]
    omega
  have := cnt_append n (xs.take k) (xs.drop k)
  rw [List.take_append_drop] at this
  omega

/-- What stands in its place. -/
theorem spot_up {xs : List Int} (h : Up xs) {n : Int} {k : Nat} (s : Spot xs n k) : Up (xs.take k ++ [n] ++ xs.drop k) := by
  have hk := s.1
  have g : ∀ i, (xs.take k ++ [n] ++ xs.drop k).getD i 0 = if i < k then xs.getD i 0 else if i = k then n else xs.getD (i - 1) 0 := by
    intro i
    rw [List.append_assoc]
    by_cases h1 : i < k
    · rw [if_pos h1]
      simp [List.getD, List.getElem?_append_left (show i < (xs.take k).length by rw [List.length_take]; omega), h1]
    · rw [if_neg h1]
      have hl : (xs.take k).length = k := by rw [List.length_take]; omega
      simp only [List.getD]
      rw [List.getElem?_append_right (by omega), hl]
      by_cases h2 : i = k
      · subst h2; simp
      · rw [if_neg h2]
        obtain ⟨d, rfl⟩ : ∃ d, i = k + 1 + d := ⟨i - k - 1, by omega⟩
        rw [show k + 1 + d - k = d + 1 by omega, show k + 1 + d - 1 = k + d by omega]
        simp
  intro i hi
  simp only [List.length_append, List.length_take, List.length_drop, List.length_cons, List.length_nil] at hi
  rw [g, g]
  by_cases h1 : i + 1 < k
  · rw [if_pos (by omega), if_pos h1]; exact h i (by omega)
  · rw [if_neg h1]
    by_cases h2 : i + 1 = k
    · rw [if_pos (by omega), if_pos h2]
      have := s.2.1 (by omega)
      rw [show k - 1 = i by omega] at this; omega
    · rw [if_neg h2, if_neg (by omega), show i + 1 - 1 = i by omega]
      by_cases h3 : i = k
      · rw [if_pos h3]; rw [h3]; exact s.2.2 (by omega)
      · rw [if_neg h3]
        have := h (i - 1) (by omega)
        rw [show i - 1 + 1 = i by omega] at this; exact this

/-- Places as integers. -/
def ints (l : List Nat) : List Int := l.map fun (k : Nat) => (k : Int)
theorem ints_len (l : List Nat) : (ints l).length = l.length := by simp [ints]
theorem ints_getD (l : List Nat) (i : Nat) : (ints l).getD i 0 = ((l.getD i 0 : Nat) : Int) := by
  by_cases h : i < l.length
  · simp [ints, List.getD, h]
  · simp [ints, List.getD, List.getElem?_eq_none (show l.length ≤ i by omega)]

end Go.Proofs.Ytakgkfdbgjljkaa.Rank
