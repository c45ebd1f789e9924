/-
  Plain mathematics of layer 8 (layout): widths, which group fits, the layout as a machine over pieces. Nothing of the program is imported.
-/
import Derived.Test.YtpankfbdlakmcaaDocMath
namespace Go.Proofs.Ytpankfbdlakmcaa.Doc
set_option linter.unusedVariables false

/-- Whether a byte counts in a text's width. -/
def wide (b : UInt8) : Bool := decide (b.toNat < 128) || decide (191 < b.toNat)
def wdL (l : List UInt8) : Nat := l.countP wide
def wd (x : ByteArray) : Nat := wdL x.data.toList
theorem wdL_app (a b : List UInt8) : wdL (a ++ b) = wdL a + wdL b := List.countP_append ..
theorem wdL_le (a : List UInt8) : wdL a ≤ a.length := List.countP_le_length
theorem wd_le (x : ByteArray) : wd x ≤ x.size := wdL_le _
theorem wd_app (x y : ByteArray) : wd (x ++ y) = wd x + wd y := by unfold wd; rw [ByteArray.data_append, Array.toList_append, wdL_app]
def isB (k : Int) : Bool := k == 2 || k == 3 || k == 4
theorem isB_iff {k : Int} : isB k = true ↔ k = 2 ∨ k = 3 ∨ k = 4 := by unfold isB; simp [or_assoc]
theorem isB_not {k : Int} : isB k = false ↔ k ≠ 2 ∧ k ≠ 3 ∧ k ≠ 4 := by unfold isB; simp [and_assoc]
def txtW (p : Pc) : Nat := if p.1 = 1 then wd p.2 else 0
/-- How many columns a piece takes flat; a hard more than any page. -/
def fwp (p : Pc) : Nat := if p.1 = 1 then wd p.2 else if p.1 = 2 then 1 else if p.1 = 4 then 65536 else 0
/-- The texts up to the next break. -/
def bw : List Pc → Nat
  | [] => 0
  | p :: l => if isB p.1 then 0 else txtW p + bw l
/-- What is left of a group, of d more around it, and the texts behind it up to the next break. -/
def gwp : Nat → List Pc → Nat
  | _, [] => 0
  | d, p :: l => if p.1 = 8 then (match d with | 0 => bw l | d + 1 => gwp d l) else if p.1 = 7 then gwp (d + 1) l else fwp p + gwp d l
def sumP : List Pc → Nat
  | [] => 0
  | p :: l => fwp p + sumP l
/-- All from the next break on. -/
def brk : List Pc → Nat
  | [] => 0
  | p :: l => if isB p.1 then fwp p + sumP l else brk l
/-- What stands behind each group that ends but doesn't begin here, the first one's first. -/
def bst : List Pc → List Nat
  | [] => []
  | p :: l => if p.1 = 8 then brk l :: bst l else if p.1 = 7 then (bst l).tail else bst l
theorem fwp_txt {p : Pc} (h : isB p.1 = false) : fwp p = txtW p := by
  have := isB_not.1 h
  unfold fwp txtW
  split
  · rfl
  · rw [if_neg this.1, if_neg this.2.2]
theorem bw_brk : ∀ l : List Pc, bw l + brk l = sumP l
  | [] => rfl
  | p :: l => by
    show (if isB p.1 then 0 else txtW p + bw l) + (if isB p.1 then fwp p + sumP l else brk l) = fwp p + sumP l
    cases h : isB p.1 with
    | true => simp
    | false => have := bw_brk l; rw [fwp_txt h]; simp only [Bool.false_eq_true, if_false]; omega
theorem gwp_bst : ∀ (l : List Pc) (d v : Nat), (bst l)[d]? = some v → gwp d l + v = sumP l
  | [], d, v, h => by simp [bst] at h
  | p :: l, d, v, h => by
    unfold bst at h
    unfold gwp sumP
    by_cases h8 : p.1 = 8
    · rw [if_pos h8] at h ⊢
      have hf : fwp p = 0 := by unfold fwp; simp [h8]
      cases d with
      | zero =>
        simp only [List.getElem?_cons_zero, Option.some.injEq] at h
        subst h
        have := bw_brk l
        simp only []
        omega
      | succ d =>
        have := gwp_bst l d v (by simpa using h)
        simp only []
        omega
    · rw [if_neg h8] at h ⊢
      by_cases h7 : p.1 = 7
      · rw [if_pos h7] at h ⊢
        have hf : fwp p = 0 := by unfold fwp; simp [h7]
        have := gwp_bst l (d + 1) v (by rw [← h, List.getElem?_tail])
        omega
      · rw [if_neg h7] at h ⊢
        have := gwp_bst l d v h
        omega

/-! ### What is open -/
/-- How many o are open behind l, n being open ahead of it; c closes one. -/
def dep (o c : Int) : Nat → List Pc → Option Nat
  | n, [] => some n
  | n, p :: l => if p.1 = o then dep o c (n + 1) l else if p.1 = c then (match n with | 0 => none | n + 1 => dep o c n l) else dep o c n l
theorem dep_app (o c : Int) : ∀ (a b : List Pc) (n : Nat), dep o c n (a ++ b) = (dep o c n a).bind fun m => dep o c m b
  | [], b, n => rfl
  | p :: a, b, n => by
    simp only [List.cons_append, dep]
    split
    · exact dep_app o c a b _
    · split
      · cases n with
        | zero => rfl
        | succ n => exact dep_app o c a b _
      · exact dep_app o c a b _
/-- All that is opened is closed. -/
def Bal (l : List Pc) : Prop := ∀ n, dep 5 6 n l = some n ∧ dep 7 8 n l = some n
theorem Bal.nil : Bal [] := fun n => ⟨rfl, rfl⟩
theorem Bal.app {a b : List Pc} (ha : Bal a) (hb : Bal b) : Bal (a ++ b) := fun n => by
  rw [dep_app, dep_app, (ha n).1, (ha n).2]; exact hb n
theorem Bal.leaf {p : Pc} (h : p.1 ≠ 5 ∧ p.1 ≠ 6 ∧ p.1 ≠ 7 ∧ p.1 ≠ 8) : Bal [p] := fun n => by
  simp only [dep]; rw [if_neg h.1, if_neg h.2.1, if_neg h.2.2.1, if_neg h.2.2.2]; exact ⟨rfl, rfl⟩
theorem Bal.nest {l : List Pc} (h : Bal l) : Bal (((5, emp) : Pc) :: (l ++ [((6, emp) : Pc)])) := fun n => by
  refine ⟨?_, ?_⟩
  · show dep 5 6 (n + 1) (l ++ _) = _
    rw [dep_app, (h _).1]; rfl
  · show dep 7 8 n (l ++ _) = _
    rw [dep_app, (h _).2]; rfl
theorem Bal.group {l : List Pc} (h : Bal l) : Bal (((7, emp) : Pc) :: (l ++ [((8, emp) : Pc)])) := fun n => by
  refine ⟨?_, ?_⟩
  · show dep 5 6 n (l ++ _) = _
    rw [dep_app, (h _).1]; rfl
  · show dep 7 8 (n + 1) (l ++ _) = _
    rw [dep_app, (h _).2]; rfl
theorem bal_one {k : Int} {x : ByteArray} {l : List Pc} (h : Bal l) : Bal (plOne k x l) := by
  unfold plOne
  split
  · split
    · exact Bal.nil
    · exact Bal.leaf (show (1 : Int) ≠ 5 ∧ (1 : Int) ≠ 6 ∧ (1 : Int) ≠ 7 ∧ (1 : Int) ≠ 8 from by decide)
  · split
    · exact Bal.leaf (by show k ≠ 5 ∧ k ≠ 6 ∧ k ≠ 7 ∧ k ≠ 8; omega)
    · unfold wopn wcls
      by_cases h5 : k = 5
      · subst h5; exact h.nest
      · by_cases h7 : k = 7
        · subst h7; exact h.group
        · rw [if_neg (by omega), if_neg (by omega), List.nil_append, List.append_nil]; exact h
theorem bal_plP : ∀ g : G, Bal (plP g)
  | .nil => Bal.nil
  | .cons k x c r => (bal_one (bal_plP c)).app (bal_plP r)
theorem bst_len : ∀ (l : List Pc) (g : Nat), dep 7 8 g l = some 0 → (bst l).length = g
  | [], g, h => by simp only [dep, Option.some.injEq] at h; subst h; rfl
  | p :: l, g, h => by
    unfold dep at h
    unfold bst
    by_cases h7 : p.1 = 7
    · rw [if_pos h7] at h
      rw [if_neg (by omega), if_pos h7, List.length_tail, bst_len l _ h]; omega
    · rw [if_neg h7] at h
      by_cases h8 : p.1 = 8
      · rw [if_pos h8] at h ⊢
        cases g with
        | zero => cases h
        | succ g => rw [List.length_cons, bst_len l _ h]
      · rw [if_neg h8] at h ⊢
        rw [if_neg h7]; exact bst_len l g h

/-- A document's texts are no empty ones. -/
def Ne (l : List Pc) : Prop := ∀ p ∈ l, p.1 = 1 → p.2.toList ≠ []
theorem Ne.app {a b : List Pc} (ha : Ne a) (hb : Ne b) : Ne (a ++ b) := fun p hp => by
  rcases List.mem_append.1 hp with h | h
  · exact ha p h
  · exact hb p h
theorem Ne.leaf {p : Pc} (h : p.1 ≠ 1) : Ne [p] := fun q hq h1 => by rw [List.mem_singleton.1 hq] at h1; exact absurd h1 h
theorem Ne.nil : Ne [] := fun p hp => by cases hp
theorem Ne.wrap {l : List Pc} (h : Ne l) {a b : Int} (ha : a ≠ 1) (hb : b ≠ 1) : Ne (((a, emp) : Pc) :: (l ++ [((b, emp) : Pc)])) :=
  Ne.app (a := [(a, emp)]) (Ne.leaf ha) (h.app (Ne.leaf hb))
theorem ne_one {k : Int} {x : ByteArray} {l : List Pc} (h : Ne l) : Ne (plOne k x l) := by
  unfold plOne
  split
  · split
    · exact Ne.nil
    · rename_i hx
      intro p hp _
      rw [List.mem_singleton.1 hp]; exact hx
  · split
    · exact Ne.leaf (by show k ≠ 1; omega)
    · unfold wopn wcls
      by_cases h5 : k = 5
      · subst h5; exact h.wrap (by decide) (by decide)
      · by_cases h7 : k = 7
        · subst h7; exact h.wrap (by decide) (by decide)
        · rw [if_neg (by omega), if_neg (by omega), List.nil_append, List.append_nil]; exact h
theorem ne_plP : ∀ g : G, Ne (plP g)
  | .nil => Ne.nil
  | .cons k x c r => (ne_one (ne_plP c)).app (ne_plP r)

/-! ### Which groups are flat -/
def bhB (W : Nat) : List Pc → Nat → Bool
  | [], c => decide (c ≤ W)
  | p :: l, c => if isB p.1 then decide (c ≤ W) else bhB W l (c + txtW p)
def fitB (W : Nat) : Nat → List Pc → Nat → Bool
  | _, [], c => decide (c ≤ W)
  | d, p :: l, c => if p.1 = 4 then false else if p.1 = 8 then (match d with | 0 => bhB W l c | d + 1 => fitB W d l c) else if p.1 = 7 then fitB W (d + 1) l c else fitB W d l (c + fwp p)
theorem bhB_is (W : Nat) : ∀ (l : List Pc) (c : Nat), bhB W l c = decide (c + bw l ≤ W)
  | [], c => rfl
  | p :: l, c => by
    unfold bhB bw
    cases h : isB p.1 with
    | true => simp
    | false => simp only [Bool.false_eq_true, if_false]; rw [bhB_is W l, Nat.add_assoc]
theorem fitB_is {W : Nat} (hW : W ≤ 65535) : ∀ (l : List Pc) (d c : Nat), fitB W d l c = decide (c + gwp d l ≤ W)
  | [], d, c => by unfold fitB gwp; rfl
  | p :: l, d, c => by
    unfold fitB gwp
    by_cases h4 : p.1 = 4
    · rw [if_pos h4, if_neg (by omega), if_neg (by omega)]
      have hf : fwp p = 65536 := by unfold fwp; simp [h4]
      rw [hf]
      exact (decide_eq_false (by omega)).symm
    · rw [if_neg h4]
      by_cases h8 : p.1 = 8
      · rw [if_pos h8, if_pos h8]
        cases d with
        | zero => exact bhB_is W l c
        | succ d => exact fitB_is hW l d c
      · rw [if_neg h8, if_neg h8]
        by_cases h7 : p.1 = 7
        · rw [if_pos h7, if_pos h7]; exact fitB_is hW l _ c
        · rw [if_neg h7, if_neg h7, fitB_is hW l, Nat.add_assoc]
/-- In a flat group there is no hard. -/
def nhd : Nat → List Pc → Bool
  | 0, _ => true
  | _ + 1, [] => true
  | d + 1, p :: l => !(p.1 == 4) && (if p.1 = 8 then nhd d l else if p.1 = 7 then nhd (d + 2) l else nhd (d + 1) l)
theorem fit_nhd (W : Nat) : ∀ (l : List Pc) (d c : Nat), fitB W d l c = true → nhd (d + 1) l = true
  | [], d, c, h => rfl
  | p :: l, d, c, h => by
    unfold fitB at h
    unfold nhd
    by_cases h4 : p.1 = 4
    · rw [if_pos h4] at h; cases h
    · rw [if_neg h4] at h
      have e4 : (p.1 == 4) = false := by simpa using h4
      rw [e4]
      by_cases h8 : p.1 = 8
      · rw [if_pos h8] at h ⊢
        cases d with
        | zero => simp [nhd]
        | succ d => simpa using fit_nhd W l d c h
      · rw [if_neg h8] at h ⊢
        by_cases h7 : p.1 = 7
        · rw [if_pos h7] at h ⊢; simpa using fit_nhd W l (d + 1) c h
        · rw [if_neg h7] at h ⊢; simpa using fit_nhd W l d _ h

/-! ### The machine -/
/-- A layout as far as it is written: what is written, the column, the nest, the tabs that go ahead of what is written next, the open groups from the innermost on. -/
structure St where
  o : List UInt8
  c : Nat
  n : Nat
  t : Nat
  f : List Bool
def St.fl (s : St) : Bool := s.f.headD false
def wrS (y : List UInt8) (k : Nat) (s : St) : St := { s with o := s.o ++ (List.replicate s.t 9 ++ y), c := s.c + k, t := 0 }
def nlS (s : St) : St := { s with o := s.o ++ [10], c := 4 * s.n, t := s.n }
def stepD (q : Bool) (p : Pc) (s : St) : St :=
  if p.1 = 1 then wrS p.2.data.toList (wd p.2) s
  else if isB p.1 then (if s.fl then (if p.1 = 2 then wrS [32] 1 s else s) else nlS s)
  else if p.1 = 5 then { s with n := s.n + 1 } else if p.1 = 6 then { s with n := s.n - 1 }
  else if p.1 = 7 then { s with f := q :: s.f } else if p.1 = 8 then { s with f := s.f.tail } else s
def step (W : Nat) (p : Pc) (l : List Pc) (s : St) : St := stepD (s.fl || fitB W 0 l s.c) p s
def mach (W : Nat) : List Pc → St → St
  | [], s => s
  | p :: l, s => mach W l (step W p l s)
def St0 : St := ⟨[], 0, 0, 0, []⟩
/-- A document's layout. -/
def layS (W : Nat) (l : List Pc) : List UInt8 := (mach W l St0).o

/-- Bounds of what a layout is behind i pieces with T bytes of texts. -/
structure Bnd (T i : Nat) (s : St) : Prop where
  n : s.n ≤ i
  t : s.t ≤ i
  c : s.c ≤ 5 * i + T
  o : s.o.length ≤ T + 10001 * i
def txL (l : List Pc) : Nat := (l.map fun p => p.2.size).sum
theorem Bnd.start : Bnd 0 0 St0 := ⟨Nat.le_refl _, Nat.le_refl _, Nat.le_refl _, Nat.le_refl _⟩
theorem Bnd.stepD {T i : Nat} {s : St} (h : Bnd T i s) (hi : i ≤ 10000) (q : Bool) (p : Pc) : Bnd (T + p.2.size) (i + 1) (stepD q p s) := by
  have hw := wd_le p.2
  have hs : p.2.data.toList.length = p.2.size := by rw [Array.length_toList]; rfl
  obtain ⟨h1, h2, h3, h4⟩ := h
  unfold Doc.stepD
  split
  · refine ⟨?_, ?_, ?_, ?_⟩ <;> simp only [wrS, List.length_append, List.length_replicate] <;> omega
  · split
    · split
      · split
        · refine ⟨?_, ?_, ?_, ?_⟩ <;> simp only [wrS, List.length_append, List.length_replicate, List.length_singleton] <;> omega
        · exact ⟨by omega, by omega, by omega, by omega⟩
      · refine ⟨?_, ?_, ?_, ?_⟩ <;> simp only [nlS, List.length_append, List.length_singleton] <;> omega
    · split
      · exact ⟨by simp only; omega, by simp only; omega, by simp only; omega, by simp only; omega⟩
      · split
        · exact ⟨by simp only; omega, by simp only; omega, by simp only; omega, by simp only; omega⟩
        · split
          · exact ⟨by simp only; omega, by simp only; omega, by simp only; omega, by simp only; omega⟩
          · split
            · exact ⟨by simp only; omega, by simp only; omega, by simp only; omega, by simp only; omega⟩
            · exact ⟨by omega, by omega, by omega, by omega⟩
end Go.Proofs.Ytpankfbdlakmcaa.Doc
