import Derived.Test.YtmknghhgcecafaaDoorJxC
import Derived.Test.YtmknghhgcecafaaDoorJxB
import Derived.Test.YtmknghhgcecafaaDoorTreeMath
import Derived.Test.YtmknghhgcecafaaDoorJxD

/-
  The document's Same of two rows of integers (layer 3's reference), any rows.
-/
namespace Go.Proofs.YtmknghhgcecafaaDoor.MemC
open Go.ChangeShapes Go.WideShapes Go.ChangeAt Go.RowKit
set_option linter.unusedVariables false

theorem ne_of_at {xs ys : List Int} {k : Nat} (hk : k < xs.length) (hl : xs.length = ys.length) (h : (xs.getD k 0 != ys.getD k 0) = true) : ¬ xs = ys := fun e => by subst e; simp at h
theorem take_next {xs ys : List Int} {k : Nat} (hk : k < xs.length) (hl : xs.length = ys.length) (h : (xs.getD k 0 != ys.getD k 0) = false) (ht : xs.take k = ys.take k) : xs.take (k + 1) = ys.take (k + 1) := by
  have hk' : k < ys.length := hl ▸ hk
  rw [List.take_add_one, List.take_add_one, ht]
  have h : xs.getD k 0 = ys.getD k 0 := by simpa using h
  simp only [List.getD, List.getElem?_eq_getElem hk, List.getElem?_eq_getElem hk', Option.getD_some] at h
  rw [List.getElem?_eq_getElem hk, List.getElem?_eq_getElem hk', h]
set_option maxHeartbeats 1000000 in
theorem refInts_any (A A' : Option Addr) (n m c c' : Nat) (xs ys : List Int) (w : World) (B B' : Nat) (h : RI w B A xs) (h' : RI w B' A' ys) (hn : xs.length = n) (hm : ys.length = m) (hs : n ≤ 1000000) :
    Calls Tryd.prog 12 #[.slice A n c, .slice A' m c'] w fun e w' => e = .returned (.bool (decide (xs = ys))) ∧ Below w.heap.size w w' := by
  have H := Lib.hid h; have H' := Lib.hid h'; clear h h'
  by_cases hnm : n = m
  · subst hnm
    have hnn : ((n : Int) != (n : Int)) = false := by simp
    have Hn := Lib.hid hn; have HL := Lib.hid (hn.trans hm.symm); clear hn hm
    go_enter Tryd.func12, Tryd.ntmps12
    go_wp2
    go_loopw [5] (fun i wr => ∃ k q : Nat, k ≤ n ∧ i = .int .i64 k ∧ wr = w.drewN q ∧ Hid (xs.take k = ys.take k)) (fun i _ => n - (intOf i).toNat)
    case atStart => exact ⟨0, 0, Nat.zero_le _, rfl, rfl, rfl⟩
    case round =>
      obtain ⟨k, q, hk, rfl, rfl, HT⟩ := hrel
      by_cases hlt : k < n
      · have hkx : k < xs.length := by rw [Hn.out]; exact hlt
        obtain ⟨b, off, rfl, _, hc⟩ := H.out.at_ (i := k) hkx
        obtain ⟨b', off', rfl, _, hc'⟩ := H'.out.at_ (i := k) (by rw [← HL.out]; exact hkx)
        have hlt' : (k : Int) < (n : Int) := by omega
        cases hq : (xs.getD k 0 != ys.getD k 0) with
        | true =>
          have HF := Lib.hid (ne_of_at hkx HL.out hq)
          generalize xs.getD k 0 = y at *
          generalize ys.getD k 0 = y' at *
          go_wp2
          go_quiet (fail)
          go_wp2
          go_ret
          exact ⟨by rw [decide_eq_false HF.out]; rfl, below_drewN (below_drewN (Below.refl _ _) _) _⟩
        | false =>
          have HF := Lib.hid (take_next hkx HL.out hq HT.out)
          generalize xs.getD k 0 = y at *
          generalize ys.getD k 0 = y' at *
          go_wp2
          go_quiet (fail)
          go_wp2
          go_roundw
          case rel => exact ⟨k + 1, _, by omega, by first | rfl | go_num, rfl, HF.out⟩
          case measure => simp [intOf]; omega
      · have hge : ¬ (k : Int) < (n : Int) := by omega
        obtain rfl : n = k := by omega
        have HE : Hid (xs = ys) := by
          have := HT.out
          rwa [List.take_of_length_le (by rw [Hn.out]; exact Nat.le_refl _), List.take_of_length_le (by rw [← HL.out, Hn.out]; exact Nat.le_refl _)] at this
        go_wp2
        go_ret
        exact ⟨by rw [decide_eq_true HE.out]; rfl, below_drewN (Below.refl _ _) _⟩
  · have hnn : ((n : Int) != (m : Int)) = true := by simp; omega
    have HE : Hid (¬ xs = ys) := fun e => hnm (by rw [← hn, ← hm, e])
    clear hn hm
    go_enter Tryd.func12, Tryd.ntmps12
    go_wp2
    go_ret
    exact ⟨by rw [decide_eq_false HE.out]; rfl, Below.refl _ _⟩
end Go.Proofs.YtmknghhgcecafaaDoor.MemC

/-
  Plain mathematics of layer 10 (shape): a tree by its places. Nothing of the program is imported.
-/
namespace Go.Proofs.YtmknghhgcecafaaDoor.Shape
open Tree
set_option linter.unusedVariables false

/-- The places of a row's trees, the first of which stands at place a. -/
def places (a : Nat) : F → List Nat
  | .nil => []
  | .cons _ _ _ c r => a :: places (a + 1 + c.size) r
/-- The parents' places of a row's nodes: p, that of the row itself. -/
def parF (p : Int) (a : Nat) : F → List Int
  | .nil => []
  | .cons _ _ _ c r => p :: (parF a (a + 1) c ++ parF p (a + 1 + c.size) r)
def sizF : F → List Int
  | .nil => []
  | .cons _ _ _ c r => ((c.size + 1 : Nat) : Int) :: (sizF c ++ sizF r)
def kidF (a : Nat) : F → List (List Nat)
  | .nil => []
  | .cons _ _ _ c r => places (a + 1) c :: (kidF (a + 1) c ++ kidF (a + 1 + c.size) r)

theorem parF_len : ∀ (p : Int) (a : Nat) (f : F), (parF p a f).length = f.size
  | _, _, .nil => rfl
  | p, a, .cons _ _ _ c r => by simp only [parF, F.size, List.length_cons, List.length_append, parF_len]
theorem sizF_len : ∀ f : F, (sizF f).length = f.size
  | .nil => rfl
  | .cons _ _ _ c r => by simp only [sizF, F.size, List.length_cons, List.length_append, sizF_len]
theorem kidF_len : ∀ (a : Nat) (f : F), (kidF a f).length = f.size
  | _, .nil => rfl
  | a, .cons _ _ _ c r => by simp only [kidF, F.size, List.length_cons, List.length_append, kidF_len]
theorem places_len : ∀ (a : Nat) (f : F), (places a f).length = f.len
  | _, .nil => rfl
  | a, .cons _ _ _ c r => by simp only [places, F.len, List.length_cons, places_len]
theorem sizF_nodes : ∀ f : F, sizF f = (nodes f).map fun n => ((n.size : Nat) : Int)
  | .nil => rfl
  | .cons k x y c r => by
    simp only [sizF, nodes, List.map_cons, List.map_append, sizF_nodes c, sizF_nodes r]
    rfl
/-- What stands at place q of a row's nodes: three ways. -/
theorem at_three {α : Type} {h : α} {l m : List α} {n q : Nat} (hl : l.length = n) : (h :: (l ++ m))[q]? = if q = 0 then some h else if q ≤ n then l[q - 1]? else m[q - 1 - n]? := by
  subst hl
  cases q with
  | zero => simp
  | succ q =>
    simp only [List.getElem?_cons_succ, Nat.add_sub_cancel]
    rw [if_neg (Nat.succ_ne_zero q)]
    by_cases h : q < l.length
    · rw [List.getElem?_append_left h, if_pos (by omega)]
    · rw [List.getElem?_append_right (by omega), if_neg (by omega)]
/-- The Kids of the node at place q. -/
theorem kidF_at : ∀ (f : F) (a q : Nat) (n : Nd), (nodes f)[q]? = some n → (kidF a f)[q]? = some (places (a + q + 1) n.c)
  | .nil, a, q, n, h => by simp [nodes] at h
  | .cons k x y c r, a, q, n, h => by
    simp only [nodes, kidF] at h ⊢
    rw [at_three (nodes_len c)] at h
    rw [at_three (kidF_len (a + 1) c)]
    by_cases h0 : q = 0
    · rw [if_pos h0] at h ⊢
      injection h with h
      subst h; subst h0; rfl
    · rw [if_neg h0] at h ⊢
      by_cases h1 : q ≤ c.size
      · rw [if_pos h1] at h ⊢
        rw [kidF_at c (a + 1) (q - 1) n h, show a + 1 + (q - 1) + 1 = a + q + 1 by omega]
      · rw [if_neg h1] at h ⊢
        rw [kidF_at r (a + 1 + c.size) (q - 1 - c.size) n h, show a + 1 + c.size + (q - 1 - c.size) + 1 = a + q + 1 by omega]
/-- A row's trees stand at its places. -/
theorem places_ge : ∀ (f : F) (a q : Nat), q ∈ places a f → a ≤ q ∧ q < a + f.size
  | .nil, a, q, h => by simp [places] at h
  | .cons k x y c r, a, q, h => by
    simp only [places, List.mem_cons] at h
    simp only [F.size]
    rcases h with rfl | h
    · omega
    · have := places_ge r _ q h
      omega
theorem places_drop : ∀ (f : F) (a j : Nat) (k : Int) (x y : ByteArray) (c r : F), f.drop j = .cons k x y c r → ∃ q, (places a f)[j]? = some q ∧ places a f = (places a f).take j ++ q :: places (q + 1 + c.size) r ∧ (nodes f)[q - a]? = some ⟨k, x, y, c⟩ ∧ a ≤ q
  | .nil, a, j, k, x, y, c, r, h => by rw [F.drop_nil] at h; cases h
  | .cons k' x' y' c' r', a, 0, k, x, y, c, r, h => by
    simp only [F.drop, F.cons.injEq] at h
    obtain ⟨rfl, rfl, rfl, rfl, rfl⟩ := h
    exact ⟨a, rfl, rfl, by simp [nodes], Nat.le_refl _⟩
  | .cons k' x' y' c' r', a, j + 1, k, x, y, c, r, h => by
    obtain ⟨q, h1, h2, h3, h4⟩ := places_drop r' (a + 1 + c'.size) j k x y c r h
    refine ⟨q, by simpa [places] using h1, ?_, ?_, by omega⟩
    · simp only [places, List.take_succ_cons, List.cons_append]
      rw [← h2]
    · simp only [nodes]
      rw [at_three (nodes_len c'), if_neg (by omega), if_neg (by omega), ← h3]
      congr 1
      omega
/-- The parent of the node at place q, which is a Kid of that at place i. -/
theorem par_row : ∀ (f : F) (p : Int) (a q : Nat), q ∈ places a f → (parF p a f)[q - a]? = some p
  | .nil, p, a, q, h => by simp [places] at h
  | .cons k x y c r, p, a, q, h => by
    simp only [places, List.mem_cons] at h
    simp only [parF]
    rcases h with rfl | h
    · simp
    · have h' := places_ge r _ q h
      rw [at_three (parF_len (a : Int) (a + 1) c), if_neg (by omega), if_neg (by omega), ← par_row r p _ q h]
      congr 1
      omega
theorem par_at : ∀ (f : F) (p : Int) (a i q : Nat) (l : List Nat), (kidF a f)[i]? = some l → q ∈ l → (parF p a f)[q - a]? = some ((a + i : Nat) : Int) ∧ a + i < q ∧ q < a + f.size
  | .nil, p, a, i, q, l, h, _ => by simp [kidF] at h
  | .cons k x y c r, p, a, i, q, l, h, hq => by
    simp only [kidF] at h
    simp only [parF, F.size]
    rw [at_three (kidF_len (a + 1) c)] at h
    rw [at_three (parF_len (a : Int) (a + 1) c)]
    by_cases h0 : i = 0
    · rw [if_pos h0] at h
      injection h with h
      subst h; subst h0
      have hg := places_ge c _ q hq
      refine ⟨?_, by omega, by omega⟩
      rw [if_neg (by omega), if_pos (by omega), show q - a - 1 = q - (a + 1) by omega, par_row c _ _ q hq]
      rfl
    · rw [if_neg h0] at h
      by_cases h1 : i ≤ c.size
      · rw [if_pos h1] at h
        obtain ⟨e1, e2, e3⟩ := par_at c a (a + 1) (i - 1) q l h hq
        refine ⟨?_, by omega, by omega⟩
        rw [if_neg (by omega), if_pos (by omega), show q - a - 1 = q - (a + 1) by omega, e1]
        congr 2
        omega
      · rw [if_neg h1] at h
        obtain ⟨e1, e2, e3⟩ := par_at r p (a + 1 + c.size) (i - 1 - c.size) q l h hq
        refine ⟨?_, by omega, by omega⟩
        rw [if_neg (by omega), if_neg (by omega), show q - a - 1 - c.size = q - (a + 1 + c.size) by omega, e1]
        congr 2
        omega
/-- Each node of a row is one of its trees, or a Kid of one of its nodes. -/
theorem par_has : ∀ (f : F) (a q : Nat), a ≤ q → q < a + f.size → q ∈ places a f ∨ ∃ (i : Nat) (l : List Nat), (kidF a f)[i]? = some l ∧ q ∈ l
  | .nil, a, q, h1, h2 => by simp only [F.size] at h2; omega
  | .cons k x y c r, a, q, h1, h2 => by
    simp only [F.size] at h2
    by_cases h0 : q = a
    · exact .inl (by simp [places, h0])
    · by_cases hc : q < a + 1 + c.size
      · rcases par_has c (a + 1) q (by omega) (by omega) with h | ⟨i, l, h, hq⟩
        · exact .inr ⟨0, places (a + 1) c, by simp [kidF], h⟩
        · refine .inr ⟨i + 1, l, ?_, hq⟩
          have hi : i < (kidF (a + 1) c).length := (List.getElem?_eq_some_iff.1 h).1
          simp only [kidF, List.getElem?_cons_succ]
          rw [List.getElem?_append_left hi, h]
      · rcases par_has r (a + 1 + c.size) q (by omega) (by omega) with h | ⟨i, l, h, hq⟩
        · exact .inl (by simp only [places, List.mem_cons]; exact .inr h)
        · refine .inr ⟨c.size + i + 1, l, ?_, hq⟩
          simp only [kidF, List.getElem?_cons_succ]
          rw [List.getElem?_append_right (by rw [kidF_len]; omega), kidF_len, show c.size + i - c.size = i by omega, h]

/-- What lies below a node stands behind it. -/
theorem sub_nodes : ∀ (f : F) (i : Nat) (n : Nd), (nodes f)[i]? = some n → i + 1 + n.c.size ≤ f.size ∧ ∀ r, r < n.c.size → (nodes f)[i + 1 + r]? = (nodes n.c)[r]?
  | .nil, i, n, h => by simp [nodes] at h
  | .cons k x y c r, i, n, h => by
    simp only [nodes, F.size] at h ⊢
    rw [at_three (nodes_len c)] at h
    by_cases h0 : i = 0
    · rw [if_pos h0] at h
      injection h with h
      subst h; subst h0
      refine ⟨by simp only; omega, fun r hr => ?_⟩
      simp only at hr
      rw [at_three (nodes_len c), if_neg (by omega), if_pos (by omega)]
      congr 1
      omega
    · rw [if_neg h0] at h
      by_cases h1 : i ≤ c.size
      · rw [if_pos h1] at h
        obtain ⟨e1, e2⟩ := sub_nodes c (i - 1) n h
        refine ⟨by omega, fun r hr => ?_⟩
        rw [at_three (nodes_len c), if_neg (by omega), if_pos (by omega), ← e2 r hr]
        congr 1
        omega
      · rw [if_neg h1] at h
        obtain ⟨e1, e2⟩ := sub_nodes r (i - 1 - c.size) n h
        refine ⟨by omega, fun r hr => ?_⟩
        rw [at_three (nodes_len c), if_neg (by omega), if_neg (by omega), ← e2 r hr]
        congr 1
        omega
/-- Where the next Kid of a node stands: kp, when j have been gone through. -/
def PosAt (a : Nat) (c : F) (j kp : Nat) : Prop := places a c = (places a c).take j ++ places kp (c.drop j)
theorem posAt_start (a : Nat) (c : F) : PosAt a c 0 a := by simp [PosAt, F.drop]
theorem posAt_step {f : F} {i j kp : Nat} {n : Nd} {k : Int} {x y : ByteArray} {c r : F} (hn : (nodes f)[i]? = some n) (h : PosAt (i + 1) n.c j kp) (hd : n.c.drop j = .cons k x y c r) :
    (places (i + 1) n.c)[j]? = some kp ∧ PosAt (i + 1) n.c (j + 1) (kp + (c.size + 1)) ∧ (nodes f)[kp]? = some ⟨k, x, y, c⟩ ∧ kp < f.size := by
  obtain ⟨q, h1, h2, h3, h4⟩ := places_drop n.c (i + 1) j k x y c r hd
  have hq : q = kp := by
    unfold PosAt at h
    rw [hd] at h
    have e := h.symm.trans h2
    simp only [places] at e
    have := List.append_cancel_left e
    injection this with this _
    exact this.symm
  subst hq
  have hs := (sub_nodes f i n hn)
  have hlt : q - (i + 1) < n.c.size := by
    have := (List.getElem?_eq_some_iff.1 h3).1
    rwa [nodes_len] at this
  refine ⟨h1, ?_, ?_, by omega⟩
  · unfold PosAt
    have hr : n.c.drop (j + 1) = r := by
      have hlen : j < n.c.len := by
        have := F.drop_len j n.c
        rw [hd] at this
        simp only [F.len] at this
        omega
      obtain ⟨k', x', y', c', r', e1, e2⟩ := F.drop_cons hlen
      rw [hd] at e1
      injection e1 with _ _ _ _ e1
      rw [e2, e1]
    rw [hr, List.take_add_one, h1, show q + (c.size + 1) = q + 1 + c.size by omega]
    simp only [Option.toList_some, List.append_assoc, List.singleton_append]
    exact h2
  · have := hs.2 (q - (i + 1)) hlt
    rw [show i + 1 + (q - (i + 1)) = q by omega] at this
    rw [this, h3]

/-- A whole tree. -/
def one (k : Int) (x y : ByteArray) (c : F) : F := .cons k x y c .nil
theorem one_size (k : Int) (x y : ByteArray) (c : F) : (one k x y c).size = c.size + 1 := by simp [one, F.size]
theorem one_nodes (k : Int) (x y : ByteArray) (c : F) : nodes (one k x y c) = ⟨k, x, y, c⟩ :: nodes c := by simp [one, nodes]

/-! ### Which nodes are alike -/
def sameN (a b : Nd) : Bool := a.k == b.k && (a.x.toList == b.x.toList && (a.y.toList == b.y.toList && same a.c b.c))
theorem sameN_iff {a b : Nd} : sameN a b = true ↔ a = b := by
  obtain ⟨k, x, y, c⟩ := a
  obtain ⟨k', x', y', c'⟩ := b
  constructor
  · intro h
    simp only [sameN, Bool.and_eq_true, beq_iff_eq] at h
    obtain ⟨h1, h2, h3, h4⟩ := h
    rw [h1, ba_toList h2, ba_toList h3, same_eq h4]
  · intro h
    injection h with h1 h2 h3 h4
    subst h1; subst h2; subst h3; subst h4
    simp [sameN, same_refl]
/-- Where a node's like stands first among those seen. -/
def firstAt (seen : List Nd) (n : Nd) : Nat := seen.findIdx fun s => sameN s n
def seeN (seen : List Nd) (n : Nd) : List Nd := if firstAt seen n = seen.length then seen ++ [n] else seen
/-- A row of nodes' numbers, and which nodes have been seen behind it. -/
def markL : List Nd → List Nd → List Nat × List Nd
  | seen, [] => ([], seen)
  | seen, n :: L => (firstAt seen n :: (markL (seeN seen n) L).1, (markL (seeN seen n) L).2)
def marksF : List Nd → F → List (List Nat)
  | _, .nil => []
  | seen, .cons k x y c r => (markL seen (nodes (one k x y c))).1 :: marksF (markL seen (nodes (one k x y c))).2 r
theorem markL_len : ∀ (L seen : List Nd), (markL seen L).1.length = L.length
  | [], _ => rfl
  | n :: L, seen => by simp only [markL, List.length_cons, markL_len L]
theorem seeN_len (seen : List Nd) (n : Nd) : (seeN seen n).length ≤ seen.length + 1 := by
  unfold seeN
  split
  · simp
  · omega
theorem seen_len : ∀ (L seen : List Nd), (markL seen L).2.length ≤ seen.length + L.length
  | [], _ => Nat.le_refl _
  | n :: L, seen => by
    have h1 := seen_len L (seeN seen n)
    have h2 := seeN_len seen n
    simp only [markL, List.length_cons]
    omega
theorem firstAt_is {seen : List Nd} {n : Nd} {a : Nat} (ha : a ≤ seen.length) (h : ∀ b, b < a → ∀ s, seen[b]? = some s → sameN s n = false) (h' : a = seen.length ∨ ∃ s, seen[a]? = some s ∧ sameN s n = true) : firstAt seen n = a := by
  unfold firstAt
  rcases h' with rfl | ⟨s, hs, ht⟩
  · rw [List.findIdx_eq_length]
    intro s hs
    obtain ⟨b, hb, e⟩ := List.getElem_of_mem hs
    exact h b hb s (by rw [List.getElem?_eq_getElem hb, e])
  · have hlt := (List.getElem?_eq_some_iff.1 hs).1
    rw [List.findIdx_eq hlt]
    refine ⟨?_, fun b hb => ?_⟩
    · rw [(List.getElem?_eq_some_iff.1 hs).2]; exact ht
    · exact h b hb _ (List.getElem?_eq_getElem (by omega))
theorem seeN_at (seen : List Nd) (n : Nd) : (seeN seen n)[firstAt seen n]? = some n := by
  unfold seeN
  by_cases h : firstAt seen n = seen.length
  · rw [if_pos h, h]; simp
  · rw [if_neg h]
    have hlt : firstAt seen n < seen.length := Nat.lt_of_le_of_ne List.findIdx_le_length h
    have ht : sameN (seen[firstAt seen n]'hlt) n = true := List.findIdx_getElem (w := hlt)
    rw [List.getElem?_eq_getElem hlt, sameN_iff.1 ht]
theorem seeN_nodup {seen : List Nd} {n : Nd} (h : seen.Nodup) : (seeN seen n).Nodup := by
  unfold seeN
  by_cases hl : firstAt seen n = seen.length
  · rw [if_pos hl, List.nodup_append]
    refine ⟨h, by simp, fun a ha b hb e => ?_⟩
    rw [List.mem_singleton.1 hb] at e
    subst e
    have := (List.findIdx_eq_length.1 hl) a ha
    rw [sameN_iff.2 rfl] at this
    cases this
  · rw [if_neg hl]; exact h
theorem seeN_pre (seen : List Nd) (n : Nd) : seen <+: seeN seen n := by
  unfold seeN
  split
  · exact List.prefix_append _ _
  · exact List.prefix_refl _
theorem markL_pre : ∀ (L seen : List Nd), seen <+: (markL seen L).2
  | [], _ => List.prefix_refl _
  | n :: L, seen => (seeN_pre seen n).trans (markL_pre L (seeN seen n))
theorem markL_nodup : ∀ (L seen : List Nd), seen.Nodup → (markL seen L).2.Nodup
  | [], _, h => h
  | n :: L, seen, h => markL_nodup L (seeN seen n) (seeN_nodup h)
theorem pre_at {l m : List Nd} (h : l <+: m) {i : Nat} {n : Nd} (hi : l[i]? = some n) : m[i]? = some n := by
  obtain ⟨t, rfl⟩ := h
  rw [List.getElem?_append_left (List.getElem?_eq_some_iff.1 hi).1, hi]
/-- What a number says: which node it was that was seen. -/
theorem markL_at : ∀ (L seen : List Nd) (i : Nat) (n : Nd) (q : Nat), L[i]? = some n → (markL seen L).1[i]? = some q → (markL seen L).2[q]? = some n
  | [], _, i, n, q, h, _ => by simp at h
  | m :: L, seen, 0, n, q, h, hq => by
    simp only [List.getElem?_cons_zero, Option.some.injEq, markL] at h hq
    subst h; subst hq
    exact pre_at (markL_pre L _) (seeN_at seen m)
  | m :: L, seen, i + 1, n, q, h, hq => markL_at L (seeN seen m) i n q (by simpa using h) (by simpa [markL] using hq)
/-- Two rows, one behind the other: nodes have one number just if they are the same. -/
theorem marks_alike {L M : List Nd} {i j p q : Nat} {a b : Nd} (ha : L[i]? = some a) (hb : M[j]? = some b) (hp : (markL [] L).1[i]? = some p) (hq : (markL (markL [] L).2 M).1[j]? = some q) : (p = q) ↔ a = b := by
  have h1 := pre_at (markL_pre M (markL [] L).2) (markL_at L [] i a p ha hp)
  have h2 := markL_at M (markL [] L).2 j b q hb hq
  have hn := markL_nodup M (markL [] L).2 (markL_nodup L [] List.nodup_nil)
  constructor
  · intro e
    subst e
    exact Option.some.inj (h1.symm.trans h2)
  · intro e
    subst e
    obtain ⟨l1, e1⟩ := List.getElem?_eq_some_iff.1 h1
    obtain ⟨l2, e2⟩ := List.getElem?_eq_some_iff.1 h2
    exact (List.getElem_inj hn).1 (e1.trans e2.symm)
end Go.Proofs.YtmknghhgcecafaaDoor.Shape

/-
  Layer 10 (shape): a Plan's rows in memory: its nodes, parents, sizes, and the rows of its Kids' places.
-/
namespace Go.Proofs.YtmknghhgcecafaaDoor.Shape
open Go.ChangeShapes Go.WideShapes Go.ChangeAt Go.RowKit Mem Tree
set_option linter.unusedVariables false

theorem int_info : (Tryd.prog.info? 3).map (fun i => (i.zero, i.size, i.bytes)) = some (some (.int .i64 0), 1, 8) := by kernel_rfl
theorem ints_info : (Tryd.prog.info? 27).map (fun i => (i.zero, i.size, i.bytes)) = some (some (.slice none 0 0), 1, 24) := by kernel_rfl

abbrev iv (z : Int) : Value := .int .i64 z
abbrev nv (q : Nat) : Value := .int .i64 (q : Int)
/-- A row of integers. -/
abbrev rowI (v : Value) (zs : List Int) : Thing := rowT 3 1 v zs.length (zs.map iv)
/-- Rows of places, each a row of its own. -/
def inn : List Value → List (List Nat) → List Thing
  | v :: vs, l :: ks => rowT 3 1 v l.length (l.map nv) :: inn vs ks
  | _, _ => []
theorem inn_len : ∀ (vs : List Value) (ks : List (List Nat)), vs.length = ks.length → (inn vs ks).length = ks.length
  | [], [], _ => rfl
  | [], _ :: _, h => by simp at h
  | _ :: _, [], h => by simp at h
  | v :: vs, l :: ks, h => by
    simp only [inn, List.length_cons]
    rw [inn_len vs ks (by simpa using h)]
theorem inn_at : ∀ {vs : List Value} {ks : List (List Nat)} {i : Nat} {v : Value} {l : List Nat}, vs[i]? = some v → ks[i]? = some l → (inn vs ks)[i]? = some (rowT 3 1 v l.length (l.map nv))
  | [], _, i, _, _, h, _ => by simp at h
  | _ :: _, [], i, _, _, _, h => by simp at h
  | u :: vs, m :: ks, 0, v, l, h, h' => by
    simp only [List.getElem?_cons_zero, Option.some.injEq] at h h'
    subst h; subst h'
    rfl
  | u :: vs, m :: ks, i + 1, v, l, h, h' => by
    simp only [List.getElem?_cons_succ] at h h'
    simpa [inn] using inn_at h h'
theorem inn_set : ∀ (vs : List Value) (ks : List (List Nat)) (i : Nat) (v : Value) (l : List Nat), vs.length = ks.length → (inn vs ks).set i (rowT 3 1 v l.length (l.map nv)) = inn (vs.set i v) (ks.set i l)
  | [], [], _, _, _, _ => rfl
  | [], _ :: _, _, _, _, h => by simp at h
  | _ :: _, [], _, _, _, h => by simp at h
  | u :: vs, m :: ks, 0, v, l, _ => rfl
  | u :: vs, m :: ks, i + 1, v, l, h => by
    simp only [inn, List.set_cons_succ]
    rw [inn_set vs ks i v l (by simpa using h)]
theorem inn_snoc : ∀ (vs : List Value) (ks : List (List Nat)) (v : Value) (l : List Nat), vs.length = ks.length → inn vs ks ++ [rowT 3 1 v l.length (l.map nv)] = inn (vs ++ [v]) (ks ++ [l])
  | [], [], _, _, _ => rfl
  | [], _ :: _, _, _, h => by simp at h
  | _ :: _, [], _, _, h => by simp at h
  | u :: vs, m :: ks, v, l, h => by
    simp only [inn, List.cons_append]
    rw [inn_snoc vs ks v l (by simpa using h)]

/-- A Plan's rows; us: what the row of rows holds, vs: where the rows lie (the same, but for one that has just grown). -/
def planR (vN vP vS vK : Value) (nps : List (Nd × Value)) (ps zs : List Int) (us vs : List Value) (ks : List (List Nat)) : List Thing :=
  [rowT 24 4 vN nps.length (nps.flatMap ndC), rowI vP ps, rowI vS zs, rowT 27 1 vK us.length us] ++ inn vs ks
def boxR (T : TypeId) (g : Nat) (vN vP vS vK : Value) (R : List Thing) : List Thing := boxT T g [vN, vP, vS, vK] :: R

section
variable {W : World} {B : Nat} {R : List Thing}
theorem node_at {j g n c : Nat} {nps : List (Nd × Value)} (h : Fam W B R) (hj : R[j]? = some (rowT 24 4 (.slice (some ⟨g, 0, none⟩) n c) n (nps.flatMap ndC))) {i : Nat} {nd : Nd} {s : Value} (hi : nps[i]? = some (nd, s)) :
    W.cell? ⟨g, i * 4, none⟩ = some (.int .i64 nd.k) ∧ W.cell? ⟨g, i * 4 + 1, none⟩ = some (.string nd.x) ∧ W.cell? ⟨g, i * 4 + 2, none⟩ = some (.string nd.y) ∧ W.cell? ⟨g, i * 4 + 3, none⟩ = some s := by
  have H : ∀ r u, (ndC (nd, s))[r]? = some u → W.cell? ⟨g, i * 4 + r, none⟩ = some u := fun r u hr => h.cell hj (MemT.flat_at ndC_len nps i (nd, s) hi r u hr)
  exact ⟨H 0 _ rfl, H 1 _ rfl, H 2 _ rfl, H 3 _ rfl⟩
theorem box_at {j g : Nat} {T : TypeId} {a b c d : Value} (h : Fam W B R) (hj : R[j]? = some (boxT T g [a, b, c, d])) :
    (W.cell? ⟨g, 0, none⟩ = some a ∧ W.cell? ⟨g, 1, none⟩ = some b ∧ W.cell? ⟨g, 2, none⟩ = some c ∧ W.cell? ⟨g, 3, none⟩ = some d) ∧ W.frozen? ⟨g, 0, none⟩ = false ∧ W.frozen? ⟨g, 1, none⟩ = false ∧ W.frozen? ⟨g, 2, none⟩ = false ∧ W.frozen? ⟨g, 3, none⟩ = false :=
  ⟨⟨h.cell hj rfl, h.cell hj rfl, h.cell hj rfl, h.cell hj rfl⟩, h.frz hj 0, h.frz hj 1, h.frz hj 2, h.frz hj 3⟩
end

/-! ### The reference's loops -/
/-- Which parents are told when nodes up to i and j Kids of node i have been gone through. -/
def told (K : List (List Nat)) (i j q : Nat) : Prop := (∃ (a : Nat) (l : List Nat), a < i ∧ K[a]? = some l ∧ q ∈ l) ∨ ∃ l, K[i]? = some l ∧ q ∈ l.take j
structure ParIs (P : List Int) (K : List (List Nat)) (i j : Nat) (ps : List Int) : Prop where
  len : ps.length = P.length
  yes : ∀ q, q < P.length → told K i j q → ps[q]? = P[q]?
  no : ∀ q, q < P.length → ¬ told K i j q → ps[q]? = some (-1)
theorem ParIs.start (P : List Int) (K : List (List Nat)) : ParIs P K 0 0 (List.replicate P.length (-1)) :=
  ⟨List.length_replicate .., fun q hq h => by
    rcases h with ⟨a, l, h, _⟩ | ⟨l, _, h⟩
    · omega
    · simp at h, fun q hq _ => by rw [List.getElem?_replicate, if_pos hq]⟩
theorem ParIs.step {P : List Int} {K : List (List Nat)} {i j q : Nat} {ps : List Int} {l : List Nat} (h : ParIs P K i j ps) (hl : K[i]? = some l) (hq : l[j]? = some q) (hP : P[q]? = some (i : Int)) : ParIs P K i (j + 1) (ps.set q (i : Int)) := by
  have hq' : q < P.length := (List.getElem?_eq_some_iff.1 hP).1
  refine ⟨by rw [List.length_set, h.len], fun r hr ht => ?_, fun r hr ht => ?_⟩
  · by_cases e : q = r
    · subst e
      rw [List.getElem?_set_self (by rw [h.len]; exact hq'), hP]
    · rw [List.getElem?_set_ne e]
      refine h.yes r hr ?_
      rcases ht with ht | ⟨l', hl', hm⟩
      · exact .inl ht
      · rw [hl] at hl'
        injection hl' with hl'
        subst hl'
        rw [List.take_add_one, hq] at hm
        rcases List.mem_append.1 hm with hm | hm
        · exact .inr ⟨l, hl, hm⟩
        · simp at hm; exact absurd hm.symm e
  · have e : q ≠ r := fun e => ht (.inr ⟨l, hl, by rw [List.take_add_one, hq]; subst e; simp⟩)
    rw [List.getElem?_set_ne e]
    refine h.no r hr fun ht' => ht ?_
    rcases ht' with ht' | ⟨l', hl', hm⟩
    · exact .inl ht'
    · rw [hl] at hl'
      injection hl' with hl'
      subst hl'
      exact .inr ⟨l, hl, by rw [List.take_add_one]; exact List.mem_append_left _ hm⟩
theorem ParIs.next {P : List Int} {K : List (List Nat)} {i : Nat} {ps : List Int} {l : List Nat} (h : ParIs P K i l.length ps) (hl : K[i]? = some l) : ParIs P K (i + 1) 0 ps := by
  have ht : ∀ q, told K (i + 1) 0 q ↔ told K i l.length q := fun q => by
    constructor
    · rintro (⟨a, m, ha, hm, hq⟩ | ⟨m, _, hq⟩)
      · by_cases e : a = i
        · subst e
          rw [hl] at hm
          injection hm with hm
          subst hm
          exact .inr ⟨l, hl, by rw [List.take_length]; exact hq⟩
        · exact .inl ⟨a, m, by omega, hm, hq⟩
      · simp at hq
    · rintro (⟨a, m, ha, hm, hq⟩ | ⟨m, hm, hq⟩)
      · exact .inl ⟨a, m, by omega, hm, hq⟩
      · rw [hl] at hm
        injection hm with hm
        subst hm
        exact .inl ⟨i, l, by omega, hl, by rw [List.take_length] at hq; exact hq⟩
  exact ⟨h.len, fun q hq a => h.yes q hq ((ht q).1 a), fun q hq a => h.no q hq fun b => a ((ht q).2 b)⟩
/-- All have been gone through. -/
theorem ParIs.all {k : Int} {x y : ByteArray} {c : F} {ps : List Int} (h : ParIs (parF (-1) 0 (one k x y c)) (kidF 0 (one k x y c)) (one k x y c).size 0 ps) : ps = parF (-1) 0 (one k x y c) := by
  apply List.ext_getElem?
  intro q
  by_cases hq : q < (parF (-1) 0 (one k x y c)).length
  · by_cases hq0 : q = 0
    · subst hq0
      rw [h.no 0 hq]
      · rfl
      · rintro (⟨a, l, _, hl, hm⟩ | ⟨l, _, hm⟩)
        · have := (par_at _ (-1) 0 a 0 l hl hm).2.1; omega
        · simp at hm
    · refine h.yes q hq ?_
      rcases par_has (one k x y c) 0 q (Nat.zero_le _) (by rw [parF_len] at hq; omega) with h' | ⟨i, l, hl, hm⟩
      · simp [one, places] at h'; exact absurd h' hq0
      · exact .inl ⟨i, l, by have := (List.getElem?_eq_some_iff.1 hl).1; rwa [kidF_len] at this, hl, hm⟩
  · rw [List.getElem?_eq_none (by rw [h.len]; omega), List.getElem?_eq_none (by omega)]
/-- The rows of Kids' places so far. -/
def soFar (K : List (List Nat)) (i j : Nat) : List (List Nat) := K.mapIdx fun a l => if a < i then l else if a = i then l.take j else []
theorem soFar_len (K : List (List Nat)) (i j : Nat) : (soFar K i j).length = K.length := by simp [soFar]
theorem soFar_start (K : List (List Nat)) : soFar K 0 0 = List.replicate K.length [] := by
  apply List.ext_getElem?
  intro q
  unfold soFar
  rw [List.getElem?_mapIdx, List.getElem?_replicate]
  by_cases h : q < K.length
  · rw [List.getElem?_eq_getElem h, if_pos h]
    simp
  · rw [List.getElem?_eq_none (by omega), if_neg h]; rfl
theorem soFar_at {K : List (List Nat)} {i j : Nat} {l : List Nat} (h : K[i]? = some l) : (soFar K i j)[i]? = some (l.take j) := by
  unfold soFar
  rw [List.getElem?_mapIdx, h]
  simp
theorem soFar_step {K : List (List Nat)} {i j q : Nat} {l : List Nat} (h : K[i]? = some l) (hq : l[j]? = some q) : (soFar K i j).set i (l.take j ++ [q]) = soFar K i (j + 1) := by
  apply List.ext_getElem?
  intro a
  rw [List.getElem?_set, soFar_len]
  have hi := (List.getElem?_eq_some_iff.1 h).1
  by_cases e : i = a
  · subst e
    rw [if_pos rfl, if_pos hi, soFar_at h, List.take_add_one, hq]; rfl
  · rw [if_neg e]
    unfold soFar
    rw [List.getElem?_mapIdx, List.getElem?_mapIdx]
    have : ¬ a = i := fun h => e h.symm
    simp [this]
theorem soFar_next {K : List (List Nat)} {i : Nat} {l : List Nat} (h : K[i]? = some l) : soFar K i l.length = soFar K (i + 1) 0 := by
  apply List.ext_getElem?
  intro a
  unfold soFar
  rw [List.getElem?_mapIdx, List.getElem?_mapIdx]
  cases ha : K[a]? with
  | none => rfl
  | some m =>
    simp only [Option.map_some, Option.some.injEq]
    by_cases e : a = i
    · subst e
      rw [h] at ha
      injection ha with ha
      subst ha
      simp
    · by_cases h1 : a < i
      · rw [if_pos h1, if_pos (by omega)]
      · rw [if_neg h1, if_neg e, if_neg (by omega)]
        by_cases h2 : a = i + 1
        · rw [if_pos h2]; simp
        · rw [if_neg h2]
theorem soFar_all (K : List (List Nat)) (i : Nat) (h : K.length ≤ i) : soFar K i 0 = K := by
  apply List.ext_getElem?
  intro a
  unfold soFar
  rw [List.getElem?_mapIdx]
  cases ha : K[a]? with
  | none => rfl
  | some m =>
    have := (List.getElem?_eq_some_iff.1 ha).1
    simp only [Option.map_some, if_pos (show a < i by omega)]
end Go.Proofs.YtmknghhgcecafaaDoor.Shape
