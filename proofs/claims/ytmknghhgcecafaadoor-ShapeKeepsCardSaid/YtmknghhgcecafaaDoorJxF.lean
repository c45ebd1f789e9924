import Derived.Test.YtmknghhgcecafaaDoorJxE
import Derived.Test.YtmknghhgcecafaaDoorJxC

/-
  Plain mathematics of layer 10 (shape): a tree's places, told down its first Kids first, then Kid by Kid. Nothing of the program is imported.
-/
namespace Go.Proofs.YtmknghhgcecafaaDoor.Shape
open Tree
set_option linter.unusedVariables false

/-- The first j trees of a row. -/
def upto : Nat → F → F
  | 0, _ => .nil
  | _ + 1, .nil => .nil
  | j + 1, .cons k x y c r => .cons k x y c (upto j r)
theorem upto_nil : ∀ j, upto j .nil = .nil
  | 0 => rfl
  | _ + 1 => rfl
theorem upto_all : ∀ (j : Nat) (f : F), f.len ≤ j → upto j f = f
  | j, .nil, _ => upto_nil j
  | 0, .cons _ _ _ _ r, h => by simp [F.len] at h
  | j + 1, .cons k x y c r, h => by
    simp only [upto]
    rw [upto_all j r (by simp only [F.len] at h; omega)]
theorem upto_step : ∀ (j : Nat) (f : F) (k : Int) (x y : ByteArray) (c r : F), f.drop j = .cons k x y c r →
    nodes (upto (j + 1) f) = nodes (upto j f) ++ nodes (one k x y c) ∧ sizF (upto (j + 1) f) = sizF (upto j f) ++ sizF (one k x y c) ∧ (upto (j + 1) f).size = (upto j f).size + (c.size + 1) ∧
    (∀ a, places a (upto (j + 1) f) = places a (upto j f) ++ [a + (upto j f).size]) ∧ (∀ p a, parF p a (upto (j + 1) f) = parF p a (upto j f) ++ parF p (a + (upto j f).size) (one k x y c)) ∧
    (∀ a, kidF a (upto (j + 1) f) = kidF a (upto j f) ++ kidF (a + (upto j f).size) (one k x y c))
  | j, .nil, k, x, y, c, r, h => by rw [F.drop_nil] at h; cases h
  | 0, .cons k' x' y' c' r', k, x, y, c, r, h => by
    simp only [F.drop, F.cons.injEq] at h
    obtain ⟨rfl, rfl, rfl, rfl, rfl⟩ := h
    refine ⟨?_, ?_, ?_, fun a => ?_, fun p a => ?_, fun a => ?_⟩
    all_goals simp [upto, nodes, sizF, F.size, places, parF, kidF, one]
  | j + 1, .cons k' x' y' c' r', k, x, y, c, r, h => by
    obtain ⟨h1, h2, h3, h4, h5, h6⟩ := upto_step j r' k x y c r h
    refine ⟨?_, ?_, ?_, fun a => ?_, fun p a => ?_, fun a => ?_⟩
    · simp only [upto, nodes, List.cons_append, List.append_assoc] at h1 ⊢
      rw [h1]
    · simp only [upto, sizF, List.cons_append, List.append_assoc] at h2 ⊢
      rw [h2]
    · simp only [upto, F.size] at h3 ⊢
      omega
    · have := h4 (a + 1 + c'.size)
      simp only [upto, places, List.cons_append, F.size] at this ⊢
      rw [this]
      simp only [List.cons.injEq, List.append_cancel_left_eq, true_and]
      exact ⟨by omega, trivial⟩
    · have := h5 p (a + 1 + c'.size)
      simp only [upto, parF, List.cons_append, List.append_assoc, F.size] at this ⊢
      rw [this, show a + 1 + c'.size + (upto j r').size = a + (c'.size + (upto j r').size + 1) by omega]
    · have := h6 (a + 1 + c'.size)
      simp only [upto, kidF, List.cons_append, List.append_assoc, F.size] at this ⊢
      rw [this, show a + 1 + c'.size + (upto j r').size = a + (c'.size + (upto j r').size + 1) by omega]
theorem upto_places : ∀ (j : Nat) (f : F) (a : Nat), places a (upto j f) = (places a f).take j
  | 0, f, a => by simp [upto, places]
  | j + 1, .nil, a => by simp [upto, places]
  | j + 1, .cons k x y c r, a => by
    simp only [upto, places, List.take_succ_cons]
    rw [upto_places j r]

theorem upto_le : ∀ (j : Nat) (f : F), (upto j f).size ≤ f.size
  | 0, f => Nat.zero_le _
  | _ + 1, .nil => Nat.le_refl _
  | j + 1, .cons k x y c r => by have := upto_le j r; simp only [upto, F.size]; omega
/-- Down the first Kids. -/
def dn : Nat → F → F
  | 0, f => f
  | _ + 1, .nil => .nil
  | d + 1, .cons _ _ _ c _ => dn d c
theorem dn_nil : ∀ d, dn d .nil = .nil
  | 0 => rfl
  | _ + 1 => rfl
theorem dn_succ : ∀ (d : Nat) (f : F) (k : Int) (x y : ByteArray) (c r : F), dn d f = .cons k x y c r → dn (d + 1) f = c
  | 0, f, k, x, y, c, r, h => by
    simp only [dn] at h
    subst h
    rfl
  | d + 1, .nil, k, x, y, c, r, h => by cases h
  | d + 1, .cons _ _ _ c' _, k, x, y, c, r, h => dn_succ d c' k x y c r h
/-- The first d nodes on the way. -/
def spn : Nat → F → List Nd
  | 0, _ => []
  | _ + 1, .nil => []
  | d + 1, .cons k x y c _ => ⟨k, x, y, c⟩ :: spn d c
theorem spn_snoc : ∀ (d : Nat) (f : F) (k : Int) (x y : ByteArray) (c r : F), dn d f = .cons k x y c r → spn (d + 1) f = spn d f ++ [⟨k, x, y, c⟩] ∧ (spn d f).length = d
  | 0, f, k, x, y, c, r, h => by
    simp only [dn] at h
    subst h
    exact ⟨rfl, rfl⟩
  | d + 1, .nil, k, x, y, c, r, h => by cases h
  | d + 1, .cons k' x' y' c' r', k, x, y, c, r, h => by
    obtain ⟨h1, h2⟩ := spn_snoc d c' k x y c r h
    refine ⟨?_, by simp [spn, h2]⟩
    rw [show spn (d + 1 + 1) (.cons k' x' y' c' r') = ⟨k', x', y', c'⟩ :: spn (d + 1) c' from rfl, h1]
    rfl
theorem dn_size : ∀ (d : Nat) (f : F), (dn d f).size + d ≤ f.size ∨ dn d f = .nil
  | 0, f => .inl (Nat.le_refl _)
  | d + 1, .nil => .inr rfl
  | d + 1, .cons k x y c r => by
    rcases dn_size d c with h | h
    · exact .inl (by simp only [dn, F.size]; omega)
    · exact .inr h
/-- The parent's place of the node at depth d. -/
def pl (p : Int) (a : Nat) (d : Nat) : Int := if d = 0 then p else (a : Int) + d - 1
/-- What is told of a tree f at place a (its parent's: p), when the first d nodes on the way down stand there and all below them up to the first Kid's. -/
def tN (d j : Nat) (f : F) : List Nd := spn d f ++ nodes (upto j (dn d f))
def tP (p : Int) (a d j : Nat) (f : F) : List Int := (List.range d).map (pl p a) ++ parF (pl p a d) (a + d) (upto j (dn d f))
def tS (d j : Nat) (f : F) : List Int := List.replicate d 0 ++ sizF (upto j (dn d f))
def tK (a d j : Nat) (f : F) : List (List Nat) := List.replicate d [] ++ kidF (a + d) (upto j (dn d f))
/-- The same, and m of the Kids of the last one on the way have their places told. -/
def tKm (a d j m : Nat) (f : F) : List (List Nat) := List.replicate d [] ++ (places (a + d + 1) (dn (d + 1) f)).take m :: kidF (a + d + 1) (upto j (dn (d + 1) f))
section
variable {p : Int} {a d j m : Nat} {f : F} {k : Int} {x y : ByteArray} {c r : F}
/-- All has been told. -/
theorem t_end : tN 0 1 (one k x y c) = nodes (one k x y c) ∧ tP p a 0 1 (one k x y c) = parF p a (one k x y c) ∧ tS 0 1 (one k x y c) = sizF (one k x y c) ∧ tK a 0 1 (one k x y c) = kidF a (one k x y c) := by
  refine ⟨?_, ?_, ?_, ?_⟩ <;> simp [tN, tP, tS, tK, spn, dn, one, upto, pl]
theorem t_one : tN 1 0 (one k x y c) = [⟨k, x, y, c⟩] ∧ tP p a 1 0 (one k x y c) = [p] ∧ tS 1 0 (one k x y c) = [0] ∧ tK a 1 0 (one k x y c) = [[]] := by
  refine ⟨?_, ?_, ?_, ?_⟩ <;> simp [tN, tP, tS, tK, spn, one, upto, pl, nodes, parF, sizF, kidF]
/-- One more node on the way down. -/
theorem t_down (h : dn d f = .cons k x y c r) : tN d 0 f ++ [⟨k, x, y, c⟩] = tN (d + 1) 0 f ∧ tP p a d 0 f ++ [pl p a d] = tP p a (d + 1) 0 f ∧ tS d 0 f ++ [0] = tS (d + 1) 0 f ∧ tK a d 0 f ++ [[]] = tK a (d + 1) 0 f := by
  refine ⟨?_, ?_, ?_, ?_⟩
  · simp only [tN, upto, nodes, List.append_nil]; exact (spn_snoc d f k x y c r h).1.symm
  · simp only [tP, upto, parF, List.append_nil, List.range_succ, List.map_append]; rfl
  · simp only [tS, upto, sizF, List.append_nil]; exact List.replicate_succ'.symm
  · simp only [tK, upto, kidF, List.append_nil]; exact List.replicate_succ'.symm
/-- The end of the way: no Kid. -/
theorem t_bottom (h : dn d f = .nil) : tN d 0 f = tN d 1 f ∧ tP p a d 0 f = tP p a d 1 f ∧ tS d 0 f = tS d 1 f ∧ tK a d 0 f = tK a d 1 f := by
  refine ⟨?_, ?_, ?_, ?_⟩ <;> simp [tN, tP, tS, tK, h, upto]
/-- How many there are. -/
theorem t_len (h : dn d f = .cons k x y c r) (j : Nat) : (tN (d + 1) j f).length = d + 1 + (upto j c).size ∧ (tP p a (d + 1) j f).length = d + 1 + (upto j c).size ∧ (tS (d + 1) j f).length = d + 1 + (upto j c).size ∧ ∀ m, (tKm a d j m f).length = d + 1 + (upto j c).size := by
  have e := dn_succ d f k x y c r h
  have h1 := (spn_snoc d f k x y c r h)
  refine ⟨?_, ?_, ?_, fun m => ?_⟩
  · simp only [tN, List.length_append, nodes_len, h1.1, h1.2, e, List.length_cons, List.length_nil]
  · simp only [tP, List.length_append, List.length_map, List.length_range, parF_len, e]
  · simp only [tS, List.length_append, List.length_replicate, sizF_len, e]
  · simp only [tKm, List.length_append, List.length_replicate, List.length_cons, kidF_len, e]; omega
/-- The last one on the way. -/
theorem t_at (h : dn d f = .cons k x y c r) (j : Nat) (L0 : List Nd) : (L0 ++ tN (d + 1) j f)[L0.length + d]? = some ⟨k, x, y, c⟩ := by
  obtain ⟨h1, h2⟩ := spn_snoc d f k x y c r h
  rw [List.getElem?_append_right (by omega), Nat.add_sub_cancel_left]
  simp only [tN, h1, List.append_assoc]
  rw [List.getElem?_append_right (by omega), h2, Nat.sub_self]
  rfl
theorem tKm_at (j m : Nat) (h : dn d f = .cons k x y c r) (k0 : List (List Nat)) (hk : k0.length = a) : (k0 ++ tKm a d j m f)[a + d]? = some ((places (a + d + 1) c).take m) := by
  subst hk
  rw [List.getElem?_append_right (by omega), Nat.add_sub_cancel_left]
  simp only [tKm]
  rw [List.getElem?_append_right (by simp), List.length_replicate, Nat.sub_self, dn_succ d f k x y c r h]
  rfl
theorem tKm_set {q : Nat} (j m : Nat) (h : dn d f = .cons k x y c r) (k0 : List (List Nat)) (hk : k0.length = a) (hq : (places (a + d + 1) c)[m]? = some q) : (k0 ++ tKm a d j m f).set (a + d) ((places (a + d + 1) c).take m ++ [q]) = k0 ++ tKm a d j (m + 1) f := by
  subst hk
  rw [List.set_append_right _ _ (by omega), Nat.add_sub_cancel_left]
  simp only [tKm]
  rw [List.set_append_right _ _ (by simp), List.length_replicate, Nat.sub_self, dn_succ d f k x y c r h, List.take_add_one, hq]
  rfl
/-- Ahead of its Kids: the first one's nodes stand there. -/
theorem tK_start : tK a (d + 1) 1 f = tKm a d 1 0 f := by
  simp only [tK, tKm, List.take_zero, List.replicate_succ', List.append_assoc, Nat.add_assoc]
  rfl
theorem places_at {j : Nat} (b : Nat) (h : c.drop j = .cons k x y f r) : (places b c)[j]? = some (b + (upto j c).size) := by
  have h1 := (upto_step j c k x y f r h).2.2.2.1 b
  rw [upto_places, upto_places] at h1
  rw [List.take_add_one] at h1
  have h2 := List.append_cancel_left h1
  cases hp : (places b c)[j]? with
  | none => rw [hp] at h2; cases h2
  | some q => rw [hp] at h2; injection h2 with h2 _; rw [h2]
/-- One more Kid of the last one on the way. -/
theorem t_kid {k' : Int} {x' y' : ByteArray} {c' r' : F} (hd : dn d f = .cons k x y c r) (h : c.drop j = .cons k' x' y' c' r') (m : Nat) : tN (d + 1) (j + 1) f = tN (d + 1) j f ++ nodes (one k' x' y' c') ∧ tP p a (d + 1) (j + 1) f = tP p a (d + 1) j f ++ parF ((a + d : Nat) : Int) (a + (d + 1 + (upto j c).size)) (one k' x' y' c') ∧
    tS (d + 1) (j + 1) f = tS (d + 1) j f ++ sizF (one k' x' y' c') ∧ tKm a d (j + 1) m f = tKm a d j m f ++ kidF (a + (d + 1 + (upto j c).size)) (one k' x' y' c') := by
  have e := dn_succ d f k x y c r hd
  obtain ⟨h1, h2, h3, h4, h5, h6⟩ := upto_step j _ k' x' y' c' r' h
  refine ⟨?_, ?_, ?_, ?_⟩
  · simp only [tN, e, h1, List.append_assoc]
  · simp only [tP, e, h5, List.append_assoc]
    congr 3
    · unfold pl; rw [if_neg (by omega)]; omega
    · omega
  · simp only [tS, e, h2, List.append_assoc]
  · simp only [tKm, e, h6, List.append_assoc, List.cons_append]
    rw [show a + d + 1 + (upto j c).size = a + (d + 1 + (upto j c).size) by omega]
/-- All Kids stand there: one up. -/
theorem t_up {z0 : List Int} {k0 : List (List Nat)} (hd : dn d f = .cons k x y c r) (j m : Nat) (hj : c.len ≤ j) (hm : c.len ≤ m) : tN (d + 1) j f = tN d 1 f ∧ tP p a (d + 1) j f = tP p a d 1 f ∧ (z0 ++ tS (d + 1) j f).set (z0.length + d) (((c.size + 1 : Nat) : Int)) = z0 ++ tS d 1 f ∧ tKm a d j m f = tK a d 1 f := by
  have e := dn_succ d f k x y c r hd
  obtain ⟨h1, h2⟩ := spn_snoc d f k x y c r hd
  refine ⟨?_, ?_, ?_, ?_⟩
  · simp only [tN, h1, e, hd, upto_all j c hj, upto, nodes, List.append_nil, List.append_assoc]; rfl
  · simp only [tP, e, hd, upto_all j c hj, upto, parF, List.append_nil, List.range_succ, List.map_append, List.append_assoc]
    congr 1
    show pl p a d :: parF (pl p a (d + 1)) (a + (d + 1)) c = _
    congr 2
    unfold pl; rw [if_neg (by omega)]; omega
  · rw [List.set_append_right _ _ (by omega), Nat.add_sub_cancel_left]
    simp only [tS, e, hd, upto_all j c hj, upto, sizF, List.append_nil, List.replicate_succ', List.append_assoc]
    rw [List.set_append_right _ _ (by simp), List.length_replicate, Nat.sub_self]
    rfl
  · simp only [tKm, tK, e, hd, upto_all j c hj, upto, kidF, List.append_nil]
    rw [List.take_of_length_le (by rw [places_len]; exact hm)]
end
theorem dn_some : ∀ (d : Nat) (f : F) (i : Nat), i ≤ d → dn d f ≠ .nil → dn i f ≠ .nil
  | 0, f, i, hi, h => by rw [Nat.le_zero.1 hi]; exact h
  | d + 1, .nil, i, hi, h => absurd (dn_nil _) h
  | d + 1, .cons k x y c r, 0, _, _ => by simp [dn]
  | d + 1, .cons k x y c r, i + 1, hi, h => dn_some d c i (by omega) h
theorem dn_cons {d : Nat} {f : F} (h : dn d f ≠ .nil) : ∃ k x y c r, dn d f = .cons k x y c r := by
  cases hf : dn d f with
  | nil => exact absurd hf h
  | cons k x y c r => exact ⟨k, x, y, c, r, rfl⟩
end Go.Proofs.YtmknghhgcecafaaDoor.Shape

/-
  Layer 10 (shape): the program's own Plan while it is made: a variable, its rows, and what else stands beside it and isn't touched.
-/
namespace Go.Proofs.YtmknghhgcecafaaDoor.Shape
open Go.ChangeShapes Go.WideShapes Go.ChangeAt Go.RowKit Mem Tree
set_option linter.unusedVariables false

theorem blk_lt {w : World} {b : Nat} {o : Obj} (h : w.heap[b]? = some o) : b < w.heap.size := by
  rcases Nat.lt_or_ge b w.heap.size with h1 | h1
  · exact h1
  · rw [Array.getElem?_eq_none h1] at h; cases h
theorem keep_kept {b : Nat} {o : Obj} {w w' : World} {row : Option Nat} (h : w.heap[b]? = some o) (hg : w.grownBy w' row) (hne : some b = none ∨ some b ≠ row) : w'.heap[b]? = some o := by
  rcases hne with hne | hne
  · cases hne
  · rw [hg.block b (blk_lt h) hne]; exact h
/-- A block that is left as it is. -/
def keepT (b : Nat) (o : Obj) : Thing := ⟨some b, fun w => w.heap[b]? = some o, fun w k h hk => (Option.some.inj hk) ▸ blk_lt h, fun w w' row h hg hne => keep_kept h hg hne⟩
/-- All that the Plan in the variable at block g has; us: what the row of rows holds, vs: where the rows lie; X: what else there is. -/
def PR (g : Nat) (vN vP vS vK : Value) (nN : Nat) (cN : List Value) (nP : Nat) (cP : List Value) (nS : Nat) (cS : List Value) (nK : Nat) (us vs : List Value) (ks : List (List Nat)) (X : List Thing) : List Thing :=
  boxT 30 g [vN, vP, vS, vK] :: rowT 24 4 vN nN cN :: rowT 3 1 vP nP cP :: rowT 3 1 vS nS cS :: rowT 27 1 vK nK us :: (inn vs ks ++ X)
/-- What the trees go through lies below, or is left as it is. -/
def Safe (S : Nat → Prop) (B : Nat) (X : List Thing) : Prop := ∀ b, S b → b < B ∨ ∃ o, keepT b o ∈ X
theorem Safe.more {S : Nat → Prop} {B : Nat} {X Y : List Thing} (h : Safe S B X) (hs : ∀ t ∈ X, t ∈ Y) : Safe S B Y := fun b hb => (h b hb).imp id fun ⟨o, ho⟩ => ⟨o, hs _ ho⟩
theorem Safe.lo {B : Nat} {X : List Thing} : Safe (Lo B) B X := fun b hb => .inl hb
theorem Safe.keep {S : Nat → Prop} {B : Nat} {X R R' : List Thing} {w w' : World} (h : Safe S B X) (h1 : Fam w B (R ++ X)) (h2 : Fam w' B (R' ++ X)) (hb : Below B w w') : ∀ b, S b → w'.heap[b]? = w.heap[b]? := fun b hS => by
  rcases h b hS with h | ⟨o, ho⟩
  · exact hb.block b h
  · have e1 : w.heap[b]? = some o := h1.h _ (List.mem_append_right _ ho)
    have e2 : w'.heap[b]? = some o := h2.h _ (List.mem_append_right _ ho)
    rw [e1, e2]
theorem pr_split (g : Nat) (vN vP vS vK : Value) (nN : Nat) (cN : List Value) (nP : Nat) (cP : List Value) (nS : Nat) (cS : List Value) (nK : Nat) (us vs : List Value) (ks : List (List Nat)) (X : List Thing) :
    PR g vN vP vS vK nN cN nP cP nS cS nK us vs ks X = PR g vN vP vS vK nN cN nP cP nS cS nK us vs ks [] ++ X := by
  simp only [PR, List.append_nil, List.cons_append]
/-- The Plan in the variable at g tells the nodes L, parents ps, sizes zs, Kids' places ks; its nodes' Kids go through blocks of S alone. -/
structure PS (w : World) (B : Nat) (S : Nat → Prop) (X : List Thing) (g : Nat) (L : List Nd) (ps zs : List Int) (ks : List (List Nat)) : Prop where
  all : ∃ (vN vP vS vK : Value) (us : List Value) (nps : List (Nd × Value)), Fam w B (PR g vN vP vS vK nps.length (nps.flatMap ndC) ps.length (ps.map iv) zs.length (zs.map iv) us.length us us ks X) ∧ nps.map (·.1) = L ∧ (∀ p ∈ nps, Fs w S p.2 p.1.c) ∧ us.length = ks.length
  safe : Safe S B X
section
variable {w w' : World} {B : Nat} {S : Nat → Prop} {X : List Thing} {g : Nat} {L L' : List Nd} {ps zs ps' zs' : List Int} {ks ks' : List (List Nat)} {t t' : Thing}
theorem PS.fam (h : PS w B S X g L ps zs ks) : ∃ R, Fam w B (R ++ X) := by
  obtain ⟨vN, vP, vS, vK, us, nps, h1, _⟩ := h.all
  rw [pr_split] at h1
  exact ⟨_, h1⟩
theorem PS.keep (h : PS w B S X g L ps zs ks) (h' : PS w' B S X g L' ps' zs' ks') (hb : Below B w w') : ∀ b, S b → w'.heap[b]? = w.heap[b]? := by
  obtain ⟨R, h1⟩ := h.fam
  obtain ⟨R', h2⟩ := h'.fam
  exact h.safe.keep h1 h2 hb
theorem PS.le (h : PS w B S X g L ps zs ks) : B ≤ w.heap.size := by
  obtain ⟨R, h1⟩ := h.fam
  exact h1.B
theorem PS.get (h : PS w B S X g L ps zs ks) (ht : t ∈ X) : t.H w := by
  obtain ⟨R, h1⟩ := h.fam
  exact h1.h _ (List.mem_append_right _ ht)
theorem PS.later (h : PS w B S X g L ps zs ks) (hb : Below w.heap.size w w') : PS w' B S X g L ps zs ks := by
  obtain ⟨vN, vP, vS, vK, us, nps, h1, h2, h3, h4⟩ := h.all
  have h5 := h1.later hb
  have hk : ∀ b, S b → w'.heap[b]? = w.heap[b]? := by
    rw [pr_split] at h1 h5
    exact h.safe.keep h1 h5 (hb.mono h.le)
  exact ⟨⟨vN, vP, vS, vK, us, nps, h5, h2, fun p hp => (h3 p hp).keep hk, h4⟩, h.safe⟩
/-- One more thing beside it, in a new block. -/
theorem PS.add (h : PS w B S X g L ps zs ks) (hb : Below w.heap.size w w') (ht : t.H w') (hn : ∀ k, t.b = some k → w.heap.size ≤ k) : PS w' B S (t :: X) g L ps zs ks := by
  obtain ⟨vN, vP, vS, vK, us, nps, h1, h2, h3, h4⟩ := h.all
  have h5 := h1.snoc (grown_none hb) ht hn
  have hk : ∀ b, S b → w'.heap[b]? = w.heap[b]? := by
    rw [pr_split] at h1
    have h5' := h1.later hb
    exact h.safe.keep h1 h5' (hb.mono h.le)
  refine ⟨⟨vN, vP, vS, vK, us, nps, h5.perm ?_, h2, fun p hp => (h3 p hp).keep hk, h4⟩, h.safe.more fun t ht => List.mem_cons_of_mem _ ht⟩
  rw [pr_split, pr_split _ _ _ _ _ _ _ _ _ _ _ _ _ _ _ (t :: X), List.append_assoc]
  exact List.Perm.append_left _ List.perm_append_comm
/-- One less. -/
theorem PS.less (h : PS w B S (t :: X) g L ps zs ks) (hs : Safe S B X) : PS w B S X g L ps zs ks := by
  obtain ⟨vN, vP, vS, vK, us, nps, h1, h2, h3, h4⟩ := h.all
  refine ⟨⟨vN, vP, vS, vK, us, nps, h1.sub ?_, h2, h3, h4⟩, hs⟩
  rw [pr_split, pr_split _ _ _ _ _ _ _ _ _ _ _ _ _ _ _ (t :: X)]
  exact List.Sublist.append (List.Sublist.refl _) (List.sublist_cons_self _ _)
/-- What stands beside it is turned. -/
theorem PS.turn (h : PS w B S (t :: X) g L ps zs ks) (hs : Safe S B X) (hg : w.grownBy w' t.b) (ht : t'.H w') (hb : t'.b = t.b) : PS w' B S (t' :: X) g L ps zs ks ∧ Below B w w' := by
  obtain ⟨vN, vP, vS, vK, us, nps, h1, h2, h3, h4⟩ := h.all
  rw [pr_split] at h1
  generalize hR : PR g vN vP vS vK nps.length (nps.flatMap ndC) ps.length (ps.map iv) zs.length (zs.map iv) us.length us us ks [] = R at h1
  have hi : (R ++ t :: X)[R.length]? = some t := by simp
  have h5 := h1.set hi hg ht (.inl hb)
  have hB := h1.bel hi hg
  have e : (R ++ t :: X).set R.length t' = R ++ t' :: X := by simp
  rw [e] at h5
  have hk : ∀ b, S b → w'.heap[b]? = w.heap[b]? := fun b hS => by
    rcases hs b hS with q | ⟨o, ho⟩
    · exact hB.block b q
    · have e1 : w.heap[b]? = some o := h1.h _ (List.mem_append_right _ (List.mem_cons_of_mem _ ho))
      have e2 : w'.heap[b]? = some o := h5.h _ (List.mem_append_right _ (List.mem_cons_of_mem _ ho))
      rw [e1, e2]
  refine ⟨⟨⟨vN, vP, vS, vK, us, nps, ?_, h2, fun p hp => (h3 p hp).keep hk, h4⟩, hs.more fun t ht => List.mem_cons_of_mem _ ht⟩, hB⟩
  rw [pr_split, hR]
  exact h5
theorem PS.cast (h : PS w B S X g L ps zs ks) (h1 : L = L') (h2 : ps = ps') (h3 : zs = zs') (h4 : ks = ks') : PS w B S X g L' ps' zs' ks' := by
  subst h1; subst h2; subst h3; subst h4; exact h
end
/-- The rows of rows, set at one place. -/
theorem pr_put {g : Nat} {vN vP vS vK : Value} {nN : Nat} {cN : List Value} {nP : Nat} {cP : List Value} {nS : Nat} {cS : List Value} {nK : Nat} {us vs : List Value} {ks : List (List Nat)} {X : List Thing} {i n' : Nat} {v : Value} {c' : List Value} {l' : List Nat} (hi : i < vs.length) (hl : vs.length = ks.length) (hn : n' = l'.length) (hc : c' = l'.map nv) :
    ((PR g vN vP vS vK nN cN nP cP nS cS nK us vs ks X).set (i + 5) (rowT 3 1 v n' c')).set 4 (rowT 27 1 vK nK (us.set i v)) = PR g vN vP vS vK nN cN nP cP nS cS nK (us.set i v) (vs.set i v) (ks.set i l') X := by
  subst hn; subst hc
  unfold PR
  rw [← inn_set vs ks i v l' hl, ← List.set_append_left _ _ (by rw [inn_len vs ks hl, ← hl]; exact hi)]
  rfl
theorem pr_at {g : Nat} {vN vP vS vK : Value} {nN : Nat} {cN : List Value} {nP : Nat} {cP : List Value} {nS : Nat} {cS : List Value} {nK : Nat} {us vs : List Value} {ks : List (List Nat)} {X : List Thing} {i : Nat} {v : Value} {l : List Nat} (hv : vs[i]? = some v) (hk : ks[i]? = some l) :
    (PR g vN vP vS vK nN cN nP cP nS cS nK us vs ks X)[i + 5]? = some (rowT 3 1 v l.length (l.map nv)) := by
  show (inn vs ks ++ X)[i]? = _
  have h := inn_at hv hk
  rw [List.getElem?_append_left (List.getElem?_eq_some_iff.1 h).1, h]
theorem pr_set_at {R : List Thing} {i : Nat} {t t' : Thing} (h : R[i]? = some t) : (R.set i t')[i]? = some t' := by
  rw [List.getElem?_set_self (List.getElem?_eq_some_iff.1 h).1]
/-- One more row among the rows of rows. -/
theorem pr_snoc {w : World} {B g : Nat} {vN vP vS vK : Value} {nN : Nat} {cN : List Value} {nP : Nat} {cP : List Value} {nS : Nat} {cS : List Value} {nK : Nat} {us vs : List Value} {ks : List (List Nat)} {X : List Thing} {v : Value} {l : List Nat} (hl : vs.length = ks.length)
    (h : Fam w B (PR g vN vP vS vK nN cN nP cP nS cS nK us vs ks X ++ [rowT 3 1 v l.length (l.map nv)])) : Fam w B (PR g vN vP vS vK nN cN nP cP nS cS nK us (vs ++ [v]) (ks ++ [l]) X) := by
  refine h.perm ?_
  have e : PR g vN vP vS vK nN cN nP cP nS cS nK us (vs ++ [v]) (ks ++ [l]) X = PR g vN vP vS vK nN cN nP cP nS cS nK us vs ks [] ++ ([rowT 3 1 v l.length (l.map nv)] ++ X) := by
    unfold PR
    rw [← inn_snoc vs ks v l hl]
    simp
  rw [e, pr_split, List.append_assoc]
  exact List.Perm.append_left _ List.perm_append_comm
theorem node_info : (Tryd.prog.info? 24).map (fun i => (i.zero, i.size, i.bytes)) = some (some (.agg #[.int .i64 0, .string ⟨#[]⟩, .string ⟨#[]⟩, .slice none 0 0]), 4, 64) := by kernel_rfl
/-- One more variable beside it. -/
theorem PS.box {w : World} {B : Nat} {S : Nat → Prop} {X : List Thing} {g : Nat} {L : List Nd} {ps zs : List Int} {ks : List (List Nat)} (h : PS w B S X g L ps zs ks) (e : TypeId) (cs : Array Value) : PS (w.alloc (.cells cs e)) B S (boxT e w.heap.size cs.toList :: X) g L ps zs ks :=
  h.add (bel1 w _) (World.ownsRow_lit w cs 1 (Nat.zero_le _) (by unfold maxLen; omega) (by simp)) fun k hk => by
    have hk : some w.heap.size = some k := hk
    injection hk with hk; omega
theorem pr_mem {g : Nat} {vN vP vS vK : Value} {nN : Nat} {cN : List Value} {nP : Nat} {cP : List Value} {nS : Nat} {cS : List Value} {nK : Nat} {us vs : List Value} {ks : List (List Nat)} {X : List Thing} {t : Thing} (h : t ∈ X) : t ∈ PR g vN vP vS vK nN cN nP cP nS cS nK us vs ks X := by
  rw [pr_split]; exact List.mem_append_right _ h
theorem box_mem {W : World} {B : Nat} {R : List Thing} {g : Nat} {T : TypeId} {a b c d : Value} (h : Fam W B R) (hm : boxT T g [a, b, c, d] ∈ R) :
    (W.cell? ⟨g, 0, none⟩ = some a ∧ W.cell? ⟨g, 1, none⟩ = some b ∧ W.cell? ⟨g, 2, none⟩ = some c ∧ W.cell? ⟨g, 3, none⟩ = some d) ∧ W.frozen? ⟨g, 0, none⟩ = false ∧ W.frozen? ⟨g, 1, none⟩ = false ∧ W.frozen? ⟨g, 2, none⟩ = false ∧ W.frozen? ⟨g, 3, none⟩ = false := by
  obtain ⟨j, hj⟩ := List.getElem?_of_mem hm
  exact box_at h hj
/-- An element of four cells is stored. -/
theorem Fam.store4 {W : World} {B : Nat} {R : List Thing} {i n c g : Nat} {e : TypeId} {xs : List Value} (h : Fam W B R) (hi : R[i]? = some (rowT e 4 (.slice (some ⟨g, 0, none⟩) n c) n xs)) (j : Nat) (a0 a1 a2 a3 : Value) :
    Fam ((((W.setCell ⟨g, j, none⟩ a0).setCell ⟨g, j + 1, none⟩ a1).setCell ⟨g, j + 2, none⟩ a2).setCell ⟨g, j + 3, none⟩ a3) B (R.set i (rowT e 4 (.slice (some ⟨g, 0, none⟩) n c) n ((((xs.set j a0).set (j + 1) a1).set (j + 2) a2).set (j + 3) a3))) ∧
    Below B W ((((W.setCell ⟨g, j, none⟩ a0).setCell ⟨g, j + 1, none⟩ a1).setCell ⟨g, j + 2, none⟩ a2).setCell ⟨g, j + 3, none⟩ a3) := by
  obtain ⟨h1, b1⟩ := h.store hi j a0
  obtain ⟨h2, b2⟩ := h1.store (pr_set_at hi) (j + 1) a1
  rw [List.set_set] at h2
  obtain ⟨h3, b3⟩ := h2.store (pr_set_at hi) (j + 2) a2
  rw [List.set_set] at h3
  obtain ⟨h4, b4⟩ := h3.store (pr_set_at hi) (j + 3) a3
  rw [List.set_set] at h4
  exact ⟨h4, ((b1.trans b2).trans b3).trans b4⟩
theorem set4 (xs : List Value) (z0 z1 z2 z3 a0 a1 a2 a3 : Value) (m : Nat) (hm : xs.length = m) : ((((xs ++ [z0, z1, z2, z3]).set m a0).set (m + 1) a1).set (m + 2) a2).set (m + 3) a3 = xs ++ [a0, a1, a2, a3] := by
  subst hm
  simp
section
variable {w w' : World} {B : Nat} {S : Nat → Prop} {X : List Thing} {g : Nat} {L : List Nd} {ps zs : List Int} {ks : List (List Nat)}
/-- The Plan's variable, read. -/
theorem PS.rd (h : PS w B S X g L ps zs ks) : ∃ aN cN aP cP aS cS aK cK, (w.cell? ⟨g, 0, none⟩ = some (.slice aN L.length cN) ∧ w.cell? ⟨g, 1, none⟩ = some (.slice aP ps.length cP) ∧ w.cell? ⟨g, 2, none⟩ = some (.slice aS zs.length cS) ∧ w.cell? ⟨g, 3, none⟩ = some (.slice aK ks.length cK)) ∧
    (w.frozen? ⟨g, 0, none⟩ = false ∧ w.frozen? ⟨g, 1, none⟩ = false ∧ w.frozen? ⟨g, 2, none⟩ = false ∧ w.frozen? ⟨g, 3, none⟩ = false) ∧
    (∀ (i : Nat) (nd : Nd), L[i]? = some nd → ∃ gN s, aN = some ⟨gN, 0, none⟩ ∧ (w.cell? ⟨gN, i * 4, none⟩ = some (.int .i64 nd.k) ∧ w.cell? ⟨gN, i * 4 + 1, none⟩ = some (.string nd.x) ∧ w.cell? ⟨gN, i * 4 + 2, none⟩ = some (.string nd.y) ∧ w.cell? ⟨gN, i * 4 + 3, none⟩ = some s) ∧ Fs w S s nd.c) := by
  obtain ⟨vN, vP, vS, vK, us, nps, hF, hL, hfs, hus⟩ := h.all
  obtain ⟨aN, cNp, rfl, _, _⟩ := hF.slice (i := 1) rfl
  obtain ⟨aP, cPp, rfl, _, _⟩ := hF.slice (i := 2) rfl
  obtain ⟨aS, cSp, rfl, _, _⟩ := hF.slice (i := 3) rfl
  obtain ⟨aK, cKp, rfl, _, _⟩ := hF.slice (i := 4) rfl
  obtain ⟨⟨q0, q1, q2, q3⟩, z0, z1, z2, z3⟩ := box_at hF (j := 0) rfl
  have hl : nps.length = L.length := by rw [← hL, List.length_map]
  refine ⟨aN, cNp, aP, cPp, aS, cSp, aK, cKp, ⟨by rw [← hl]; exact q0, q1, q2, by rw [← hus]; exact q3⟩, ⟨z0, z1, z2, z3⟩, fun i nd hi => ?_⟩
  rw [← hL, List.getElem?_map] at hi
  cases hp : nps[i]? with
  | none => rw [hp] at hi; cases hi
  | some q =>
    obtain ⟨nd', s⟩ := q
    rw [hp] at hi
    injection hi with hi
    have hi : nd' = nd := hi
    subst hi
    obtain ⟨gN, c', e, _, _⟩ := hF.sliceAt (i := 1) rfl (by have := (List.getElem?_eq_some_iff.1 hp).1; omega)
    injection e with e _ _
    subst e
    exact ⟨gN, s, rfl, node_at (j := 1) (nps := nps) hF rfl hp, hfs _ (List.mem_of_getElem? hp)⟩
theorem PS.put1 {e : TypeId} {sz n c b : Nat} {xs : List Value} (h : PS w B S (rowT e sz (.slice (some ⟨b, 0, none⟩) n c) n xs :: X) g L ps zs ks) (hs : Safe S B X) (j : Nat) (u : Value) : PS (w.setCell ⟨b, j, none⟩ u) B S (rowT e sz (.slice (some ⟨b, 0, none⟩) n c) n (xs.set j u) :: X) g L ps zs ks ∧ Below B w (w.setCell ⟨b, j, none⟩ u) := by
  have ho : w.ownsRow 0 e sz (.slice (some ⟨b, 0, none⟩) n c) n xs := h.get List.mem_cons_self
  obtain ⟨h1, h2⟩ := ho.stored j u
  exact h.turn hs h2 h1 rfl
/-- A node's variable beside it is written. -/
theorem PS.put4 {T : TypeId} {b : Nat} {x0 x1 x2 x3 : Value} (h : PS w B S (boxT T b [x0, x1, x2, x3] :: X) g L ps zs ks) (hs : Safe S B X) (a0 a1 a2 a3 : Value) : PS ((((w.setCell ⟨b, 0, none⟩ a0).setCell ⟨b, 1, none⟩ a1).setCell ⟨b, 2, none⟩ a2).setCell ⟨b, 3, none⟩ a3) B S (boxT T b [a0, a1, a2, a3] :: X) g L ps zs ks ∧
    Below B w ((((w.setCell ⟨b, 0, none⟩ a0).setCell ⟨b, 1, none⟩ a1).setCell ⟨b, 2, none⟩ a2).setCell ⟨b, 3, none⟩ a3) := by
  obtain ⟨h1, b1⟩ := PS.put1 h hs 0 a0
  obtain ⟨h2, b2⟩ := PS.put1 h1 hs 1 a1
  obtain ⟨h3, b3⟩ := PS.put1 h2 hs 2 a2
  obtain ⟨h4, b4⟩ := PS.put1 h3 hs 3 a3
  exact ⟨h4, ((b1.trans b2).trans b3).trans b4⟩
theorem PS.fs {L' : List Nd} {ps' zs' : List Int} {ks' : List (List Nat)} (h : PS w B S X g L ps zs ks) (h' : PS w' B S X g L' ps' zs' ks') (hb : Below B w w') {v : Value} {f : F} (hf : Fs w S v f) : Fs w' S v f := hf.keep (h.keep h' hb)
/-- Some size of a Plan's row of nodes. -/
def nLen (w : World) (g : Nat) : Nat := match w.cell? ⟨g, 0, none⟩ with
  | some (.slice _ n _) => n
  | _ => 0
theorem PS.len (h : PS w B S X g L ps zs ks) : nLen w g = L.length := by
  obtain ⟨aN, cN, aP, cP, aS, cS, aK, cK, ⟨q0, _⟩, _⟩ := h.rd
  unfold nLen; rw [q0]
end
section
variable {w W : World} {B : Nat} {S : Nat → Prop} {X : List Thing} {g : Nat} {L : List Nd} {ps zs : List Int} {ks : List (List Nat)}
/-- What keeps all else of the Plan. -/
theorem PS.re {vN vP vS vK : Value} {us : List Value} {nps : List (Nd × Value)} {zs' : List Int} {ks' : List (List Nat)} (h : PS w B S X g L ps zs ks) (hL : nps.map (·.1) = L) (hfs : ∀ p ∈ nps, Fs w S p.2 p.1.c) (hus : us.length = ks'.length)
    (hF : Fam W B (PR g vN vP vS vK nps.length (nps.flatMap ndC) ps.length (ps.map iv) zs'.length (zs'.map iv) us.length us us ks' X)) (hb : Below B w W) : PS W B S X g L ps zs' ks' := by
  have hF' := hF
  rw [pr_split] at hF'
  obtain ⟨R, h0⟩ := h.fam
  have hk := h.safe.keep h0 hF' hb
  exact ⟨⟨vN, vP, vS, vK, us, nps, hF, hL, fun p hp => (hfs p hp).keep hk, hus⟩, h.safe⟩
/-- A node's size is written. -/
theorem PS.size {aS : Option Addr} {n cS : Nat} (h : PS w B S X g L ps zs ks) (q2 : w.cell? ⟨g, 2, none⟩ = some (.slice aS n cS)) {t : Nat} (ht : t < zs.length) (z : Int) : ∃ gS u, aS = some ⟨gS, 0, none⟩ ∧ w.cell? ⟨gS, t, none⟩ = some (.int .i64 u) ∧ w.frozen? ⟨gS, t, none⟩ = false ∧
    PS (w.setCell ⟨gS, t, none⟩ (.int .i64 z)) B S X g L ps (zs.set t z) ks ∧ Below B w (w.setCell ⟨gS, t, none⟩ (.int .i64 z)) := by
  obtain ⟨vN, vP, vS, vK, us, nps, hF, hL, hfs, hus⟩ := h.all
  obtain ⟨⟨p0, p1, p2, p3⟩, _⟩ := box_at hF (j := 0) rfl
  obtain rfl := Option.some.inj (p2.symm.trans q2)
  obtain ⟨gS, c', e, _, _⟩ := hF.sliceAt (i := 3) rfl (by omega)
  injection e with e e2 _
  subst e; subst e2
  have hc : (zs.map iv)[t]? = some (.int .i64 (zs[t]'ht)) := by rw [List.getElem?_map, List.getElem?_eq_getElem ht]; rfl
  have hst := hF.store (i := 3) rfl t (.int .i64 z)
  refine ⟨gS, _, rfl, hF.cell (i := 3) rfl hc, hF.frz (i := 3) rfl t, h.re (vN := vN) (vP := vP) (vS := .slice (some ⟨gS, 0, none⟩) zs.length cS) (vK := vK) (us := us) hL hfs hus ?_ hst.2, hst.2⟩
  rw [List.length_set, List.map_set]
  exact hst.1
/-- The end of an append onto a row of Kids' places. -/
theorem PS.appended {vN vP vS vK v : Value} {us cN cP cS : List Value} {nps : List (Nd × Value)} {N nP nS nK t q : Nat} {l : List Nat} (h : PS w B S X g L ps zs ks) (hL : nps.map (·.1) = L) (hfs : ∀ p ∈ nps, Fs w S p.2 p.1.c) (hus : us.length = ks.length)
    (hN : nps.length = N) (hcN : nps.flatMap ndC = cN) (hnP : ps.length = nP) (hcP : ps.map iv = cP) (hnS : zs.length = nS) (hcS : zs.map iv = cS) (hnK : us.length = nK) (ht : ks[t]? = some l)
    (hF : Fam W B (((PR g vN vP vS vK N cN nP cP nS cS nK us us ks X).set (t + 5) (rowT 3 1 v (l.length + 1) (l.map nv ++ [.int .i64 (q : Int)]))).set 4 (rowT 27 1 vK nK (us.set t v)))) (hb : Below B w W) : PS W B S X g L ps zs (ks.set t (l ++ [q])) := by
  have hlt : t < us.length := by rw [hus]; exact (List.getElem?_eq_some_iff.1 ht).1
  rw [pr_put (l' := l ++ [q]) hlt hus (by simp) (by simp [nv])] at hF
  subst hN; subst hcN; subst hnP; subst hcP; subst hnS; subst hcS; subst hnK
  refine h.re (vN := vN) (vP := vP) (vS := vS) (vK := vK) (us := us.set t v) hL hfs (by simp [hus]) ?_ hb
  rw [List.length_set]
  exact hF
end
theorem pr_ne {w : World} {B g : Nat} {vN vP vS vK : Value} {nN : Nat} {cN : List Value} {nP : Nat} {cP : List Value} {nS : Nat} {cS : List Value} {nK : Nat} {us vs : List Value} {ks : List (List Nat)} {X : List Thing} {t : Thing} (h : Fam w B (PR g vN vP vS vK nN cN nP cP nS cS nK us vs ks X)) (ht : t ∈ X) : t.b = none ∨ t.b ≠ vN.ownBlock := by
  obtain ⟨j, hj⟩ := List.getElem?_of_mem ht
  have hj' : (PR g vN vP vS vK nN cN nP cP nS cS nK us vs ks X)[(PR g vN vP vS vK nN cN nP cP nS cS nK us vs ks []).length + j]? = some t := by
    rw [pr_split, List.getElem?_append_right (by omega), Nat.add_sub_cancel_left]; exact hj
  exact h.ne hj' (j := 1) rfl (by have : 5 ≤ (PR g vN vP vS vK nN cN nP cP nS cS nK us vs ks []).length := (by simp only [PR, List.length_cons]; omega); omega)
end Go.Proofs.YtmknghhgcecafaaDoor.Shape
