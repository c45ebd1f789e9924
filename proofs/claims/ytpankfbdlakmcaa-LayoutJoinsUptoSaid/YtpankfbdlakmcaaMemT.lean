/-
  Words for memory, of no layer: rows of structs (elements of several one-cell fields) of a call's own: append of one element, and how such a row reads.
-/
import Derived.Test.YtpankfbdlakmcaaChecked
import Derived.WalkKit
import Derived.ProofKit
import Derived.OpenShut
import Derived.Below
import Derived.Lib.Hide
import Derived.Outline
import Derived.WalkMore
import Derived.OneCell
import Derived.OwnWalk
import Derived.Maps.AppendAt
namespace Go.Proofs.Ytpankfbdlakmcaa.MemT
open Go.ChangeShapes Go.WideShapes Go.ChangeAt Go.RowKit
set_option linter.unusedVariables false

/-- The slice at A reads as the elements xs, each of sz cells; it lies below block B. -/
def RT {α : Type} (f : α → List Value) (sz : Nat) (w : World) (B : Nat) (A : Option Addr) (xs : List α) : Prop :=
  xs = [] ∨ ∃ b, A = some ⟨b, 0, none⟩ ∧ b < B ∧ ∀ i x, xs[i]? = some x → ∀ j u, (f x)[j]? = some u → w.cell? ⟨b, i * sz + j, none⟩ = some u
section
variable {α : Type} {f : α → List Value} {sz : Nat} {w w' : World} {B B' : Nat} {A : Option Addr} {xs : List α}
theorem RT.below (h : RT f sz w B A xs) {B0 : Nat} (hb : Below B0 w w') (hB : B ≤ B0) : RT f sz w' B A xs := by
  rcases h with h | ⟨b, e, hl, hc⟩
  · exact .inl h
  · exact .inr ⟨b, e, hl, fun i x hx j u hu => (hb.cell (by show b < B0; omega)).trans (hc i x hx j u hu)⟩
theorem RT.more (h : RT f sz w B A xs) (hB : B ≤ B') : RT f sz w B' A xs := by
  rcases h with h | ⟨b, e, hl, hc⟩
  · exact .inl h
  · exact .inr ⟨b, e, by omega, hc⟩
theorem RT.at_ (h : RT f sz w B A xs) (hn : 0 < xs.length) : ∃ b, A = some ⟨b, 0, none⟩ ∧ b < B ∧ ∀ i x, xs[i]? = some x → ∀ j u, (f x)[j]? = some u → w.cell? ⟨b, i * sz + j, none⟩ = some u := by
  rcases h with h | h
  · subst h; simp at hn
  · exact h
end

theorem flat_len {α : Type} {f : α → List Value} {sz : Nat} (hf : ∀ x, (f x).length = sz) : ∀ xs : List α, (xs.flatMap f).length = xs.length * sz
  | [] => by simp
  | x :: xs => by
    rw [List.flatMap_cons, List.length_append, hf, flat_len hf xs, List.length_cons, Nat.add_mul]; omega
theorem flat_at {α : Type} {f : α → List Value} {sz : Nat} (hf : ∀ x, (f x).length = sz) : ∀ (xs : List α) (i : Nat) (x : α), xs[i]? = some x → ∀ (j : Nat) (u : Value), (f x)[j]? = some u → (xs.flatMap f)[i * sz + j]? = some u
  | [], i, x, h => by simp at h
  | y :: ys, 0, x, h => fun j u hu => by
    simp only [List.getElem?_cons_zero, Option.some.injEq] at h
    subst h
    have hj : j < (f y).length := by
      rcases Nat.lt_or_ge j (f y).length with h' | h'
      · exact h'
      · rw [List.getElem?_eq_none h'] at hu; cases hu
    rw [List.flatMap_cons, Nat.zero_mul, Nat.zero_add, List.getElem?_append_left hj]; exact hu
  | y :: ys, i + 1, x, h => fun j u hu => by
    have ih := flat_at hf ys i x (by simpa using h) j u hu
    have hl := hf y
    rw [List.flatMap_cons, List.getElem?_append_right (by rw [hl, Nat.add_mul]; omega), hl]
    rw [show (i + 1) * sz + j - sz = i * sz + j from by rw [Nat.add_mul]; omega]
    exact ih

theorem own_rt {α : Type} {f : α → List Value} {sz : Nat} (hf : ∀ x, (f x).length = sz) {w : World} {base n c : Nat} {E : TypeId} {A : Option Addr} {xs : List α} (h : w.ownsRow base E sz (.slice A n c) n (xs.flatMap f)) (hn : xs.length = n) :
    RT f sz w w.heap.size A xs := by
  rcases h.2 with ⟨_, h0⟩ | ⟨g, cap, cur, hv, hg0, hg, h1, h2, h3, h4⟩
  · exact .inl (List.eq_nil_of_length_eq_zero (by omega))
  · injection hv with hA _ _
    refine .inr ⟨g, hA, lt_of_block hg, fun i x hx j u hu => ?_⟩
    have e := flat_at hf xs i x hx j u hu
    rw [← h4, List.getElem?_take] at e
    split at e
    · simpa [World.cell?, hg] using e
    · cases e

section
variable {P : Program} {T E : TypeId} {i0 : TypeInfo} {z : Value} {sz by_ : Nat}
/-- append of one struct onto a row of the call's own. -/
theorem app_cells (w : World) {ops : Array Oper} {rest : List Oper} {o : Oper} {a : Act} {Q : Exit → Act → World → Prop} (hgd : o.guard = none) (s x : Operand)
    (ho : o.op = .call { callee := .builtin .append, args := #[s, x], argTypes := #[T, T] }) (hT : P.underlying T = some (.slice E)) (hi0 : P.info? E = some i0) (hz0 : i0.zero = some z) (hz1 : i0.size = sz) (hz2 : i0.bytes = by_) (hzc : z.cells.size = sz) (hsz : 0 < sz)
    (base : Nat) (v : Value) (n : Nat) (vs cs : List Value) (hs : a.eval s = v) (hown : w.ownsRow base E sz v n vs) (hcs : cs.length = sz) (hu : ∀ u ∈ cs, u.oneCell' = true) (g : Nat) (hg : g = w.heap.size) (hx : a.eval x = .slice (some ⟨g, 0, none⟩) 1 1)
    (h63 : n ≤ 10000000) (hb : by_ ≤ 100) (hbase : base ≤ w.heap.size)
    (h : ∀ v' w', w'.ownsRow base E sz v' (n + 1) (vs ++ cs) → (w.alloc (.cells cs.toArray E)).grownBy w' v.ownBlock → (∀ B, (∀ b, v.ownBlock = some b → B ≤ b) → B ≤ w.heap.size → Below B w w') →
      (v'.ownBlock = v.ownBlock ∨ v'.ownBlock = some (w.heap.size + 1)) → wpList P ops Q rest (a.put o.dst v') w') :
    wpList P ops Q (o :: rest) a (w.alloc (.cells cs.toArray E)) := by
  subst hg
  have hmul : (n + 1) * by_ ≤ 10000001 * 100 := Nat.mul_le_mul (by omega) hb
  refine wpList_append_own_at (P := P) _ hgd s x T ho base E i0 z sz by_ hT hi0 hz0 hz1 hz2 hzc hsz v n vs hs (hown.alloc _) ⟨w.heap.size, 0, none⟩ 1 1 cs hx (by omega) (fun j u hj => ?_) hu (by unfold maxLen; omega) (by omega) (by simp; omega) fun v' w' h1 h2 _ h4 => ?_
  · have e2 : (⟨w.heap.size, 0, none⟩ : Addr).add j = ⟨w.heap.size, j, none⟩ := by unfold Addr.add; split <;> simp_all
    rw [e2, World.cell?_alloc_at _ _ _ _ rfl]
    simpa using hj
  · exact h v' w' h1 h2 (fun B hv hB => ((Below.refl B w).alloc hB _).grown h2 (by simp; omega) hv) (by simpa using h4)
end
end Go.Proofs.Ytpankfbdlakmcaa.MemT
