/-
  Words for memory, of no layer: append of all elements of a slice onto a row of the call's own, as one step of a region that draws its order.
-/
import Derived.Test.YtakgkfdbgjljkaaMemC
import Derived.Deep.RegionHeld3
import Derived.Deep.RegionLaw
namespace Go.Proofs.Ytakgkfdbgjljkaa.MemC
open Go.ChangeShapes Go.WideShapes Go.ChangeAt Go.RowKit
set_option linter.unusedVariables false
section
variable {P : Program} {T E : TypeId} {i0 : TypeInfo} {z : Value} {by_ : Nat}
theorem run_app_all {α : Type} (w : World) (ty : TypeId) (hT : P.underlying T = some (.slice E)) (hi0 : P.info? E = some i0) (hz0 : i0.zero = some z) (hz1 : i0.size = 1) (hz2 : i0.bytes = by_) (hzc : z.cells.size = 1)
    (base : Nat) (v : Value) (n : Nat) (vs : List Value) (hown : w.ownsRow base E 1 v n vs) (f : α → Value) (d : α) (hf : ∀ y, (f y).oneCell' = true) (B : Nat) (A : Option Addr) (m c : Nat) (xs : List α) (hr : RC f d w B A xs) (hm : xs.length = m)
    (h63 : n + m ≤ maxLen) (hby : (n + m) * by_ ≤ 140737488355328) (hbase : base ≤ w.heap.size) :
    ∃ v' w', (Builtin.append_ #[T, T] ty #[v, .slice A m c]).run P w = .ok v' w' ∧ w'.ownsRow base E 1 v' (n + m) (vs ++ xs.map f) ∧ w.grownBy w' v.ownBlock ∧ (v'.ownBlock = v.ownBlock ∨ v'.ownBlock = some w.heap.size) := by
  rcases A with _ | ad
  · have hnil : xs = [] := by
      rcases hr with e | ⟨b, off, e, _⟩
      · exact e
      · cases e
    subst hnil
    simp only [List.length_nil] at hm
    subst hm
    have hrun : (Builtin.append_ #[T, T] ty #[v, .slice none 0 c]).run P w = .ok v w := by
      rcases hown.2 with ⟨rfl, rfl⟩ | ⟨g, cap, cur, rfl, _, _, hnc, _⟩
      · simp [Builtin.append_, run_underlying hT, sizeOf, typeInfo, hi0, Builtin.lenOf, Builtin.firstCells]
      · simp [Builtin.append_, run_underlying hT, sizeOf, typeInfo, hi0, Builtin.lenOf, Builtin.firstCells, hnc, storeCells]
    exact ⟨v, w, hrun, by simpa using hown, ⟨rfl, rfl, rfl, Nat.le_refl _, fun _ _ _ => rfl⟩, .inl rfl⟩
  · obtain ⟨v', w', hr', h2, h3, h4, h5⟩ := run_append_own_at (P := P) w base T ty E i0 z 1 by_ hT hi0 hz0 hz1 hz2 hzc (by decide) v n vs hown ad m c (xs.map f) (by simp [hm]) (by
      intro j u hj
      rcases hr with e | ⟨b, off, e, _, hc⟩
      · subst e; simp at hj
      · injection e with e
        subst e
        have hj' : j < xs.length := by
          rcases Nat.lt_or_ge j xs.length with h' | h'
          · exact h'
          · rw [List.getElem?_eq_none (by simpa using h')] at hj; cases hj
        have e2 : (⟨b, off, none⟩ : Addr).add j = ⟨b, off + j, none⟩ := by unfold Addr.add; split <;> simp_all
        rw [e2, hc j hj']
        simp [List.getD, hj'] at hj ⊢
        exact hj) (by
      intro u hu
      obtain ⟨y, _, rfl⟩ := List.mem_map.1 hu
      exact hf y) h63 hby hbase
    exact ⟨v', w', hr', h2, h3, h5⟩

theorem step_app_all {α : Type} {ops : Array Oper} {o : Oper} {a : Act} {w : World} {K : Act → World → Prop} {Q : Exit → Act → World → Prop} {R : Prop} (hgd : o.guard = none) (s x : Operand)
    (ho : o.op = .call { callee := .builtin .append, args := #[s, x], argTypes := #[T, T] }) (hT : P.underlying T = some (.slice E)) (hi0 : P.info? E = some i0) (hz0 : i0.zero = some z) (hz1 : i0.size = 1) (hz2 : i0.bytes = by_) (hzc : z.cells.size = 1)
    (base : Nat) (v : Value) (n : Nat) (vs : List Value) (hs : a.eval s = v)
    (hown : w.ownsRow base E 1 v n vs) (f : α → Value) (d : α) (hf : ∀ y, (f y).oneCell' = true) (B : Nat) (A : Option Addr) (m c : Nat) (xs : List α) (hx : a.eval x = .slice A m c) (hr : RC f d w B A xs) (hm : xs.length = m)
    (h63 : n + m ≤ maxLen) (hby : (n + m) * by_ ≤ 140737488355328) (hbase : base ≤ w.heap.size)
    (hK : ∀ v' w', w'.ownsRow base E 1 v' (n + m) (vs ++ xs.map f) → w.grownBy w' v.ownBlock → (v'.ownBlock = v.ownBlock ∨ v'.ownBlock = some w.heap.size) → K (a.put o.dst v') w') :
    if Region.wanted o (yielded ops a.tmps) = true then Oper.wp P o a w K Q else R := by
  have hw : Region.wanted o (yielded ops a.tmps) = true := by simp [Region.wanted, hgd]
  rw [if_pos hw]
  obtain ⟨v', w', hrun, h1, h2, h3⟩ := run_app_all (P := P) w o.type hT hi0 hz0 hz1 hz2 hzc base v n vs hown f d hf B A m c xs hr hm h63 hby hbase
  unfold Oper.wp
  simp [execOp, ho, resolve, invoke, builtin, hs, hx, hrun, Result.andThen]
  exact hK v' w' h1 h2 h3

/-- The same, with what it leaves said for a world w0 from which all began. -/
theorem step_app_b {α : Type} {ops : Array Oper} {o : Oper} {a : Act} {w : World} {K : Act → World → Prop} {Q : Exit → Act → World → Prop} {R : Prop} (hgd : o.guard = none) (s x : Operand)
    (ho : o.op = .call { callee := .builtin .append, args := #[s, x], argTypes := #[T, T] }) (hT : P.underlying T = some (.slice E)) (hi0 : P.info? E = some i0) (hz0 : i0.zero = some z) (hz1 : i0.size = 1) (hz2 : i0.bytes = by_) (hzc : z.cells.size = 1)
    (base : Nat) (v : Value) (n : Nat) (vs : List Value) (hs : a.eval s = v)
    (hown : w.ownsRow base E 1 v n vs) (f : α → Value) (d : α) (hf : ∀ y, (f y).oneCell' = true) (B : Nat) (A : Option Addr) (m c : Nat) (xs : List α) (hx : a.eval x = .slice A m c) (hr : RC f d w B A xs) (hm : xs.length = m)
    (h63 : n + m ≤ maxLen) (hby : (n + m) * by_ ≤ 140737488355328) (hbase : base ≤ w.heap.size)
    (hK : ∀ v' w', w'.ownsRow base E 1 v' (n + m) (vs ++ xs.map f) → (∀ w0, Below base w0 w → Below base w0 w') → (∀ g, g < w.heap.size → v.ownBlock ≠ some g → w'.heap[g]? = w.heap[g]?) → K (a.put o.dst v') w') :
    if Region.wanted o (yielded ops a.tmps) = true then Oper.wp P o a w K Q else R :=
  step_app_all hgd s x ho hT hi0 hz0 hz1 hz2 hzc base v n vs hs hown f d hf B A m c xs hx hr hm h63 hby hbase fun v' w' h1 h2 _ =>
    hK v' w' h1 (fun w0 hb => hb.grown h2 hbase (fun q hq => (hown.lt q hq).1)) (fun g hg hne => h2.block g hg (fun e => hne e.symm))

theorem rc_one {w : World} {g B : Nat} {E' : TypeId} {x : Int} (h : w.heap[g]? = some (.cells #[.int .i64 x] E' (0, 0))) (hB : g < B) : RC (Value.int .i64) 0 w B (some ⟨g, 0, none⟩) [x] :=
  .inr ⟨g, 0, rfl, hB, fun i hi => by
    have hi0 : i = 0 := by simpa using hi
    subst hi0
    simp [World.cell?, h]⟩
end
end Go.Proofs.Ytakgkfdbgjljkaa.MemC
