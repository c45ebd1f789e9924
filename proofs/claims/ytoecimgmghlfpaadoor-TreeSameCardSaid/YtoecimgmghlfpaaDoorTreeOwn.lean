/-
  Layer 5 (tree): a row of nodes of one's own, whose Kids lie in blocks of a set S, none of them the row's own.
-/
import Derived.Test.YtoecimgmghlfpaaDoorJoinKnown
namespace Go.Proofs.YtoecimgmghlfpaaDoor.Tree
open Go.ChangeShapes Go.WideShapes Go.ChangeAt Go.RowKit Mem
set_option linter.unusedVariables false

def OwnS (w : World) (S : Nat → Prop) (v : Value) (L : List Nd) : Prop :=
  ∃ ps : List (Nd × Value), ps.map (·.1) = L ∧ w.ownsRow 0 24 4 v L.length (ps.flatMap ndC) ∧ ∀ p ∈ ps, Fs w S p.2 p.1.c
theorem OwnS.nil (w : World) (S : Nat → Prop) : OwnS w S (.slice none 0 0) [] := ⟨[], rfl, World.ownsRow_nil _ _ _ _, fun p hp => by cases hp⟩
theorem OwnS.slice {w : World} {S : Nat → Prop} {v : Value} {L : List Nd} (h : OwnS w S v L) : ∃ a c, v = .slice a L.length c ∧ L.length ≤ c ∧ c ≤ maxLen := by
  obtain ⟨ps, _, ho, _⟩ := h
  exact own_slice' ho
theorem OwnS.lt {w : World} {S : Nat → Prop} {v : Value} {L : List Nd} (h : OwnS w S v L) {g : Nat} (hg : v.ownBlock = some g) : g < w.heap.size := by
  obtain ⟨ps, _, ho, _⟩ := h
  exact (ho.lt g hg).2
theorem OwnS.grown {w w' : World} {S : Nat → Prop} {v : Value} {L : List Nd} {row : Option Nat} (h : OwnS w S v L) (hg : w.grownBy w' row) (hne : v.ownBlock = none ∨ v.ownBlock ≠ row) (hS : ∀ b, S b → b < w.heap.size ∧ some b ≠ row) : OwnS w' S v L := by
  obtain ⟨ps, e, ho, hf⟩ := h
  exact ⟨ps, e, ho.kept hg hne, fun p hp => (hf p hp).keep fun b hb => hg.block b (hS b hb).1 (hS b hb).2⟩
theorem OwnS.more {w : World} {S S' : Nat → Prop} {v : Value} {L : List Nd} (h : OwnS w S v L) (hS : ∀ b, S b → S' b) : OwnS w S' v L := by
  obtain ⟨ps, e, ho, hf⟩ := h
  exact ⟨ps, e, ho, fun p hp => (hf p hp).more hS⟩
theorem grown_below {w w' : World} (h : Below w.heap.size w w') (row : Option Nat) : w.grownBy w' row := ⟨h.os, h.tape, h.output, h.size, fun k hk _ => h.block k hk⟩
theorem below_grown {w w' : World} {B : Nat} {row : Option Nat} (h : w.grownBy w' row) (hB : B ≤ w.heap.size) (hr : ∀ k, row = some k → B ≤ k) : Below B w w' :=
  ⟨h.os, h.tape, h.output, h.size, fun k hk => h.block k (Nat.lt_of_lt_of_le hk hB) (fun e => by have := hr k e.symm; omega)⟩
theorem OwnS.later {w w' : World} {S : Nat → Prop} {v : Value} {L : List Nd} (h : OwnS w S v L) (hb : Below w.heap.size w w') (hS : ∀ b, S b → b < w.heap.size) : OwnS w' S v L := by
  cases hv : v.ownBlock with
  | none => exact h.grown (grown_below hb none) (.inl hv) (fun b hbS => ⟨hS b hbS, by simp⟩)
  | some g => exact h.grown (grown_below hb none) (.inr (by simp [hv])) (fun b hbS => ⟨hS b hbS, by simp⟩)
/-- The row as a row of trees. -/
theorem OwnS.fs {w : World} {S S' : Nat → Prop} {v : Value} {L : List Nd} (h : OwnS w S v L) (hS : ∀ b, S b → S' b) (hg : ∀ g, v.ownBlock = some g → S' g) : Fs w S' v (ofL L) := by
  obtain ⟨ps, h1, ho, hf⟩ := h
  rcases ho.2 with ⟨rfl, h0⟩ | ⟨g, cap, cur, rfl, hg0, hg2, q1, q2, q3, q4⟩
  · rw [List.eq_nil_of_length_eq_zero h0]
    exact ⟨none, 0, rfl, by omega⟩
  · have e : ofL L = ofL (ps.map (·.1)) := by rw [h1]
    rw [e]
    have hc := ho.cells (g := g) rfl
    have ad : ∀ j, (⟨g, 0, none⟩ : Addr).add j = ⟨g, j, none⟩ := fun j => by unfold Addr.add; split <;> simp_all
    refine fs_row g (hg g rfl) ps 0 L.length cap (by rw [← h1]; simp) q1 q2 (fun j u hu => ?_) (fun p hp => (hf p hp).more hS) _ (.inr rfl)
    have := hc j u hu
    rwa [ad, ← Nat.zero_add j] at this

/-- append of one node, that has just been laid, onto a row of one's own: the row's block alone may change, or a new one is laid. -/
theorem run_app_own (w : World) (ty : TypeId) (S : Nat → Prop) (v : Value) (L : List Nd) (b c : Nat) (nd : Nd) (s : Value)
    (hc : w.cell? ⟨b, 0, none⟩ = some (.int .i64 nd.k) ∧ w.cell? ⟨b, 1, none⟩ = some (.string nd.x) ∧ w.cell? ⟨b, 2, none⟩ = some (.string nd.y) ∧ w.cell? ⟨b, 3, none⟩ = some s) (h1 : OwnS w S v L) (h2 : Fs w S s nd.c)
    (hS : ∀ b, S b → b < w.heap.size ∧ some b ≠ v.ownBlock) (hlen : L.length ≤ 1000000) :
    ∃ v' w', (Builtin.append_ #[22, 22] ty #[v, .slice (some ⟨b, 0, none⟩) 1 c]).run Tryd.prog w = .ok v' w' ∧ OwnS w' S v' (L ++ [nd]) ∧ w.grownBy w' v.ownBlock ∧ (v'.ownBlock = v.ownBlock ∨ v'.ownBlock = some w.heap.size) := by
  obtain ⟨i0, hi0, hz0, hz1, hz2⟩ := info_parts node_info
  obtain ⟨ps, e1, ho, hf⟩ := h1
  obtain ⟨A2, C2, e2, _, _⟩ := h2.slice
  have hmul : (L.length + 1) * 64 ≤ 1000001 * 64 := Nat.mul_le_mul (by omega) (Nat.le_refl _)
  obtain ⟨v', w', hrun, r1, r2, _, r3⟩ := run_append_own_at (P := Tryd.prog) w 0 22 ty 24 i0 _ 4 64 Tryd.underlying22 hi0 hz0 hz1 hz2 rfl (by decide) v L.length _ ho ⟨b, 0, none⟩ 1 c (ndC (nd, s)) rfl (fun j u hj => by
    have ad : (⟨b, 0, none⟩ : Addr).add j = ⟨b, j, none⟩ := by unfold Addr.add; split <;> simp_all
    rw [ad]
    match j, hj with
    | 0, hj => simp [ndC] at hj; rw [← hj]; exact hc.1
    | 1, hj => simp [ndC] at hj; rw [← hj]; exact hc.2.1
    | 2, hj => simp [ndC] at hj; rw [← hj]; exact hc.2.2.1
    | 3, hj => simp [ndC] at hj; rw [← hj]; exact hc.2.2.2
    | j + 4, hj => simp [ndC] at hj) (by intro u hu; simp [ndC] at hu; rcases hu with rfl | rfl | rfl | rfl <;> first | rfl | (rw [e2]; rfl)) (by unfold maxLen; omega) (by omega) (Nat.zero_le _)
  refine ⟨v', w', hrun, ⟨ps ++ [(nd, s)], by rw [List.map_append, e1]; rfl, by rw [List.length_append, List.flatMap_append]; simpa using r1, fun p hp => ?_⟩, r2, r3⟩
  rcases List.mem_append.1 hp with hp | hp
  · exact (hf p hp).keep fun b hb => r2.block b (hS b hb).1 (hS b hb).2
  · simp only [List.mem_singleton] at hp
    subst hp
    exact h2.keep fun b hb => r2.block b (hS b hb).1 (hS b hb).2
theorem wp_app_own {o : Oper} {a : Act} {w : World} {K : Act → World → Prop} {Q : Exit → Act → World → Prop} (s x : Operand)
    (ho : o.op = .call { callee := .builtin .append, args := #[s, x], argTypes := #[22, 22] }) (S : Nat → Prop) (v : Value) (L : List Nd) (b c : Nat) (nd : Nd) (sv : Value) (hs : a.eval s = v) (hx : a.eval x = .slice (some ⟨b, 0, none⟩) 1 c)
    (hc : w.cell? ⟨b, 0, none⟩ = some (.int .i64 nd.k) ∧ w.cell? ⟨b, 1, none⟩ = some (.string nd.x) ∧ w.cell? ⟨b, 2, none⟩ = some (.string nd.y) ∧ w.cell? ⟨b, 3, none⟩ = some sv) (h1 : OwnS w S v L) (h2 : Fs w S sv nd.c)
    (hS : ∀ b, S b → b < w.heap.size ∧ some b ≠ v.ownBlock) (hlen : L.length ≤ 1000000)
    (hK : ∀ v' w', OwnS w' S v' (L ++ [nd]) → w.grownBy w' v.ownBlock → (v'.ownBlock = v.ownBlock ∨ v'.ownBlock = some w.heap.size) → K (a.put o.dst v') w') : Oper.wp Tryd.prog o a w K Q := by
  obtain ⟨v', w', hrun, r1, r2, r3⟩ := run_app_own w o.type S v L b c nd sv hc h1 h2 hS hlen
  unfold Oper.wp
  simp [execOp, ho, resolve, invoke, builtin, hs, hx, hrun, Result.andThen]
  exact hK v' w' r1 r2 r3
theorem wpList_app_own {ops : Array Oper} {rest : List Oper} {o : Oper} {a : Act} {w : World} {Q : Exit → Act → World → Prop} (hgd : o.guard = none) (s x : Operand)
    (ho : o.op = .call { callee := .builtin .append, args := #[s, x], argTypes := #[22, 22] }) (S : Nat → Prop) (v : Value) (L : List Nd) (b c : Nat) (nd : Nd) (sv : Value) (hs : a.eval s = v) (hx : a.eval x = .slice (some ⟨b, 0, none⟩) 1 c)
    (hc : w.cell? ⟨b, 0, none⟩ = some (.int .i64 nd.k) ∧ w.cell? ⟨b, 1, none⟩ = some (.string nd.x) ∧ w.cell? ⟨b, 2, none⟩ = some (.string nd.y) ∧ w.cell? ⟨b, 3, none⟩ = some sv) (h1 : OwnS w S v L) (h2 : Fs w S sv nd.c)
    (hS : ∀ b, S b → b < w.heap.size ∧ some b ≠ v.ownBlock) (hlen : L.length ≤ 1000000)
    (h : ∀ v' w', OwnS w' S v' (L ++ [nd]) → w.grownBy w' v.ownBlock → (v'.ownBlock = v.ownBlock ∨ v'.ownBlock = some w.heap.size) → wpList Tryd.prog ops Q rest (a.put o.dst v') w') : wpList Tryd.prog ops Q (o :: rest) a w := by
  refine wpList_plain hgd fun K hK => ?_
  exact wp_app_own s x ho S v L b c nd sv hs hx hc h1 h2 hS hlen fun v' w' r1 r2 r3 => hK _ _ (h v' w' r1 r2 r3)
end Go.Proofs.YtoecimgmghlfpaaDoor.Tree
