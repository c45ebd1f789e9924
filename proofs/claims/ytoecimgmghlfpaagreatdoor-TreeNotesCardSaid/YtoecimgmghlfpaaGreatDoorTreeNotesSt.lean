/-
  Layer 5 (tree): two variables that hold files whose Kids are rows of the call's own, and one that holds the tree that came in.
-/
import Derived.Test.YtoecimgmghlfpaaGreatDoorTreeRefCopy
import Derived.Test.YtoecimgmghlfpaaGreatDoorTreeRightLaw
import Derived.Test.YtoecimgmghlfpaaGreatDoorTreeNotesMath
namespace Go.Proofs.YtoecimgmghlfpaaGreatDoor.Tree
open Go.ChangeShapes Go.WideShapes Go.ChangeAt Go.RowKit Mem
set_option linter.unusedVariables false

theorem ofM_eq : ∀ l : List Nd, ofM l = ofL l
  | [] => rfl
  | nd :: l => by simp only [ofM, ofL, ofM_eq l]
theorem toM_eq : ∀ f : F, toM f = toL f
  | .nil => rfl
  | .cons k x y c r => by simp only [toM, toL, toM_eq r]
theorem smallT_toL : ∀ {f : F}, SmallT f → ∀ nd ∈ toL f, nd.x.size ≤ 100000 ∧ nd.y.size ≤ 100000 ∧ SmallT nd.c
  | .nil, _, nd, hnd => by cases hnd
  | .cons k x y c r, h, nd, hnd => by
    rcases List.mem_cons.1 hnd with rfl | hnd
    · exact ⟨h.1, h.2.1, h.2.2.1⟩
    · exact smallT_toL h.2.2.2 nd hnd
theorem smallT_ofL : ∀ {l : List Nd}, (∀ nd ∈ l, nd.x.size ≤ 100000 ∧ nd.y.size ≤ 100000 ∧ SmallT nd.c) → SmallT (ofL l)
  | [], _ => trivial
  | nd :: l, h => by
    obtain ⟨h1, h2, h3⟩ := h nd (List.mem_cons_self ..)
    exact ⟨h1, h2, h3, smallT_ofL fun nd hn => h nd (List.mem_cons_of_mem _ hn)⟩
theorem smallT_small : ∀ {f : F}, SmallT f → Small f
  | .nil, _ => trivial
  | .cons k x y c r, h => ⟨Nat.le_trans h.1 (by omega), Nat.le_trans h.2.1 (by omega), smallT_small h.2.2.1, smallT_small h.2.2.2⟩
/-- The three variables: u6, u7: what the two of the call's own hold; v6, v7: the rows. -/
structure NSt (w wr : World) (g2 g6 g7 : Nat) (k : Int) (x y : ByteArray) (sl : Value) (u6 u7 v6 v7 : Value) (L6 L7 : List Nd) : Prop where
  bel : Below w.heap.size w wr
  b2 : Boxed wr g2 k x y sl
  b6 : Boxed wr g6 1 ⟨#[]⟩ ⟨#[]⟩ u6
  b7 : Boxed wr g7 1 ⟨#[]⟩ ⟨#[]⟩ u7
  o6 : OwnS wr (Lo w.heap.size) v6 L6
  o7 : OwnS wr (Lo w.heap.size) v7 L7
  gs : w.heap.size ≤ g2 ∧ w.heap.size ≤ g6 ∧ w.heap.size ≤ g7 ∧ g2 ≠ g6 ∧ g2 ≠ g7 ∧ g6 ≠ g7
  d6 : ∀ g, v6.ownBlock = some g → w.heap.size ≤ g ∧ g ≠ g2 ∧ g ≠ g6 ∧ g ≠ g7 ∧ v7.ownBlock ≠ some g
  d7 : ∀ g, v7.ownBlock = some g → w.heap.size ≤ g ∧ g ≠ g2 ∧ g ≠ g6 ∧ g ≠ g7

section
variable {w wr W : World} {g2 g6 g7 : Nat} {k : Int} {x y : ByteArray} {sl : Value} {u6 u7 v6 v7 v' : Value} {L6 L7 : List Nd} {nd : Nd}
theorem NSt.later (h : NSt w wr g2 g6 g7 k x y sl u6 u7 v6 v7 L6 L7) (hb : Below wr.heap.size wr W) : NSt w W g2 g6 g7 k x y sl u6 u7 v6 v7 L6 L7 :=
  have hs : ∀ b, Lo w.heap.size b → b < wr.heap.size := fun b hb' => Nat.lt_of_lt_of_le hb' h.bel.size
  ⟨h.bel.trans (hb.mono h.bel.size), h.b2.below hb h.b2.lt, h.b6.below hb h.b6.lt, h.b7.below hb h.b7.lt, h.o6.later hb hs, h.o7.later hb hs, h.gs, h.d6, h.d7⟩
theorem NSt.s6 (h : NSt w wr g2 g6 g7 k x y sl u6 u7 v6 v7 L6 L7) : ∀ b, Lo w.heap.size b → b < wr.heap.size ∧ some b ≠ v6.ownBlock := fun b hb => by
  have hb' : b < w.heap.size := hb
  exact ⟨Nat.lt_of_lt_of_le hb' h.bel.size, fun e => by have := (h.d6 b e.symm).1; omega⟩
theorem NSt.s7 (h : NSt w wr g2 g6 g7 k x y sl u6 u7 v6 v7 L6 L7) : ∀ b, Lo w.heap.size b → b < wr.heap.size ∧ some b ≠ v7.ownBlock := fun b hb => by
  have hb' : b < w.heap.size := hb
  exact ⟨Nat.lt_of_lt_of_le hb' h.bel.size, fun e => by have := (h.d7 b e.symm).1; omega⟩
theorem NSt.app6 (h : NSt w wr g2 g6 g7 k x y sl u6 u7 v6 v7 L6 L7) (ho : OwnS W (Lo w.heap.size) v' (L6 ++ [nd])) (hg : wr.grownBy W v6.ownBlock) (hv : v'.ownBlock = v6.ownBlock ∨ v'.ownBlock = some wr.heap.size) :
    NSt w W g2 g6 g7 k x y sl u6 u7 v' v7 (L6 ++ [nd]) L7 := by
  have q2 := h.b2.lt; have q6 := h.b6.lt; have q7 := h.b7.lt
  refine ⟨h.bel.trans (below_grown hg h.bel.size fun g e => (h.d6 g e).1), (hg.block g2 q2 fun e => (h.d6 g2 e.symm).2.1 rfl).trans h.b2, (hg.block g6 q6 fun e => (h.d6 g6 e.symm).2.2.1 rfl).trans h.b6, (hg.block g7 q7 fun e => (h.d6 g7 e.symm).2.2.2.1 rfl).trans h.b7, ho, ?_, h.gs, fun g e => ?_, h.d7⟩
  · refine h.o7.grown hg ?_ h.s6
    cases e : v7.ownBlock with
    | none => exact .inl rfl
    | some g => exact .inr fun e' => (h.d6 g e'.symm).2.2.2.2 e
  · rcases hv with hv | hv
    · exact h.d6 g (hv ▸ e)
    · rw [hv] at e
      obtain rfl := Option.some.inj e
      exact ⟨h.bel.size, by omega, by omega, by omega, fun e => Nat.lt_irrefl _ (h.o7.lt e)⟩
theorem NSt.app7 (h : NSt w wr g2 g6 g7 k x y sl u6 u7 v6 v7 L6 L7) (ho : OwnS W (Lo w.heap.size) v' (L7 ++ [nd])) (hg : wr.grownBy W v7.ownBlock) (hv : v'.ownBlock = v7.ownBlock ∨ v'.ownBlock = some wr.heap.size) :
    NSt w W g2 g6 g7 k x y sl u6 u7 v6 v' L6 (L7 ++ [nd]) := by
  have q2 := h.b2.lt; have q6 := h.b6.lt; have q7 := h.b7.lt
  refine ⟨h.bel.trans (below_grown hg h.bel.size fun g e => (h.d7 g e).1), (hg.block g2 q2 fun e => (h.d7 g2 e.symm).2.1 rfl).trans h.b2, (hg.block g6 q6 fun e => (h.d7 g6 e.symm).2.2.1 rfl).trans h.b6, (hg.block g7 q7 fun e => (h.d7 g7 e.symm).2.2.2 rfl).trans h.b7, ?_, ho, h.gs, fun g e => ?_, fun g e => ?_⟩
  · refine h.o6.grown hg ?_ h.s7
    cases e : v6.ownBlock with
    | none => exact .inl rfl
    | some g => exact .inr fun e' => (h.d6 g e).2.2.2.2 e'.symm
  · obtain ⟨r1, r2, r3, r4, r5⟩ := h.d6 g e
    refine ⟨r1, r2, r3, r4, fun e' => ?_⟩
    rcases hv with hv | hv
    · exact r5 (hv ▸ e')
    · rw [hv] at e'
      obtain rfl := Option.some.inj e'
      exact Nat.lt_irrefl _ (h.o6.lt e)
  · rcases hv with hv | hv
    · exact h.d7 g (hv ▸ e)
    · rw [hv] at e
      obtain rfl := Option.some.inj e
      exact ⟨h.bel.size, by omega, by omega, by omega⟩
theorem NSt.set6 (h : NSt w wr g2 g6 g7 k x y sl u6 u7 v6 v7 L6 L7) : NSt w (wr.setCell ⟨g6, 3, none⟩ v6) g2 g6 g7 k x y sl v6 u7 v6 v7 L6 L7 := by
  have hg := set_grown wr g6 3 v6
  have hlo : ∀ b, Lo w.heap.size b → b < wr.heap.size ∧ some b ≠ some g6 := fun b hb => by
    have hb' : b < w.heap.size := hb
    have := h.gs.2.1
    exact ⟨Nat.lt_of_lt_of_le hb' h.bel.size, fun e => by obtain rfl := Option.some.inj e; omega⟩
  refine ⟨h.bel.setCell (p := ⟨g6, 3, none⟩) h.gs.2.1 _, (Below.heap_setCell _ _ _ _ h.gs.2.2.2.1).trans h.b2, ?_, (Below.heap_setCell _ _ _ _ (Ne.symm h.gs.2.2.2.2.2)).trans h.b7, h.o6.grown hg (.inr fun e => (h.d6 g6 e).2.2.1 rfl) hlo, h.o7.grown hg (.inr fun e => (h.d7 g6 e).2.2.1 rfl) hlo, h.gs, h.d6, h.d7⟩
  have := set_at h.b6 3 v6
  unfold Boxed
  simpa using this
theorem NSt.set7 (h : NSt w wr g2 g6 g7 k x y sl u6 u7 v6 v7 L6 L7) : NSt w (wr.setCell ⟨g7, 3, none⟩ v7) g2 g6 g7 k x y sl u6 v7 v6 v7 L6 L7 := by
  have hg := set_grown wr g7 3 v7
  have hlo : ∀ b, Lo w.heap.size b → b < wr.heap.size ∧ some b ≠ some g7 := fun b hb => by
    have hb' : b < w.heap.size := hb
    have := h.gs.2.2.1
    exact ⟨Nat.lt_of_lt_of_le hb' h.bel.size, fun e => by obtain rfl := Option.some.inj e; omega⟩
  refine ⟨h.bel.setCell (p := ⟨g7, 3, none⟩) h.gs.2.2.1 _, (Below.heap_setCell _ _ _ _ h.gs.2.2.2.2.1).trans h.b2, (Below.heap_setCell _ _ _ _ h.gs.2.2.2.2.2).trans h.b6, ?_, h.o6.grown hg (.inr fun e => (h.d6 g7 e).2.2.2.1 rfl) hlo, h.o7.grown hg (.inr fun e => (h.d7 g7 e).2.2.2 rfl) hlo, h.gs, h.d6, h.d7⟩
  have := set_at h.b7 3 v7
  unfold Boxed
  simpa using this
/-- The row of the first, as trees. -/
theorem NSt.fs6 (h : NSt w wr g2 g6 g7 k x y sl u6 u7 v6 v7 L6 L7) : Fs wr (Lo wr.heap.size) v6 (ofL L6) :=
  h.o6.fs (fun b hb => Nat.lt_of_lt_of_le hb h.bel.size) fun g e => h.o6.lt e
theorem NSt.fs7 (h : NSt w wr g2 g6 g7 k x y sl u6 u7 v6 v7 L6 L7) : Fs wr (Lo wr.heap.size) v7 (ofL L7) :=
  h.o7.fs (fun b hb => Nat.lt_of_lt_of_le hb h.bel.size) fun g e => h.o7.lt e
end
end Go.Proofs.YtoecimgmghlfpaaGreatDoor.Tree
