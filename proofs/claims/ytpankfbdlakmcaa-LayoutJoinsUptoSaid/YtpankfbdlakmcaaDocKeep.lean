/-
  Layer 7 (doc): what steps keep: blocks of documents; the blocks that a function which takes pieces may turn; rows of pointers.
-/
import Derived.Test.YtpankfbdlakmcaaChecked
import Derived.Test.YtpankfbdlakmcaaDocMem
import Derived.RangeFuncBox
import Derived.OwnWalk
import Derived.OwnWalkIn
import Derived.Maps.AppendAt
import Derived.Maps.OwnIn
import Derived.Lib.OthersKept
namespace Go.Proofs.Ytpankfbdlakmcaa.Doc
open Go.ChangeShapes Go.WideShapes Go.ChangeAt Go.RowKit
set_option linter.unusedVariables false

/-- A block of documents. -/
def Db (w : World) (b : Nat) : Prop := ∃ cs fz, w.heap[b]? = some (.cells cs 32 fz)
/-- What a function that takes pieces may hold: integers, bools, bytes, a Builder, pieces and a variable of them. -/
def Snk (T : TypeId) : Prop := T = 3 ∨ T = 4 ∨ T = 5 ∨ T = 62 ∨ T = 42 ∨ T = 45
instance (T : TypeId) : Decidable (Snk T) := by unfold Snk; infer_instance
/-- All but what such a function may hold, from block B0 on, is as it was. -/
structure Kept (B0 : Nat) (w w' : World) : Prop where
  os : w'.os = w.os
  tape : w'.tape = w.tape
  output : w'.output = w.output
  size : w.heap.size ≤ w'.heap.size
  block : ∀ k o, w.heap[k]? = some o → (k < B0 ∨ ∀ cs T fz, o = .cells cs T fz → ¬ Snk T) → w'.heap[k]? = some o
/-- All blocks of variables but rows of pointers to documents are as they were. -/
structure QK (w w' : World) : Prop where
  size : w.heap.size ≤ w'.heap.size
  block : ∀ (k : Nat) (cs : Array Value) (T : TypeId) (fz : Nat × Nat), w.heap[k]? = some (Obj.cells cs T fz) → T ≠ 88 → w'.heap[k]? = some (Obj.cells cs T fz)

theorem lt_of {w : World} {b : Nat} {o : Obj} (h : w.heap[b]? = some o) : b < w.heap.size := (Array.getElem?_eq_some_iff.1 h).1
section
variable {B0 : Nat} {w w1 w2 w' : World} {v : Value} {g : G}
theorem Db.lt {b : Nat} (h : Db w b) : b < w.heap.size := by obtain ⟨_, _, h⟩ := h; exact lt_of h
theorem Gs.db (h : Gs w (Db w) v g) (hk : ∀ b, Db w b → w'.heap[b]? = w.heap[b]?) : Gs w' (Db w') v g :=
  (h.keep hk).more fun b hb => by obtain ⟨cs, fz, e⟩ := hb; exact ⟨cs, fz, (hk b ⟨cs, fz, e⟩).trans e⟩
theorem Gs.dbB (h : Gs w (Db w) v g) (hb : Below w.heap.size w w') : Gs w' (Db w') v g := h.db fun b hb' => hb.block b hb'.lt
theorem Db.below {b : Nat} (h : Db w b) (hb : Below w.heap.size w w') : Db w' b := by obtain ⟨cs, fz, e⟩ := h; exact ⟨cs, fz, (hb.block b (lt_of e)).trans e⟩

theorem Kept.refl (B0 : Nat) (w : World) : Kept B0 w w := ⟨rfl, rfl, rfl, Nat.le_refl _, fun _ _ h _ => h⟩
theorem Kept.trans (h : Kept B0 w w1) (k : Kept B0 w1 w2) : Kept B0 w w2 := ⟨k.os.trans h.os, k.tape.trans h.tape, k.output.trans h.output, Nat.le_trans h.size k.size, fun i o hi hc => k.block i o (h.block i o hi hc) hc⟩
theorem Kept.ofB (h : Below w.heap.size w w') : Kept B0 w w' := ⟨h.os, h.tape, h.output, h.size, fun k o hk _ => (h.block k (lt_of hk)).trans hk⟩
theorem Kept.later (h : Kept B0 w w1) (k : Below w1.heap.size w1 w2) : Kept B0 w w2 := h.trans (Kept.ofB k)
theorem Kept.below (h : Kept B0 w w') (hB : B0 ≤ w.heap.size) : Below B0 w w' := ⟨h.os, h.tape, h.output, h.size, fun k hk => by
  have hlt : k < w.heap.size := by omega
  have e : w.heap[k]? = some w.heap[k] := Array.getElem?_eq_getElem hlt
  rw [e]; exact h.block k _ e (.inl hk)⟩
theorem Kept.obj (h : Kept B0 w w') {k : Nat} {cs : Array Value} {T : TypeId} {fz : Nat × Nat} (e : w.heap[k]? = some (.cells cs T fz)) (hT : ¬ Snk T) : w'.heap[k]? = some (.cells cs T fz) :=
  h.block k _ e (.inr fun cs' T' fz' e' => by injection e' with _ e2 _; subst e2; exact hT)
theorem Kept.nc (h : Kept B0 w w') {k : Nat} {o : Obj} (e : w.heap[k]? = some o) (ho : o.isCells = false) : w'.heap[k]? = some o :=
  h.block k _ e (.inr fun cs' T' fz' e' => by subst e'; cases ho)
theorem doc_not : ¬ Snk 32 := by decide
theorem ptr_not : ¬ Snk 88 := by decide
theorem Kept.dbk (h : Kept B0 w w') : ∀ b, Db w b → w'.heap[b]? = w.heap[b]? := fun b hb => by obtain ⟨cs, fz, e⟩ := hb; rw [e]; exact h.obj e doc_not
theorem Kept.ds (h : Kept B0 w w') (hg : Gs w (Db w) v g) : Gs w' (Db w') v g := hg.db h.dbk
theorem Kept.db {b : Nat} (h : Kept B0 w w') (hb : Db w b) : Db w' b := by obtain ⟨cs, fz, e⟩ := hb; exact ⟨cs, fz, h.obj e doc_not⟩
theorem Kept.dcell (h : Kept B0 w w') {b off : Nat} {u : Value} (hb : Db w b) (hc : w.cell? ⟨b, off, none⟩ = some u) : w'.cell? ⟨b, off, none⟩ = some u := (World.cell?_of_block (a := ⟨b, off, none⟩) (h.dbk b hb)).trans hc
theorem Kept.grown (h : Kept B0 w w1) {row : Option Nat} (hg : w1.grownBy w2 row) (hr : ∀ r, row = some r → w.heap.size ≤ r) : Kept B0 w w2 :=
  ⟨hg.os.trans h.os, hg.tape.trans h.tape, hg.output.trans h.output, Nat.le_trans h.size hg.size, fun k o hk hc => (hg.block k (lt_of (h.block k o hk hc)) (fun e => by have := hr k e.symm; have := lt_of hk; omega)).trans (h.block k o hk hc)⟩
theorem Kept.own (h : Kept B0 w w') {base n : Nat} {vs : List Value} (ho : w.ownsRow base 88 1 v n vs) : w'.ownsRow base 88 1 v n vs := by
  refine ⟨ho.1, ?_⟩
  rcases ho.2 with hn | ⟨b, cap, cur, e, h1, h2, h3⟩
  · exact .inl hn
  · exact .inr ⟨b, cap, cur, e, h1, h.obj h2 ptr_not, h3⟩

theorem QK.refl (w : World) : QK w w := ⟨Nat.le_refl _, fun _ _ _ _ h _ => h⟩
theorem QK.trans (h : QK w w1) (k : QK w1 w2) : QK w w2 := ⟨Nat.le_trans h.size k.size, fun i cs T fz hi hT => k.block i cs T fz (h.block i cs T fz hi hT) hT⟩
theorem QK.ofB (h : Below w.heap.size w w') : QK w w' := ⟨h.size, fun k cs T fz hk _ => (h.block k (lt_of hk)).trans hk⟩
/-- A step that turns a row of pointers, or what is no variable. -/
theorem QK.grown {row : Option Nat} (hg : w.grownBy w' row) (hr : ∀ r cs T fz, row = some r → w.heap[r]? = some (.cells cs T fz) → T = 88) : QK w w' :=
  ⟨hg.size, fun k cs T fz hk hT => (hg.block k (lt_of hk) (fun e => hT (hr k cs T fz e.symm hk))).trans hk⟩
end

theorem own_below' {w w' : World} {base n size : Nat} {E : TypeId} {v : Value} {vs : List Value} (ho : w.ownsRow base E size v n vs) (hb : Below w.heap.size w w') : w'.ownsRow base E size v n vs := by
  refine ⟨ho.1, ?_⟩
  rcases ho.2 with hn | ⟨b, cap, cur, e, h1, h2, h3⟩
  · exact .inl hn
  · exact .inr ⟨b, cap, cur, e, h1, (hb.block b (lt_of h2)).trans h2, h3⟩
theorem ptr_info : (Try.prog.info? 88).map (fun i => (i.zero, i.size, i.bytes)) = some (some (.pointer none), 1, 8) := by kernel_rfl
/-- append of one pointer onto a row of the call's own, inside a fence. -/
theorem appIn_ptr {F : Fence} {n : Nat} (w : World) {ops : Array Oper} {rest : List Oper} {o : Oper} {a : Act} {Q : Exit → Act → World → Prop} (hgd : o.guard = none) (s x : Operand)
    (ho : o.op = .call { callee := .builtin .append, args := #[s, x], argTypes := #[89, 89] }) (base : Nat) (v : Value) (m : Nat) (vs : List Value) (line : Value) (hs : a.eval s = v)
    (hown : w.ownsRow base 88 1 v m vs) (h1 : line.oneCell' = true) (g : Nat) (hg : g = w.heap.size) (hx : a.eval x = .slice (some ⟨g, 0, none⟩) 1 1) (h63 : m ≤ 1000000000) (hbase : base ≤ w.heap.size)
    (h : ∀ v' w', w'.ownsRow base 88 1 v' (m + 1) (vs ++ [line]) → (w.alloc (.cells #[line] 88)).grownBy w' v.ownBlock → (v'.ownBlock = v.ownBlock ∨ v'.ownBlock = some (w.heap.size + 1)) → wpListIn F n Try.prog ops Q rest (a.put o.dst v') w') :
    wpListIn F n Try.prog ops Q (o :: rest) a (w.alloc (.cells #[line] 88)) := by
  obtain ⟨i0, hi0, hz0, hz1, hz2⟩ := info_parts ptr_info
  subst hg
  refine wpListIn_plain hgd fun K hK => ?_
  obtain ⟨v', w', hr, h2, h3, _, h5⟩ := run_append_own_at (P := Try.prog) (w.alloc (.cells #[line] 88)) base 89 o.type 88 i0 (.pointer none) 1 8 Try.underlying89 hi0 hz0 hz1 hz2 rfl (by decide) v m vs (hown.alloc _) ⟨w.heap.size, 0, none⟩ 1 1 [line] rfl (cell_one_new _ _ _) (by simp [h1]) (by unfold maxLen; omega) (by omega) (by simp; omega)
  unfold Oper.wpIn
  refine ⟨?_, ?_⟩
  · simp [Oper.about, ho, resolve, Target.leads, Sem.run_pure]
  · rw [Oper.semAt_plain F _ _ (by rw [ho]; intro c hc'; cases hc')]
    simp [execOp, ho, resolve, invoke, builtin, hs, hx, hr, Result.andThen]
    exact hK _ _ (h v' w' h2 h3 (by simpa using h5))
end Go.Proofs.Ytpankfbdlakmcaa.Doc
