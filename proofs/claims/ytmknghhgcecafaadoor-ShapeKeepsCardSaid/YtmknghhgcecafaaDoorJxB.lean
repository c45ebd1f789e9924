import Derived.Test.YtmknghhgcecafaaDoorTreeMath
import Derived.WalkKit
import Derived.ProofKit
import Derived.OpenShut
import Derived.Below
import Derived.Lib.Hide
import Derived.Deep.QuietTactic
import Derived.BigQuiet
import Derived.Test.YtmknghhgcecafaaDoorChecked
import Derived.Outline
import Derived.WalkMore
import Derived.OneCell
import Derived.OwnWalk
import Derived.Test.YtmknghhgcecafaaDoorJxA
import Derived.Shelf.Abstract
import Derived.Deep.LoopGhost
import Derived.Maps.AppendAt
import Derived.Laws.EntriesVeiled

/-
  Layer 5 (tree): how a row of trees lies in memory. Nothing of the program is imported.
-/
namespace Go.Proofs.YtmknghhgcecafaaDoor.Tree
open Go.ChangeShapes Go.WideShapes Go.ChangeAt Go.RowKit
set_option linter.unusedVariables false

/-- The slice v reads as the row of trees f; every block that it goes through is one of S. -/
def Fs (w : World) (S : Nat → Prop) : Value → F → Prop
  | v, .nil => ∃ A C, v = .slice A 0 C ∧ C ≤ 9223372036854775807
  | v, .cons k x y c r => ∃ b off n C s, v = .slice (some ⟨b, off, none⟩) (n + 1) (C + 1) ∧ r.len = n ∧ n ≤ C ∧ C + 1 ≤ 9223372036854775807 ∧ S b ∧
      w.cell? ⟨b, off, none⟩ = some (.int .i64 k) ∧ w.cell? ⟨b, off + 1, none⟩ = some (.string x) ∧ w.cell? ⟨b, off + 2, none⟩ = some (.string y) ∧ w.cell? ⟨b, off + 3, none⟩ = some s ∧
      Fs w S s c ∧ ∀ A', (r = .nil ∨ A' = some ⟨b, off + 4, none⟩) → Fs w S (.slice A' n C) r

/-- The blocks below B. -/
def Lo (B : Nat) : Nat → Prop := fun b => b < B

section
variable {w w' : World} {S S' : Nat → Prop} {v : Value} {f : F}
theorem Fs.keep : ∀ {f : F} {v : Value}, Fs w S v f → (∀ b, S b → w'.heap[b]? = w.heap[b]?) → Fs w' S v f
  | .nil, v, h, _ => h
  | .cons k x y c r, v, ⟨b, off, n, C, s, e, h1, h2, h3, hS, c0, c1, c2, c3, hk, hr⟩, hh =>
    ⟨b, off, n, C, s, e, h1, h2, h3, hS, (World.cell?_of_block (w := w) (hh b hS)).trans c0, (World.cell?_of_block (w := w) (hh b hS)).trans c1, (World.cell?_of_block (w := w) (hh b hS)).trans c2, (World.cell?_of_block (w := w) (hh b hS)).trans c3,
      hk.keep hh, fun A' hA => (hr A' hA).keep hh⟩
theorem Fs.more : ∀ {f : F} {v : Value}, Fs w S v f → (∀ b, S b → S' b) → Fs w S' v f
  | .nil, v, h, _ => h
  | .cons k x y c r, v, ⟨b, off, n, C, s, e, h1, h2, h3, hS, c0, c1, c2, c3, hk, hr⟩, hh =>
    ⟨b, off, n, C, s, e, h1, h2, h3, hh b hS, c0, c1, c2, c3, hk.more hh, fun A' hA => (hr A' hA).more hh⟩
theorem Fs.below {B B0 : Nat} (h : Fs w (Lo B) v f) (hb : Below B0 w w') (hB : B ≤ B0) : Fs w' (Lo B) v f :=
  h.keep fun b hb' => hb.block b (Nat.lt_of_lt_of_le hb' hB)
theorem Fs.up {B B' : Nat} (h : Fs w (Lo B) v f) (hB : B ≤ B') : Fs w (Lo B') v f := h.more fun b hb => Nat.lt_of_lt_of_le hb hB
theorem Fs.drewN (h : Fs w S v f) (q : Nat) : Fs (w.drewN q) S v f := h.keep fun _ _ => rfl

theorem Fs.slice : ∀ {f : F} {v : Value}, Fs w S v f → ∃ A C, v = .slice A f.len C ∧ f.len ≤ C ∧ C ≤ 9223372036854775807
  | .nil, v, ⟨A, C, e, h⟩ => ⟨A, C, e, Nat.zero_le _, h⟩
  | .cons k x y c r, v, ⟨b, off, n, C, s, e, h1, h2, h3, _⟩ => ⟨some ⟨b, off, none⟩, C + 1, by rw [e, ← h1]; rfl, by simp only [F.len]; omega, h3⟩

theorem Fs.nil {A : Option Addr} {C : Nat} (hC : C ≤ 9223372036854775807) : Fs w S (.slice A 0 C) .nil := ⟨A, C, rfl, hC⟩

/-- What stands at place i. -/
structure At (w : World) (S : Nat → Prop) (b off i : Nat) (k : Int) (x y : ByteArray) (c : F) (s : Value) : Prop where
  c0 : w.cell? ⟨b, off + i * 4, none⟩ = some (.int .i64 k)
  c1 : w.cell? ⟨b, off + i * 4 + 1, none⟩ = some (.string x)
  c2 : w.cell? ⟨b, off + i * 4 + 2, none⟩ = some (.string y)
  c3 : w.cell? ⟨b, off + i * 4 + 3, none⟩ = some s
  kids : Fs w S s c

theorem Fs.drop : ∀ {f : F} {b off n C : Nat} (i : Nat), Fs w S (.slice (some ⟨b, off, none⟩) n C) f → i ≤ n → ∀ A', (i = n ∨ A' = some ⟨b, off + i * 4, none⟩) → Fs w S (.slice A' (n - i) (C - i)) (f.drop i)
  | .nil, b, off, n, C, i, ⟨A, C', e, h⟩, hi, A', hA => by
    injection e with e1 e2 e3
    subst e2
    rw [F.drop_nil]
    exact ⟨A', C - i, by rw [Nat.zero_sub], by omega⟩
  | .cons k x y c r, b, off, n, C, 0, h, hi, A', hA => by
    rcases hA with hA | hA
    · subst hA
      obtain ⟨b', off', n', C', s, e, _⟩ := h
      injection e with _ e2 _
      cases e2
    · subst hA
      simpa [F.drop] using h
  | .cons k x y c r, b, off, n, C, i + 1, ⟨b', off', n', C', s, e, h1, h2, h3, hS, c0, c1, c2, c3, hk, hr⟩, hi, A', hA => by
    injection e with e1 e2 e3
    injection e1 with e1
    injection e1 with e4 e5
    subst e2; subst e3; subst e4; subst e5
    by_cases hz : r = .nil
    · subst hz
      simp only [F.drop, F.drop_nil]
      simp only [F.len] at h1
      subst h1
      exact ⟨A', C' + 1 - (i + 1), by simp, by omega⟩
    · have := (hr (some ⟨b, off + 4, none⟩) (.inr rfl)).drop i (by omega) A' (by
        rcases hA with hA | hA
        · exact .inl (by omega)
        · exact .inr (by rw [hA, show off + (i + 1) * 4 = off + 4 + i * 4 by omega]))
      simpa [F.drop, Nat.add_sub_add_right] using this

theorem Fs.at_ {A : Option Addr} {n C : Nat} {i : Nat} {k : Int} {x y : ByteArray} {c r : F} (h : Fs w S (.slice A n C) f) (hf : f.drop i = .cons k x y c r) : ∃ b off s, A = some ⟨b, off, none⟩ ∧ S b ∧ i < n ∧ At w S b off i k x y c s := by
  have hlen : i < f.len := by
    have := F.drop_len i f
    rw [hf] at this
    simp only [F.len] at this
    omega
  obtain ⟨A', C', e, _⟩ := h.slice
  injection e with e1 e2 e3
  subst e1; subst e2; subst e3
  cases f with
  | nil => simp [F.len] at hlen
  | cons k' x' y' c' r' =>
    have h' := h
    obtain ⟨b, off, n', C'', s', e, _, _, _, hS, _⟩ := h'
    injection e with e1 e2 e3
    subst e1; subst e3
    have hd := h.drop i (by omega) (some ⟨b, off + i * 4, none⟩) (.inr rfl)
    rw [hf] at hd
    obtain ⟨b2, off2, n2, C2, s, e, _, _, _, _, c0, c1, c2, c3, hk, _⟩ := hd
    injection e with e1 e2 e3
    injection e1 with e1
    injection e1 with e4 e5
    subst e4; subst e5
    exact ⟨b, off, s, rfl, hS, hlen, c0, c1, c2, c3, hk⟩
end

/-- A node as a value, whose Kids lie at s. -/
def ndV (k : Int) (x y : ByteArray) (s : Value) : Value := .agg #[.int .i64 k, .string x, .string y, s]
end Go.Proofs.YtmknghhgcecafaaDoor.Tree

/-
  Layer 5 (tree): how strongly operators bind (Level), what stands in parentheses (Paren), how deep.
-/
namespace Go.Proofs.YtmknghhgcecafaaDoor.Tree
open Go.ChangeShapes Go.WideShapes Go.ChangeAt Go.RowKit
set_option linter.unusedVariables false

-- BEGIN LEVEL
end Go.Proofs.YtmknghhgcecafaaDoor.Tree

/-
  Layer 5 (tree): the tests of kinds, and which kinds hold items.
-/
namespace Go.Proofs.YtmknghhgcecafaaDoor.Tree
open Go.ChangeShapes Go.WideShapes Go.ChangeAt Go.RowKit
set_option linter.unusedVariables false

theorem kno {k j : Int} (h : ¬ k = j) : (k == j) = false := by simpa using h

end Go.Proofs.YtmknghhgcecafaaDoor.Tree

/-
  Layer 5 (tree): slices.Contains of texts and of numbers.
-/
namespace Go.Proofs.YtmknghhgcecafaaDoor.Tree
open Go.ChangeShapes Go.WideShapes Go.ChangeAt Go.RowKit
set_option linter.unusedVariables false

theorem any_step {α : Type} {p : α → Bool} {l : List α} {k : Nat} {u : α} (hu : l[k]? = some u) (h : (l.take k).any p = false) (hp : p u = false) : (l.take (k + 1)).any p = false := by
  rw [List.take_add_one, hu, List.any_append, h]
  simp [hp]
theorem any_hit {α : Type} {p : α → Bool} {l : List α} {k : Nat} {u : α} (hu : l[k]? = some u) (hp : p u = true) : l.any p = true :=
  List.any_eq_true.2 ⟨u, List.mem_of_getElem? hu, hp⟩
theorem any_end {α : Type} {p : α → Bool} {l : List α} {n : Nat} (hn : l.length ≤ n) (h : (l.take n).any p = false) : l.any p = false := by
  rwa [List.take_of_length_le hn] at h

end Go.Proofs.YtmknghhgcecafaaDoor.Tree

/-
  Layer 5 (tree): the closures: tests, parts, rows of parts.
-/
namespace Go.Proofs.YtmknghhgcecafaaDoor.Tree
open Go.ChangeShapes Go.WideShapes Go.ChangeAt Go.RowKit Mem
set_option linter.unusedVariables false

/-- A function that is entered as it stands. -/
def Entered (gf : Nat) : Prop := ∀ args w, (callFunc gf args).run Tryd.prog w = .ok (.enter gf args) w

/-- The function value v is a test that tells p of a node's kind and text, now and later. -/
def TestOk (w : World) (v : Value) (p : Int → ByteArray → Bool) : Prop :=
  ∃ gf caps, v = .func (.func gf) #[] caps ∧ Entered gf ∧ ∀ W, Below w.heap.size w W → ∀ k x y A n C, Calls Tryd.prog gf (#[.agg #[.int .i64 k, .string x, .string y, .slice A n C]] ++ caps) W fun e W' => e = .returned (.bool (p k x)) ∧ Below W.heap.size W W'
theorem TestOk.later {w w' : World} {v : Value} {p : Int → ByteArray → Bool} (h : TestOk w v p) (hb : Below w.heap.size w w') : TestOk w' v p := by
  obtain ⟨gf, caps, e, he, hc⟩ := h
  exact ⟨gf, caps, e, he, fun W hW => hc W (hb.trans (hW.mono hb.size))⟩

theorem entered_of {gf : Nat} {fn : Func} (h : ∀ args w, (callFunc gf args).run Tryd.prog w = .ok (.enter gf args) w) : Entered gf := h

end Go.Proofs.YtmknghhgcecafaaDoor.Tree

/-
  Layer 5 (tree): of, one, many, row.
-/
namespace Go.Proofs.YtmknghhgcecafaaDoor.Tree
open Go.ChangeShapes Go.WideShapes Go.ChangeAt Go.RowKit Mem
set_option linter.unusedVariables false

theorem _root_.Go.Below.drewN' {B : Nat} {a w : World} (h : Below B a w) (n : Nat) : Below B a (w.drewN n) := ⟨h.os, h.tape, h.output, h.size, h.block⟩
theorem drewNb {B : Nat} {a w : World} (h : Below B a w) (n : Nat) : Below B a (w.drewN n) := ⟨h.os, h.tape, h.output, h.size, h.block⟩
theorem below1 (w : World) (o : Obj) : Below w.heap.size w (w.alloc o) := (Below.refl _ _).alloc (Nat.le_refl _) _

/-- The function value v takes the part pt of Kids, now and later. -/
def TakePost (pt : Pt) (f : F) (w : World) (e : Ending) (w' : World) : Prop :=
  Below w.heap.size w w' ∧ ((pt.take f = none ∧ ∃ v, e = .returned (.tuple #[v, .bool false])) ∨ (∃ g A n C, pt.take f = some g ∧ e = .returned (.tuple #[.slice A n C, .bool true]) ∧ Fs w (Lo w.heap.size) (.slice A n C) g))
def PartOk (w : World) (v : Value) (pt : Pt) : Prop :=
  ∃ gf c, v = .func (.func gf) #[] #[.pointer (some ⟨c, 0, none⟩)] ∧ Entered gf ∧ ∀ W, Below w.heap.size w W → ∀ A n C f, Fs W (Lo W.heap.size) (.slice A n C) f → Calls Tryd.prog gf #[.slice A n C, .pointer (some ⟨c, 0, none⟩)] W (TakePost pt f W)
theorem PartOk.later {w w' : World} {v : Value} {pt : Pt} (h : PartOk w v pt) (hb : Below w.heap.size w w') : PartOk w' v pt := by
  obtain ⟨gf, c, e, he, hc⟩ := h
  exact ⟨gf, c, e, he, fun W hW => hc W (hb.trans (hW.mono hb.size))⟩

theorem Fs.tail {w : World} {S : Nat → Prop} {b off n C : Nat} {k : Int} {x y : ByteArray} {c r : F} (h : Fs w S (.slice (some ⟨b, off, none⟩) n C) (.cons k x y c r)) :
    1 ≤ n ∧ n ≤ C ∧ C ≤ 9223372036854775807 ∧ r.len = n - 1 ∧ ∀ A', (n - 1 = 0 ∨ A' = some ⟨b, off + 4, none⟩) → Fs w S (.slice A' (n - 1) (C - 1)) r := by
  obtain ⟨b', off', n', C', s, e, h1, h2, h3, _, _, _, _, _, _, hr⟩ := h
  injection e with e1 e2 e3
  injection e1 with e1
  injection e1 with e4 e5
  subst e4; subst e5; subst e2; subst e3
  refine ⟨by omega, by omega, h3, by simpa using h1, fun A' hA => ?_⟩
  simp only [Nat.add_sub_cancel] at hA ⊢
  refine hr A' ?_
  rcases hA with hA | hA
  · exact .inl (F.len_zero (by omega))
  · exact .inr hA
/-- kids[1:]. -/
theorem tail_slice (b off n C : Nat) (hn : 1 ≤ n) (hC : n ≤ C) : ∃ A' n' C', (∀ W, (Instr.slice 22 (.slice (some ⟨b, off, none⟩) n C) (some (.int .i64 1)) none none).run Tryd.prog W = .ok (.slice A' n' C') W) ∧ n' = n - 1 ∧ C' = C - 1 ∧ (n - 1 = 0 ∨ A' = some ⟨b, off + 4, none⟩) := by
  have h2 : (1 : Int) ≤ (n : Int) := by omega
  refine ⟨if C = 1 then some ⟨b, off, none⟩ else some ⟨b, off + 4, none⟩, n - 1, C - 1, fun W => ?_, rfl, rfl, ?_⟩
  · rw [run_slice_l (P := Tryd.prog) W 22 _ n C (by kernel_rfl) .i64 1 (by omega) h2]
    have hs : (sizeOf (Tryd.prog.elem 22)).run Tryd.prog W = .ok 4 W := by kernel_rfl
    rw [hs]
    simp only [Result.andThen_ok, sliced, Addr.add]
    by_cases hc : C = 1 <;> simp [hc]
  · by_cases hc : C = 1
    · left; omega
    · right; rw [if_neg hc]

theorem lt_new {w W : World} {o : Obj} (h : (World.drew (w.alloc o)).heap.size ≤ W.heap.size) : w.heap.size < W.heap.size := by
  have e : (World.drew (w.alloc o)).heap.size = w.heap.size + 1 := by show (w.alloc o).heap.size = _; simp
  omega

theorem hid_mono {p q : Prop} (h : p → q) (hp : Hid p) : Hid q := h hp

/-- How far many has come. -/
def ManyAt (w wr : World) (p : Int → ByteArray → Bool) (f : F) (A : Option Addr) (n C : Nat) (g : F) : Prop := Fs w (Lo w.heap.size) (.slice A n C) g ∧ dropM p g = dropM p f
def slLen : Value → Nat
  | .slice _ n _ => n
  | _ => 0

end Go.Proofs.YtmknghhgcecafaaDoor.Tree

/-
  Layer 5 (tree): many, and rows of parts.
-/
namespace Go.Proofs.YtmknghhgcecafaaDoor.Tree
open Go.ChangeShapes Go.WideShapes Go.ChangeAt Go.RowKit Mem
set_option linter.unusedVariables false

/-- How far row has come. -/
structure RowAt (w wr : World) (pts : List Pt) (f : F) (k : Nat) (A : Option Addr) (n C : Nat) (g : F) : Prop where
  fs : Fs wr (Lo wr.heap.size) (.slice A n C) g
  eq : rowOK (pts.drop k) g = rowOK pts f
  bel : Below w.heap.size w wr

theorem rowOK_step {pts : List Pt} {k : Nat} {pt : Pt} (h : pts[k]? = some pt) (g : F) : rowOK (pts.drop k) g = (match pt.take g with
    | none => false
    | some g' => rowOK (pts.drop (k + 1)) g') := by
  have hk : k < pts.length := (List.getElem?_eq_some_iff.1 h).1
  have e : pts[k] = pt := by rw [List.getElem?_eq_getElem hk] at h; exact Option.some.inj h
  rw [List.drop_eq_getElem_cons hk, e, rowOK]
  cases pt.take g <;> rfl
theorem rowOK_nil : ∀ f : F, rowOK [] f = decide (f.len = 0)
  | .nil => rfl
  | .cons .. => by simp [rowOK, F.len]

end Go.Proofs.YtmknghhgcecafaaDoor.Tree

/-
  Layer 5 (tree): what stands in parentheses.
-/
namespace Go.Proofs.YtmknghhgcecafaaDoor.Tree
open Go.ChangeShapes Go.WideShapes Go.ChangeAt Go.RowKit
set_option linter.unusedVariables false

/-- Paren at any place. -/
def parenI (pk : Int) (px : ByteArray) (f : F) (p : Int) : Bool :=
  if 0 ≤ p then (match f.drop p.toNat with
    | .nil => false
    | .cons kk kx _ _ _ => paren pk px p.toNat kk kx) else false

theorem below2 (w : World) (o1 o2 : Obj) : Below w.heap.size w ((w.alloc o1).alloc o2) := ((Below.refl _ _).alloc (Nat.le_refl _) _).alloc (by simp) _
theorem below2q (w : World) (o1 o2 : Obj) (q : Nat) : Below w.heap.size w (((w.alloc o1).alloc o2).drewN q) := ⟨(below2 w o1 o2).os, (below2 w o1 o2).tape, (below2 w o1 o2).output, (below2 w o1 o2).size, (below2 w o1 o2).block⟩
theorem paren_b0 (px kx : ByteArray) : paren 29 px 0 29 kx = decide (level kx < level px) := rfl
theorem paren_b1 (px kx : ByteArray) : paren 29 px 1 29 kx = decide (level kx ≤ level px) := rfl

end Go.Proofs.YtmknghhgcecafaaDoor.Tree

/-
  Layer 5 (tree): kidsFit: which Kids a kind must have. Written by gen_treekids.py.
-/
namespace Go.Proofs.YtmknghhgcecafaaDoor.Tree
open Go.ChangeShapes Go.WideShapes Go.ChangeAt Go.RowKit Mem
set_option linter.unusedVariables false

abbrev TB : World → World → Prop := fun W W' => Below W.heap.size W W'
/-- The slice v holds the numbers l. -/
def Ints (l : List Int) (v : Value) (W : World) : Prop := ∃ g, v = .slice (some ⟨g, 0, none⟩) l.length l.length ∧ g < W.heap.size ∧ ∀ i u, l[i]? = some u → W.cell? ⟨g, i, none⟩ = some (.int .i64 u)
/-- The slice v holds the tests ps. -/
def Tests (ps : List (Int → ByteArray → Bool)) (v : Value) (W : World) : Prop := ∃ g, v = .slice (some ⟨g, 0, none⟩) ps.length ps.length ∧ g < W.heap.size ∧ ∀ i p, ps[i]? = some p → ∃ u, W.cell? ⟨g, i, none⟩ = some u ∧ TestOk W u p
/-- The slice v holds the parts ps. -/
def Parts (ps : List Pt) (v : Value) (W : World) : Prop := ∃ g, v = .slice (some ⟨g, 0, none⟩) ps.length ps.length ∧ g < W.heap.size ∧ ∀ i p, ps[i]? = some p → ∃ u, W.cell? ⟨g, i, none⟩ = some u ∧ PartOk W u p
def cInts (l : List Int) : Cd TB := ⟨Ints l, fun v W W' hb ⟨g, e, hg, hc⟩ => ⟨g, e, Nat.lt_of_lt_of_le hg hb.size, fun i u hu => (hb.cell (p := ⟨g, i, none⟩) hg).trans (hc i u hu)⟩⟩
def cTest (p : Int → ByteArray → Bool) : Cd TB := ⟨fun v W => TestOk W v p, fun v W W' hb h => h.later hb⟩
def cPart (p : Pt) : Cd TB := ⟨fun v W => PartOk W v p, fun v W W' hb h => h.later hb⟩
def cTests (ps : List (Int → ByteArray → Bool)) : Cd TB := ⟨Tests ps, fun v W W' hb ⟨g, e, hg, hc⟩ => ⟨g, e, Nat.lt_of_lt_of_le hg hb.size, fun i p hp => by
  obtain ⟨u, hu, ht⟩ := hc i p hp
  exact ⟨u, (hb.cell (p := ⟨g, i, none⟩) hg).trans hu, ht.later hb⟩⟩⟩
def cParts (ps : List Pt) : Cd TB := ⟨Parts ps, fun v W W' hb ⟨g, e, hg, hc⟩ => ⟨g, e, Nat.lt_of_lt_of_le hg hb.size, fun i p hp => by
  obtain ⟨u, hu, ht⟩ := hc i p hp
  exact ⟨u, (hb.cell (p := ⟨g, i, none⟩) hg).trans hu, ht.later hb⟩⟩⟩

theorem cell_new (W : World) (vs : List Value) (T : TypeId) (i : Nat) : (W.alloc (.cells vs.toArray T)).cell? ⟨W.heap.size, i, none⟩ = vs[i]? := by
  rw [World.cell?_alloc_at _ _ _ _ rfl]; simp
theorem ints_new (l : List Int) (W : World) : Ints l (.slice (some ⟨W.heap.size, 0, none⟩) l.length l.length) (W.alloc (.cells (l.map (Value.int .i64)).toArray 3)) :=
  ⟨_, rfl, by simp, fun i u hu => by rw [cell_new]; simp [hu]⟩
theorem parts_new (W : World) (T : TypeId) (vs : List Value) (ps : List Pt) (hl : vs.length = ps.length) (h : ∀ (i : Nat) (v : Value) (p : Pt), vs[i]? = some v → ps[i]? = some p → PartOk W v p) : Parts ps (.slice (some ⟨W.heap.size, 0, none⟩) ps.length ps.length) (W.alloc (.cells vs.toArray T)) :=
  ⟨_, rfl, by simp, fun i p hp => by
    have hi : i < vs.length := by rw [hl]; exact (List.getElem?_eq_some_iff.1 hp).1
    exact ⟨vs[i], by rw [cell_new]; simp [hi], (h i _ p (List.getElem?_eq_getElem hi) hp).later (below1 _ _)⟩⟩
theorem Fs.later {w w' : World} {v : Value} {f : F} (h : Fs w (Lo w.heap.size) v f) (hb : Below w.heap.size w w') : Fs w' (Lo w'.heap.size) v f := (h.below hb (Nat.le_refl _)).up hb.size

/-- What holds when kidsFit has made its first test. -/
structure KidsAt (w w3 : World) (x y : ByteArray) (k : Int) (A : Option Addr) (n C : Nat) (f : F) (g3 : Nat) (c3 : Array Value) : Prop where
  bel : Below w.heap.size w w3
  box : ∀ W, Below w3.heap.size w3 W → W.cell? ⟨w.heap.size, 0, none⟩ = some (.int .i64 k) ∧ W.cell? ⟨w.heap.size, 1, none⟩ = some (.string x) ∧ W.cell? ⟨w.heap.size, 3, none⟩ = some (.slice A n C)
  fs : Fs w3 (Lo w3.heap.size) (.slice A n C) f
  t3 : TestOk w3 (.func (.func g3) #[] c3) (isOf [33])

theorem kidsAt_new (w w3 : World) (k : Int) (x y : ByteArray) (A : Option Addr) (n C : Nat) (f : F) (g3 : Nat) (c3 : Array Value) (hf : Fs w (Lo w.heap.size) (.slice A n C) f)
    (hb : Below ((w.alloc (.cells #[.int .i64 k, .string x, .string y, .slice A n C] 24)).alloc (.cells #[.int .i64 33] 3)).heap.size ((w.alloc (.cells #[.int .i64 k, .string x, .string y, .slice A n C] 24)).alloc (.cells #[.int .i64 33] 3)) w3) (ht : TestOk w3 (.func (.func g3) #[] c3) (isOf [33])) :
    KidsAt w w3 x y k A n C f g3 c3 := by
  have b1 := below2 w (.cells #[.int .i64 k, .string x, .string y, .slice A n C] 24) (.cells #[.int .i64 33] 3)
  have b2 := b1.trans (hb.mono b1.size)
  have hlt : w.heap.size < (w.alloc (.cells #[.int .i64 k, .string x, .string y, .slice A n C] 24)).heap.size := by simp
  have cel : ∀ W, Below w3.heap.size w3 W → ∀ i v, #[Value.int .i64 k, .string x, .string y, .slice A n C][i]? = some v → W.cell? ⟨w.heap.size, i, none⟩ = some v := fun W hW i v hv => by
    rw [hW.cell (p := ⟨w.heap.size, i, none⟩) (by have := hb.size; simp at this; show w.heap.size < _; omega), hb.cell (p := ⟨w.heap.size, i, none⟩) (by simp; omega), World.cell?_alloc_lt _ _ _ hlt, World.cell?_alloc_at _ _ _ _ rfl]
    simpa using hv
  exact ⟨b2, fun W hW => ⟨cel W hW 0 _ rfl, cel W hW 1 _ rfl, cel W hW 3 _ rfl⟩, hf.later b2, ht⟩
end Go.Proofs.YtmknghhgcecafaaDoor.Tree

/-
  Layer 5 (tree): whether a node is as its kind asks: its Kids, its text, its trail. Written by gen_treefits.py.
-/
namespace Go.Proofs.YtmknghhgcecafaaDoor.Tree
open Go.ChangeShapes Go.WideShapes Go.ChangeAt Go.RowKit Mem
set_option linter.unusedVariables false

end Go.Proofs.YtmknghhgcecafaaDoor.Tree

/-
  Layer 5 (tree): how much deeper a Kid stands. Written by gen_treedeep.py.
-/
namespace Go.Proofs.YtmknghhgcecafaaDoor.Tree
open Go.ChangeShapes Go.WideShapes Go.ChangeAt Go.RowKit Mem
set_option linter.unusedVariables false

end Go.Proofs.YtmknghhgcecafaaDoor.Tree

/-
  Layer 5 (tree): Right: which trees are programs. Written by gen_treeright.py.
-/
namespace Go.Proofs.YtmknghhgcecafaaDoor.Tree
open Go.ChangeShapes Go.WideShapes Go.ChangeAt Go.RowKit Mem
set_option linter.unusedVariables false

/-- No text is longer than a million bytes. -/
def Small : F → Prop
  | .nil => True
  | .cons k x y c r => x.size ≤ 1000000 ∧ y.size ≤ 1000000 ∧ Small c ∧ Small r
theorem Small.drop : ∀ {n : Nat} {f : F}, Small f → Small (f.drop n)
  | 0, f, h => h
  | n + 1, .nil, _ => by simp [F.drop, Small]
  | n + 1, .cons k x y c r, h => Small.drop (n := n) h.2.2.2

/-- Block g is a variable that holds a node. -/
def Boxed (w : World) (g : Nat) (k : Int) (x y : ByteArray) (s : Value) : Prop := w.heap[g]? = some (.cells #[.int .i64 k, .string x, .string y, s] 24 (0, 0))
theorem Boxed.cells {w : World} {g : Nat} {k : Int} {x y : ByteArray} {s : Value} (h : Boxed w g k x y s) :
    w.cell? ⟨g, 0, none⟩ = some (.int .i64 k) ∧ w.cell? ⟨g, 1, none⟩ = some (.string x) ∧ w.cell? ⟨g, 2, none⟩ = some (.string y) ∧ w.cell? ⟨g, 3, none⟩ = some s := by
  unfold Boxed at h
  refine ⟨?_, ?_, ?_, ?_⟩ <;> simp [World.cell?, h]
theorem Boxed.below {w w' : World} {g : Nat} {k : Int} {x y : ByteArray} {s : Value} (h : Boxed w g k x y s) {B : Nat} (hb : Below B w w') (hg : g < B) : Boxed w' g k x y s := (hb.block g hg).trans h
theorem Boxed.lt {w : World} {g : Nat} {k : Int} {x y : ByteArray} {s : Value} (h : Boxed w g k x y s) : g < w.heap.size := lt_of_block h
theorem boxed_new (w : World) (k : Int) (x y : ByteArray) (s : Value) : Boxed (w.alloc (.cells #[.int .i64 k, .string x, .string y, s] 24)) w.heap.size k x y s := heap_alloc_new w _
theorem frz {w : World} {g : Nat} {k : Int} {x y : ByteArray} {s : Value} (h : Boxed w g k x y s) : w.frozen? ⟨g, 0, none⟩ = false ∧ w.frozen? ⟨g, 1, none⟩ = false ∧ w.frozen? ⟨g, 2, none⟩ = false ∧ w.frozen? ⟨g, 3, none⟩ = false := by
  unfold Boxed at h
  refine ⟨?_, ?_, ?_, ?_⟩ <;> simp [World.frozen?, h]

theorem set_at {w : World} {g : Nat} {cs : Array Value} {T : TypeId} (h : w.heap[g]? = some (.cells cs T (0, 0))) (i : Nat) (v : Value) : (w.setCell ⟨g, i, none⟩ v).heap[g]? = some (.cells (cs.setIfInBounds i v) T (0, 0)) := by
  have hlt := lt_of_block h
  have h' : w.heap[g] = .cells cs T (0, 0) := by simpa [Array.getElem?_eq_getElem hlt] using h
  show (w.heap.modify g _)[g]? = _
  rw [Array.getElem?_eq_getElem (by simpa using hlt), Array.getElem_modify_self, h']
  simp
theorem box_new {w : World} {g : Nat} {k k1 : Int} {x y x1 y1 : ByteArray} {s s1 : Value} (h : Boxed w g k x y s) :
    Boxed ((((w.setCell ⟨g, 0, none⟩ (.int .i64 k1)).setCell ⟨g, 1, none⟩ (.string x1)).setCell ⟨g, 2, none⟩ (.string y1)).setCell ⟨g, 3, none⟩ s1) g k1 x1 y1 s1 := by
  unfold Boxed at h ⊢
  have := set_at (set_at (set_at (set_at h 0 (.int .i64 k1)) 1 (.string x1)) 2 (.string y1)) 3 s1
  simpa using this
theorem box_below (w : World) (g : Nat) (v0 v1 v2 v3 : Value) : Below g w ((((w.setCell ⟨g, 0, none⟩ v0).setCell ⟨g, 1, none⟩ v1).setCell ⟨g, 2, none⟩ v2).setCell ⟨g, 3, none⟩ v3) :=
  ((((Below.refl g w).setCell (Nat.le_refl _) v0).setCell (Nat.le_refl _) v1).setCell (Nat.le_refl _) v2).setCell (Nat.le_refl _) v3

theorem size_drop {f : F} {j : Nat} {k : Int} {x y : ByteArray} {c r : F} (h : f.drop j = .cons k x y c r) : c.size < f.size := by
  induction j generalizing f with
  | zero => rw [show f = .cons k x y c r from h]; simp only [F.size]; omega
  | succ j ih =>
    cases f with
    | nil => simp [F.drop] at h
    | cons k' x' y' c' r' => have := ih (f := r') h; simp only [F.size]; omega
theorem wrap_small {i : Int} (h1 : -1000000000000 ≤ i) (h2 : i ≤ 9223372036854775807) : IntKind.i64.wrap i = i := by
  rw [IntKind.wrap_i64]; omega

theorem kid0 {w W : World} {S : Nat → Prop} {b off : Nat} {k : Int} {x y : ByteArray} {c : F} {s : Value} (h : At w S b off 0 k x y c s) (hb : Below w.heap.size w W) (hlt : b < w.heap.size) :
    W.cell? ⟨b, off, none⟩ = some (.int .i64 k) ∧ W.cell? ⟨b, off + 1, none⟩ = some (.string x) ∧ W.cell? ⟨b, off + 2, none⟩ = some (.string y) ∧ W.cell? ⟨b, off + 3, none⟩ = some s := by
  have c0 := h.c0; have c1 := h.c1; have c2 := h.c2; have c3 := h.c3
  simp only [Nat.zero_mul, Nat.add_zero] at c0 c1 c2 c3
  exact ⟨(hb.cell (p := ⟨b, off, none⟩) hlt).trans c0, (hb.cell (p := ⟨b, off + 1, none⟩) hlt).trans c1, (hb.cell (p := ⟨b, off + 2, none⟩) hlt).trans c2, (hb.cell (p := ⟨b, off + 3, none⟩) hlt).trans c3⟩

end Go.Proofs.YtmknghhgcecafaaDoor.Tree

/-
  Layer 5 (tree): rows of nodes of a call's own, and the document's Nodes.
-/
namespace Go.Proofs.YtmknghhgcecafaaDoor.Tree
open Go.ChangeShapes Go.WideShapes Go.ChangeAt Go.RowKit Mem
set_option linter.unusedVariables false

theorem node_info : (Tryd.prog.info? 24).map (fun i => (i.zero, i.size, i.bytes)) = some (some (.agg #[.int .i64 0, .string ⟨#[]⟩, .string ⟨#[]⟩, .slice none 0 0]), 4, 64) := by kernel_rfl

/-- A node's cells, its Kids at s. -/
def ndC (p : Nd × Value) : List Value := [.int .i64 p.1.k, .string p.1.x, .string p.1.y, p.2]
theorem ndC_len (p : Nd × Value) : (ndC p).length = 4 := rfl

/-- The slice v, whose array is the call's own (from block base on), holds the nodes L; their Kids go through blocks below B alone. -/
def OwnN (w : World) (B base : Nat) (v : Value) (L : List Nd) : Prop :=
  ∃ ps : List (Nd × Value), ps.map (·.1) = L ∧ w.ownsRow base 24 4 v L.length (ps.flatMap ndC) ∧ ∀ p ∈ ps, Fs w (Lo B) p.2 p.1.c

theorem own_slice' {w : World} {base : Nat} {e : TypeId} {size n : Nat} {v : Value} {xs : List Value} (h : w.ownsRow base e size v n xs) : ∃ a c, v = .slice a n c ∧ n ≤ c ∧ c ≤ maxLen := by
  rcases h.2 with ⟨rfl, rfl⟩ | ⟨g, cap, cur, rfl, _, _, h1, h2, _⟩
  · exact ⟨none, 0, rfl, Nat.le_refl _, Nat.zero_le _⟩
  · exact ⟨_, _, rfl, h1, h2⟩
theorem OwnN.slice {w : World} {B base : Nat} {v : Value} {L : List Nd} (h : OwnN w B base v L) : ∃ a c, v = .slice a L.length c ∧ L.length ≤ c ∧ c ≤ maxLen := by
  obtain ⟨ps, _, ho, _⟩ := h
  exact own_slice' ho
theorem OwnN.below {w w' : World} {B base : Nat} {v : Value} {L : List Nd} (h : OwnN w B base v L) (hb : Below w.heap.size w w') (hB : B ≤ w.heap.size) : OwnN w' B base v L := by
  obtain ⟨ps, h1, ho, hf⟩ := h
  refine ⟨ps, h1, ⟨ho.1, ?_⟩, fun p hp => (hf p hp).below hb hB⟩
  rcases ho.2 with h' | ⟨g, cap, cur, a, b, hg, r⟩
  · exact .inl h'
  · exact .inr ⟨g, cap, cur, a, b, (hb.block g (lt_of_block hg)).trans hg, r⟩
theorem OwnN.base {w : World} {B base base' : Nat} {v : Value} {L : List Nd} (h : OwnN w B base v L) (hb : base' ≤ base) : OwnN w B base' v L := by
  obtain ⟨ps, h1, ho, hf⟩ := h
  refine ⟨ps, h1, ⟨ho.1, ?_⟩, hf⟩
  rcases ho.2 with h' | ⟨g, cap, cur, a, b, hg, r⟩
  · exact .inl h'
  · exact .inr ⟨g, cap, cur, a, Nat.le_trans hb b, hg, r⟩
theorem ndC_one {w : World} {B : Nat} {ps : List (Nd × Value)} (hf : ∀ p ∈ ps, Fs w (Lo B) p.2 p.1.c) : ∀ u ∈ ps.flatMap ndC, u.oneCell' = true := fun u hu => by
  obtain ⟨p, hp, hu⟩ := List.mem_flatMap.1 hu
  obtain ⟨A, C, e, _, _⟩ := (hf p hp).slice
  simp only [ndC, List.mem_cons, List.not_mem_nil, or_false] at hu
  rcases hu with rfl | rfl | rfl | rfl
  · rfl
  · rfl
  · rfl
  · rw [e]; rfl

/-- One node of such a row. -/
theorem OwnN.at_ {w : World} {B base : Nat} {A : Option Addr} {n c : Nat} {L : List Nd} (h : OwnN w B base (.slice A n c) L) {i : Nat} {nd : Nd} (hi : L[i]? = some nd) :
    ∃ g s, A = some ⟨g, 0, none⟩ ∧ base ≤ g ∧ g < w.heap.size ∧ w.cell? ⟨g, i * 4, none⟩ = some (.int .i64 nd.k) ∧ w.cell? ⟨g, i * 4 + 1, none⟩ = some (.string nd.x) ∧ w.cell? ⟨g, i * 4 + 2, none⟩ = some (.string nd.y) ∧ w.cell? ⟨g, i * 4 + 3, none⟩ = some s ∧ Fs w (Lo B) s nd.c := by
  obtain ⟨ps, h1, ho, hf⟩ := h
  have hlen : ps.length = L.length := by rw [← h1]; simp
  have hil : i < L.length := (List.getElem?_eq_some_iff.1 hi).1
  obtain ⟨p, hp⟩ : ∃ p, ps[i]? = some p := ⟨_, List.getElem?_eq_getElem (by omega)⟩
  have hpn : p.1 = nd := by
    have : (ps.map (·.1))[i]? = some p.1 := by rw [List.getElem?_map, hp]; rfl
    rw [h1, hi] at this
    exact (Option.some.inj this).symm
  rcases ho.2 with ⟨_, h0⟩ | ⟨g, cap, cur, hv, hg0, hg, q1, q2, q3, q4⟩
  · omega
  · injection hv with e1 e2 e3
    have hc := ho.cells (g := g) (by rw [e1]; rfl)
    have ad : ∀ j, (⟨g, 0, none⟩ : Addr).add j = ⟨g, j, none⟩ := fun j => by unfold Addr.add; split <;> simp_all
    have at_ : ∀ j u, (ndC p)[j]? = some u → w.cell? ⟨g, i * 4 + j, none⟩ = some u := fun j u hu => by
      have := hc (i * 4 + j) u (MemT.flat_at (sz := 4) ndC_len ps i p hp j u hu)
      rwa [ad] at this
    refine ⟨g, p.2, e1, hg0, lt_of_block hg, ?_, ?_, ?_, ?_, ?_⟩
    · have := at_ 0 _ rfl; rwa [hpn] at this
    · have := at_ 1 _ rfl; rwa [hpn] at this
    · have := at_ 2 _ rfl; rwa [hpn] at this
    · exact at_ 3 _ rfl
    · have := hf p (List.mem_of_getElem? hp); rwa [hpn] at this

theorem app_nodes (w : World) {ops : Array Oper} {rest : List Oper} {o : Oper} {a : Act} {Q : Exit → Act → World → Prop} (hgd : o.guard = none) (s x : Operand)
    (ho : o.op = .call { callee := .builtin .append, args := #[s, x], argTypes := #[22, 22] }) (B base base2 : Nat) (v : Value) (L1 L2 : List Nd) (A : Option Addr) (m c : Nat) (hs : a.eval s = v) (hx : a.eval x = .slice A m c)
    (h1 : OwnN w B base v L1) (h2 : OwnN w B base2 (.slice A m c) L2) (hB : B ≤ base) (hbase : base ≤ w.heap.size) (hne : L2 ≠ []) (hlen : L1.length + L2.length ≤ 1000000)
    (h : ∀ v' w', OwnN w' B base v' (L1 ++ L2) → Below base w w' → wpList Tryd.prog ops Q rest (a.put o.dst v') w') : wpList Tryd.prog ops Q (o :: rest) a w := by
  obtain ⟨i0, hi0, hz0, hz1, hz2⟩ := info_parts node_info
  obtain ⟨ps1, e1, ho1, hf1⟩ := h1
  obtain ⟨ps2, e2, ho2, hf2⟩ := h2
  have hm : m = L2.length := by
    obtain ⟨a', c', e, _, _⟩ := own_slice' ho2
    injection e
  subst hm
  rcases ho2.2 with ⟨_, h0⟩ | ⟨g, cap, cur, hv, hg0, hg, q1, q2, q3, q4⟩
  · exact absurd (List.eq_nil_of_length_eq_zero h0) hne
  · have e3 : A = some ⟨g, 0, none⟩ := by injection hv
    subst e3
    refine wpList_append_own_at (P := Tryd.prog) w hgd s x 22 ho base 24 i0 (.agg #[.int .i64 0, .string ⟨#[]⟩, .string ⟨#[]⟩, .slice none 0 0]) 4 64 Tryd.underlying22 hi0 hz0 hz1 hz2 rfl (by decide) v L1.length _ hs ho1 ⟨g, 0, none⟩ L2.length c (ps2.flatMap ndC) hx ho2.1 (ho2.cells rfl) (ndC_one hf2) (by unfold maxLen; omega) (by omega) hbase fun v' w' r1 r2 _ _ => ?_
    have hbl : Below base w w' := (Below.refl _ _).grown r2 hbase (fun k hk => (ho1.lt k hk).1)
    refine h v' w' ⟨ps1 ++ ps2, by rw [List.map_append, e1, e2], by rw [List.flatMap_append, List.length_append]; exact r1, fun p hp => ?_⟩ hbl
    rcases List.mem_append.1 hp with hp | hp
    · exact (hf1 p hp).below hbl hB
    · exact (hf2 p hp).below hbl hB

/-- A row of one node, newly laid. -/
theorem ownN_new (w : World) (B : Nat) (nd : Nd) (s : Value) (hf : Fs w (Lo B) s nd.c) (hB : B ≤ w.heap.size) : OwnN (w.alloc (.cells #[.int .i64 nd.k, .string nd.x, .string nd.y, s] 24)) B w.heap.size (.slice (some ⟨w.heap.size, 0, none⟩) 1 1) [nd] :=
  ⟨[(nd, s)], rfl, ⟨rfl, .inr ⟨w.heap.size, 1, _, rfl, Nat.le_refl _, heap_alloc_new w _, Nat.le_refl _, by unfold maxLen; omega, rfl, rfl⟩⟩, fun p hp => by
    simp only [List.mem_singleton] at hp
    subst hp
    exact hf.below (below1 _ _) hB⟩

/-- What holds at each round of Nodes: T all nodes, m how many are wanted. -/
structure NAt (w wr : World) (B : Nat) (v : Value) (T L : List Nd) (R : F) (m : Nat) : Prop where
  bel : Below w.heap.size w wr
  own : OwnN wr B (w.heap.size + 1) v L
  eq : (L ++ nodes R).take m = T.take m
  le : L.length ≤ m

theorem take_more {α : Type} {L kn R : List α} {m : Nat} (h : L.length ≤ m) : (L ++ (kn.take (m - L.length) ++ R)).take m = (L ++ (kn ++ R)).take m := by
  rw [List.take_append, List.take_append, List.take_append, List.take_append]
  by_cases hk : kn.length ≤ m - L.length
  · rw [List.take_of_length_le (l := kn) hk]
    rw [List.take_of_length_le (l := kn) hk]
  · have e : (kn.take (m - L.length)).length = m - L.length := by rw [List.length_take]; omega
    rw [e, List.take_take, Nat.min_self, Nat.sub_self, show m - L.length - kn.length = 0 by omega]

def NodesSpec (N : Nat) : Prop := ∀ (k : Int) (x y : ByteArray) (A : Option Addr) (n C : Nat) (c : F) (m B : Nat) (w : World), c.size ≤ N → Fs w (Lo B) (.slice A n C) c → B ≤ w.heap.size → 1 ≤ m → m ≤ 100000 →
  Calls Tryd.prog 17 #[.agg #[.int .i64 k, .string x, .string y, .slice A n C], .int .i64 (m : Int)] w fun e w' => (∃ v, e = .returned v ∧ OwnN w' B w.heap.size v ((⟨k, x, y, c⟩ :: nodes c).take m)) ∧ Below w.heap.size w w'

set_option maxRecDepth 100000 in
set_option maxHeartbeats 8000000 in
theorem nodes_step (N : Nat) (ih : ∀ M, M < N → NodesSpec M) : NodesSpec N := by
  intro k x y A n C c m B w hN hf hB hm1 hm2
  have HIH := Lib.hid ih
  have b1 := below1 w (.cells #[.int .i64 k, .string x, .string y, .slice A n C] 24)
  have b2 := below1 (w.alloc (.cells #[.int .i64 k, .string x, .string y, .slice A n C] 24)) (.cells #[.int .i64 k, .string x, .string y, .slice A n C] 24)
  have b3 := b1.trans (b2.mono b1.size)
  obtain ⟨A0, C0, e, hnC, hCm⟩ := hf.slice
  injection e with q1 q2 q3
  subst q1; subst q2; subst q3
  obtain ⟨T, hT⟩ : ∃ T, (⟨k, x, y, c⟩ :: nodes c : List Nd) = T := ⟨_, rfl⟩
  have HM : Hid (NAt w ((w.alloc (.cells #[.int .i64 k, .string x, .string y, .slice A c.len C] 24)).alloc (.cells #[.int .i64 k, .string x, .string y, .slice A c.len C] 24)) B (.slice (some ⟨w.heap.size + 1, 0, none⟩) 1 1) T [⟨k, x, y, c⟩] (c.drop 0) m) := by
    refine ⟨b3, ?_, by rw [← hT]; rfl, hm1⟩
    have := ownN_new (w.alloc (.cells #[.int .i64 k, .string x, .string y, .slice A c.len C] 24)) B ⟨k, x, y, c⟩ (.slice A c.len C) (hf.below b1 hB) (Nat.le_trans hB b1.size)
    have e : (w.alloc (.cells #[.int .i64 k, .string x, .string y, .slice A c.len C] 24)).heap.size = w.heap.size + 1 := by simp
    rw [e] at this
    exact this
  have HBX : Hid (∀ W, Below (w.heap.size + 1) (w.alloc (.cells #[.int .i64 k, .string x, .string y, .slice A c.len C] 24)) W → W.cell? ⟨w.heap.size, 3, none⟩ = some (.slice A c.len C)) := fun W hW => by
    rw [hW.cell (p := ⟨w.heap.size, 3, none⟩) (by show w.heap.size < _; omega), World.cell?_alloc_at _ _ _ _ rfl]; rfl
  have HF := Lib.hid hf
  have HB := Lib.hid hB
  have hCm' : C ≤ 9223372036854775807 := hCm
  rw [hT]
  have HBB : Hid (Below (w.heap.size + 1) (w.alloc (.cells #[.int .i64 k, .string x, .string y, .slice A c.len C] 24)) ((w.alloc (.cells #[.int .i64 k, .string x, .string y, .slice A c.len C] 24)).alloc (.cells #[.int .i64 k, .string x, .string y, .slice A c.len C] 24))) := by
    show Below _ _ _
    have := b2; simpa using this
  obtain ⟨n, hn⟩ : ∃ n, c.len = n := ⟨_, rfl⟩
  rw [hn] at HM HBX HF hnC HBB ⊢
  have HN := Lib.hid hn
  clear ih hf b1 b2 b3 hB hT hn
  go_enter Tryd.func17, Tryd.ntmps17
  go_wp2
  go_loopw [5, 6] (fun s5 s6 wr => ∃ (i ln cp : Nat) (Al : Option Addr) (L : List Nd), i ≤ n ∧ L.length = ln ∧ ln ≤ m ∧ ln ≤ cp ∧ s6 = .int .i64 (i : Int) ∧ s5 = .slice Al ln cp ∧ Hid (NAt w wr B (.slice Al ln cp) T L (c.drop i) m) ∧ Hid (Below (w.heap.size + 1) (w.alloc (.cells #[.int .i64 k, .string x, .string y, .slice A n C] 24)) wr)) (fun _ i _ => n - (intOf i).toNat)
  case atStart => exact ⟨0, 1, 1, _, [⟨k, x, y, c⟩], Nat.zero_le _, rfl, hm1, Nat.le_refl _, rfl, rfl, HM.out, HBB.out⟩
  case round =>
    clear HM HBB
    obtain ⟨i, ln, cp, Al, L, hi, hL, hlm, hlc, rfl, rfl, HM, HBB⟩ := hrel
    have hq3 := HBX.out wr HBB.out
    by_cases hin : i < n
    · have hin' : (i : Int) < (n : Int) := by omega
      by_cases hlt : ln < m
      · have hlt' : (ln : Int) < (m : Int) := by omega
        obtain ⟨kk, kx, ky, kc, kr, hdr, hdr2⟩ := F.drop_cons (n := i) (f := c) (by rw [HN.out]; exact hin)
        have hfw := HF.out.below HM.out.bel HB.out
        obtain ⟨b2, off2, s2, rfl, hb2S, _, hat2⟩ := hfw.at_ hdr
        obtain ⟨Ak, Ck, rfl, _, _⟩ := hat2.kids.slice
        have e0 := hat2.c0; have e1 := hat2.c1; have e2 := hat2.c2; have e3 := hat2.c3
        have hi0 : (0 : Int) ≤ (i : Int) := by omega
        have hsz2 := size_drop hdr
        have hsub : ((m - ln : Nat) : Int) = (m : Int) - (ln : Int) := by omega
        have hcall := HIH.out kc.size (by omega) kk kx ky Ak kc.len Ck kc (m - ln) B wr (Nat.le_refl _) hat2.kids (Nat.le_trans HB.out HM.out.bel.size) (by omega) (by omega)
        rw [hsub] at hcall
        have HC := Lib.hid hcall
        have hcat : (L ++ ((⟨kk, kx, ky, kc⟩ :: nodes kc : List Nd).take (m - L.length) ++ nodes (c.drop (i + 1)))).take m = T.take m := by
          rw [take_more (by omega), ← HM.out.eq, hdr, hdr2]
          rfl
        rw [hL] at hcat
        have hkl : ((⟨kk, kx, ky, kc⟩ :: nodes kc : List Nd).take (m - ln)).length ≤ m - ln := by rw [List.length_take]; omega
        have hkn : (⟨kk, kx, ky, kc⟩ :: nodes kc : List Nd).take (m - ln) ≠ [] := by
          obtain ⟨q, hq⟩ : ∃ q, m - ln = q + 1 := ⟨m - ln - 1, by omega⟩
          rw [hq]; simp
        generalize (⟨kk, kx, ky, kc⟩ :: nodes kc : List Nd).take (m - ln) = K at *
        have HCAT := Lib.hid hcat
        have HKN := Lib.hid hkn
        clear hdr hdr2 hfw hat2 hb2S hcall hcat hkn hsz2 hsub
        go_wp2_with fail
        refine HC.out.mono ?_
        rintro e w2 ⟨⟨v2, rfl, ho2⟩, hb2⟩
        obtain ⟨a2, c2, rfl, hc2, hc2'⟩ := ho2.slice
        have HO2 := Lib.hid ho2
        have HO1 := Lib.hid (HM.out.own.below hb2 (Nat.le_trans HB.out HM.out.bel.size))
        have HW2 := Lib.hid (HM.out.bel.trans (hb2.mono HM.out.bel.size))
        have HBB2 := Lib.hid (HBB.out.trans (hb2.mono (by have := HBB.out.size; simpa using this)))
        have HS2 : Hid (w.heap.size + 1 ≤ w2.heap.size) := by
          show _ ≤ _
          have := HBB2.out.size; simpa using this
        clear ho2 hb2 hc2 hc2'
        go_wp2_with (at_builtin; refine app_nodes w2 rfl _ _ rfl B (w.heap.size + 1) wr.heap.size _ L K _ _ _ rfl rfl HO1.out HO2.out (Nat.le_succ_of_le HB.out) HS2.out HKN.out ?_ ?_)
        · omega
        intro v3 w3 ho3 hb3
        obtain ⟨a3, c3, rfl, hc3, hc3'⟩ := ho3.slice
        have hll : (L ++ K).length = ln + K.length := by rw [List.length_append, hL]
        rw [hll] at hc3 ⊢
        have HM3 : Hid (NAt w w3 B (.slice a3 (ln + K.length) c3) T (L ++ K) (c.drop (i + 1)) m) := by
          refine ⟨HW2.out.trans (hb3.mono (Nat.le_succ _)), ?_, ?_, by omega⟩
          · rw [hll] at ho3; exact ho3
          · have := HCAT.out
            rwa [← List.append_assoc] at this
        have HBB3 := Lib.hid (HBB2.out.trans hb3)
        clear ho3 hb3 hc3'
        go_wp2
        go_roundw
        case rel => exact ⟨i + 1, ln + K.length, c3, a3, L ++ K, by omega, hll, by omega, hc3, by go_num, rfl, HM3.out, HBB3.out⟩
        case measure => simp [intOf]; omega
      · have hlt' : ¬ (ln : Int) < (m : Int) := by omega
        have HE : Hid (L = T.take m) := by
          show L = _
          rw [← HM.out.eq, List.take_append_of_le_length (by omega), List.take_of_length_le (by omega)]
        clear hlt
        go_wp2
        go_ret
        exact ⟨⟨_, rfl, HE.out ▸ HM.out.own.base (Nat.le_succ _)⟩, HM.out.bel⟩
    · have hin' : ¬ (i : Int) < (n : Int) := by omega
      have HE : Hid (L = T.take m) := by
        show L = _
        rw [← HM.out.eq, F.drop_all _ _ (by rw [HN.out]; omega)]
        simp only [nodes, List.append_nil]
        rw [List.take_of_length_le (by omega)]
      clear hin
      go_wp2
      go_ret
      exact ⟨⟨_, rfl, HE.out ▸ HM.out.own.base (Nat.le_succ _)⟩, HM.out.bel⟩

theorem nodes_any (N : Nat) : NodesSpec N := by
  induction N using Nat.strongRecOn with
  | _ N ih => exact nodes_step N ih
end Go.Proofs.YtmknghhgcecafaaDoor.Tree

/-
  Layer 5 (tree): Few: the trees that are gone through.
-/
namespace Go.Proofs.YtmknghhgcecafaaDoor.Tree
open Go.ChangeShapes Go.WideShapes Go.ChangeAt Go.RowKit Mem
set_option linter.unusedVariables false

def wt (nd : Nd) : Nat := min nd.x.size 100000 + min nd.y.size 100000
def sumW (L : List Nd) : Nat := L.foldr (fun nd s => wt nd + s) 0
theorem sumW_cons (nd : Nd) (L : List Nd) : sumW (nd :: L) = wt nd + sumW L := rfl
theorem sumW_append : ∀ L1 L2 : List Nd, sumW (L1 ++ L2) = sumW L1 + sumW L2
  | [], L2 => by simp [sumW]
  | nd :: L, L2 => by rw [List.cons_append, sumW_cons, sumW_cons, sumW_append L L2]; omega
theorem sumW_take_step {L : List Nd} {i : Nat} {nd : Nd} (h : L[i]? = some nd) : sumW (L.take (i + 1)) = sumW (L.take i) + wt nd := by
  rw [List.take_add_one, h, sumW_append]; simp [sumW]
theorem sumW_take_le (L : List Nd) (i : Nat) : sumW (L.take i) ≤ sumW L := by
  have := sumW_append (L.take i) (L.drop i)
  rw [List.take_append_drop] at this
  omega
theorem sumW_mem {L : List Nd} {nd : Nd} (h : nd ∈ L) : wt nd ≤ sumW L := by
  induction L with
  | nil => cases h
  | cons a L ih =>
    rw [sumW_cons]
    rcases List.mem_cons.1 h with rfl | h
    · omega
    · have := ih h; omega

/-- Is a tree one that is gone through? -/
def fewB (k : Int) (x y : ByteArray) (c : F) : Bool := decide (sumW (((⟨k, x, y, c⟩ : Nd) :: nodes c).take 2001) ≤ 50000) && decide ((((⟨k, x, y, c⟩ : Nd) :: nodes c).take 2001).length ≤ 2000)

theorem small_of : ∀ (c : F), (∀ nd ∈ nodes c, wt nd ≤ 50000) → Small c
  | .nil, _ => trivial
  | .cons k x y c r, h => by
    have h0 := h ⟨k, x, y, c⟩ (by simp [nodes])
    simp only [wt] at h0
    exact ⟨by omega, by omega, small_of c fun nd hn => h nd (by simp [nodes, hn]), small_of r fun nd hn => h nd (by simp [nodes, hn])⟩
structure FewIs (x y : ByteArray) (c : F) : Prop where
  hx : x.size ≤ 50000
  hy : y.size ≤ 50000
  sm : Small c
  sz : c.size < 2000
theorem few_is {k : Int} {x y : ByteArray} {c : F} (h : fewB k x y c = true) : FewIs x y c := by
  unfold fewB at h
  rw [Bool.and_eq_true, decide_eq_true_eq, decide_eq_true_eq] at h
  obtain ⟨h1, h2⟩ := h
  have hl : (((⟨k, x, y, c⟩ : Nd) :: nodes c)).length = c.size + 1 := by rw [List.length_cons, nodes_len]
  rw [List.length_take, hl] at h2
  rw [List.take_of_length_le (by omega)] at h1
  have hm := fun nd (hn : nd ∈ (⟨k, x, y, c⟩ : Nd) :: nodes c) => Nat.le_trans (sumW_mem hn) h1
  have h0 := hm ⟨k, x, y, c⟩ (List.mem_cons_self ..)
  simp only [wt] at h0
  exact ⟨by omega, by omega, small_of c fun nd hn => hm nd (List.mem_cons_of_mem _ hn), by omega⟩

set_option maxRecDepth 100000 in
set_option maxHeartbeats 8000000 in
theorem few_any (k : Int) (x y : ByteArray) (A : Option Addr) (n C : Nat) (c : F) (w : World) (hf : Fs w (Lo w.heap.size) (.slice A n C) c) :
    Calls Tryd.prog 19 #[.agg #[.int .i64 k, .string x, .string y, .slice A n C]] w fun e w' => e = .returned (.bool (fewB k x y c)) ∧ Below w.heap.size w w' := by
  have b1 := below1 w (.cells #[.int .i64 k, .string x, .string y, .slice A n C] 24)
  have HC := Lib.hid (nodes_any c.size k x y A n C c 2001 w.heap.size (w.alloc (.cells #[.int .i64 k, .string x, .string y, .slice A n C] 24)) (Nat.le_refl _) (hf.below b1 (Nat.le_refl _)) b1.size (by omega) (by omega))
  have HV : Hid (fewB k x y c = (decide (sumW (((⟨k, x, y, c⟩ : Nd) :: nodes c).take 2001) ≤ 50000) && decide ((((⟨k, x, y, c⟩ : Nd) :: nodes c).take 2001).length ≤ 2000))) := rfl
  have HL : Hid ((((⟨k, x, y, c⟩ : Nd) :: nodes c).take 2001).length ≤ 2001) := by show _ ≤ _; rw [List.length_take]; omega
  have HB := Lib.hid b1
  generalize ((⟨k, x, y, c⟩ : Nd) :: nodes c).take 2001 = L at *
  generalize fewB k x y c = bb at *
  obtain ⟨ln, hln⟩ : ∃ ln, L.length = ln := ⟨_, rfl⟩
  rw [hln] at HV HL
  have HLN := Lib.hid hln
  have hl2 := HL.out
  clear b1 hf hln HL
  go_enter Tryd.func19, Tryd.ntmps19
  go_wp2_with fail
  refine HC.out.mono ?_
  rintro e w1 ⟨⟨v1, rfl, ho1⟩, hb1⟩
  obtain ⟨a1, c1, rfl, hc1, hc1'⟩ := ho1.slice
  rw [HLN.out] at hc1 ho1 ⊢
  have HO := Lib.hid ho1
  have HB1 := Lib.hid (HB.out.trans (hb1.mono HB.out.size))
  have hc1m : c1 ≤ 9223372036854775807 := hc1'
  clear ho1 hb1 HC hc1'
  go_wp2
  go_loopw [4, 5] (fun s4 s5 wr => ∃ i q m : Nat, i ≤ ln ∧ s5 = .int .i64 (i : Int) ∧ s4 = .int .i64 (m : Int) ∧ m ≤ 50000 ∧ Hid (m = sumW (L.take i)) ∧ wr = w1.drewN q) (fun _ s5 _ => ln - (intOf s5).toNat)
  case atStart => exact ⟨0, 0, 0, Nat.zero_le _, rfl, rfl, by omega, (by show _ = _; simp [sumW]), rfl⟩
  case round =>
    obtain ⟨i, q, m, hi, rfl, rfl, hm, hms, rfl⟩ := hrel
    by_cases hlt : i < ln
    · obtain ⟨nd, hnd⟩ : ∃ nd, L[i]? = some nd := ⟨_, List.getElem?_eq_getElem (by rw [HLN.out]; exact hlt)⟩
      obtain ⟨g, s, rfl, _, _, _, d1, d2, _, _⟩ := HO.out.at_ hnd
      have e1 : ∀ q, (w1.drewN q).cell? ⟨g, i * 4 + 1, none⟩ = some (.string nd.x) := fun _ => d1
      have e2 : ∀ q, (w1.drewN q).cell? ⟨g, i * 4 + 2, none⟩ = some (.string nd.y) := fun _ => d2
      have hlt' : (i : Int) < (ln : Int) := by omega
      have hi0 : (0 : Int) ≤ (i : Int) := by omega
      have HS : Hid (m + (min nd.x.size 100000 + min nd.y.size 100000) = sumW (L.take (i + 1))) := by
        show _ = _
        rw [sumW_take_step hnd, ← hms.out]; rfl
      have HLE := Lib.hid (sumW_take_le L (i + 1))
      clear hnd d1 d2 hms
      have hA : min ((nd.x.size : Nat) : Int) 100000 = ((min nd.x.size 100000 : Nat) : Int) := by omega
      have hAB : min ((nd.y.size : Nat) : Int) 100000 = ((min nd.y.size 100000 : Nat) : Int) := by omega
      have hA2 : (if (100000 : Int) < ((nd.x.size : Nat) : Int) then (100000 : Int) else ((nd.x.size : Nat) : Int)) = ((min nd.x.size 100000 : Nat) : Int) := by split <;> omega
      have hAB2 : (if (100000 : Int) < ((nd.y.size : Nat) : Int) then (100000 : Int) else ((nd.y.size : Nat) : Int)) = ((min nd.y.size 100000 : Nat) : Int) := by split <;> omega
      generalize min nd.x.size 100000 = ta at *
      generalize min nd.y.size 100000 = tb at *
      generalize nd.x = tx at *
      generalize nd.y = ty at *
      by_cases hgt : 50000 < m + (ta + tb)
      · have hgt' : (50000 : Int) < (m : Int) + (ta : Int) + (tb : Int) := by omega
        have HE : Hid (bb = false) := by
          show _ = _
          rw [HV.out, decide_eq_false (by have := HS.out; have := HLE.out; omega)]; rfl
        clear hgt
        go_wp2
        go_quiet (fail)
        go_wp2
        go_ret
        exact ⟨by rw [HE.out]; rfl, drewNb HB1.out _⟩
      · have hgt' : ¬ (50000 : Int) < (m : Int) + (ta : Int) + (tb : Int) := by omega
        have hle : m + (ta + tb) ≤ 50000 := by omega
        clear hgt
        go_wp2
        go_quiet (fail)
        go_wp2
        go_roundw
        case rel => exact ⟨i + 1, _, m + (ta + tb), by omega, by go_num, by go_num, hle, HS.out, rfl⟩
        case measure => simp [intOf]; omega
    · have hlt' : ¬ (i : Int) < (ln : Int) := by omega
      obtain rfl : i = ln := by omega
      have HE : Hid (bb = decide (i ≤ 2000)) := by
        show _ = _
        rw [HV.out, decide_eq_true, Bool.true_and]
        rw [List.take_of_length_le (by rw [HLN.out]; exact Nat.le_refl _)] at hms
        rw [← hms.out]; exact hm
      clear hlt hms
      by_cases h2 : i ≤ 2000
      · have h2' : (i : Int) ≤ 2000 := by omega
        rw [decide_eq_true h2] at HE
        clear h2
        go_wp2
        go_ret
        exact ⟨by rw [HE.out]; rfl, drewNb HB1.out _⟩
      · have h2' : ¬ (i : Int) ≤ 2000 := by omega
        rw [decide_eq_false h2] at HE
        clear h2
        go_wp2
        go_ret
        exact ⟨by rw [HE.out]; rfl, drewNb HB1.out _⟩
end Go.Proofs.YtmknghhgcecafaaDoor.Tree

/-
  Layer 5 (tree): Size.
-/
namespace Go.Proofs.YtmknghhgcecafaaDoor.Tree
open Go.ChangeShapes Go.WideShapes Go.ChangeAt Go.RowKit Mem
set_option linter.unusedVariables false

/-- What holds at each round. -/
structure SAt (w wr : World) (A : Option Addr) (n C : Nat) (f : F) (m tot : Nat) : Prop where
  bel : Below w.heap.size w wr
  fs : Fs wr (Lo w.heap.size) (.slice A n C) f
  eq : m + f.size = tot

end Go.Proofs.YtmknghhgcecafaaDoor.Tree

/-
  Layer 5 (tree): Right, at every tree whose texts are no longer than a million bytes.
-/
namespace Go.Proofs.YtmknghhgcecafaaDoor.Tree
open Go.ChangeShapes Go.WideShapes Go.ChangeAt Go.RowKit Mem
set_option linter.unusedVariables false

end Go.Proofs.YtmknghhgcecafaaDoor.Tree

/-
  Layer 5 (tree): the laws' own builders: Name, Bin, Const, File.
-/
namespace Go.Proofs.YtmknghhgcecafaaDoor.Tree
open Go.ChangeShapes Go.WideShapes Go.ChangeAt Go.RowKit Mem
set_option linter.unusedVariables false

def ofL : List Nd → F
  | [] => .nil
  | nd :: l => .cons nd.k nd.x nd.y nd.c (ofL l)
theorem ofL_len : ∀ l : List Nd, (ofL l).len = l.length
  | [] => rfl
  | nd :: l => by simp only [ofL, F.len, ofL_len l, List.length_cons]

/-- A row of nodes in block g reads as trees. -/
theorem fs_row {w : World} {S : Nat → Prop} (g : Nat) (hg : S g) : ∀ (ps : List (Nd × Value)) (off n C : Nat), ps.length = n → n ≤ C → C ≤ 9223372036854775807 → (∀ j u, (ps.flatMap ndC)[j]? = some u → w.cell? ⟨g, off + j, none⟩ = some u) → (∀ p ∈ ps, Fs w S p.2 p.1.c) →
    ∀ A, (n = 0 ∨ A = some ⟨g, off, none⟩) → Fs w S (.slice A n C) (ofL (ps.map (·.1)))
  | [], off, n, C, hl, hC, hm, hc, hf, A, hA => by
    simp only [List.length_nil] at hl
    subst hl
    exact ⟨A, C, rfl, hm⟩
  | p :: ps, off, n, C, hl, hC, hm, hc, hf, A, hA => by
    simp only [List.length_cons] at hl
    subst hl
    obtain ⟨C', rfl⟩ : ∃ C', C = C' + 1 := ⟨C - 1, by omega⟩
    have hA' : A = some ⟨g, off, none⟩ := hA.resolve_left (by omega)
    subst hA'
    have hj : ∀ j u, (ndC p)[j]? = some u → w.cell? ⟨g, off + j, none⟩ = some u := fun j u hu => hc j u (by
      rw [List.flatMap_cons, List.getElem?_append_left (by
        rcases Nat.lt_or_ge j (ndC p).length with h' | h'
        · exact h'
        · rw [List.getElem?_eq_none h'] at hu; cases hu)]
      exact hu)
    refine ⟨g, off, ps.length, C', p.2, rfl, by rw [ofL_len, List.length_map], by omega, hm, hg, hj 0 _ rfl, hj 1 _ rfl, hj 2 _ rfl, hj 3 _ rfl, hf p (List.mem_cons_self ..), fun A' hA' => ?_⟩
    refine fs_row g hg ps (off + 4) ps.length C' rfl (by omega) (by omega) (fun j u hu => ?_) (fun q hq => hf q (List.mem_cons_of_mem _ hq)) A' ?_
    · rw [show off + 4 + j = off + (4 + j) by omega]
      refine hc (4 + j) u ?_
      rw [List.flatMap_cons, List.getElem?_append_right (by rw [ndC_len]; omega), ndC_len, show 4 + j - 4 = j by omega]
      exact hu
    · rcases hA' with h | h
      · left
        have : (ofL (ps.map (·.1))).len = ps.length := by rw [ofL_len, List.length_map]
        rw [h] at this
        exact this.symm
      · exact .inr h

def toL : F → List Nd
  | .nil => []
  | .cons k x y c r => ⟨k, x, y, c⟩ :: toL r
theorem toL_len : ∀ f : F, (toL f).length = f.len
  | .nil => rfl
  | .cons k x y c r => by simp only [toL, List.length_cons, F.len, toL_len r]
theorem ofL_toL : ∀ f : F, ofL (toL f) = f
  | .nil => rfl
  | .cons k x y c r => by simp only [toL, ofL, ofL_toL r]
theorem ofL_append : ∀ (l : List Nd) (f : F), ofL (l ++ toL f) = l.foldr (fun nd g => .cons nd.k nd.x nd.y nd.c g) f
  | [], f => by simp [ofL_toL]
  | nd :: l, f => by simp only [List.cons_append, ofL, ofL_append l f, List.foldr_cons]

/-- The cells of a row of trees. -/
theorem fs_cells {w : World} {S : Nat → Prop} : ∀ {f : F} {b off n C : Nat}, Fs w S (.slice (some ⟨b, off, none⟩) n C) f →
    ∃ ps : List (Nd × Value), ps.map (·.1) = toL f ∧ ps.length = n ∧ (∀ j u, (ps.flatMap ndC)[j]? = some u → w.cell? ⟨b, off + j, none⟩ = some u) ∧ ∀ p ∈ ps, Fs w S p.2 p.1.c
  | .nil, b, off, n, C, ⟨A, C', e, _⟩ => by
    injection e with _ e2 _
    subst e2
    exact ⟨[], rfl, rfl, fun j u hu => by simp at hu, fun p hp => by cases hp⟩
  | .cons k x y c r, b, off, n, C, ⟨b', off', n', C', s, e, h1, h2, h3, hS, c0, c1, c2, c3, hk, hr⟩ => by
    injection e with e1 e2 e3
    injection e1 with e1
    injection e1 with e4 e5
    subst e4; subst e5; subst e2; subst e3
    obtain ⟨ps, p1, p2, p3, p4⟩ := fs_cells (hr (some ⟨b, off + 4, none⟩) (.inr rfl))
    refine ⟨(⟨k, x, y, c⟩, s) :: ps, by rw [List.map_cons, p1]; rfl, by rw [List.length_cons, p2], fun j u hu => ?_, fun p hp => ?_⟩
    · rw [List.flatMap_cons] at hu
      by_cases hj : j < 4
      · rw [List.getElem?_append_left (by rw [ndC_len]; exact hj)] at hu
        match j, hj, hu with
        | 0, _, hu => cases hu; exact c0
        | 1, _, hu => cases hu; exact c1
        | 2, _, hu => cases hu; exact c2
        | 3, _, hu => cases hu; exact c3
      · rw [List.getElem?_append_right (by rw [ndC_len]; omega), ndC_len] at hu
        have := p3 (j - 4) u hu
        rwa [show off + 4 + (j - 4) = off + j by omega] at this
    · rcases List.mem_cons.1 hp with rfl | hp
      · exact hk
      · exact p4 p hp

theorem own_fsS {w : World} {S : Nat → Prop} {B base : Nat} {v : Value} {L : List Nd} (h : OwnN w B base v L) (hB : ∀ b, b < B → S b) (hS : ∀ g, base ≤ g → g < w.heap.size → S g) : Fs w S v (ofL L) := by
  obtain ⟨ps, h1, ho, hf⟩ := h
  rcases ho.2 with ⟨rfl, h0⟩ | ⟨g, cap, cur, rfl, hg0, hg, q1, q2, q3, q4⟩
  · rw [List.eq_nil_of_length_eq_zero h0]
    exact ⟨none, 0, rfl, by omega⟩
  · have e : ofL L = ofL (ps.map (·.1)) := by rw [h1]
    rw [e]
    have hc := ho.cells (g := g) rfl
    have ad : ∀ j, (⟨g, 0, none⟩ : Addr).add j = ⟨g, j, none⟩ := fun j => by unfold Addr.add; split <;> simp_all
    refine fs_row g (hS g hg0 (lt_of_block hg)) ps 0 L.length cap (by rw [← h1]; simp) q1 q2 (fun j u hu => ?_) (fun p hp => (hf p hp).more hB) _ (.inr rfl)
    have := hc j u hu
    rwa [ad, ← Nat.zero_add j] at this
theorem own_fs {w : World} {B base : Nat} {v : Value} {L : List Nd} (h : OwnN w B base v L) (hB : B ≤ w.heap.size) : Fs w (Lo w.heap.size) v (ofL L) :=
  own_fsS h (fun b hb => Nat.lt_of_lt_of_le hb hB) (fun g _ hg => hg)
/-- A variable's four cells written anew: the other blocks are as they were. -/
theorem set4_other (w : World) (g b : Nat) (v0 v1 v2 v3 : Value) (h : b ≠ g) : ((((w.setCell ⟨g, 0, none⟩ v0).setCell ⟨g, 1, none⟩ v1).setCell ⟨g, 2, none⟩ v2).setCell ⟨g, 3, none⟩ v3).heap[b]? = w.heap[b]? := by
  rw [Below.heap_setCell _ _ _ _ h, Below.heap_setCell _ _ _ _ h, Below.heap_setCell _ _ _ _ h, Below.heap_setCell _ _ _ _ h]

/-- append of a row of trees onto a row of the call's own. -/
theorem app_fs (w : World) {ops : Array Oper} {rest : List Oper} {o : Oper} {a : Act} {Q : Exit → Act → World → Prop} (hgd : o.guard = none) (s x : Operand)
    (ho : o.op = .call { callee := .builtin .append, args := #[s, x], argTypes := #[22, 22] }) (B base : Nat) (v : Value) (L1 : List Nd) (f : F) (b off m c : Nat) (hs : a.eval s = v) (hx : a.eval x = .slice (some ⟨b, off, none⟩) m c)
    (h1 : OwnN w B base v L1) (h2 : Fs w (Lo B) (.slice (some ⟨b, off, none⟩) m c) f) (hB : B ≤ base) (hbase : base ≤ w.heap.size) (hlen : L1.length + m ≤ 1000000)
    (h : ∀ v' w', OwnN w' B base v' (L1 ++ toL f) → Below base w w' → wpList Tryd.prog ops Q rest (a.put o.dst v') w') : wpList Tryd.prog ops Q (o :: rest) a w := by
  obtain ⟨i0, hi0, hz0, hz1, hz2⟩ := info_parts node_info
  obtain ⟨ps1, e1, ho1, hf1⟩ := h1
  obtain ⟨ps2, e2, hl2, hc2, hf2⟩ := fs_cells h2
  have ad : ∀ j, (⟨b, off, none⟩ : Addr).add j = ⟨b, off + j, none⟩ := fun j => by unfold Addr.add; split <;> simp_all
  have hlen2 : (toL f).length = m := by rw [← e2, List.length_map, hl2]
  refine wpList_append_own_at (P := Tryd.prog) w hgd s x 22 ho base 24 i0 (.agg #[.int .i64 0, .string ⟨#[]⟩, .string ⟨#[]⟩, .slice none 0 0]) 4 64 Tryd.underlying22 hi0 hz0 hz1 hz2 rfl (by decide) v L1.length _ hs ho1 ⟨b, off, none⟩ m c (ps2.flatMap ndC) hx (by rw [MemT.flat_len ndC_len, hl2]) (fun j u hu => by rw [ad]; exact hc2 j u hu) (ndC_one hf2) (by unfold maxLen; omega) (by omega) hbase fun v' w' r1 r2 _ _ => ?_
  have hbl : Below base w w' := (Below.refl _ _).grown r2 hbase (fun k hk => (ho1.lt k hk).1)
  refine h v' w' ⟨ps1 ++ ps2, by rw [List.map_append, e1, e2], by rw [List.flatMap_append, List.length_append, hlen2]; exact r1, fun p hp => ?_⟩ hbl
  rcases List.mem_append.1 hp with hp | hp
  · exact (hf1 p hp).below hbl hB
  · exact (hf2 p hp).below hbl hB

/-- The value v is a node. -/
def NodeIs (w : World) (v : Value) (k : Int) (x : ByteArray) (c : F) : Prop := ∃ A n C, v = .agg #[.int .i64 k, .string x, .string ⟨#[]⟩, .slice A n C] ∧ Fs w (Lo w.heap.size) (.slice A n C) c
theorem NodeIs.later {w w' : World} {v : Value} {k : Int} {x : ByteArray} {c : F} (h : NodeIs w v k x c) (hb : Below w.heap.size w w') : NodeIs w' v k x c := by
  obtain ⟨A, n, C, e, hf⟩ := h
  exact ⟨A, n, C, e, hf.later hb⟩

theorem hi_node : (Tryd.prog.info? 24).map (·.size) = some 4 := by kernel_rfl
theorem fs_empty (w : World) (S : Nat → Prop) : Fs w S (.slice none 0 0) .nil := ⟨none, 0, rfl, by omega⟩
theorem nodeIs_leaf (w : World) (k : Int) (s : ByteArray) : NodeIs w (.agg #[.int .i64 k, .string s, .string ⟨#[]⟩, .slice none 0 0]) k s .nil := ⟨none, 0, 0, rfl, fs_empty _ _⟩

theorem lawName_any (s : ByteArray) (w : World) : Calls Tryd.prog 22 #[.string s] w fun e w' => Below w.heap.size w w' ∧ ∃ v, e = .returned v ∧ NodeIs w' v 9 s .nil := by
  go_enter Tryd.func22, Tryd.ntmps22
  go_wp2
  refine bodyPost_ret (results_cell_row rfl _ _ w.heap.size 24 #[.int .i64 9, .string s, .string ⟨#[]⟩, .slice none 0 0] (0, 0) _ rfl (heap_alloc_new _ _) Tryd.underlying24 rfl hi_node) rfl ?_
  exact ⟨below1 _ _, _, rfl, nodeIs_leaf _ _ _⟩

theorem blk3 (w : World) (o1 o2 o3 o4 : Obj) : ((((w.alloc o1).alloc o2).alloc o3).alloc o4).heap[w.heap.size + 1 + 1]? = some o3 := by
  have e : w.heap.size + 1 + 1 = ((w.alloc o1).alloc o2).heap.size := by simp
  rw [Below.heap_alloc _ _ _ (by simp), e, heap_alloc_new]
theorem blk2 (w : World) (o1 o2 o3 : Obj) : (((w.alloc o1).alloc o2).alloc o3).heap[w.heap.size + 1]? = some o2 := by
  have e : w.heap.size + 1 = (w.alloc o1).heap.size := by simp
  rw [Below.heap_alloc _ _ _ (by simp), e, heap_alloc_new]
theorem below3 (w : World) (o1 o2 o3 : Obj) : Below w.heap.size w (((w.alloc o1).alloc o2).alloc o3) := (below2 w o1 o2).trans ((below1 _ _).mono (below2 w o1 o2).size)

/-- A row of two nodes, newly laid. -/
theorem fs_two (W : World) (k1 k2 : Int) (x1 x2 : ByteArray) (A1 A2 : Option Addr) (n1 C1 n2 C2 : Nat) (c1 c2 : F) (h1 : Fs W (Lo W.heap.size) (.slice A1 n1 C1) c1) (h2 : Fs W (Lo W.heap.size) (.slice A2 n2 C2) c2) :
    Fs (W.alloc (.cells #[.int .i64 k1, .string x1, .string ⟨#[]⟩, .slice A1 n1 C1, .int .i64 k2, .string x2, .string ⟨#[]⟩, .slice A2 n2 C2] 24)) (Lo (W.heap.size + 1)) (.slice (some ⟨W.heap.size, 0, none⟩) 2 2) (.cons k1 x1 ⟨#[]⟩ c1 (.cons k2 x2 ⟨#[]⟩ c2 .nil)) := by
  have hb := below1 W (.cells #[.int .i64 k1, .string x1, .string ⟨#[]⟩, .slice A1 n1 C1, .int .i64 k2, .string x2, .string ⟨#[]⟩, .slice A2 n2 C2] 24)
  refine fs_row W.heap.size (by show _ < _; omega) [(⟨k1, x1, ⟨#[]⟩, c1⟩, .slice A1 n1 C1), (⟨k2, x2, ⟨#[]⟩, c2⟩, .slice A2 n2 C2)] 0 2 2 rfl (Nat.le_refl _) (by omega) (fun j u hu => ?_) (fun p hp => ?_) _ (.inr rfl)
  · rw [Nat.zero_add, World.cell?_alloc_at _ _ _ _ rfl]; simpa [ndC] using hu
  · simp only [List.mem_cons, List.not_mem_nil, or_false] at hp
    rcases hp with rfl | rfl
    · exact (h1.below hb (Nat.le_refl _)).up (Nat.le_succ _)
    · exact (h2.below hb (Nat.le_refl _)).up (Nat.le_succ _)
theorem fs_one (W : World) (k1 : Int) (x1 : ByteArray) (A1 : Option Addr) (n1 C1 : Nat) (c1 : F) (h1 : Fs W (Lo W.heap.size) (.slice A1 n1 C1) c1) :
    Fs (W.alloc (.cells #[.int .i64 k1, .string x1, .string ⟨#[]⟩, .slice A1 n1 C1] 24)) (Lo (W.heap.size + 1)) (.slice (some ⟨W.heap.size, 0, none⟩) 1 1) (.cons k1 x1 ⟨#[]⟩ c1 .nil) := by
  have hb := below1 W (.cells #[.int .i64 k1, .string x1, .string ⟨#[]⟩, .slice A1 n1 C1] 24)
  refine fs_row W.heap.size (by show _ < _; omega) [(⟨k1, x1, ⟨#[]⟩, c1⟩, .slice A1 n1 C1)] 0 1 1 rfl (Nat.le_refl _) (by omega) (fun j u hu => ?_) (fun p hp => ?_) _ (.inr rfl)
  · rw [Nat.zero_add, World.cell?_alloc_at _ _ _ _ rfl]; simpa [ndC] using hu
  · simp only [List.mem_singleton] at hp
    subst hp
    exact (h1.below hb (Nat.le_refl _)).up (Nat.le_succ _)

set_option maxRecDepth 100000 in
set_option maxHeartbeats 4000000 in
theorem lawBin_any (op : ByteArray) (k1 k2 : Int) (x1 x2 : ByteArray) (A1 A2 : Option Addr) (n1 C1 n2 C2 : Nat) (c1 c2 : F) (w : World) (h1 : Fs w (Lo w.heap.size) (.slice A1 n1 C1) c1) (h2 : Fs w (Lo w.heap.size) (.slice A2 n2 C2) c2) :
    Calls Tryd.prog 21 #[.string op, .agg #[.int .i64 k1, .string x1, .string ⟨#[]⟩, .slice A1 n1 C1], .agg #[.int .i64 k2, .string x2, .string ⟨#[]⟩, .slice A2 n2 C2]] w fun e w' => Below w.heap.size w w' ∧ ∃ v, e = .returned v ∧ NodeIs w' v 29 op (.cons k1 x1 ⟨#[]⟩ c1 (.cons k2 x2 ⟨#[]⟩ c2 .nil)) := by
  go_enter Tryd.func21, Tryd.ntmps21
  go_wp2
  refine bodyPost_ret (results_cell_row rfl _ _ (w.heap.size + 1 + 1) 24 _ (0, 0) _ rfl (blk3 _ _ _ _ _) Tryd.underlying24 rfl hi_node) rfl ?_
  have b3 := below3 w (.cells #[.int .i64 k1, .string x1, .string ⟨#[]⟩, .slice A1 n1 C1] 24) (.cells #[.int .i64 k2, .string x2, .string ⟨#[]⟩, .slice A2 n2 C2] 24) (.cells #[.int .i64 29, .string op, .string ⟨#[]⟩, .slice (some ⟨w.heap.size + 1 + 1 + 1, 0, none⟩) 2 2] 24)
  have hf := fs_two _ k1 k2 x1 x2 A1 A2 n1 C1 n2 C2 c1 c2 (h1.later b3) (h2.later b3)
  refine ⟨b3.trans ((below1 _ _).mono b3.size), _, rfl, some ⟨w.heap.size + 1 + 1 + 1, 0, none⟩, 2, 2, rfl, ?_⟩
  simp only [World.size_alloc] at hf ⊢
  exact hf

end Go.Proofs.YtmknghhgcecafaaDoor.Tree
