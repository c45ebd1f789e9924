/-
  Layer 5 (tree): kidsFit: which Kids a kind must have. Written by gen_treekids.py.
-/
import Derived.Test.YtoecimgmghlfpaaDoorTreeRow
import Derived.Test.YtoecimgmghlfpaaDoorTreeParen
namespace Go.Proofs.YtoecimgmghlfpaaDoor.Tree
open Go.ChangeShapes Go.WideShapes Go.ChangeAt Go.RowKit Mem
set_option linter.unusedVariables false

abbrev TB : World → World → Prop := fun W W' => Below W.heap.size W W'
/-- The slice v holds the numbers l. -/
def Ints (l : List Int) (v : Value) (W : World) : Prop := ∃ g, v = .slice (some ⟨g, 0, none⟩) l.length l.length ∧ g < W.heap.size ∧ ∀ i u, l[i]? = some u → W.cell? ⟨g, i, none⟩ = some (.int .i64 u)
/-- The slice v holds the tests ps. -/
def Tests (ps : List (Int → ByteArray → Bool)) (v : Value) (W : World) : Prop := ∃ g, v = .slice (some ⟨g, 0, none⟩) ps.length ps.length ∧ g < W.heap.size ∧ ∀ i p, ps[i]? = some p → ∃ u, W.cell? ⟨g, i, none⟩ = some u ∧ TestOk W u p
/-- The slice v holds the parts ps. -/
def Parts (ps : List Pt) (v : Value) (W : World) : Prop := ∃ g, v = .slice (some ⟨g, 0, none⟩) ps.length ps.length ∧ g < W.heap.size ∧ ∀ i p, ps[i]? = some p → ∃ u, W.cell? ⟨g, i, none⟩ = some u ∧ PartOk W u p
def cInts (l : List Int) : Cd TB := ⟨Ints l, fun v W W' hb ⟨g, e, hg, hc⟩ => ⟨g, e, Nat.lt_of_lt_of_le hg hb.size, fun i u hu => (hb.cell (p := ⟨g, i, none⟩) hg).trans (hc i u hu)⟩⟩
def cTest (p : Int → ByteArray → Bool) : Cd TB := ⟨fun v W => TestOk W v p, fun v W W' hb h => h.later hb⟩
def cPart (p : Pt) : Cd TB := ⟨fun v W => PartOk W v p, fun v W W' hb h => h.later hb⟩
def cTests (ps : List (Int → ByteArray → Bool)) : Cd TB := ⟨Tests ps, fun v W W' hb ⟨g, e, hg, hc⟩ => ⟨g, e, Nat.lt_of_lt_of_le hg hb.size, fun i p hp => by
  obtain ⟨u, hu, ht⟩ := hc i p hp
  exact ⟨u, (hb.cell (p := ⟨g, i, none⟩) hg).trans hu, ht.later hb⟩⟩⟩
def cParts (ps : List Pt) : Cd TB := ⟨Parts ps, fun v W W' hb ⟨g, e, hg, hc⟩ => ⟨g, e, Nat.lt_of_lt_of_le hg hb.size, fun i p hp => by
  obtain ⟨u, hu, ht⟩ := hc i p hp
  exact ⟨u, (hb.cell (p := ⟨g, i, none⟩) hg).trans hu, ht.later hb⟩⟩⟩

theorem cell_new (W : World) (vs : List Value) (T : TypeId) (i : Nat) : (W.alloc (.cells vs.toArray T)).cell? ⟨W.heap.size, i, none⟩ = vs[i]? := by
  rw [World.cell?_alloc_at _ _ _ _ rfl]; simp
theorem ints_new (l : List Int) (W : World) : Ints l (.slice (some ⟨W.heap.size, 0, none⟩) l.length l.length) (W.alloc (.cells (l.map (Value.int .i64)).toArray 3)) :=
  ⟨_, rfl, by simp, fun i u hu => by rw [cell_new]; simp [hu]⟩
theorem tests_new1 {v1 : Value} {p1 : Int → ByteArray → Bool} (W : World) (h1 : TestOk W v1 p1) : Tests [p1] (.slice (some ⟨W.heap.size, 0, none⟩) 1 1) (W.alloc (.cells #[v1] 55)) :=
  ⟨_, rfl, by simp, fun i p hp => by
    match i, hp with
    | 0, hp => cases hp; exact ⟨v1, by rw [cell_new]; rfl, h1.later (below1 _ _)⟩⟩
theorem tests_new2 {v1 v2 : Value} {p1 p2 : Int → ByteArray → Bool} (W : World) (h1 : TestOk W v1 p1) (h2 : TestOk W v2 p2) : Tests [p1, p2] (.slice (some ⟨W.heap.size, 0, none⟩) 2 2) (W.alloc (.cells #[v1, v2] 55)) :=
  ⟨_, rfl, by simp, fun i p hp => by
    match i, hp with
    | 0, hp => cases hp; exact ⟨v1, by rw [cell_new]; rfl, h1.later (below1 _ _)⟩
    | 1, hp => cases hp; exact ⟨v2, by rw [cell_new]; rfl, h2.later (below1 _ _)⟩⟩
theorem parts_new (W : World) (T : TypeId) (vs : List Value) (ps : List Pt) (hl : vs.length = ps.length) (h : ∀ (i : Nat) (v : Value) (p : Pt), vs[i]? = some v → ps[i]? = some p → PartOk W v p) : Parts ps (.slice (some ⟨W.heap.size, 0, none⟩) ps.length ps.length) (W.alloc (.cells vs.toArray T)) :=
  ⟨_, rfl, by simp, fun i p hp => by
    have hi : i < vs.length := by rw [hl]; exact (List.getElem?_eq_some_iff.1 hp).1
    exact ⟨vs[i], by rw [cell_new]; simp [hi], (h i _ p (List.getElem?_eq_getElem hi) hp).later (below1 _ _)⟩⟩
theorem parts_new1 {v1 : Value} {p1 : Pt} (W : World) (h1 : PartOk W v1 p1) : Parts [p1] (.slice (some ⟨W.heap.size, 0, none⟩) 1 1) (W.alloc (.cells #[v1] 59)) :=
  parts_new W _ [v1] [p1] rfl fun i v p hv hp => by
    match i, hv, hp with
    | 0, hv, hp => cases hv; cases hp; exact h1
theorem parts_new2 {v1 v2 : Value} {p1 p2 : Pt} (W : World) (h1 : PartOk W v1 p1) (h2 : PartOk W v2 p2) : Parts [p1, p2] (.slice (some ⟨W.heap.size, 0, none⟩) 2 2) (W.alloc (.cells #[v1, v2] 59)) :=
  parts_new W _ [v1, v2] [p1, p2] rfl fun i v p hv hp => by
    match i, hv, hp with
    | 0, hv, hp => cases hv; cases hp; exact h1
    | 1, hv, hp => cases hv; cases hp; exact h2
theorem parts_new3 {v1 v2 v3 : Value} {p1 p2 p3 : Pt} (W : World) (h1 : PartOk W v1 p1) (h2 : PartOk W v2 p2) (h3 : PartOk W v3 p3) : Parts [p1, p2, p3] (.slice (some ⟨W.heap.size, 0, none⟩) 3 3) (W.alloc (.cells #[v1, v2, v3] 59)) :=
  parts_new W _ [v1, v2, v3] [p1, p2, p3] rfl fun i v p hv hp => by
    match i, hv, hp with
    | 0, hv, hp => cases hv; cases hp; exact h1
    | 1, hv, hp => cases hv; cases hp; exact h2
    | 2, hv, hp => cases hv; cases hp; exact h3
theorem parts_new4 {v1 v2 v3 v4 : Value} {p1 p2 p3 p4 : Pt} (W : World) (h1 : PartOk W v1 p1) (h2 : PartOk W v2 p2) (h3 : PartOk W v3 p3) (h4 : PartOk W v4 p4) : Parts [p1, p2, p3, p4] (.slice (some ⟨W.heap.size, 0, none⟩) 4 4) (W.alloc (.cells #[v1, v2, v3, v4] 59)) :=
  parts_new W _ [v1, v2, v3, v4] [p1, p2, p3, p4] rfl fun i v p hv hp => by
    match i, hv, hp with
    | 0, hv, hp => cases hv; cases hp; exact h1
    | 1, hv, hp => cases hv; cases hp; exact h2
    | 2, hv, hp => cases hv; cases hp; exact h3
    | 3, hv, hp => cases hv; cases hp; exact h4
theorem test_isDecl (w : World) : TestOk w (.func (.func 45) #[] #[]) isDecl := ⟨_, _, rfl, fun args w => by simp [go_sem], fun W _ k x y A n C => isDecl_any k x y A n C W⟩
theorem test_isVal (w : World) : TestOk w (.func (.func 46) #[] #[]) isVal := ⟨_, _, rfl, fun args w => by simp [go_sem], fun W _ k x y A n C => isVal_any k x y A n C W⟩
theorem test_isTyp (w : World) : TestOk w (.func (.func 47) #[] #[]) isTyp := ⟨_, _, rfl, fun args w => by simp [go_sem], fun W _ k x y A n C => isTyp_any k x y A n C W⟩
theorem test_isStm (w : World) : TestOk w (.func (.func 48) #[] #[]) isStm := ⟨_, _, rfl, fun args w => by simp [go_sem], fun W _ k x y A n C => isStm_any k x y A n C W⟩
theorem test_isPlc (w : World) : TestOk w (.func (.func 49) #[] #[]) isPlc := ⟨_, _, rfl, fun args w => by simp [go_sem], fun W _ k x y A n C => isPlc_any k x y A n C W⟩

theorem Fs.later {w w' : World} {v : Value} {f : F} (h : Fs w (Lo w.heap.size) v f) (hb : Below w.heap.size w w') : Fs w' (Lo w'.heap.size) v f := (h.below hb (Nat.le_refl _)).up hb.size

/-- What holds when kidsFit has made its first test. -/
structure KidsAt (w w3 : World) (x y : ByteArray) (k : Int) (A : Option Addr) (n C : Nat) (f : F) (g3 : Nat) (c3 : Array Value) : Prop where
  bel : Below w.heap.size w w3
  box : ∀ W, Below w3.heap.size w3 W → W.cell? ⟨w.heap.size, 0, none⟩ = some (.int .i64 k) ∧ W.cell? ⟨w.heap.size, 1, none⟩ = some (.string x) ∧ W.cell? ⟨w.heap.size, 3, none⟩ = some (.slice A n C)
  fs : Fs w3 (Lo w3.heap.size) (.slice A n C) f
  t3 : TestOk w3 (.func (.func g3) #[] c3) (isOf [33])

theorem kidsAt_new (w w3 : World) (k : Int) (x y : ByteArray) (A : Option Addr) (n C : Nat) (f : F) (g3 : Nat) (c3 : Array Value) (hf : Fs w (Lo w.heap.size) (.slice A n C) f)
    (hb : Below ((w.alloc (.cells #[.int .i64 k, .string x, .string y, .slice A n C] 24)).alloc (.cells #[.int .i64 33] 3)).heap.size ((w.alloc (.cells #[.int .i64 k, .string x, .string y, .slice A n C] 24)).alloc (.cells #[.int .i64 33] 3)) w3) (ht : TestOk w3 (.func (.func g3) #[] c3) (isOf [33])) :
    KidsAt w w3 x y k A n C f g3 c3 := by
  have b1 := below2 w (.cells #[.int .i64 k, .string x, .string y, .slice A n C] 24) (.cells #[.int .i64 33] 3)
  have b2 := b1.trans (hb.mono b1.size)
  have hlt : w.heap.size < (w.alloc (.cells #[.int .i64 k, .string x, .string y, .slice A n C] 24)).heap.size := by simp
  have cel : ∀ W, Below w3.heap.size w3 W → ∀ i v, #[Value.int .i64 k, .string x, .string y, .slice A n C][i]? = some v → W.cell? ⟨w.heap.size, i, none⟩ = some v := fun W hW i v hv => by
    rw [hW.cell (p := ⟨w.heap.size, i, none⟩) (by have := hb.size; simp at this; show w.heap.size < _; omega), hb.cell (p := ⟨w.heap.size, i, none⟩) (by simp; omega), World.cell?_alloc_lt _ _ _ hlt, World.cell?_alloc_at _ _ _ _ rfl]
    simpa using hv
  exact ⟨b2, fun W hW => ⟨cel W hW 0 _ rfl, cel W hW 1 _ rfl, cel W hW 3 _ rfl⟩, hf.later b2, ht⟩
end Go.Proofs.YtoecimgmghlfpaaDoor.Tree
