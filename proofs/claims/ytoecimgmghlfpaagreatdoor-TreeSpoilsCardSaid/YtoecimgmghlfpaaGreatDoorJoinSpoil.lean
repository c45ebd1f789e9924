import Derived.Test.YtoecimgmghlfpaaGreatDoorJoinKnown
import Derived.Test.YtoecimgmghlfpaaGreatDoorTreeRefIn
import Derived.Test.YtoecimgmghlfpaaGreatDoorJoinCopy

/-
  Layer 5 (tree): variables that hold nodes and are written anew: what is kept, what is known of their trees.
-/
namespace Go.Proofs.YtoecimgmghlfpaaGreatDoor.Tree
open Go.ChangeShapes Go.WideShapes Go.ChangeAt Go.RowKit Mem
set_option linter.unusedVariables false

theorem SmallT.small : ∀ {f : F}, SmallT f → Small f
  | .nil, _ => trivial
  | .cons k x y c r, h => ⟨Nat.le_trans h.1 (by omega), Nat.le_trans h.2.1 (by omega), SmallT.small h.2.2.1, SmallT.small h.2.2.2⟩

/-- All but block g is as it was. -/
structure But (g : Nat) (w w' : World) : Prop where
  os : w'.os = w.os
  tape : w'.tape = w.tape
  output : w'.output = w.output
  size : w.heap.size ≤ w'.heap.size
  block : ∀ b, b < w.heap.size → b ≠ g → w'.heap[b]? = w.heap[b]?
theorem But.refl (g : Nat) (w : World) : But g w w := ⟨rfl, rfl, rfl, Nat.le_refl _, fun _ _ _ => rfl⟩
theorem But.trans {g : Nat} {a b c : World} (h : But g a b) (k : But g b c) : But g a c :=
  ⟨k.os.trans h.os, k.tape.trans h.tape, k.output.trans h.output, Nat.le_trans h.size k.size, fun i hi hg => (k.block i (Nat.lt_of_lt_of_le hi h.size) hg).trans (h.block i hi hg)⟩
theorem But.of_below {g : Nat} {w w' : World} (h : Below w.heap.size w w') : But g w w' := ⟨h.os, h.tape, h.output, h.size, fun b hb _ => h.block b hb⟩
theorem But.below {g : Nat} {w0 w w' : World} (h0 : Below w0.heap.size w0 w) (h : But g w w') (hg : w0.heap.size ≤ g) : Below w0.heap.size w0 w' :=
  ⟨h.os.trans h0.os, h.tape.trans h0.tape, h.output.trans h0.output, Nat.le_trans h0.size h.size, fun b hb => (h.block b (Nat.lt_of_lt_of_le hb h0.size) (by omega)).trans (h0.block b hb)⟩
theorem But.set4 (w : World) (g : Nat) (v0 v1 v2 v3 : Value) : But g w ((((w.setCell ⟨g, 0, none⟩ v0).setCell ⟨g, 1, none⟩ v1).setCell ⟨g, 2, none⟩ v2).setCell ⟨g, 3, none⟩ v3) :=
  ⟨(box_below w g v0 v1 v2 v3).os, (box_below w g v0 v1 v2 v3).tape, (box_below w g v0 v1 v2 v3).output, (box_below w g v0 v1 v2 v3).size, fun b _ hb => set4_other w g b v0 v1 v2 v3 hb⟩

/-- The blocks that are there, but for some. -/
def Out (w : World) (gs : List Nat) : Nat → Prop := fun b => b < w.heap.size ∧ b ∉ gs
theorem Out.mono {w w' : World} {gs : List Nat} (h : w.heap.size ≤ w'.heap.size) : ∀ b, Out w gs b → Out w' gs b := fun b hb => ⟨Nat.lt_of_lt_of_le hb.1 h, hb.2⟩
theorem fs_but {g : Nat} {w w' : World} {gs : List Nat} {v : Value} {f : F} (hf : Fs w (Out w gs) v f) (h : But g w w') (hg : g ∈ gs) : Fs w' (Out w' gs) v f :=
  (hf.keep fun b hb => h.block b hb.1 (fun e => hb.2 (e ▸ hg))).more (Out.mono h.size)
theorem fs_out {w w' : World} {gs : List Nat} {v : Value} {f : F} (hf : Fs w (Out w gs) v f) (h : Below w.heap.size w w') : Fs w' (Out w' gs) v f :=
  (hf.keep fun b hb => h.block b hb.1).more (Out.mono h.size)
theorem fs_lo {w : World} {gs : List Nat} {v : Value} {f : F} (hf : Fs w (Out w gs) v f) : Fs w (Lo w.heap.size) v f := hf.more fun _ hb => hb.1

/-- A variable that holds a node without a remark, whose texts are no longer than a hundred thousand bytes, and whose tree lies outside some blocks. -/
def Bx (w : World) (g : Nat) (gs : List Nat) : Prop := ∃ (k : Int) (x : ByteArray) (A : Option Addr) (n C : Nat) (c : F), Boxed w g k x ⟨#[]⟩ (.slice A n C) ∧ Fs w (Out w gs) (.slice A n C) c ∧ x.size ≤ 100000 ∧ SmallT c
theorem Bx.lt {w : World} {g : Nat} {gs : List Nat} (h : Bx w g gs) : g < w.heap.size := by
  obtain ⟨k, x, A, n, C, c, hb, _⟩ := h
  exact hb.lt
theorem Bx.but {w w' : World} {g g' : Nat} {gs : List Nat} (h : Bx w g' gs) (hb : But g w w') (hg : g ∈ gs) (hne : g' ≠ g) : Bx w' g' gs := by
  have hlt := h.lt
  obtain ⟨k, x, A, n, C, c, h1, h2, h3⟩ := h
  exact ⟨k, x, A, n, C, c, (hb.block g' hlt hne).trans h1, fs_but h2 hb hg, h3⟩
theorem Bx.later {w w' : World} {g : Nat} {gs : List Nat} (h : Bx w g gs) (hb : Below w.heap.size w w') : Bx w' g gs := by
  have hlt := h.lt
  obtain ⟨k, x, A, n, C, c, h1, h2, h3⟩ := h
  exact ⟨k, x, A, n, C, c, h1.below hb hlt, fs_out h2 hb, h3⟩
theorem Bx.write {w : World} {g : Nat} {gs : List Nat} {k0 : Int} {x0 y0 : ByteArray} {s0 : Value} (hb : Boxed w g k0 x0 y0 s0) (hg : g ∈ gs) (k : Int) (x : ByteArray) {A : Option Addr} {n C : Nat} {c : F} (hf : Fs w (Out w gs) (.slice A n C) c) (hx : x.size ≤ 100000) (hs : SmallT c) :
    Bx ((((w.setCell ⟨g, 0, none⟩ (.int .i64 k)).setCell ⟨g, 1, none⟩ (.string x)).setCell ⟨g, 2, none⟩ (.string ⟨#[]⟩)).setCell ⟨g, 3, none⟩ (.slice A n C)) g gs :=
  ⟨k, x, A, n, C, c, box_new hb, fs_but hf (But.set4 _ _ _ _ _ _) hg, hx, hs⟩

/-- A new block that holds a row of nodes. -/
theorem fs_newG (w : World) (gs : List Nat) (hgs : w.heap.size ∉ gs) (ps : List (Nd × Value)) (cs : Array Value) (hcs : cs = (ps.flatMap ndC).toArray) (n : Nat) (hn : ps.length = n) (hn2 : n ≤ 1000000) (hf : ∀ p ∈ ps, Fs w (Out w gs) p.2 p.1.c) :
    Fs (w.alloc (.cells cs 24)) (Out (w.alloc (.cells cs 24)) gs) (.slice (some ⟨w.heap.size, 0, none⟩) n n) (ofL (ps.map (·.1))) := by
  have hb := below1 w (.cells cs 24)
  refine fs_row w.heap.size ⟨by simp, hgs⟩ ps 0 n n hn (Nat.le_refl _) (by omega) (fun j u hu => ?_) (fun p hp => fs_out (hf p hp) hb) _ (.inr rfl)
  rw [Nat.zero_add, World.cell?_alloc_at _ _ _ _ rfl, hcs]
  simpa using hu
theorem fs_new (w : World) (gs : List Nat) (hgs : ∀ g ∈ gs, g < w.heap.size) (ps : List (Nd × Value)) (cs : Array Value) (hcs : cs = (ps.flatMap ndC).toArray) (n : Nat) (hn : ps.length = n) (hn2 : n ≤ 1000000) (hf : ∀ p ∈ ps, Fs w (Out w gs) p.2 p.1.c) :
    Fs (w.alloc (.cells cs 24)) (Out (w.alloc (.cells cs 24)) gs) (.slice (some ⟨w.heap.size, 0, none⟩) n n) (ofL (ps.map (·.1))) :=
  fs_newG w gs (fun h => absurd (hgs _ h) (by omega)) ps cs hcs n hn hn2 hf

set_option maxRecDepth 100000 in
set_option maxHeartbeats 4000000 in
theorem lawBinS_any (op : ByteArray) (k1 k2 : Int) (x1 x2 : ByteArray) (A1 A2 : Option Addr) (n1 C1 n2 C2 : Nat) (c1 c2 : F) (w : World) (gs : List Nat) (hgs : ∀ g ∈ gs, g < w.heap.size) (h1 : Fs w (Out w gs) (.slice A1 n1 C1) c1) (h2 : Fs w (Out w gs) (.slice A2 n2 C2) c2) :
    Calls Tryz.prog 14 #[.string op, .agg #[.int .i64 k1, .string x1, .string ⟨#[]⟩, .slice A1 n1 C1], .agg #[.int .i64 k2, .string x2, .string ⟨#[]⟩, .slice A2 n2 C2]] w fun e w' => Below w.heap.size w w' ∧ ∃ A n C, e = .returned (.agg #[.int .i64 29, .string op, .string ⟨#[]⟩, .slice A n C]) ∧ Fs w' (Out w' gs) (.slice A n C) (.cons k1 x1 ⟨#[]⟩ c1 (.cons k2 x2 ⟨#[]⟩ c2 .nil)) := by
  go_enter Tryz.func14, Tryz.ntmps14
  go_wp2
  refine bodyPost_ret (results_cell_row rfl _ _ (w.heap.size + 1 + 1) 24 _ (0, 0) _ rfl (blk3 _ _ _ _ _) Tryz.underlying24 rfl hi_node) rfl ?_
  have b3 := below3 w (.cells #[.int .i64 k1, .string x1, .string ⟨#[]⟩, .slice A1 n1 C1] 24) (.cells #[.int .i64 k2, .string x2, .string ⟨#[]⟩, .slice A2 n2 C2] 24) (.cells #[.int .i64 29, .string op, .string ⟨#[]⟩, .slice (some ⟨w.heap.size + 1 + 1 + 1, 0, none⟩) 2 2] 24)
  have hf := fs_new _ gs (fun g hg => Nat.lt_of_lt_of_le (hgs g hg) b3.size) [(⟨k1, x1, ⟨#[]⟩, c1⟩, .slice A1 n1 C1), (⟨k2, x2, ⟨#[]⟩, c2⟩, .slice A2 n2 C2)] _ rfl 2 rfl (by omega) (fun p hp => by
    simp only [List.mem_cons, List.not_mem_nil, or_false] at hp
    rcases hp with rfl | rfl
    · exact fs_out h1 b3
    · exact fs_out h2 b3)
  refine ⟨b3.trans ((below1 _ _).mono b3.size), some ⟨w.heap.size + 1 + 1 + 1, 0, none⟩, 2, 2, rfl, ?_⟩
  simp only [World.size_alloc] at hf ⊢
  exact hf

/-- Three variables that hold nodes. -/
structure St (w wr : World) (g5 g6 g7 : Nat) : Prop where
  bel : Below w.heap.size w wr
  o5 : w.heap.size ≤ g5
  o6 : w.heap.size ≤ g6
  o7 : w.heap.size ≤ g7
  n56 : g5 ≠ g6
  n57 : g5 ≠ g7
  n67 : g6 ≠ g7
  b5 : Bx wr g5 [g5, g6, g7]
  b6 : Bx wr g6 [g5, g6, g7]
  b7 : Bx wr g7 [g5, g6, g7]
theorem St.later {w wr W : World} {g5 g6 g7 : Nat} (h : St w wr g5 g6 g7) (hb : Below wr.heap.size wr W) : St w W g5 g6 g7 :=
  ⟨h.bel.trans (hb.mono h.bel.size), h.o5, h.o6, h.o7, h.n56, h.n57, h.n67, h.b5.later hb, h.b6.later hb, h.b7.later hb⟩
theorem St.w5 {w wr W : World} {g5 g6 g7 : Nat} (h : St w wr g5 g6 g7) (hb : But g5 wr W) (hx : Bx W g5 [g5, g6, g7]) : St w W g5 g6 g7 :=
  ⟨hb.below h.bel h.o5, h.o5, h.o6, h.o7, h.n56, h.n57, h.n67, hx, h.b6.but hb (by simp) h.n56.symm, h.b7.but hb (by simp) h.n57.symm⟩
theorem St.w6 {w wr W : World} {g5 g6 g7 : Nat} (h : St w wr g5 g6 g7) (hb : But g6 wr W) (hx : Bx W g6 [g5, g6, g7]) : St w W g5 g6 g7 :=
  ⟨hb.below h.bel h.o6, h.o5, h.o6, h.o7, h.n56, h.n57, h.n67, h.b5.but hb (by simp) h.n56, hx, h.b7.but hb (by simp) h.n67.symm⟩
theorem St.w7 {w wr W : World} {g5 g6 g7 : Nat} (h : St w wr g5 g6 g7) (hb : But g7 wr W) (hx : Bx W g7 [g5, g6, g7]) : St w W g5 g6 g7 :=
  ⟨hb.below h.bel h.o7, h.o5, h.o6, h.o7, h.n56, h.n57, h.n67, h.b5.but hb (by simp) h.n57, h.b6.but hb (by simp) h.n67, hx⟩
theorem St.gs {w wr : World} {g5 g6 g7 : Nat} (h : St w wr g5 g6 g7) : ∀ g ∈ [g5, g6, g7], g < wr.heap.size := by
  intro g hg
  simp only [List.mem_cons, List.not_mem_nil, or_false] at hg
  rcases hg with rfl | rfl | rfl
  · exact h.b5.lt
  · exact h.b6.lt
  · exact h.b7.lt
end Go.Proofs.YtoecimgmghlfpaaGreatDoor.Tree

/-
  Layer 5 (tree): the document's Size, and the law's spoilt: it answers some tree, of new memory. Written by gen_treespoilt.py.
-/
namespace Go.Proofs.YtoecimgmghlfpaaGreatDoor.Tree
open Go.ChangeShapes Go.WideShapes Go.ChangeAt Go.RowKit Mem
set_option linter.unusedVariables false

set_option maxRecDepth 100000 in
set_option maxHeartbeats 4000000 in
theorem refSize_any (k : Int) (x y : ByteArray) (A : Option Addr) (n C : Nat) (c : F) (m : Nat) (w : World) (hf : Fs w (Lo w.heap.size) (.slice A n C) c) (hm1 : 1 ≤ m) (hm2 : m ≤ 100000) :
    Calls Tryz.prog 11 #[.agg #[.int .i64 k, .string x, .string y, .slice A n C], .int .i64 (m : Int)] w fun e w' => e = .returned (.int .i64 ((min (c.size + 1) m : Nat) : Int)) ∧ Below w.heap.size w w' := by
  have b1 := below1 w (.cells #[.int .i64 k, .string x, .string y, .slice A n C] 24)
  have HC := Lib.hid (nodes_any c.size k x y A n C c m w.heap.size (w.alloc (.cells #[.int .i64 k, .string x, .string y, .slice A n C] 24)) (Nat.le_refl _) (hf.below b1 (Nat.le_refl _)) b1.size hm1 hm2)
  have HB1 := Lib.hid b1
  have HL : Hid (((⟨k, x, y, c⟩ :: nodes c : List Nd).take m).length = min (c.size + 1) m) := by show _ = _; rw [List.length_take, List.length_cons, nodes_len, Nat.min_comm]
  generalize ((⟨k, x, y, c⟩ :: nodes c : List Nd).take m) = T at *
  generalize min (c.size + 1) m = s at *
  clear hf hm1 hm2 b1
  go_enter Tryz.func11, Tryz.ntmps11
  go_wp2_with fail
  refine HC.out.mono ?_
  rintro e w1 ⟨⟨v1, rfl, ho1⟩, hb1⟩
  obtain ⟨a1, c1, rfl, hc1, hc1'⟩ := ho1.slice
  have HB := Lib.hid (HB1.out.trans (hb1.mono HB1.out.size))
  rw [HL.out] at hc1 ⊢
  clear ho1 hb1 HC HL hc1'
  go_wp2
  go_ret
  exact ⟨rfl, HB.out⟩

theorem But.of_grown {g : Nat} {w w' : World} (h : w.grownBy w' (some g)) : But g w w' := ⟨h.os, h.tape, h.output, h.size, fun b hb hne => h.block b hb fun e => hne (Option.some.inj e)⟩
theorem rng_but {B g : Nat} {W W' : World} {v : Value} {f : F} (h : Fs W (Rng B W) v f) (hb : But g W W') (hg : g < B) : Fs W' (Rng B W') v f :=
  (h.keep fun b hb' => hb.block b hb'.2 (by have := hb'.1; omega)).more fun b hb' => ⟨hb'.1, Nat.lt_of_lt_of_le hb'.2 hb.size⟩

/-- The blocks that the Kids of the copy's row may lie in. -/
def PS (w W : World) (g3 : Nat) (v : Value) : Nat → Prop := fun b => w.heap.size + 2 ≤ b ∧ b < W.heap.size ∧ b ≠ g3 ∧ some b ≠ v.ownBlock
/-- The copy: vb: what the variable holds; v: the row. -/
structure PAt (w W : World) (g3 : Nat) (k : Int) (x y : ByteArray) (vb v : Value) (L : List Nd) : Prop where
  bel : Below w.heap.size w W
  b2 : Boxed W (w.heap.size + 1) 0 ⟨#[]⟩ ⟨#[]⟩ (.slice none 0 0)
  b3 : Boxed W g3 k x y vb
  o : OwnS W (PS w W g3 v) v L
  d : ∀ g, v.ownBlock = some g → w.heap.size + 2 ≤ g ∧ g ≠ g3
  h3 : w.heap.size + 2 ≤ g3
/-- At the end: the variable's tree, whatever it is. -/
structure FinE (w W : World) (v : Value) : Prop where
  bel : Below w.heap.size w W
  b2 : Boxed W (w.heap.size + 1) 0 ⟨#[]⟩ ⟨#[]⟩ (.slice none 0 0)
  fs : ∃ f, Fs W (fun b => w.heap.size + 2 ≤ b ∧ b < W.heap.size) v f
structure FinS (w W : World) (g3 : Nat) (k : Int) (x y : ByteArray) (v : Value) : Prop where
  b3 : Boxed W g3 k x y v
  end_ : FinE w W v
def SpoiltPost (w w' : World) (e : Ending) : Prop := Below w.heap.size w w' ∧ ∃ (k' : Int) (x' y' : ByteArray) (A' : Option Addr) (n' C' : Nat) (c' : F), e = .returned (.agg #[.int .i64 k', .string x', .string y', .slice A' n' C']) ∧ Fs w' (Rng w.heap.size w') (.slice A' n' C') c'
section
variable {w W W' : World} {g3 : Nat} {k : Int} {x y : ByteArray} {vb v v' : Value} {L : List Nd} {nd : Nd}
theorem PAt.sS (h : PAt w W g3 k x y vb v L) : ∀ b, PS w W g3 v b → b < W.heap.size ∧ some b ≠ v.ownBlock := fun b hb => ⟨hb.2.1, hb.2.2.2⟩
theorem PAt.later (h : PAt w W g3 k x y vb v L) (hb : Below W.heap.size W W') : PAt w W' g3 k x y vb v L :=
  ⟨h.bel.trans (hb.mono h.bel.size), h.b2.below hb h.b2.lt, h.b3.below hb h.b3.lt, (h.o.later hb fun b hb' => hb'.2.1).more fun b hb' => ⟨hb'.1, Nat.lt_of_lt_of_le hb'.2.1 hb.size, hb'.2.2⟩, h.d, h.h3⟩
theorem PAt.app (h : PAt w W g3 k x y vb v L) (ho : OwnS W' (PS w W g3 v) v' (L ++ [nd])) (hg : W.grownBy W' v.ownBlock) (hv : v'.ownBlock = v.ownBlock ∨ v'.ownBlock = some W.heap.size) : PAt w W' g3 k x y vb v' (L ++ [nd]) := by
  have q2 := h.b2.lt; have q3 := h.b3.lt; have q4 := h.h3
  refine ⟨h.bel.trans (below_grown hg h.bel.size fun g e => Nat.le_trans (by omega) (h.d g e).1), (hg.block _ q2 fun e => by have := (h.d _ e.symm).1; omega).trans h.b2, (hg.block _ q3 fun e => (h.d _ e.symm).2 rfl).trans h.b3, ho.more fun b hb => ⟨hb.1, Nat.lt_of_lt_of_le hb.2.1 hg.size, hb.2.2.1, fun e => ?_⟩, fun g e => ?_, h.h3⟩
  · rcases hv with hv | hv
    · exact hb.2.2.2 (e.trans hv)
    · rw [hv] at e
      obtain rfl := Option.some.inj e
      exact Nat.lt_irrefl _ hb.2.1
  · rcases hv with hv | hv
    · exact h.d g (hv ▸ e)
    · rw [hv] at e
      obtain rfl := Option.some.inj e
      omega
theorem PAt.set (h : PAt w W g3 k x y vb v L) : PAt w (W.setCell ⟨g3, 3, none⟩ v) g3 k x y v v L := by
  have hg := set_grown W g3 3 v
  have q4 := h.h3
  refine ⟨h.bel.setCell (p := ⟨g3, 3, none⟩) (show w.heap.size ≤ g3 by omega) _, (Below.heap_setCell _ _ _ _ (show w.heap.size + 1 ≠ g3 by omega)).trans h.b2, ?_, (h.o.grown hg (.inr fun e => (h.d _ e).2 rfl) fun b hb => ⟨hb.2.1, fun e => hb.2.2.1 (Option.some.inj e)⟩).more fun b hb => ⟨hb.1, Nat.lt_of_lt_of_le hb.2.1 hg.size, hb.2.2⟩, h.d, h.h3⟩
  have := set_at h.b3 3 v
  unfold Boxed
  simpa using this
theorem PAt.b3x (h : PAt w W g3 k x y vb v L) : FinE w W v :=
  ⟨h.bel, h.b2, _, h.o.fs (fun b hb => ⟨hb.1, hb.2.1⟩) fun g e => ⟨(h.d g e).1, h.o.lt e⟩⟩
theorem FinS.later (h : FinS w W g3 k x y v) (hb : Below W.heap.size W W') : FinS w W' g3 k x y v := by
  obtain ⟨f, hf⟩ := h.end_.fs
  exact ⟨h.b3.below hb h.b3.lt, h.end_.bel.trans (hb.mono h.end_.bel.size), h.end_.b2.below hb h.end_.b2.lt, f, (hf.keep fun b hb' => hb.block b hb'.2).more fun b hb' => ⟨hb'.1, Nat.lt_of_lt_of_le hb'.2 hb.size⟩⟩
theorem PAt.put {wr : World} {g0 n c : Nat} (h : PAt w W g3 k x y (.slice (some ⟨g0, 0, none⟩) n c) (.slice (some ⟨g0, 0, none⟩) n c) L) (hg0 : g0 < wr.heap.size) (hb : Below wr.heap.size wr W) (h3 : g3 < wr.heap.size) (hw : w.heap.size + 2 ≤ wr.heap.size) (i : Nat) (hi : i < L.length) (k' : Int) (x' y' : ByteArray) {s : Value} {c' : F} (hf : Fs W (Rng wr.heap.size W) s c') :
    FinS w (put4 W g0 i k' x' y' s) g3 k x y (.slice (some ⟨g0, 0, none⟩) n c) := by
  have hgr := put4_grown W g0 i k' x' y' s
  have hd := h.d g0 rfl
  have ho := (h.o.more (S' := fun b => w.heap.size + 2 ≤ b ∧ b < W.heap.size ∧ b ≠ g0) fun b hb => ⟨hb.1, hb.2.1, fun e => hb.2.2.2 (by rw [e]; rfl)⟩).put i hi k' x' y' s c' (hf.more fun b hb => ⟨Nat.le_trans hw hb.1, hb.2, by have := hb.1; omega⟩) fun b hb => hb.2
  have hbel : Below w.heap.size w (put4 W g0 i k' x' y' s) := h.bel.trans (below_grown hgr h.bel.size fun g e => by have := Option.some.inj e; omega)
  refine ⟨(hgr.block g3 h.b3.lt fun e => hd.2 (Option.some.inj e).symm).trans h.b3, hbel, (hgr.block _ h.b2.lt fun e => by have := Option.some.inj e; omega).trans h.b2, _, ho.fs (fun b hb => ⟨hb.1, Nat.lt_of_lt_of_le hb.2.1 hgr.size⟩) fun g e => ?_⟩
  obtain rfl := Option.some.inj e
  exact ⟨hd.1, ho.lt rfl⟩
theorem PAt.frz4 {g0 n c : Nat} (h : PAt w W g3 k x y vb (.slice (some ⟨g0, 0, none⟩) n c) L) (i : Nat) : W.frozen? ⟨g0, i * 4, none⟩ = false ∧ W.frozen? ⟨g0, i * 4 + 1, none⟩ = false ∧ W.frozen? ⟨g0, i * 4 + 2, none⟩ = false ∧ W.frozen? ⟨g0, i * 4 + 3, none⟩ = false := by
  obtain ⟨ps, _, ho, _⟩ := h.o
  obtain ⟨_, _, e, _, _⟩ := own_slice' ho
  injection e with _ e2 _
  rw [← e2] at ho
  exact ⟨ho.frozenAt _, ho.frozenAt _, ho.frozenAt _, ho.frozenAt _⟩
/-- The variable's kind, text or remark written anew. -/
theorem FinS.kind (h : FinS w W g3 k x y v) (h3 : w.heap.size + 2 ≤ g3) (hS : ∃ f, Fs W (fun b => w.heap.size + 2 ≤ b ∧ b < W.heap.size ∧ b ≠ g3) v f) (i : Nat) (u : Value) : FinE w (W.setCell ⟨g3, i, none⟩ u) v := by
  have hg := set_grown W g3 i u
  obtain ⟨f, hf⟩ := hS
  exact ⟨h.end_.bel.setCell (p := ⟨g3, i, none⟩) (show w.heap.size ≤ g3 by omega) _, (Below.heap_setCell _ _ _ _ (show w.heap.size + 1 ≠ g3 by omega)).trans h.end_.b2, f, (hf.keep fun b hb => hg.block b hb.2.1 fun e => hb.2.2 (Option.some.inj e)).more fun b hb => ⟨hb.1, Nat.lt_of_lt_of_le hb.2.1 hg.size⟩⟩
theorem PAt.fs3 (h : PAt w W g3 k x y vb v L) : ∃ f, f.len = L.length ∧ Fs W (fun b => w.heap.size + 2 ≤ b ∧ b < W.heap.size ∧ b ≠ g3) v f :=
  ⟨ofL L, ofL_len L, h.o.fs (fun b hb => ⟨hb.1, hb.2.1, hb.2.2.1⟩) fun g e => ⟨(h.d g e).1, h.o.lt e, (h.d g e).2⟩⟩
theorem FinS.kind0 (h : FinS w W g3 k x y v) (hp : PAt w W g3 k x y vb v L) (k1 : Int) : FinS w (W.setCell ⟨g3, 0, none⟩ (.int .i64 k1)) g3 k1 x y v := by
  obtain ⟨f, _, hf⟩ := hp.fs3
  refine ⟨?_, h.kind hp.h3 ⟨f, hf⟩ 0 _⟩
  have := set_at h.b3 0 (.int .i64 k1)
  unfold Boxed
  simpa using this
theorem FinS.kind1 (h : FinS w W g3 k x y v) (hp : PAt w W g3 k x y vb v L) (x1 : ByteArray) : FinS w (W.setCell ⟨g3, 1, none⟩ (.string x1)) g3 k x1 y v := by
  obtain ⟨f, _, hf⟩ := hp.fs3
  refine ⟨?_, h.kind hp.h3 ⟨f, hf⟩ 1 _⟩
  have := set_at h.b3 1 (.string x1)
  unfold Boxed
  simpa using this
theorem FinS.kind2 (h : FinS w W g3 k x y v) (hp : PAt w W g3 k x y vb v L) (y1 : ByteArray) : FinS w (W.setCell ⟨g3, 2, none⟩ (.string y1)) g3 k x y1 v := by
  obtain ⟨f, _, hf⟩ := hp.fs3
  refine ⟨?_, h.kind hp.h3 ⟨f, hf⟩ 2 _⟩
  have := set_at h.b3 2 (.string y1)
  unfold Boxed
  simpa using this
theorem FinS.kids3 (h : FinS w W g3 k x y v) (h3 : w.heap.size + 2 ≤ g3) {v' : Value} {f : F} (hf : Fs W (fun b => w.heap.size + 2 ≤ b ∧ b < W.heap.size ∧ b ≠ g3) v' f) : FinS w (W.setCell ⟨g3, 3, none⟩ v') g3 k x y v' := by
  have hg := set_grown W g3 3 v'
  refine ⟨?_, h.end_.bel.setCell (p := ⟨g3, 3, none⟩) (show w.heap.size ≤ g3 by omega) _, (Below.heap_setCell _ _ _ _ (show w.heap.size + 1 ≠ g3 by omega)).trans h.end_.b2, f, (hf.keep fun b hb => hg.block b hb.2.1 fun e => hb.2.2 (Option.some.inj e)).more fun b hb => ⟨hb.1, Nat.lt_of_lt_of_le hb.2.1 hg.size⟩⟩
  have := set_at h.b3 3 v'
  unfold Boxed
  simpa using this
theorem PAt.fin (h : PAt w W g3 k x y v v L) : FinS w W g3 k x y v := ⟨h.b3, h.b3x⟩
/-- The answer. -/
theorem FinE.fin {A : Option Addr} {n C : Nat} (h : FinE w W (.slice A n C)) (k : Int) (x y : ByteArray) :
    SpoiltPost w ((((W.setCell ⟨w.heap.size + 1, 0, none⟩ (.int .i64 k)).setCell ⟨w.heap.size + 1, 1, none⟩ (.string x)).setCell ⟨w.heap.size + 1, 2, none⟩ (.string y)).setCell ⟨w.heap.size + 1, 3, none⟩ (.slice A n C)) (.returned (.agg #[.int .i64 k, .string x, .string y, .slice A n C])) := by
  have hbb := box_below W (w.heap.size + 1) (.int .i64 k) (.string x) (.string y) (.slice A n C)
  obtain ⟨f, hf⟩ := h.fs
  refine ⟨h.bel.trans (hbb.mono (Nat.le_succ _)), k, x, y, A, n, C, f, rfl, ?_⟩
  exact (hf.keep fun b hb => set4_other _ _ _ _ _ _ _ (by have := hb.1; omega)).more fun b hb => ⟨Nat.le_trans (by omega) hb.1, Nat.lt_of_lt_of_le hb.2 hbb.size⟩
end

theorem toL_size : ∀ {c : F}, ∀ nd ∈ toL c, nd.c.size < c.size
  | .nil, nd, h => by cases h
  | .cons k x y c r, nd, h => by
    rcases List.mem_cons.1 h with rfl | h
    · simp only [F.size]; omega
    · have := toL_size (c := r) nd h; simp only [F.size]; omega
def SpoiltSpec (N : Nat) : Prop := ∀ (k : Int) (x y : ByteArray) (A : Option Addr) (n C : Nat) (c : F) (at0 kind : Int) (text trail : ByteArray) (how : Int) (w : World), c.size ≤ N → c.size ≤ 100000 → Fs w (Lo w.heap.size) (.slice A n C) c →
  Calls Tryz.prog 12 #[.agg #[.int .i64 k, .string x, .string y, .slice A n C], .int .i64 at0, .int .i64 kind, .string text, .string trail, .int .i64 how] w fun e w' => SpoiltPost w w' e

set_option maxRecDepth 100000 in
set_option maxHeartbeats 16000000 in
theorem spoilt_0 (N : Nat) (ih : ∀ M, M < N → SpoiltSpec M) (k : Int) (x y : ByteArray) (A : Option Addr) (n C : Nat) (c : F) (at0 kind : Int) (text trail : ByteArray) (how : Int) (w : World) (hN : c.size ≤ N) (hbig : c.size ≤ 100000) (hf : Fs w (Lo w.heap.size) (.slice A n C) c) (ha0 : at0 = 0) (hm : how.tmod 5 = 0) :
    Calls Tryz.prog 12 #[.agg #[.int .i64 k, .string x, .string y, .slice A n C], .int .i64 at0, .int .i64 kind, .string text, .string trail, .int .i64 how] w fun e w' => SpoiltPost w w' e := by
  have HIH := Lib.hid ih
  have b1 := below2 w (.cells #[.int .i64 k, .string x, .string y, .slice A n C] 24) (.cells #[.int .i64 0, .string ⟨#[]⟩, .string ⟨#[]⟩, .slice none 0 0] 24)
  have HCP := Lib.hid (copy_any c.size k x y A n C c _ (Nat.le_refl _) hbig ((hf.below b1 (Nat.le_refl _)).up b1.size))
  have HB2 : Hid (Boxed ((w.alloc (.cells #[.int .i64 k, .string x, .string y, .slice A n C] 24)).alloc (.cells #[.int .i64 0, .string ⟨#[]⟩, .string ⟨#[]⟩, .slice none 0 0] 24)) (w.heap.size + 1) 0 ⟨#[]⟩ ⟨#[]⟩ (.slice none 0 0)) := by
    have e : w.heap.size + 1 = (w.alloc (.cells #[.int .i64 k, .string x, .string y, .slice A n C] 24)).heap.size := by simp
    rw [e]
    exact heap_alloc_new _ _
  have HS2 : Hid (((w.alloc (.cells #[.int .i64 k, .string x, .string y, .slice A n C] 24)).alloc (.cells #[.int .i64 0, .string ⟨#[]⟩, .string ⟨#[]⟩, .slice none 0 0] 24)).heap.size = w.heap.size + 2) := by show _ = _; simp
  have HBB := Lib.hid b1
  have HTL : Hid ((toL c).length ≤ 100000) := by show _ ≤ _; rw [toL_len]; exact Nat.le_trans (F.len_le_size c) hbig
  have HTS : Hid (∀ nd ∈ toL c, nd.c.size < N) := fun nd hnd => Nat.lt_of_lt_of_le (toL_size nd hnd) hN
  clear ih hf b1
  go_enter Tryz.func12, Tryz.ntmps12
  go_wp2_with fail
  refine HCP.out.mono ?_
  rintro e w3 ⟨hb3, Ar, nr, Cr, rfl, hnew⟩
  have HP : Hid (PAt w (w3.alloc (.cells #[.int .i64 k, .string x, .string y, .slice Ar nr Cr] 24)) w3.heap.size k x y (.slice Ar nr Cr) (.slice Ar nr Cr) (toL c)) := by
    have hsz : w.heap.size + 2 ≤ w3.heap.size := by have := hb3.size; rw [HS2.out] at this; exact this
    have b4 := below1 w3 (.cells #[.int .i64 k, .string x, .string y, .slice Ar nr Cr] 24)
    refine ⟨(HBB.out.trans (hb3.mono HBB.out.size)).trans (b4.mono (by omega)), (HB2.out.below hb3 HB2.out.lt).below b4 (by omega), boxed_new _ _ _ _ _, (hnew.1.later b4 fun b hb => hb.2.1).more fun b hb => ⟨by have := hb.1; rw [HS2.out] at this; exact this, Nat.lt_of_lt_of_le hb.2.1 b4.size, by have := hb.2.1; omega, hb.2.2⟩, fun g e => ⟨by have := hnew.2 g e; rw [HS2.out] at this; exact this, by have := hnew.1.lt e; omega⟩, hsz⟩
  obtain ⟨W4, hW4⟩ : ∃ W4, w3.alloc (.cells #[.int .i64 k, .string x, .string y, .slice Ar nr Cr] 24) = W4 := ⟨_, rfl⟩
  have HNR : Hid (nr = (toL c).length ∧ nr ≤ Cr ∧ Cr ≤ 9223372036854775807) := by
    obtain ⟨a', c', e, h1, h2⟩ := hnew.1.slice
    injection e with e1 e2 e3
    exact ⟨e2, by omega, by rw [e3]; exact h2⟩
  clear hb3 hnew HCP HB2 HBB HS2
  rw [hW4] at HP
  have HW4 : Hid (w3.heap.size < W4.heap.size) := HP.out.b3.lt
  go_upto_if 19 with (fail)
  clear hW4
  obtain ⟨q0, q1, q2, q3⟩ := HP.out.b3.cells
  have a0 : (at0 == 0) = true := by simp [ha0]
  have t0 : (how.tmod 5 == 0) = true := by simp only [beq_iff_eq]; omega
  clear ha0 hm
  obtain ⟨v0, v1, v2, v3⟩ := frz HP.out.b3
  have HF := Lib.hid (HP.out.fin.kind0 HP.out kind)
  have HE := Lib.hid HF.out.end_
  obtain ⟨p0, p1, p2, p3⟩ := HF.out.b3.cells
  obtain ⟨y0, y1, y2, y3⟩ := frz HE.out.b2
  obtain ⟨o0, o1, o2, o3⟩ := HE.out.b2.cells
  go_wp2
  refine bodyPost_ret (results_cell_row rfl _ _ (w.heap.size + 1) 24 _ (0, 0) _ rfl (box_new HE.out.b2) Tryz.underlying24 rfl hi_node) rfl ?_
  exact HE.out.fin _ _ _

set_option maxRecDepth 100000 in
set_option maxHeartbeats 16000000 in
theorem spoilt_1 (N : Nat) (ih : ∀ M, M < N → SpoiltSpec M) (k : Int) (x y : ByteArray) (A : Option Addr) (n C : Nat) (c : F) (at0 kind : Int) (text trail : ByteArray) (how : Int) (w : World) (hN : c.size ≤ N) (hbig : c.size ≤ 100000) (hf : Fs w (Lo w.heap.size) (.slice A n C) c) (ha0 : at0 = 0) (hm : how.tmod 5 = 1) :
    Calls Tryz.prog 12 #[.agg #[.int .i64 k, .string x, .string y, .slice A n C], .int .i64 at0, .int .i64 kind, .string text, .string trail, .int .i64 how] w fun e w' => SpoiltPost w w' e := by
  have HIH := Lib.hid ih
  have b1 := below2 w (.cells #[.int .i64 k, .string x, .string y, .slice A n C] 24) (.cells #[.int .i64 0, .string ⟨#[]⟩, .string ⟨#[]⟩, .slice none 0 0] 24)
  have HCP := Lib.hid (copy_any c.size k x y A n C c _ (Nat.le_refl _) hbig ((hf.below b1 (Nat.le_refl _)).up b1.size))
  have HB2 : Hid (Boxed ((w.alloc (.cells #[.int .i64 k, .string x, .string y, .slice A n C] 24)).alloc (.cells #[.int .i64 0, .string ⟨#[]⟩, .string ⟨#[]⟩, .slice none 0 0] 24)) (w.heap.size + 1) 0 ⟨#[]⟩ ⟨#[]⟩ (.slice none 0 0)) := by
    have e : w.heap.size + 1 = (w.alloc (.cells #[.int .i64 k, .string x, .string y, .slice A n C] 24)).heap.size := by simp
    rw [e]
    exact heap_alloc_new _ _
  have HS2 : Hid (((w.alloc (.cells #[.int .i64 k, .string x, .string y, .slice A n C] 24)).alloc (.cells #[.int .i64 0, .string ⟨#[]⟩, .string ⟨#[]⟩, .slice none 0 0] 24)).heap.size = w.heap.size + 2) := by show _ = _; simp
  have HBB := Lib.hid b1
  have HTL : Hid ((toL c).length ≤ 100000) := by show _ ≤ _; rw [toL_len]; exact Nat.le_trans (F.len_le_size c) hbig
  have HTS : Hid (∀ nd ∈ toL c, nd.c.size < N) := fun nd hnd => Nat.lt_of_lt_of_le (toL_size nd hnd) hN
  clear ih hf b1
  go_enter Tryz.func12, Tryz.ntmps12
  go_wp2_with fail
  refine HCP.out.mono ?_
  rintro e w3 ⟨hb3, Ar, nr, Cr, rfl, hnew⟩
  have HP : Hid (PAt w (w3.alloc (.cells #[.int .i64 k, .string x, .string y, .slice Ar nr Cr] 24)) w3.heap.size k x y (.slice Ar nr Cr) (.slice Ar nr Cr) (toL c)) := by
    have hsz : w.heap.size + 2 ≤ w3.heap.size := by have := hb3.size; rw [HS2.out] at this; exact this
    have b4 := below1 w3 (.cells #[.int .i64 k, .string x, .string y, .slice Ar nr Cr] 24)
    refine ⟨(HBB.out.trans (hb3.mono HBB.out.size)).trans (b4.mono (by omega)), (HB2.out.below hb3 HB2.out.lt).below b4 (by omega), boxed_new _ _ _ _ _, (hnew.1.later b4 fun b hb => hb.2.1).more fun b hb => ⟨by have := hb.1; rw [HS2.out] at this; exact this, Nat.lt_of_lt_of_le hb.2.1 b4.size, by have := hb.2.1; omega, hb.2.2⟩, fun g e => ⟨by have := hnew.2 g e; rw [HS2.out] at this; exact this, by have := hnew.1.lt e; omega⟩, hsz⟩
  obtain ⟨W4, hW4⟩ : ∃ W4, w3.alloc (.cells #[.int .i64 k, .string x, .string y, .slice Ar nr Cr] 24) = W4 := ⟨_, rfl⟩
  have HNR : Hid (nr = (toL c).length ∧ nr ≤ Cr ∧ Cr ≤ 9223372036854775807) := by
    obtain ⟨a', c', e, h1, h2⟩ := hnew.1.slice
    injection e with e1 e2 e3
    exact ⟨e2, by omega, by rw [e3]; exact h2⟩
  clear hb3 hnew HCP HB2 HBB HS2
  rw [hW4] at HP
  have HW4 : Hid (w3.heap.size < W4.heap.size) := HP.out.b3.lt
  go_upto_if 19 with (fail)
  clear hW4
  obtain ⟨q0, q1, q2, q3⟩ := HP.out.b3.cells
  have a0 : (at0 == 0) = true := by simp [ha0]
  have t0 : (how.tmod 5 == 0) = false := by simp only [beq_eq_false_iff_ne, ne_eq]; omega
  have t1 : (how.tmod 5 == 1) = true := by simp only [beq_iff_eq]; omega
  clear ha0 hm
  obtain ⟨v0, v1, v2, v3⟩ := frz HP.out.b3
  have HF := Lib.hid (HP.out.fin.kind1 HP.out text)
  have HE := Lib.hid HF.out.end_
  obtain ⟨p0, p1, p2, p3⟩ := HF.out.b3.cells
  obtain ⟨y0, y1, y2, y3⟩ := frz HE.out.b2
  obtain ⟨o0, o1, o2, o3⟩ := HE.out.b2.cells
  go_wp2
  refine bodyPost_ret (results_cell_row rfl _ _ (w.heap.size + 1) 24 _ (0, 0) _ rfl (box_new HE.out.b2) Tryz.underlying24 rfl hi_node) rfl ?_
  exact HE.out.fin _ _ _

set_option maxRecDepth 100000 in
set_option maxHeartbeats 16000000 in
theorem spoilt_2 (N : Nat) (ih : ∀ M, M < N → SpoiltSpec M) (k : Int) (x y : ByteArray) (A : Option Addr) (n C : Nat) (c : F) (at0 kind : Int) (text trail : ByteArray) (how : Int) (w : World) (hN : c.size ≤ N) (hbig : c.size ≤ 100000) (hf : Fs w (Lo w.heap.size) (.slice A n C) c) (ha0 : at0 = 0) (hm : how.tmod 5 = 2) :
    Calls Tryz.prog 12 #[.agg #[.int .i64 k, .string x, .string y, .slice A n C], .int .i64 at0, .int .i64 kind, .string text, .string trail, .int .i64 how] w fun e w' => SpoiltPost w w' e := by
  have HIH := Lib.hid ih
  have b1 := below2 w (.cells #[.int .i64 k, .string x, .string y, .slice A n C] 24) (.cells #[.int .i64 0, .string ⟨#[]⟩, .string ⟨#[]⟩, .slice none 0 0] 24)
  have HCP := Lib.hid (copy_any c.size k x y A n C c _ (Nat.le_refl _) hbig ((hf.below b1 (Nat.le_refl _)).up b1.size))
  have HB2 : Hid (Boxed ((w.alloc (.cells #[.int .i64 k, .string x, .string y, .slice A n C] 24)).alloc (.cells #[.int .i64 0, .string ⟨#[]⟩, .string ⟨#[]⟩, .slice none 0 0] 24)) (w.heap.size + 1) 0 ⟨#[]⟩ ⟨#[]⟩ (.slice none 0 0)) := by
    have e : w.heap.size + 1 = (w.alloc (.cells #[.int .i64 k, .string x, .string y, .slice A n C] 24)).heap.size := by simp
    rw [e]
    exact heap_alloc_new _ _
  have HS2 : Hid (((w.alloc (.cells #[.int .i64 k, .string x, .string y, .slice A n C] 24)).alloc (.cells #[.int .i64 0, .string ⟨#[]⟩, .string ⟨#[]⟩, .slice none 0 0] 24)).heap.size = w.heap.size + 2) := by show _ = _; simp
  have HBB := Lib.hid b1
  have HTL : Hid ((toL c).length ≤ 100000) := by show _ ≤ _; rw [toL_len]; exact Nat.le_trans (F.len_le_size c) hbig
  have HTS : Hid (∀ nd ∈ toL c, nd.c.size < N) := fun nd hnd => Nat.lt_of_lt_of_le (toL_size nd hnd) hN
  clear ih hf b1
  go_enter Tryz.func12, Tryz.ntmps12
  go_wp2_with fail
  refine HCP.out.mono ?_
  rintro e w3 ⟨hb3, Ar, nr, Cr, rfl, hnew⟩
  have HP : Hid (PAt w (w3.alloc (.cells #[.int .i64 k, .string x, .string y, .slice Ar nr Cr] 24)) w3.heap.size k x y (.slice Ar nr Cr) (.slice Ar nr Cr) (toL c)) := by
    have hsz : w.heap.size + 2 ≤ w3.heap.size := by have := hb3.size; rw [HS2.out] at this; exact this
    have b4 := below1 w3 (.cells #[.int .i64 k, .string x, .string y, .slice Ar nr Cr] 24)
    refine ⟨(HBB.out.trans (hb3.mono HBB.out.size)).trans (b4.mono (by omega)), (HB2.out.below hb3 HB2.out.lt).below b4 (by omega), boxed_new _ _ _ _ _, (hnew.1.later b4 fun b hb => hb.2.1).more fun b hb => ⟨by have := hb.1; rw [HS2.out] at this; exact this, Nat.lt_of_lt_of_le hb.2.1 b4.size, by have := hb.2.1; omega, hb.2.2⟩, fun g e => ⟨by have := hnew.2 g e; rw [HS2.out] at this; exact this, by have := hnew.1.lt e; omega⟩, hsz⟩
  obtain ⟨W4, hW4⟩ : ∃ W4, w3.alloc (.cells #[.int .i64 k, .string x, .string y, .slice Ar nr Cr] 24) = W4 := ⟨_, rfl⟩
  have HNR : Hid (nr = (toL c).length ∧ nr ≤ Cr ∧ Cr ≤ 9223372036854775807) := by
    obtain ⟨a', c', e, h1, h2⟩ := hnew.1.slice
    injection e with e1 e2 e3
    exact ⟨e2, by omega, by rw [e3]; exact h2⟩
  clear hb3 hnew HCP HB2 HBB HS2
  rw [hW4] at HP
  have HW4 : Hid (w3.heap.size < W4.heap.size) := HP.out.b3.lt
  go_upto_if 19 with (fail)
  clear hW4
  obtain ⟨q0, q1, q2, q3⟩ := HP.out.b3.cells
  have a0 : (at0 == 0) = true := by simp [ha0]
  have t0 : (how.tmod 5 == 0) = false := by simp only [beq_eq_false_iff_ne, ne_eq]; omega
  have t1 : (how.tmod 5 == 1) = false := by simp only [beq_eq_false_iff_ne, ne_eq]; omega
  have t2 : (how.tmod 5 == 2) = true := by simp only [beq_iff_eq]; omega
  clear ha0 hm
  obtain ⟨v0, v1, v2, v3⟩ := frz HP.out.b3
  have HF := Lib.hid (HP.out.fin.kind2 HP.out trail)
  have HE := Lib.hid HF.out.end_
  obtain ⟨p0, p1, p2, p3⟩ := HF.out.b3.cells
  obtain ⟨y0, y1, y2, y3⟩ := frz HE.out.b2
  obtain ⟨o0, o1, o2, o3⟩ := HE.out.b2.cells
  go_wp2
  refine bodyPost_ret (results_cell_row rfl _ _ (w.heap.size + 1) 24 _ (0, 0) _ rfl (box_new HE.out.b2) Tryz.underlying24 rfl hi_node) rfl ?_
  exact HE.out.fin _ _ _

set_option maxRecDepth 100000 in
set_option maxHeartbeats 16000000 in
theorem spoilt_3 (N : Nat) (ih : ∀ M, M < N → SpoiltSpec M) (k : Int) (x y : ByteArray) (A : Option Addr) (n C : Nat) (c : F) (at0 kind : Int) (text trail : ByteArray) (how : Int) (w : World) (hN : c.size ≤ N) (hbig : c.size ≤ 100000) (hf : Fs w (Lo w.heap.size) (.slice A n C) c) (ha0 : at0 = 0) (hm : how.tmod 5 = 3) (hc : c = .nil) :
    Calls Tryz.prog 12 #[.agg #[.int .i64 k, .string x, .string y, .slice A n C], .int .i64 at0, .int .i64 kind, .string text, .string trail, .int .i64 how] w fun e w' => SpoiltPost w w' e := by
  have HIH := Lib.hid ih
  have b1 := below2 w (.cells #[.int .i64 k, .string x, .string y, .slice A n C] 24) (.cells #[.int .i64 0, .string ⟨#[]⟩, .string ⟨#[]⟩, .slice none 0 0] 24)
  have HCP := Lib.hid (copy_any c.size k x y A n C c _ (Nat.le_refl _) hbig ((hf.below b1 (Nat.le_refl _)).up b1.size))
  have HB2 : Hid (Boxed ((w.alloc (.cells #[.int .i64 k, .string x, .string y, .slice A n C] 24)).alloc (.cells #[.int .i64 0, .string ⟨#[]⟩, .string ⟨#[]⟩, .slice none 0 0] 24)) (w.heap.size + 1) 0 ⟨#[]⟩ ⟨#[]⟩ (.slice none 0 0)) := by
    have e : w.heap.size + 1 = (w.alloc (.cells #[.int .i64 k, .string x, .string y, .slice A n C] 24)).heap.size := by simp
    rw [e]
    exact heap_alloc_new _ _
  have HS2 : Hid (((w.alloc (.cells #[.int .i64 k, .string x, .string y, .slice A n C] 24)).alloc (.cells #[.int .i64 0, .string ⟨#[]⟩, .string ⟨#[]⟩, .slice none 0 0] 24)).heap.size = w.heap.size + 2) := by show _ = _; simp
  have HBB := Lib.hid b1
  have HTL : Hid ((toL c).length ≤ 100000) := by show _ ≤ _; rw [toL_len]; exact Nat.le_trans (F.len_le_size c) hbig
  have HTS : Hid (∀ nd ∈ toL c, nd.c.size < N) := fun nd hnd => Nat.lt_of_lt_of_le (toL_size nd hnd) hN
  clear ih hf b1
  go_enter Tryz.func12, Tryz.ntmps12
  go_wp2_with fail
  refine HCP.out.mono ?_
  rintro e w3 ⟨hb3, Ar, nr, Cr, rfl, hnew⟩
  have HP : Hid (PAt w (w3.alloc (.cells #[.int .i64 k, .string x, .string y, .slice Ar nr Cr] 24)) w3.heap.size k x y (.slice Ar nr Cr) (.slice Ar nr Cr) (toL c)) := by
    have hsz : w.heap.size + 2 ≤ w3.heap.size := by have := hb3.size; rw [HS2.out] at this; exact this
    have b4 := below1 w3 (.cells #[.int .i64 k, .string x, .string y, .slice Ar nr Cr] 24)
    refine ⟨(HBB.out.trans (hb3.mono HBB.out.size)).trans (b4.mono (by omega)), (HB2.out.below hb3 HB2.out.lt).below b4 (by omega), boxed_new _ _ _ _ _, (hnew.1.later b4 fun b hb => hb.2.1).more fun b hb => ⟨by have := hb.1; rw [HS2.out] at this; exact this, Nat.lt_of_lt_of_le hb.2.1 b4.size, by have := hb.2.1; omega, hb.2.2⟩, fun g e => ⟨by have := hnew.2 g e; rw [HS2.out] at this; exact this, by have := hnew.1.lt e; omega⟩, hsz⟩
  obtain ⟨W4, hW4⟩ : ∃ W4, w3.alloc (.cells #[.int .i64 k, .string x, .string y, .slice Ar nr Cr] 24) = W4 := ⟨_, rfl⟩
  have HNR : Hid (nr = (toL c).length ∧ nr ≤ Cr ∧ Cr ≤ 9223372036854775807) := by
    obtain ⟨a', c', e, h1, h2⟩ := hnew.1.slice
    injection e with e1 e2 e3
    exact ⟨e2, by omega, by rw [e3]; exact h2⟩
  clear hb3 hnew HCP HB2 HBB HS2
  rw [hW4] at HP
  have HW4 : Hid (w3.heap.size < W4.heap.size) := HP.out.b3.lt
  go_upto_if 19 with (fail)
  clear hW4
  obtain ⟨q0, q1, q2, q3⟩ := HP.out.b3.cells
  have a0 : (at0 == 0) = true := by simp [ha0]
  have t0 : (how.tmod 5 == 0) = false := by simp only [beq_eq_false_iff_ne, ne_eq]; omega
  have t1 : (how.tmod 5 == 1) = false := by simp only [beq_eq_false_iff_ne, ne_eq]; omega
  have t2 : (how.tmod 5 == 2) = false := by simp only [beq_eq_false_iff_ne, ne_eq]; omega
  have t3 : (how.tmod 5 == 3) = true := by simp only [beq_iff_eq]; omega
  clear ha0 hm
  have hnr : nr = 0 := by rw [HNR.out.1, hc]; rfl
  have HF := Lib.hid HP.out.fin
  have HE := Lib.hid HF.out.end_
  subst hnr
  obtain ⟨y0, y1, y2, y3⟩ := frz HE.out.b2
  obtain ⟨o0, o1, o2, o3⟩ := HE.out.b2.cells
  go_wp2
  refine bodyPost_ret (results_cell_row rfl _ _ (w.heap.size + 1) 24 _ (0, 0) _ rfl (box_new HE.out.b2) Tryz.underlying24 rfl hi_node) rfl ?_
  exact HE.out.fin _ _ _

set_option maxRecDepth 100000 in
set_option maxHeartbeats 16000000 in
theorem spoilt_3b (N : Nat) (ih : ∀ M, M < N → SpoiltSpec M) (k : Int) (x y : ByteArray) (A : Option Addr) (n C : Nat) (c : F) (at0 kind : Int) (text trail : ByteArray) (how : Int) (w : World) (hN : c.size ≤ N) (hbig : c.size ≤ 100000) (hf : Fs w (Lo w.heap.size) (.slice A n C) c) (ha0 : at0 = 0) (hm : how.tmod 5 = 3) (hc : 0 < c.len) :
    Calls Tryz.prog 12 #[.agg #[.int .i64 k, .string x, .string y, .slice A n C], .int .i64 at0, .int .i64 kind, .string text, .string trail, .int .i64 how] w fun e w' => SpoiltPost w w' e := by
  have HIH := Lib.hid ih
  have b1 := below2 w (.cells #[.int .i64 k, .string x, .string y, .slice A n C] 24) (.cells #[.int .i64 0, .string ⟨#[]⟩, .string ⟨#[]⟩, .slice none 0 0] 24)
  have HCP := Lib.hid (copy_any c.size k x y A n C c _ (Nat.le_refl _) hbig ((hf.below b1 (Nat.le_refl _)).up b1.size))
  have HB2 : Hid (Boxed ((w.alloc (.cells #[.int .i64 k, .string x, .string y, .slice A n C] 24)).alloc (.cells #[.int .i64 0, .string ⟨#[]⟩, .string ⟨#[]⟩, .slice none 0 0] 24)) (w.heap.size + 1) 0 ⟨#[]⟩ ⟨#[]⟩ (.slice none 0 0)) := by
    have e : w.heap.size + 1 = (w.alloc (.cells #[.int .i64 k, .string x, .string y, .slice A n C] 24)).heap.size := by simp
    rw [e]
    exact heap_alloc_new _ _
  have HS2 : Hid (((w.alloc (.cells #[.int .i64 k, .string x, .string y, .slice A n C] 24)).alloc (.cells #[.int .i64 0, .string ⟨#[]⟩, .string ⟨#[]⟩, .slice none 0 0] 24)).heap.size = w.heap.size + 2) := by show _ = _; simp
  have HBB := Lib.hid b1
  have HTL : Hid ((toL c).length ≤ 100000) := by show _ ≤ _; rw [toL_len]; exact Nat.le_trans (F.len_le_size c) hbig
  have HTS : Hid (∀ nd ∈ toL c, nd.c.size < N) := fun nd hnd => Nat.lt_of_lt_of_le (toL_size nd hnd) hN
  clear ih hf b1
  go_enter Tryz.func12, Tryz.ntmps12
  go_wp2_with fail
  refine HCP.out.mono ?_
  rintro e w3 ⟨hb3, Ar, nr, Cr, rfl, hnew⟩
  have HP : Hid (PAt w (w3.alloc (.cells #[.int .i64 k, .string x, .string y, .slice Ar nr Cr] 24)) w3.heap.size k x y (.slice Ar nr Cr) (.slice Ar nr Cr) (toL c)) := by
    have hsz : w.heap.size + 2 ≤ w3.heap.size := by have := hb3.size; rw [HS2.out] at this; exact this
    have b4 := below1 w3 (.cells #[.int .i64 k, .string x, .string y, .slice Ar nr Cr] 24)
    refine ⟨(HBB.out.trans (hb3.mono HBB.out.size)).trans (b4.mono (by omega)), (HB2.out.below hb3 HB2.out.lt).below b4 (by omega), boxed_new _ _ _ _ _, (hnew.1.later b4 fun b hb => hb.2.1).more fun b hb => ⟨by have := hb.1; rw [HS2.out] at this; exact this, Nat.lt_of_lt_of_le hb.2.1 b4.size, by have := hb.2.1; omega, hb.2.2⟩, fun g e => ⟨by have := hnew.2 g e; rw [HS2.out] at this; exact this, by have := hnew.1.lt e; omega⟩, hsz⟩
  obtain ⟨W4, hW4⟩ : ∃ W4, w3.alloc (.cells #[.int .i64 k, .string x, .string y, .slice Ar nr Cr] 24) = W4 := ⟨_, rfl⟩
  have HNR : Hid (nr = (toL c).length ∧ nr ≤ Cr ∧ Cr ≤ 9223372036854775807) := by
    obtain ⟨a', c', e, h1, h2⟩ := hnew.1.slice
    injection e with e1 e2 e3
    exact ⟨e2, by omega, by rw [e3]; exact h2⟩
  clear hb3 hnew HCP HB2 HBB HS2
  rw [hW4] at HP
  have HW4 : Hid (w3.heap.size < W4.heap.size) := HP.out.b3.lt
  go_upto_if 19 with (fail)
  clear hW4
  obtain ⟨q0, q1, q2, q3⟩ := HP.out.b3.cells
  have a0 : (at0 == 0) = true := by simp [ha0]
  have t0 : (how.tmod 5 == 0) = false := by simp only [beq_eq_false_iff_ne, ne_eq]; omega
  have t1 : (how.tmod 5 == 1) = false := by simp only [beq_eq_false_iff_ne, ne_eq]; omega
  have t2 : (how.tmod 5 == 2) = false := by simp only [beq_eq_false_iff_ne, ne_eq]; omega
  have t3 : (how.tmod 5 == 3) = true := by simp only [beq_iff_eq]; omega
  clear ha0 hm
  have hnr : 0 < nr := by rw [HNR.out.1, toL_len]; exact hc
  obtain ⟨f, hfl, hff⟩ := HP.out.fs3
  rw [← HNR.out.1] at hfl
  have hff0 := hff
  obtain ⟨kq, xq, yq, cq, rq, rfl, _⟩ := F.cons_of (f := f) (n := nr - 1) (by omega)
  have hAr : ∃ b off, Ar = some ⟨b, off, none⟩ := by
    obtain ⟨b, off, _, _, s, e, _⟩ := hff
    injection e with e1 e2 e3
    exact ⟨b, off, e1⟩
  obtain ⟨b, off, rfl⟩ := hAr
  clear hff
  obtain ⟨h1n, hnC, hCm, hrl, hr⟩ := hff0.tail
  obtain ⟨A', n', C', hsl, en, eC, hA'⟩ := tail_slice b off nr Cr h1n hnC
  have hr2 := hr A' hA'
  rw [← en, ← eC] at hr2
  have HF := Lib.hid (HP.out.fin.kids3 HP.out.h3 hr2)
  obtain ⟨v0, v1, v2, v3⟩ := frz HP.out.b3
  have hnr' : (0 : Int) < (nr : Int) := by omega
  clear hr2 hr hA' en eC hrl hff0 hfl
  obtain ⟨p0, p1, p2, p3⟩ := HF.out.b3.cells
  have HE := Lib.hid HF.out.end_
  obtain ⟨y0, y1, y2, y3⟩ := frz HE.out.b2
  obtain ⟨o0, o1, o2, o3⟩ := HE.out.b2.cells
  go_wp2
  refine bodyPost_ret (results_cell_row rfl _ _ (w.heap.size + 1) 24 _ (0, 0) _ rfl (box_new HE.out.b2) Tryz.underlying24 rfl hi_node) rfl ?_
  exact HE.out.fin _ _ _

set_option maxRecDepth 100000 in
set_option maxHeartbeats 16000000 in
theorem spoilt_4 (N : Nat) (ih : ∀ M, M < N → SpoiltSpec M) (k : Int) (x y : ByteArray) (A : Option Addr) (n C : Nat) (c : F) (at0 kind : Int) (text trail : ByteArray) (how : Int) (w : World) (hN : c.size ≤ N) (hbig : c.size ≤ 100000) (hf : Fs w (Lo w.heap.size) (.slice A n C) c) (ha0 : at0 = 0) (hm : how.tmod 5 ≠ 0 ∧ how.tmod 5 ≠ 1 ∧ how.tmod 5 ≠ 2 ∧ how.tmod 5 ≠ 3) (hc : c = .nil) :
    Calls Tryz.prog 12 #[.agg #[.int .i64 k, .string x, .string y, .slice A n C], .int .i64 at0, .int .i64 kind, .string text, .string trail, .int .i64 how] w fun e w' => SpoiltPost w w' e := by
  have HIH := Lib.hid ih
  have b1 := below2 w (.cells #[.int .i64 k, .string x, .string y, .slice A n C] 24) (.cells #[.int .i64 0, .string ⟨#[]⟩, .string ⟨#[]⟩, .slice none 0 0] 24)
  have HCP := Lib.hid (copy_any c.size k x y A n C c _ (Nat.le_refl _) hbig ((hf.below b1 (Nat.le_refl _)).up b1.size))
  have HB2 : Hid (Boxed ((w.alloc (.cells #[.int .i64 k, .string x, .string y, .slice A n C] 24)).alloc (.cells #[.int .i64 0, .string ⟨#[]⟩, .string ⟨#[]⟩, .slice none 0 0] 24)) (w.heap.size + 1) 0 ⟨#[]⟩ ⟨#[]⟩ (.slice none 0 0)) := by
    have e : w.heap.size + 1 = (w.alloc (.cells #[.int .i64 k, .string x, .string y, .slice A n C] 24)).heap.size := by simp
    rw [e]
    exact heap_alloc_new _ _
  have HS2 : Hid (((w.alloc (.cells #[.int .i64 k, .string x, .string y, .slice A n C] 24)).alloc (.cells #[.int .i64 0, .string ⟨#[]⟩, .string ⟨#[]⟩, .slice none 0 0] 24)).heap.size = w.heap.size + 2) := by show _ = _; simp
  have HBB := Lib.hid b1
  have HTL : Hid ((toL c).length ≤ 100000) := by show _ ≤ _; rw [toL_len]; exact Nat.le_trans (F.len_le_size c) hbig
  have HTS : Hid (∀ nd ∈ toL c, nd.c.size < N) := fun nd hnd => Nat.lt_of_lt_of_le (toL_size nd hnd) hN
  clear ih hf b1
  go_enter Tryz.func12, Tryz.ntmps12
  go_wp2_with fail
  refine HCP.out.mono ?_
  rintro e w3 ⟨hb3, Ar, nr, Cr, rfl, hnew⟩
  have HP : Hid (PAt w (w3.alloc (.cells #[.int .i64 k, .string x, .string y, .slice Ar nr Cr] 24)) w3.heap.size k x y (.slice Ar nr Cr) (.slice Ar nr Cr) (toL c)) := by
    have hsz : w.heap.size + 2 ≤ w3.heap.size := by have := hb3.size; rw [HS2.out] at this; exact this
    have b4 := below1 w3 (.cells #[.int .i64 k, .string x, .string y, .slice Ar nr Cr] 24)
    refine ⟨(HBB.out.trans (hb3.mono HBB.out.size)).trans (b4.mono (by omega)), (HB2.out.below hb3 HB2.out.lt).below b4 (by omega), boxed_new _ _ _ _ _, (hnew.1.later b4 fun b hb => hb.2.1).more fun b hb => ⟨by have := hb.1; rw [HS2.out] at this; exact this, Nat.lt_of_lt_of_le hb.2.1 b4.size, by have := hb.2.1; omega, hb.2.2⟩, fun g e => ⟨by have := hnew.2 g e; rw [HS2.out] at this; exact this, by have := hnew.1.lt e; omega⟩, hsz⟩
  obtain ⟨W4, hW4⟩ : ∃ W4, w3.alloc (.cells #[.int .i64 k, .string x, .string y, .slice Ar nr Cr] 24) = W4 := ⟨_, rfl⟩
  have HNR : Hid (nr = (toL c).length ∧ nr ≤ Cr ∧ Cr ≤ 9223372036854775807) := by
    obtain ⟨a', c', e, h1, h2⟩ := hnew.1.slice
    injection e with e1 e2 e3
    exact ⟨e2, by omega, by rw [e3]; exact h2⟩
  clear hb3 hnew HCP HB2 HBB HS2
  rw [hW4] at HP
  have HW4 : Hid (w3.heap.size < W4.heap.size) := HP.out.b3.lt
  go_upto_if 19 with (fail)
  clear hW4
  obtain ⟨q0, q1, q2, q3⟩ := HP.out.b3.cells
  have a0 : (at0 == 0) = true := by simp [ha0]
  have t0 : (how.tmod 5 == 0) = false := by simp only [beq_eq_false_iff_ne, ne_eq]; omega
  have t1 : (how.tmod 5 == 1) = false := by simp only [beq_eq_false_iff_ne, ne_eq]; omega
  have t2 : (how.tmod 5 == 2) = false := by simp only [beq_eq_false_iff_ne, ne_eq]; omega
  have t3 : (how.tmod 5 == 3) = false := by simp only [beq_eq_false_iff_ne, ne_eq]; omega
  clear ha0 hm
  have hnr : nr = 0 := by rw [HNR.out.1, hc]; rfl
  have HF := Lib.hid HP.out.fin
  have HE := Lib.hid HF.out.end_
  subst hnr
  obtain ⟨y0, y1, y2, y3⟩ := frz HE.out.b2
  obtain ⟨o0, o1, o2, o3⟩ := HE.out.b2.cells
  go_wp2
  refine bodyPost_ret (results_cell_row rfl _ _ (w.heap.size + 1) 24 _ (0, 0) _ rfl (box_new HE.out.b2) Tryz.underlying24 rfl hi_node) rfl ?_
  exact HE.out.fin _ _ _

set_option maxRecDepth 100000 in
set_option maxHeartbeats 16000000 in
theorem spoilt_4b (N : Nat) (ih : ∀ M, M < N → SpoiltSpec M) (k : Int) (x y : ByteArray) (A : Option Addr) (n C : Nat) (c : F) (at0 kind : Int) (text trail : ByteArray) (how : Int) (w : World) (hN : c.size ≤ N) (hbig : c.size ≤ 100000) (hf : Fs w (Lo w.heap.size) (.slice A n C) c) (ha0 : at0 = 0) (hm : how.tmod 5 ≠ 0 ∧ how.tmod 5 ≠ 1 ∧ how.tmod 5 ≠ 2 ∧ how.tmod 5 ≠ 3) (hc : 0 < c.len) :
    Calls Tryz.prog 12 #[.agg #[.int .i64 k, .string x, .string y, .slice A n C], .int .i64 at0, .int .i64 kind, .string text, .string trail, .int .i64 how] w fun e w' => SpoiltPost w w' e := by
  have HIH := Lib.hid ih
  have b1 := below2 w (.cells #[.int .i64 k, .string x, .string y, .slice A n C] 24) (.cells #[.int .i64 0, .string ⟨#[]⟩, .string ⟨#[]⟩, .slice none 0 0] 24)
  have HCP := Lib.hid (copy_any c.size k x y A n C c _ (Nat.le_refl _) hbig ((hf.below b1 (Nat.le_refl _)).up b1.size))
  have HB2 : Hid (Boxed ((w.alloc (.cells #[.int .i64 k, .string x, .string y, .slice A n C] 24)).alloc (.cells #[.int .i64 0, .string ⟨#[]⟩, .string ⟨#[]⟩, .slice none 0 0] 24)) (w.heap.size + 1) 0 ⟨#[]⟩ ⟨#[]⟩ (.slice none 0 0)) := by
    have e : w.heap.size + 1 = (w.alloc (.cells #[.int .i64 k, .string x, .string y, .slice A n C] 24)).heap.size := by simp
    rw [e]
    exact heap_alloc_new _ _
  have HS2 : Hid (((w.alloc (.cells #[.int .i64 k, .string x, .string y, .slice A n C] 24)).alloc (.cells #[.int .i64 0, .string ⟨#[]⟩, .string ⟨#[]⟩, .slice none 0 0] 24)).heap.size = w.heap.size + 2) := by show _ = _; simp
  have HBB := Lib.hid b1
  have HTL : Hid ((toL c).length ≤ 100000) := by show _ ≤ _; rw [toL_len]; exact Nat.le_trans (F.len_le_size c) hbig
  have HTS : Hid (∀ nd ∈ toL c, nd.c.size < N) := fun nd hnd => Nat.lt_of_lt_of_le (toL_size nd hnd) hN
  clear ih hf b1
  go_enter Tryz.func12, Tryz.ntmps12
  go_wp2_with fail
  refine HCP.out.mono ?_
  rintro e w3 ⟨hb3, Ar, nr, Cr, rfl, hnew⟩
  have HP : Hid (PAt w (w3.alloc (.cells #[.int .i64 k, .string x, .string y, .slice Ar nr Cr] 24)) w3.heap.size k x y (.slice Ar nr Cr) (.slice Ar nr Cr) (toL c)) := by
    have hsz : w.heap.size + 2 ≤ w3.heap.size := by have := hb3.size; rw [HS2.out] at this; exact this
    have b4 := below1 w3 (.cells #[.int .i64 k, .string x, .string y, .slice Ar nr Cr] 24)
    refine ⟨(HBB.out.trans (hb3.mono HBB.out.size)).trans (b4.mono (by omega)), (HB2.out.below hb3 HB2.out.lt).below b4 (by omega), boxed_new _ _ _ _ _, (hnew.1.later b4 fun b hb => hb.2.1).more fun b hb => ⟨by have := hb.1; rw [HS2.out] at this; exact this, Nat.lt_of_lt_of_le hb.2.1 b4.size, by have := hb.2.1; omega, hb.2.2⟩, fun g e => ⟨by have := hnew.2 g e; rw [HS2.out] at this; exact this, by have := hnew.1.lt e; omega⟩, hsz⟩
  obtain ⟨W4, hW4⟩ : ∃ W4, w3.alloc (.cells #[.int .i64 k, .string x, .string y, .slice Ar nr Cr] 24) = W4 := ⟨_, rfl⟩
  have HNR : Hid (nr = (toL c).length ∧ nr ≤ Cr ∧ Cr ≤ 9223372036854775807) := by
    obtain ⟨a', c', e, h1, h2⟩ := hnew.1.slice
    injection e with e1 e2 e3
    exact ⟨e2, by omega, by rw [e3]; exact h2⟩
  clear hb3 hnew HCP HB2 HBB HS2
  rw [hW4] at HP
  have HW4 : Hid (w3.heap.size < W4.heap.size) := HP.out.b3.lt
  go_upto_if 19 with (fail)
  clear hW4
  obtain ⟨q0, q1, q2, q3⟩ := HP.out.b3.cells
  have a0 : (at0 == 0) = true := by simp [ha0]
  have t0 : (how.tmod 5 == 0) = false := by simp only [beq_eq_false_iff_ne, ne_eq]; omega
  have t1 : (how.tmod 5 == 1) = false := by simp only [beq_eq_false_iff_ne, ne_eq]; omega
  have t2 : (how.tmod 5 == 2) = false := by simp only [beq_eq_false_iff_ne, ne_eq]; omega
  have t3 : (how.tmod 5 == 3) = false := by simp only [beq_eq_false_iff_ne, ne_eq]; omega
  clear ha0 hm
  have hnr : 0 < nr := by rw [HNR.out.1, toL_len]; exact hc
  obtain ⟨⟨k0, x0, y0, c0⟩, hnd⟩ : ∃ nd, (toL c)[0]? = some nd := ⟨_, List.getElem?_eq_getElem (by rw [toL_len]; exact hc)⟩
  obtain ⟨g0, s0, rfl, hg0, d0, d1, d2, d3, hfk⟩ := HP.out.o.at_ hnd
  obtain ⟨Ak, Ck, rfl, _, _⟩ := hfk.slice
  obtain ⟨kn, hkn⟩ : ∃ kn, c0.len = kn := ⟨_, rfl⟩
  rw [hkn] at d3 hfk
  have HND : Hid (∀ W, Below W4.heap.size W4 W → W.cell? ⟨g0, 0, none⟩ = some (.int .i64 k0) ∧ W.cell? ⟨g0, 1, none⟩ = some (.string x0) ∧ W.cell? ⟨g0, 2, none⟩ = some (.string y0) ∧ W.cell? ⟨g0, 3, none⟩ = some (.slice Ak kn Ck)) := fun W hW =>
    ⟨(hW.cell (p := ⟨g0, 0, none⟩) hg0).trans (by simpa using d0), (hW.cell (p := ⟨g0, 1, none⟩) hg0).trans (by simpa using d1), (hW.cell (p := ⟨g0, 2, none⟩) hg0).trans (by simpa using d2), (hW.cell (p := ⟨g0, 3, none⟩) hg0).trans (by simpa using d3)⟩
  have HFK : Hid (∀ W, Below W4.heap.size W4 W → Fs W (PS w W w3.heap.size (.slice (some ⟨g0, 0, none⟩) nr Cr)) (.slice Ak kn Ck) c0) := fun W hW =>
    (hfk.keep fun b hb => hW.block b hb.2.1).more fun b hb => ⟨hb.1, Nat.lt_of_lt_of_le hb.2.1 hW.size, hb.2.2⟩
  obtain ⟨L, hL⟩ : ∃ L, toL c = L := ⟨_, rfl⟩
  rw [hL] at HP HTL
  have HLL : Hid (L.length ≤ 1000000) := Nat.le_trans HTL.out (by omega)
  have hnr' : (0 : Int) < (nr : Int) := by omega
  clear d0 d1 d2 d3 hfk hnd hkn hL
  go_wp2
  refine region_rel3 [0, 1, 2, 3, 4, 5, 6, 7] 7 9 (fun W W' => Below W.heap.size W W') (fun W => Below W4.heap.size W4 W) (fun v' W => PAt w W w3.heap.size k x y (Value.slice (some ⟨g0, 0, none⟩) nr Cr) v' (L ++ [(⟨k0, x0, y0, c0⟩ : Nd)])) (fun v' W => PAt w W w3.heap.size k x y v' v' (L ++ [(⟨k0, x0, y0, c0⟩ : Nd)])) [Cd.any, Cd.any, Cd.any, Cd.any, Cd.any, Cd.any, ⟨fun v W => ∃ (b : Nat), v = .slice (some ⟨b, 0, none⟩) 1 1 ∧ b < W.heap.size ∧ W.cell? ⟨b, 0, none⟩ = some (.int .i64 k0) ∧ W.cell? ⟨b, 1, none⟩ = some (.string x0) ∧ W.cell? ⟨b, 2, none⟩ = some (.string y0) ∧ W.cell? ⟨b, 3, none⟩ = some (Value.slice Ak kn Ck), fun v W W' hU h => by obtain ⟨b, e, h2, c0, c1, c2, c3⟩ := h; exact ⟨b, e, Nat.lt_of_lt_of_le h2 hU.size, (hU.cell (p := ⟨b, 0, none⟩) h2).trans c0, (hU.cell (p := ⟨b, 1, none⟩) h2).trans c1, (hU.cell (p := ⟨b, 2, none⟩) h2).trans c2, (hU.cell (p := ⟨b, 3, none⟩) h2).trans c3⟩⟩, Cd.any, Cd.any, Cd.any] [(fun v => v = Value.pointer (some ⟨w3.heap.size, 3, none⟩)), (fun v => v = Value.slice (some ⟨g0, 0, none⟩) nr Cr), (fun v => v = Value.pointer (some ⟨w3.heap.size, 3, none⟩)), (fun v => v = Value.slice (some ⟨g0, 0, none⟩) nr Cr), (fun v => v = Value.pointer (some ⟨g0, 0, none⟩)), (fun v => v = Value.agg #[.int .i64 k0, .string x0, .string y0, Value.slice Ak kn Ck]), (fun _ => True), (fun _ => True), (fun v => v = Value.pointer (some ⟨w3.heap.size, 3, none⟩)), (fun _ => True)] (by kernel_rfl) (by decide) (by kernel_rfl) (by kernel_rfl) (by kernel_rfl) (by decide) (by decide) (by decide) ((Below.refl _ _).drew) (fun _ _ hU hS => hS.trans (hU.mono hS.size)) (fun _ _ _ hU hS => hS.later hU) (fun _ _ _ hU hS => hS.later hU) ?steps ?behind
  case steps =>
    intro xv W a ha
    simp only [fillA] at ha
    simp only [List.setIfInBounds_toArray, List.set_cons_succ, List.set_cons_zero, Nat.zero_add, Nat.reduceAdd] at ha
    subst ha
    refine ⟨fun hI hS1 hS2 hd he K hK => ?s0, fun hI hS1 hS2 hd he K hK => ?s1, fun hI hS1 hS2 hd he K hK => ?s2, fun hI hS1 hS2 hd he K hK => ?s3, fun hI hS1 hS2 hd he K hK => ?s4, fun hI hS1 hS2 hd he K hK => ?s5, fun hI hS1 hS2 hd he K hK => ?s6, fun hI hS1 hS2 hd he K hK => ?s7, fun hI hS1 hS2 hd he K hK => ?s8, fun hI hS1 hS2 hd he K hK => ?s9, trivial⟩
    case s0 =>
      clear hd he hS1 hS2
      simp only [Act.put, List.setIfInBounds_toArray, List.set_cons_succ, List.set_cons_zero] at hK
      refine (if_pos (by rfl)).mpr ?_
      go_simp
      exact hK.out _ _ (fun _ _ => ⟨Below.refl _ _, trivial⟩) (fun e => absurd e (by decide)) (fun e => absurd e (by decide)) rfl
    case s1 =>
      have hx0 : xv 0 = Value.pointer (some ⟨w3.heap.size, 3, none⟩) := hd 0 (by kernel_rfl)
      have hSW := hS1 (.inl (by kernel_rfl))
      clear hd he hS1 hS2
      simp only [Act.put, List.setIfInBounds_toArray, List.set_cons_succ, List.set_cons_zero] at hK
      rw [hx0] at hK ⊢
      refine (if_pos (by rfl)).mpr ?_
      obtain ⟨hq0, hq1, hq2, hq3⟩ := (HP.out.later hSW).b3.cells
      go_simp
      exact hK.out _ _ (fun _ _ => ⟨Below.refl _ _, trivial⟩) (fun e => absurd e (by decide)) (fun e => absurd e (by decide)) rfl
    case s2 =>
      clear hd he hS1 hS2
      simp only [Act.put, List.setIfInBounds_toArray, List.set_cons_succ, List.set_cons_zero] at hK
      refine (if_pos (by rfl)).mpr ?_
      go_simp
      exact hK.out _ _ (fun _ _ => ⟨Below.refl _ _, trivial⟩) (fun e => absurd e (by decide)) (fun e => absurd e (by decide)) rfl
    case s3 =>
      have hx2 : xv 2 = Value.pointer (some ⟨w3.heap.size, 3, none⟩) := hd 2 (by kernel_rfl)
      have hSW := hS1 (.inl (by kernel_rfl))
      clear hd he hS1 hS2
      simp only [Act.put, List.setIfInBounds_toArray, List.set_cons_succ, List.set_cons_zero] at hK
      rw [hx2] at hK ⊢
      refine (if_pos (by rfl)).mpr ?_
      obtain ⟨hq0, hq1, hq2, hq3⟩ := (HP.out.later hSW).b3.cells
      go_simp
      exact hK.out _ _ (fun _ _ => ⟨Below.refl _ _, trivial⟩) (fun e => absurd e (by decide)) (fun e => absurd e (by decide)) rfl
    case s4 =>
      have hx3 : xv 3 = Value.slice (some ⟨g0, 0, none⟩) nr Cr := hd 3 (by kernel_rfl)
      clear hd he hS1 hS2
      simp only [Act.put, List.setIfInBounds_toArray, List.set_cons_succ, List.set_cons_zero] at hK
      rw [hx3] at hK ⊢
      refine (if_pos (by rfl)).mpr ?_
      go_simp
      exact hK.out _ _ (fun _ _ => ⟨Below.refl _ _, trivial⟩) (fun e => absurd e (by decide)) (fun e => absurd e (by decide)) rfl
    case s5 =>
      have hx4 : xv 4 = Value.pointer (some ⟨g0, 0, none⟩) := hd 4 (by kernel_rfl)
      have hSW := hS1 (.inl (by kernel_rfl))
      clear hd he hS1 hS2
      simp only [Act.put, List.setIfInBounds_toArray, List.set_cons_succ, List.set_cons_zero] at hK
      rw [hx4] at hK ⊢
      refine (if_pos (by rfl)).mpr ?_
      obtain ⟨hq0, hq1, hq2, hq3⟩ := HND.out W hSW
      go_simp
      exact hK.out _ _ (fun _ _ => ⟨Below.refl _ _, trivial⟩) (fun e => absurd e (by decide)) (fun e => absurd e (by decide)) rfl
    case s6 =>
      have hx5 : xv 5 = Value.agg #[.int .i64 k0, .string x0, .string y0, Value.slice Ak kn Ck] := hd 5 (by kernel_rfl)
      clear hd he hS1 hS2
      simp only [Act.put, List.setIfInBounds_toArray, List.set_cons_succ, List.set_cons_zero] at hK
      rw [hx5] at hK ⊢
      refine (if_pos (by rfl)).mpr ?_
      go_simp
      have hb := below1 W (.cells #[.int .i64 k0, .string x0, .string y0, .slice Ak kn Ck] 24)
      obtain ⟨z0, z1, z2, z3⟩ := (boxed_new W k0 x0 y0 (.slice Ak kn Ck)).cells
      exact hK.out _ _ (fun _ _ => ⟨hb, W.heap.size, rfl, by simp, z0, z1, z2, z3⟩) (fun e => absurd e (by decide)) (fun e => absurd e (by decide)) trivial
    case s7 =>
      have hx1 : xv 1 = Value.slice (some ⟨g0, 0, none⟩) nr Cr := hd 1 (by kernel_rfl)
      have he6 : ∃ (b : Nat), xv 6 = .slice (some ⟨b, 0, none⟩) 1 1 ∧ b < W.heap.size ∧ W.cell? ⟨b, 0, none⟩ = some (.int .i64 k0) ∧ W.cell? ⟨b, 1, none⟩ = some (.string x0) ∧ W.cell? ⟨b, 2, none⟩ = some (.string y0) ∧ W.cell? ⟨b, 3, none⟩ = some (Value.slice Ak kn Ck) := he (.inr rfl) 6 (by kernel_rfl)
      have hSW := hS1 (.inr rfl)
      clear hd he hS1 hS2
      simp only [Act.put, List.setIfInBounds_toArray, List.set_cons_succ, List.set_cons_zero] at hK
      rw [hx1] at hK ⊢
      refine (if_pos (by rfl)).mpr ?_
      obtain ⟨b, e6, h2, u0, u1, u2, u3⟩ := he6
      have HMW := HP.out.later hSW
      rw [e6] at hK ⊢
      refine wp_app_own _ _ rfl (PS w W w3.heap.size (Value.slice (some ⟨g0, 0, none⟩) nr Cr)) (Value.slice (some ⟨g0, 0, none⟩) nr Cr) L b 1 (⟨k0, x0, y0, c0⟩ : Nd) (.slice Ak kn Ck) rfl rfl ⟨u0, u1, u2, u3⟩ HMW.o (HFK.out W hSW) HMW.sS HLL.out ?_
      intro v' w' r1 r2 r3
      exact hK.out _ _ (fun e => absurd rfl e) (fun _ => HMW.app r1 r2 r3) (fun e => absurd e (by decide)) trivial
    case s8 =>
      clear hd he hS1 hS2
      simp only [Act.put, List.setIfInBounds_toArray, List.set_cons_succ, List.set_cons_zero] at hK
      refine (if_pos (by rfl)).mpr ?_
      go_simp
      exact hK.out _ _ (fun _ _ => ⟨Below.refl _ _, trivial⟩) (fun e => absurd e (by decide)) (fun e => absurd e (by decide)) rfl
    case s9 =>
      have hx8 : xv 8 = Value.pointer (some ⟨w3.heap.size, 3, none⟩) := hd 8 (by kernel_rfl)
      have hS2W := hS2 rfl
      clear hd he hS1 hS2
      simp only [Act.put] at hK
      rw [hx8] at hK ⊢
      refine (if_pos (by rfl)).mpr ?_
      obtain ⟨a9, c9, e9, _, _⟩ := hS2W.o.slice
      obtain ⟨m9, hm9⟩ : ∃ m, (L ++ [(⟨k0, x0, y0, c0⟩ : Nd)]).length = m := ⟨_, rfl⟩
      rw [hm9] at e9
      clear hm9
      obtain ⟨y0, y1, y2, y3⟩ := frz hS2W.b3
      obtain ⟨x0, x1, x2, x3⟩ := hS2W.b3.cells
      have hset := hS2W.set
      rw [e9] at hK hset ⊢
      go_simp
      exact hK.out undef _ (fun _ e => absurd rfl e) (fun e => absurd e (by decide)) (fun _ => hset) trivial
  case behind =>
    intro xv W hW hx a ha
    simp only [fillA] at ha
    simp only [List.setIfInBounds_toArray, List.set_cons_succ, List.set_cons_zero, Nat.zero_add, Nat.reduceAdd] at ha
    subst ha
    obtain ⟨a9, c9, e9, _, _⟩ := hW.o.slice
    obtain ⟨m9, hm9⟩ : ∃ m, (L ++ [(⟨k0, x0, y0, c0⟩ : Nd)]).length = m := ⟨_, rfl⟩
    rw [hm9] at e9
    rw [e9] at hW
    obtain ⟨p0, p1, p2, p3⟩ := hW.b3.cells
    have HE := Lib.hid hW.b3x
    clear hx hm9 e9 hW
    obtain ⟨y0, y1, y2, y3⟩ := frz HE.out.b2
    obtain ⟨o0, o1, o2, o3⟩ := HE.out.b2.cells
    go_wp2
    refine bodyPost_ret (results_cell_row rfl _ _ (w.heap.size + 1) 24 _ (0, 0) _ rfl (box_new HE.out.b2) Tryz.underlying24 rfl hi_node) rfl ?_
    exact HE.out.fin _ _ _

set_option maxRecDepth 100000 in
set_option maxHeartbeats 16000000 in
theorem spoilt_loop (N : Nat) (ih : ∀ M, M < N → SpoiltSpec M) (k : Int) (x y : ByteArray) (A : Option Addr) (n C : Nat) (c : F) (at0 kind : Int) (text trail : ByteArray) (how : Int) (w : World) (hN : c.size ≤ N) (hbig : c.size ≤ 100000) (hf : Fs w (Lo w.heap.size) (.slice A n C) c) (ha0 : at0 ≠ 0) :
    Calls Tryz.prog 12 #[.agg #[.int .i64 k, .string x, .string y, .slice A n C], .int .i64 at0, .int .i64 kind, .string text, .string trail, .int .i64 how] w fun e w' => SpoiltPost w w' e := by
  have HIH := Lib.hid ih
  have b1 := below2 w (.cells #[.int .i64 k, .string x, .string y, .slice A n C] 24) (.cells #[.int .i64 0, .string ⟨#[]⟩, .string ⟨#[]⟩, .slice none 0 0] 24)
  have HCP := Lib.hid (copy_any c.size k x y A n C c _ (Nat.le_refl _) hbig ((hf.below b1 (Nat.le_refl _)).up b1.size))
  have HB2 : Hid (Boxed ((w.alloc (.cells #[.int .i64 k, .string x, .string y, .slice A n C] 24)).alloc (.cells #[.int .i64 0, .string ⟨#[]⟩, .string ⟨#[]⟩, .slice none 0 0] 24)) (w.heap.size + 1) 0 ⟨#[]⟩ ⟨#[]⟩ (.slice none 0 0)) := by
    have e : w.heap.size + 1 = (w.alloc (.cells #[.int .i64 k, .string x, .string y, .slice A n C] 24)).heap.size := by simp
    rw [e]
    exact heap_alloc_new _ _
  have HS2 : Hid (((w.alloc (.cells #[.int .i64 k, .string x, .string y, .slice A n C] 24)).alloc (.cells #[.int .i64 0, .string ⟨#[]⟩, .string ⟨#[]⟩, .slice none 0 0] 24)).heap.size = w.heap.size + 2) := by show _ = _; simp
  have HBB := Lib.hid b1
  have HTL : Hid ((toL c).length ≤ 100000) := by show _ ≤ _; rw [toL_len]; exact Nat.le_trans (F.len_le_size c) hbig
  have HTS : Hid (∀ nd ∈ toL c, nd.c.size < N) := fun nd hnd => Nat.lt_of_lt_of_le (toL_size nd hnd) hN
  clear ih hf b1
  go_enter Tryz.func12, Tryz.ntmps12
  go_wp2_with fail
  refine HCP.out.mono ?_
  rintro e w3 ⟨hb3, Ar, nr, Cr, rfl, hnew⟩
  have HP : Hid (PAt w (w3.alloc (.cells #[.int .i64 k, .string x, .string y, .slice Ar nr Cr] 24)) w3.heap.size k x y (.slice Ar nr Cr) (.slice Ar nr Cr) (toL c)) := by
    have hsz : w.heap.size + 2 ≤ w3.heap.size := by have := hb3.size; rw [HS2.out] at this; exact this
    have b4 := below1 w3 (.cells #[.int .i64 k, .string x, .string y, .slice Ar nr Cr] 24)
    refine ⟨(HBB.out.trans (hb3.mono HBB.out.size)).trans (b4.mono (by omega)), (HB2.out.below hb3 HB2.out.lt).below b4 (by omega), boxed_new _ _ _ _ _, (hnew.1.later b4 fun b hb => hb.2.1).more fun b hb => ⟨by have := hb.1; rw [HS2.out] at this; exact this, Nat.lt_of_lt_of_le hb.2.1 b4.size, by have := hb.2.1; omega, hb.2.2⟩, fun g e => ⟨by have := hnew.2 g e; rw [HS2.out] at this; exact this, by have := hnew.1.lt e; omega⟩, hsz⟩
  obtain ⟨W4, hW4⟩ : ∃ W4, w3.alloc (.cells #[.int .i64 k, .string x, .string y, .slice Ar nr Cr] 24) = W4 := ⟨_, rfl⟩
  have HNR : Hid (nr = (toL c).length ∧ nr ≤ Cr ∧ Cr ≤ 9223372036854775807) := by
    obtain ⟨a', c', e, h1, h2⟩ := hnew.1.slice
    injection e with e1 e2 e3
    exact ⟨e2, by omega, by rw [e3]; exact h2⟩
  clear hb3 hnew HCP HB2 HBB HS2
  rw [hW4] at HP
  have HW4 : Hid (w3.heap.size < W4.heap.size) := HP.out.b3.lt
  go_upto_if 19 with (fail)
  clear hW4
  obtain ⟨q0, q1, q2, q3⟩ := HP.out.b3.cells
  have a0 : (at0 == 0) = false := by simp [ha0]
  rw [a0]
  clear a0
  have HPP := HP
  clear ha0 HP q0 q1 q2 q3
  have hcm : Cr ≤ 9223372036854775807 := HNR.out.2.2
  have hnc : nr ≤ Cr := HNR.out.2.1
  have HNL : Hid ((toL c).length = nr) := HNR.out.1.symm
  have hnm : nr ≤ 100000 := by have := HTL.out; have := HNL.out; omega
  clear HNR
  obtain ⟨q0, q1, q2, q3⟩ := HPP.out.b3.cells
  go_wp2
  go_loopw [1, 14] (fun s1 s14 wq => ∃ (z : Int) (i : Nat), i ≤ nr ∧ s1 = .int .i64 z ∧ s14 = .int .i64 (i : Int) ∧ Hid (PAt w wq w3.heap.size k x y (.slice Ar nr Cr) (.slice Ar nr Cr) (toL c)) ∧ Hid (W4.heap.size ≤ wq.heap.size)) (fun _ s14 _ => nr - (intOf s14).toNat)
  case atStart => exact ⟨_, 0, Nat.zero_le _, rfl, rfl, HPP.out, Nat.le_refl _⟩
  case round =>
    clear HPP q0 q1 q2 q3
    obtain ⟨z, i, hi, rfl, rfl, HQ, HSZ⟩ := hrel
    rename World => wq
    obtain ⟨q0, q1, q2, q3⟩ := HQ.out.b3.cells
    by_cases hlt : i < nr
    · obtain ⟨⟨kk, kx, ky, kc⟩, hnd⟩ : ∃ nd, (toL c)[i]? = some nd := ⟨_, List.getElem?_eq_getElem (by rw [HNL.out]; exact hlt)⟩
      have hmem := List.mem_of_getElem? hnd
      obtain ⟨g0, s0, rfl, hg0, d0, d1, d2, d3, hfk⟩ := HQ.out.o.at_ hnd
      obtain ⟨Ak, Ck, rfl, _, _⟩ := hfk.slice
      obtain ⟨kn, hkn⟩ : ∃ kn, kc.len = kn := ⟨_, rfl⟩
      rw [hkn] at d3 hfk
      dsimp only at d0 d1 d2 hfk hkn
      have HCL := Lib.hid (refSize_any kk kx ky Ak kn Ck kc 2001 wq (hfk.more fun b hb => hb.2.1) (by omega) (by omega))
      have hks : kc.size < N := HTS.out _ hmem
      have hks2 : kc.size ≤ 100000 := Nat.le_trans (Nat.le_of_lt (toL_size _ hmem)) hbig
      obtain ⟨sz, hsz⟩ : ∃ sz, min (kc.size + 1) 2001 = sz := ⟨_, rfl⟩
      rw [hsz] at HCL
      have hlt' : (i : Int) < (nr : Int) := by omega
      have hi0 : (0 : Int) ≤ (i : Int) := by omega
      have HFQ := Lib.hid hfk
      have HDQ : Hid (∀ W, Below wq.heap.size wq W → W.cell? ⟨g0, i * 4, none⟩ = some (.int .i64 kk) ∧ W.cell? ⟨g0, i * 4 + 1, none⟩ = some (.string kx) ∧ W.cell? ⟨g0, i * 4 + 2, none⟩ = some (.string ky) ∧ W.cell? ⟨g0, i * 4 + 3, none⟩ = some (.slice Ak kn Ck)) := fun W hW =>
        ⟨(hW.cell (p := ⟨g0, i * 4, none⟩) hg0).trans d0, (hW.cell (p := ⟨g0, i * 4 + 1, none⟩) hg0).trans d1, (hW.cell (p := ⟨g0, i * 4 + 2, none⟩) hg0).trans d2, (hW.cell (p := ⟨g0, i * 4 + 3, none⟩) hg0).trans d3⟩
      have HIL : Hid (i < (toL c).length) := by show _ < _; rw [HNL.out]; exact hlt
      have HGQ := Lib.hid hg0
      clear hnd hmem hfk hkn hsz hg0
      go_wp2_with fail
      refine HCL.out.mono ?_
      rintro e wr ⟨rfl, hb⟩
      have HP := Lib.hid (HQ.out.later hb)
      have HND : Hid (∀ W, Below wr.heap.size wr W → W.cell? ⟨g0, i * 4, none⟩ = some (.int .i64 kk) ∧ W.cell? ⟨g0, i * 4 + 1, none⟩ = some (.string kx) ∧ W.cell? ⟨g0, i * 4 + 2, none⟩ = some (.string ky) ∧ W.cell? ⟨g0, i * 4 + 3, none⟩ = some (.slice Ak kn Ck)) := fun W hW => HDQ.out W (hb.trans (hW.mono hb.size))
      have HG0 : Hid (g0 < wr.heap.size) := Nat.lt_of_lt_of_le HGQ.out hb.size
      have HH3 : Hid (w3.heap.size < wr.heap.size) := HP.out.b3.lt
      have HWW : Hid (w.heap.size + 2 ≤ wr.heap.size) := by show _ ≤ _; have := HP.out.h3; have := HH3.out; omega
      have HSR : Hid (W4.heap.size ≤ wr.heap.size) := Nat.le_trans HSZ.out hb.size
      have HFR : Hid (∀ W, Below wr.heap.size wr W → Fs W (Lo W.heap.size) (.slice Ak kn Ck) kc) := fun W hW => (HFQ.out.keep fun b hb' => (hb.trans (hW.mono hb.size)).block b hb'.2.1).more fun b hb' => Nat.lt_of_lt_of_le hb'.2.1 (Nat.le_trans hb.size hW.size)
      have HC : Hid (∀ W, Below wr.heap.size wr W → Calls Tryz.prog 12 #[.agg #[.int .i64 kk, .string kx, .string ky, .slice Ak kn Ck], .int .i64 z, .int .i64 kind, .string text, .string trail, .int .i64 how] W fun e w' => Below W.heap.size W w' ∧ ∃ (k' : Int) (x' y' : ByteArray) (A' : Option Addr) (n' C' : Nat) (c' : F), e = .returned (.agg #[.int .i64 k', .string x', .string y', .slice A' n' C']) ∧ Fs w' (Rng wr.heap.size w') (.slice A' n' C') c') := fun W hW =>
        (HIH.out kc.size hks kk kx ky Ak kn Ck kc z kind text trail how W (Nat.le_refl _) hks2 (HFR.out W hW)).mono fun e w' ⟨hb, k', x', y', A', n', C', c', he, hf⟩ => ⟨hb, k', x', y', A', n', C', c', he, hf.more fun b hb' => ⟨Nat.le_trans hW.size hb'.1, hb'.2⟩⟩
      obtain ⟨p0, p1, p2, p3⟩ := HP.out.b3.cells
      clear hb HQ HSZ HDQ HGQ HFQ HCL q0 q1 q2 q3 d0 d1 d2 d3
      by_cases hlz : z < (sz : Int)
      · go_wp2
        refine region_rel2 15 (fun W => Below wr.heap.size wr W) (fun W W' => But g0 W W' ∧ (FinS w W w3.heap.size k x y (Value.slice (some ⟨g0, 0, none⟩) nr Cr) → FinS w W' w3.heap.size k x y (Value.slice (some ⟨g0, 0, none⟩) nr Cr))) [Cd.is (Value.pointer (some ⟨w3.heap.size, 3, none⟩)), Cd.is (Value.slice (some ⟨g0, 0, none⟩) nr Cr), Cd.is (Value.int .i64 (i : Int)), Cd.is (Value.pointer (some ⟨w3.heap.size, 3, none⟩)), Cd.is (Value.slice (some ⟨g0, 0, none⟩) nr Cr), Cd.is (Value.int .i64 (i : Int)), Cd.is (Value.pointer (some ⟨g0, i * 4, none⟩)), Cd.is (Value.agg #[.int .i64 kk, .string kx, .string ky, .slice Ak kn Ck]), Cd.is (Value.int .i64 z), Cd.is (Value.int .i64 kind), Cd.is (Value.string text), Cd.is (Value.string trail), Cd.is (Value.int .i64 how), ⟨fun v W => ∃ (k' : Int) (x' y' : ByteArray) (A' : Option Addr) (n' C' : Nat) (c' : F), v = .agg #[.int .i64 k', .string x', .string y', .slice A' n' C'] ∧ Fs W (Rng wr.heap.size W) (.slice A' n' C') c', fun v W W' hT h => by obtain ⟨k', x', y', A', n', C', c', e, hf⟩ := h; exact ⟨k', x', y', A', n', C', c', e, rng_but hf hT.1 HG0.out⟩⟩, Cd.is (Value.pointer (some ⟨g0, i * 4, none⟩)), ⟨fun _ W => FinS w W w3.heap.size k x y (Value.slice (some ⟨g0, 0, none⟩) nr Cr), fun _ W W' hT h => hT.2 h⟩] (by kernel_rfl) (by decide) (by kernel_rfl) ((Below.refl _ _).drew) ⟨But.refl _ _, fun h => h⟩ (fun _ _ _ h k => ⟨h.1.trans k.1, fun z => k.2 (h.2 z)⟩) ?steps ?behind
        case steps =>
          intro xv W hW a ha
          skip
          simp only [fillA] at ha
          simp only [List.setIfInBounds_toArray, List.set_cons_succ, List.set_cons_zero, Nat.zero_add, Nat.reduceAdd] at ha
          subst ha
          refine ⟨fun hI hS hd K hK => ?s0, fun hI hS hd K hK => ?s1, fun hI hS hd K hK => ?s2, fun hI hS hd K hK => ?s3, fun hI hS hd K hK => ?s4, fun hI hS hd K hK => ?s5, fun hI hS hd K hK => ?s6, fun hI hS hd K hK => ?s7, fun hI hS hd K hK => ?s8, fun hI hS hd K hK => ?s9, fun hI hS hd K hK => ?s10, fun hI hS hd K hK => ?s11, fun hI hS hd K hK => ?s12, fun hI hS hd K hK => ?s13, fun hI hS hd K hK => ?s14, fun hI hS hd K hK => ?s15, trivial⟩
          case s0 =>
            clear hd
            simp only [Act.put, List.setIfInBounds_toArray, List.set_cons_succ, List.set_cons_zero] at hK
            refine (if_pos (by rfl)).mpr ?_
            clear hS
            go_simp
            exact hK.out _ _ ⟨But.refl _ _, fun h => h⟩ (.inr fun h => h) rfl
          case s1 =>
            have hx0 : xv 0 = Value.pointer (some ⟨w3.heap.size, 3, none⟩) := hd 0 (by kernel_rfl)
            clear hd
            simp only [Act.put, List.setIfInBounds_toArray, List.set_cons_succ, List.set_cons_zero] at hK
            rw [hx0] at hK ⊢
            refine (if_pos (by rfl)).mpr ?_
            have hSW := hS (.inl (by kernel_rfl))
            obtain ⟨hq0, hq1, hq2, hq3⟩ := (HP.out.later hSW).b3.cells
            clear hS
            go_simp
            exact hK.out _ _ ⟨But.refl _ _, fun h => h⟩ (.inr fun h => h) rfl
          case s2 =>
            clear hd
            simp only [Act.put, List.setIfInBounds_toArray, List.set_cons_succ, List.set_cons_zero] at hK
            refine (if_pos (by rfl)).mpr ?_
            clear hS
            go_simp
            exact hK.out _ _ ⟨But.refl _ _, fun h => h⟩ (.inr fun h => h) rfl
          case s3 =>
            clear hd
            simp only [Act.put, List.setIfInBounds_toArray, List.set_cons_succ, List.set_cons_zero] at hK
            refine (if_pos (by rfl)).mpr ?_
            clear hS
            go_simp
            exact hK.out _ _ ⟨But.refl _ _, fun h => h⟩ (.inr fun h => h) rfl
          case s4 =>
            have hx3 : xv 3 = Value.pointer (some ⟨w3.heap.size, 3, none⟩) := hd 3 (by kernel_rfl)
            clear hd
            simp only [Act.put, List.setIfInBounds_toArray, List.set_cons_succ, List.set_cons_zero] at hK
            rw [hx3] at hK ⊢
            refine (if_pos (by rfl)).mpr ?_
            have hSW := hS (.inl (by kernel_rfl))
            obtain ⟨hq0, hq1, hq2, hq3⟩ := (HP.out.later hSW).b3.cells
            clear hS
            go_simp
            exact hK.out _ _ ⟨But.refl _ _, fun h => h⟩ (.inr fun h => h) rfl
          case s5 =>
            clear hd
            simp only [Act.put, List.setIfInBounds_toArray, List.set_cons_succ, List.set_cons_zero] at hK
            refine (if_pos (by rfl)).mpr ?_
            clear hS
            go_simp
            exact hK.out _ _ ⟨But.refl _ _, fun h => h⟩ (.inr fun h => h) rfl
          case s6 =>
            have hx4 : xv 4 = Value.slice (some ⟨g0, 0, none⟩) nr Cr := hd 4 (by kernel_rfl)
            have hx5 : xv 5 = Value.int .i64 (i : Int) := hd 5 (by kernel_rfl)
            clear hd
            simp only [Act.put, List.setIfInBounds_toArray, List.set_cons_succ, List.set_cons_zero] at hK
            rw [hx4] at hK ⊢
            rw [hx5] at hK ⊢
            refine (if_pos (by rfl)).mpr ?_
            clear hS
            go_simp
            exact hK.out _ _ ⟨But.refl _ _, fun h => h⟩ (.inr fun h => h) rfl
          case s7 =>
            have hx6 : xv 6 = Value.pointer (some ⟨g0, i * 4, none⟩) := hd 6 (by kernel_rfl)
            clear hd
            simp only [Act.put, List.setIfInBounds_toArray, List.set_cons_succ, List.set_cons_zero] at hK
            rw [hx6] at hK ⊢
            refine (if_pos (by rfl)).mpr ?_
            have hSW := hS (.inl (by kernel_rfl))
            obtain ⟨hq0, hq1, hq2, hq3⟩ := HND.out W hSW
            clear hS
            go_simp
            exact hK.out _ _ ⟨But.refl _ _, fun h => h⟩ (.inr fun h => h) rfl
          case s8 =>
            clear hd
            simp only [Act.put, List.setIfInBounds_toArray, List.set_cons_succ, List.set_cons_zero] at hK
            refine (if_pos (by rfl)).mpr ?_
            clear hS
            go_simp
            exact hK.out _ _ ⟨But.refl _ _, fun h => h⟩ (.inr fun h => h) rfl
          case s9 =>
            clear hd
            simp only [Act.put, List.setIfInBounds_toArray, List.set_cons_succ, List.set_cons_zero] at hK
            refine (if_pos (by rfl)).mpr ?_
            clear hS
            go_simp
            exact hK.out _ _ ⟨But.refl _ _, fun h => h⟩ (.inr fun h => h) rfl
          case s10 =>
            clear hd
            simp only [Act.put, List.setIfInBounds_toArray, List.set_cons_succ, List.set_cons_zero] at hK
            refine (if_pos (by rfl)).mpr ?_
            clear hS
            go_simp
            exact hK.out _ _ ⟨But.refl _ _, fun h => h⟩ (.inr fun h => h) rfl
          case s11 =>
            clear hd
            simp only [Act.put, List.setIfInBounds_toArray, List.set_cons_succ, List.set_cons_zero] at hK
            refine (if_pos (by rfl)).mpr ?_
            clear hS
            go_simp
            exact hK.out _ _ ⟨But.refl _ _, fun h => h⟩ (.inr fun h => h) rfl
          case s12 =>
            clear hd
            simp only [Act.put, List.setIfInBounds_toArray, List.set_cons_succ, List.set_cons_zero] at hK
            refine (if_pos (by rfl)).mpr ?_
            clear hS
            go_simp
            exact hK.out _ _ ⟨But.refl _ _, fun h => h⟩ (.inr fun h => h) rfl
          case s13 =>
            have hx7 : xv 7 = Value.agg #[.int .i64 kk, .string kx, .string ky, .slice Ak kn Ck] := hd 7 (by kernel_rfl)
            have hx8 : xv 8 = Value.int .i64 z := hd 8 (by kernel_rfl)
            have hx9 : xv 9 = Value.int .i64 kind := hd 9 (by kernel_rfl)
            have hx10 : xv 10 = Value.string text := hd 10 (by kernel_rfl)
            have hx11 : xv 11 = Value.string trail := hd 11 (by kernel_rfl)
            have hx12 : xv 12 = Value.int .i64 how := hd 12 (by kernel_rfl)
            clear hd
            simp only [Act.put, List.setIfInBounds_toArray, List.set_cons_succ, List.set_cons_zero] at hK
            rw [hx7] at hK ⊢
            rw [hx8] at hK ⊢
            rw [hx9] at hK ⊢
            rw [hx10] at hK ⊢
            rw [hx11] at hK ⊢
            rw [hx12] at hK ⊢
            refine (if_pos (by rfl)).mpr ?_
            have hSW := hS (.inl (by kernel_rfl))
            clear hS
            go_simp
            go_at_call 12
            refine (HC.out W hSW).mono ?_
            rintro e w' ⟨hb, k', x', y', A', n', C', c', rfl, hf⟩
            exact hK.out _ _ ⟨But.of_below hb, fun h => h.later hb⟩ (.inr fun h => h.trans (hb.mono h.size)) ⟨k', x', y', A', n', C', c', rfl, hf⟩
          case s14 =>
            have hx1 : xv 1 = Value.slice (some ⟨g0, 0, none⟩) nr Cr := hd 1 (by kernel_rfl)
            have hx2 : xv 2 = Value.int .i64 (i : Int) := hd 2 (by kernel_rfl)
            clear hd
            simp only [Act.put, List.setIfInBounds_toArray, List.set_cons_succ, List.set_cons_zero] at hK
            rw [hx1] at hK ⊢
            rw [hx2] at hK ⊢
            refine (if_pos (by rfl)).mpr ?_
            clear hS
            go_simp
            exact hK.out _ _ ⟨But.refl _ _, fun h => h⟩ (.inr fun h => h) rfl
          case s15 =>
            have hx13 : ∃ (k' : Int) (x' y' : ByteArray) (A' : Option Addr) (n' C' : Nat) (c' : F), xv 13 = .agg #[.int .i64 k', .string x', .string y', .slice A' n' C'] ∧ Fs W (Rng wr.heap.size W) (.slice A' n' C') c' := hd 13 (by kernel_rfl)
            have hx14 : xv 14 = Value.pointer (some ⟨g0, i * 4, none⟩) := hd 14 (by kernel_rfl)
            clear hd
            simp only [Act.put] at hK
            rw [hx14] at hK ⊢
            refine (if_pos (by rfl)).mpr ?_
            have hSW := hS (.inr rfl)
            obtain ⟨k', x', y', A', n', C', c', e13, hf⟩ := hx13
            rw [e13] at hK ⊢
            clear hS
            have hPW := HP.out.later hSW
            have hfin := hPW.put HG0.out hSW HH3.out HWW.out i HIL.out k' x' y' hf
            obtain ⟨hq0, hq1, hq2, hq3⟩ := HND.out W hSW
            obtain ⟨f0, f1, f2, f3⟩ := hPW.frz4 i
            go_simp
            exact hK.out undef _ ⟨But.of_grown (put4_grown W g0 i k' x' y' (.slice A' n' C')), fun _ => hfin⟩ (.inl trivial) hfin
        case behind =>
          intro xv W hW hx a ha
          skip
          simp only [fillA] at ha
          simp only [List.setIfInBounds_toArray, List.set_cons_succ, List.set_cons_zero, Nat.zero_add, Nat.reduceAdd] at ha
          subst ha
          have hfin := hx 15 (by decide)
          replace hfin : FinS w W w3.heap.size k x y (Value.slice (some ⟨g0, 0, none⟩) nr Cr) := hfin
          obtain ⟨p0, p1, p2, p3⟩ := hfin.b3.cells
          have HE := Lib.hid hfin.end_
          clear hx hfin
          obtain ⟨y0, y1, y2, y3⟩ := frz HE.out.b2
          obtain ⟨o0, o1, o2, o3⟩ := HE.out.b2.cells
          go_wp2
          refine bodyPost_ret (results_cell_row rfl _ _ (w.heap.size + 1) 24 _ (0, 0) _ rfl (box_new HE.out.b2) Tryz.underlying24 rfl hi_node) rfl ?_
          exact HE.out.fin _ _ _
      · go_wp2
        go_roundw
        case rel => exact ⟨_, i + 1, by omega, rfl, by go_num, HP.out, HSR.out⟩
        case measure => simp [intOf]; omega
    · have hlt' : ¬ (i : Int) < (nr : Int) := by omega
      have HE := Lib.hid HQ.out.b3x
      obtain ⟨y0, y1, y2, y3⟩ := frz HE.out.b2
      obtain ⟨o0, o1, o2, o3⟩ := HE.out.b2.cells
      go_wp2
      refine bodyPost_ret (results_cell_row rfl _ _ (w.heap.size + 1) 24 _ (0, 0) _ rfl (box_new HE.out.b2) Tryz.underlying24 rfl hi_node) rfl ?_
      exact HE.out.fin _ _ _

theorem spoilt_step (N : Nat) (ih : ∀ M, M < N → SpoiltSpec M) : SpoiltSpec N := by
  intro k x y A n C c at0 kind text trail how w hN hbig hf
  by_cases ha0 : at0 = 0
  · by_cases m0 : how.tmod 5 = 0
    · exact spoilt_0 N ih k x y A n C c at0 kind text trail how w hN hbig hf ha0 m0
    · by_cases m1 : how.tmod 5 = 1
      · exact spoilt_1 N ih k x y A n C c at0 kind text trail how w hN hbig hf ha0 m1
      · by_cases m2 : how.tmod 5 = 2
        · exact spoilt_2 N ih k x y A n C c at0 kind text trail how w hN hbig hf ha0 m2
        · by_cases hc : 0 < c.len
          · by_cases m3 : how.tmod 5 = 3
            · exact spoilt_3b N ih k x y A n C c at0 kind text trail how w hN hbig hf ha0 m3 hc
            · exact spoilt_4b N ih k x y A n C c at0 kind text trail how w hN hbig hf ha0 ⟨m0, m1, m2, m3⟩ hc
          · have hc' := F.len_zero (f := c) (by omega)
            by_cases m3 : how.tmod 5 = 3
            · exact spoilt_3 N ih k x y A n C c at0 kind text trail how w hN hbig hf ha0 m3 hc'
            · exact spoilt_4 N ih k x y A n C c at0 kind text trail how w hN hbig hf ha0 ⟨m0, m1, m2, m3⟩ hc'
  · exact spoilt_loop N ih k x y A n C c at0 kind text trail how w hN hbig hf ha0

theorem spoilt_any (N : Nat) : SpoiltSpec N := by
  induction N using Nat.strongRecOn with
  | _ N ih => exact spoilt_step N ih
end Go.Proofs.YtoecimgmghlfpaaGreatDoor.Tree
