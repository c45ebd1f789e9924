/-
  Layer 5 (tree): variables that hold nodes and are written anew: what is kept, what is known of their trees.
-/
import Derived.Test.YtoecimgmghlfpaaGreatDoorJoinKnown
import Derived.Test.YtoecimgmghlfpaaGreatDoorTreeRefIn
namespace Go.Proofs.YtoecimgmghlfpaaGreatDoor.Tree
open Go.ChangeShapes Go.WideShapes Go.ChangeAt Go.RowKit Mem
set_option linter.unusedVariables false

theorem SmallT.small : ∀ {f : F}, SmallT f → Small f
  | .nil, _ => trivial
  | .cons k x y c r, h => ⟨Nat.le_trans h.1 (by omega), Nat.le_trans h.2.1 (by omega), SmallT.small h.2.2.1, SmallT.small h.2.2.2⟩

/-- All but block g is as it was. -/
structure But (g : Nat) (w w' : World) : Prop where
  os : w'.os = w.os
  tape : w'.tape = w.tape
  output : w'.output = w.output
  size : w.heap.size ≤ w'.heap.size
  block : ∀ b, b < w.heap.size → b ≠ g → w'.heap[b]? = w.heap[b]?
theorem But.refl (g : Nat) (w : World) : But g w w := ⟨rfl, rfl, rfl, Nat.le_refl _, fun _ _ _ => rfl⟩
theorem But.trans {g : Nat} {a b c : World} (h : But g a b) (k : But g b c) : But g a c :=
  ⟨k.os.trans h.os, k.tape.trans h.tape, k.output.trans h.output, Nat.le_trans h.size k.size, fun i hi hg => (k.block i (Nat.lt_of_lt_of_le hi h.size) hg).trans (h.block i hi hg)⟩
theorem But.of_below {g : Nat} {w w' : World} (h : Below w.heap.size w w') : But g w w' := ⟨h.os, h.tape, h.output, h.size, fun b hb _ => h.block b hb⟩
theorem But.below {g : Nat} {w0 w w' : World} (h0 : Below w0.heap.size w0 w) (h : But g w w') (hg : w0.heap.size ≤ g) : Below w0.heap.size w0 w' :=
  ⟨h.os.trans h0.os, h.tape.trans h0.tape, h.output.trans h0.output, Nat.le_trans h0.size h.size, fun b hb => (h.block b (Nat.lt_of_lt_of_le hb h0.size) (by omega)).trans (h0.block b hb)⟩
theorem But.set4 (w : World) (g : Nat) (v0 v1 v2 v3 : Value) : But g w ((((w.setCell ⟨g, 0, none⟩ v0).setCell ⟨g, 1, none⟩ v1).setCell ⟨g, 2, none⟩ v2).setCell ⟨g, 3, none⟩ v3) :=
  ⟨(box_below w g v0 v1 v2 v3).os, (box_below w g v0 v1 v2 v3).tape, (box_below w g v0 v1 v2 v3).output, (box_below w g v0 v1 v2 v3).size, fun b _ hb => set4_other w g b v0 v1 v2 v3 hb⟩

/-- The blocks that are there, but for some. -/
def Out (w : World) (gs : List Nat) : Nat → Prop := fun b => b < w.heap.size ∧ b ∉ gs
theorem Out.mono {w w' : World} {gs : List Nat} (h : w.heap.size ≤ w'.heap.size) : ∀ b, Out w gs b → Out w' gs b := fun b hb => ⟨Nat.lt_of_lt_of_le hb.1 h, hb.2⟩
theorem fs_but {g : Nat} {w w' : World} {gs : List Nat} {v : Value} {f : F} (hf : Fs w (Out w gs) v f) (h : But g w w') (hg : g ∈ gs) : Fs w' (Out w' gs) v f :=
  (hf.keep fun b hb => h.block b hb.1 (fun e => hb.2 (e ▸ hg))).more (Out.mono h.size)
theorem fs_out {w w' : World} {gs : List Nat} {v : Value} {f : F} (hf : Fs w (Out w gs) v f) (h : Below w.heap.size w w') : Fs w' (Out w' gs) v f :=
  (hf.keep fun b hb => h.block b hb.1).more (Out.mono h.size)
theorem fs_lo {w : World} {gs : List Nat} {v : Value} {f : F} (hf : Fs w (Out w gs) v f) : Fs w (Lo w.heap.size) v f := hf.more fun _ hb => hb.1

/-- A variable that holds a node without a remark, whose texts are no longer than a hundred thousand bytes, and whose tree lies outside some blocks. -/
def Bx (w : World) (g : Nat) (gs : List Nat) : Prop := ∃ (k : Int) (x : ByteArray) (A : Option Addr) (n C : Nat) (c : F), Boxed w g k x ⟨#[]⟩ (.slice A n C) ∧ Fs w (Out w gs) (.slice A n C) c ∧ x.size ≤ 100000 ∧ SmallT c
theorem Bx.lt {w : World} {g : Nat} {gs : List Nat} (h : Bx w g gs) : g < w.heap.size := by
  obtain ⟨k, x, A, n, C, c, hb, _⟩ := h
  exact hb.lt
theorem Bx.but {w w' : World} {g g' : Nat} {gs : List Nat} (h : Bx w g' gs) (hb : But g w w') (hg : g ∈ gs) (hne : g' ≠ g) : Bx w' g' gs := by
  have hlt := h.lt
  obtain ⟨k, x, A, n, C, c, h1, h2, h3⟩ := h
  exact ⟨k, x, A, n, C, c, (hb.block g' hlt hne).trans h1, fs_but h2 hb hg, h3⟩
theorem Bx.later {w w' : World} {g : Nat} {gs : List Nat} (h : Bx w g gs) (hb : Below w.heap.size w w') : Bx w' g gs := by
  have hlt := h.lt
  obtain ⟨k, x, A, n, C, c, h1, h2, h3⟩ := h
  exact ⟨k, x, A, n, C, c, h1.below hb hlt, fs_out h2 hb, h3⟩
theorem Bx.write {w : World} {g : Nat} {gs : List Nat} {k0 : Int} {x0 y0 : ByteArray} {s0 : Value} (hb : Boxed w g k0 x0 y0 s0) (hg : g ∈ gs) (k : Int) (x : ByteArray) {A : Option Addr} {n C : Nat} {c : F} (hf : Fs w (Out w gs) (.slice A n C) c) (hx : x.size ≤ 100000) (hs : SmallT c) :
    Bx ((((w.setCell ⟨g, 0, none⟩ (.int .i64 k)).setCell ⟨g, 1, none⟩ (.string x)).setCell ⟨g, 2, none⟩ (.string ⟨#[]⟩)).setCell ⟨g, 3, none⟩ (.slice A n C)) g gs :=
  ⟨k, x, A, n, C, c, box_new hb, fs_but hf (But.set4 _ _ _ _ _ _) hg, hx, hs⟩

/-- A new block that holds a row of nodes. -/
theorem fs_newG (w : World) (gs : List Nat) (hgs : w.heap.size ∉ gs) (ps : List (Nd × Value)) (cs : Array Value) (hcs : cs = (ps.flatMap ndC).toArray) (n : Nat) (hn : ps.length = n) (hn2 : n ≤ 1000000) (hf : ∀ p ∈ ps, Fs w (Out w gs) p.2 p.1.c) :
    Fs (w.alloc (.cells cs 24)) (Out (w.alloc (.cells cs 24)) gs) (.slice (some ⟨w.heap.size, 0, none⟩) n n) (ofL (ps.map (·.1))) := by
  have hb := below1 w (.cells cs 24)
  refine fs_row w.heap.size ⟨by simp, hgs⟩ ps 0 n n hn (Nat.le_refl _) (by omega) (fun j u hu => ?_) (fun p hp => fs_out (hf p hp) hb) _ (.inr rfl)
  rw [Nat.zero_add, World.cell?_alloc_at _ _ _ _ rfl, hcs]
  simpa using hu
theorem fs_new (w : World) (gs : List Nat) (hgs : ∀ g ∈ gs, g < w.heap.size) (ps : List (Nd × Value)) (cs : Array Value) (hcs : cs = (ps.flatMap ndC).toArray) (n : Nat) (hn : ps.length = n) (hn2 : n ≤ 1000000) (hf : ∀ p ∈ ps, Fs w (Out w gs) p.2 p.1.c) :
    Fs (w.alloc (.cells cs 24)) (Out (w.alloc (.cells cs 24)) gs) (.slice (some ⟨w.heap.size, 0, none⟩) n n) (ofL (ps.map (·.1))) :=
  fs_newG w gs (fun h => absurd (hgs _ h) (by omega)) ps cs hcs n hn hn2 hf

set_option maxRecDepth 100000 in
set_option maxHeartbeats 4000000 in
theorem lawBinS_any (op : ByteArray) (k1 k2 : Int) (x1 x2 : ByteArray) (A1 A2 : Option Addr) (n1 C1 n2 C2 : Nat) (c1 c2 : F) (w : World) (gs : List Nat) (hgs : ∀ g ∈ gs, g < w.heap.size) (h1 : Fs w (Out w gs) (.slice A1 n1 C1) c1) (h2 : Fs w (Out w gs) (.slice A2 n2 C2) c2) :
    Calls Tryz.prog 14 #[.string op, .agg #[.int .i64 k1, .string x1, .string ⟨#[]⟩, .slice A1 n1 C1], .agg #[.int .i64 k2, .string x2, .string ⟨#[]⟩, .slice A2 n2 C2]] w fun e w' => Below w.heap.size w w' ∧ ∃ A n C, e = .returned (.agg #[.int .i64 29, .string op, .string ⟨#[]⟩, .slice A n C]) ∧ Fs w' (Out w' gs) (.slice A n C) (.cons k1 x1 ⟨#[]⟩ c1 (.cons k2 x2 ⟨#[]⟩ c2 .nil)) := by
  go_enter Tryz.func14, Tryz.ntmps14
  go_wp2
  refine bodyPost_ret (results_cell_row rfl _ _ (w.heap.size + 1 + 1) 24 _ (0, 0) _ rfl (blk3 _ _ _ _ _) Tryz.underlying24 rfl hi_node) rfl ?_
  have b3 := below3 w (.cells #[.int .i64 k1, .string x1, .string ⟨#[]⟩, .slice A1 n1 C1] 24) (.cells #[.int .i64 k2, .string x2, .string ⟨#[]⟩, .slice A2 n2 C2] 24) (.cells #[.int .i64 29, .string op, .string ⟨#[]⟩, .slice (some ⟨w.heap.size + 1 + 1 + 1, 0, none⟩) 2 2] 24)
  have hf := fs_new _ gs (fun g hg => Nat.lt_of_lt_of_le (hgs g hg) b3.size) [(⟨k1, x1, ⟨#[]⟩, c1⟩, .slice A1 n1 C1), (⟨k2, x2, ⟨#[]⟩, c2⟩, .slice A2 n2 C2)] _ rfl 2 rfl (by omega) (fun p hp => by
    simp only [List.mem_cons, List.not_mem_nil, or_false] at hp
    rcases hp with rfl | rfl
    · exact fs_out h1 b3
    · exact fs_out h2 b3)
  refine ⟨b3.trans ((below1 _ _).mono b3.size), some ⟨w.heap.size + 1 + 1 + 1, 0, none⟩, 2, 2, rfl, ?_⟩
  simp only [World.size_alloc] at hf ⊢
  exact hf

/-- Three variables that hold nodes. -/
structure St (w wr : World) (g5 g6 g7 : Nat) : Prop where
  bel : Below w.heap.size w wr
  o5 : w.heap.size ≤ g5
  o6 : w.heap.size ≤ g6
  o7 : w.heap.size ≤ g7
  n56 : g5 ≠ g6
  n57 : g5 ≠ g7
  n67 : g6 ≠ g7
  b5 : Bx wr g5 [g5, g6, g7]
  b6 : Bx wr g6 [g5, g6, g7]
  b7 : Bx wr g7 [g5, g6, g7]
theorem St.later {w wr W : World} {g5 g6 g7 : Nat} (h : St w wr g5 g6 g7) (hb : Below wr.heap.size wr W) : St w W g5 g6 g7 :=
  ⟨h.bel.trans (hb.mono h.bel.size), h.o5, h.o6, h.o7, h.n56, h.n57, h.n67, h.b5.later hb, h.b6.later hb, h.b7.later hb⟩
theorem St.w5 {w wr W : World} {g5 g6 g7 : Nat} (h : St w wr g5 g6 g7) (hb : But g5 wr W) (hx : Bx W g5 [g5, g6, g7]) : St w W g5 g6 g7 :=
  ⟨hb.below h.bel h.o5, h.o5, h.o6, h.o7, h.n56, h.n57, h.n67, hx, h.b6.but hb (by simp) h.n56.symm, h.b7.but hb (by simp) h.n57.symm⟩
theorem St.w6 {w wr W : World} {g5 g6 g7 : Nat} (h : St w wr g5 g6 g7) (hb : But g6 wr W) (hx : Bx W g6 [g5, g6, g7]) : St w W g5 g6 g7 :=
  ⟨hb.below h.bel h.o6, h.o5, h.o6, h.o7, h.n56, h.n57, h.n67, h.b5.but hb (by simp) h.n56, hx, h.b7.but hb (by simp) h.n67.symm⟩
theorem St.w7 {w wr W : World} {g5 g6 g7 : Nat} (h : St w wr g5 g6 g7) (hb : But g7 wr W) (hx : Bx W g7 [g5, g6, g7]) : St w W g5 g6 g7 :=
  ⟨hb.below h.bel h.o7, h.o5, h.o6, h.o7, h.n56, h.n57, h.n67, h.b5.but hb (by simp) h.n57, h.b6.but hb (by simp) h.n67, hx⟩
theorem St.gs {w wr : World} {g5 g6 g7 : Nat} (h : St w wr g5 g6 g7) : ∀ g ∈ [g5, g6, g7], g < wr.heap.size := by
  intro g hg
  simp only [List.mem_cons, List.not_mem_nil, or_false] at hg
  rcases hg with rfl | rfl | rfl
  · exact h.b5.lt
  · exact h.b6.lt
  · exact h.b7.lt
end Go.Proofs.YtoecimgmghlfpaaGreatDoor.Tree
