/-
 Layer 6 (parse): reading functions with variables of their own that are written later.
-/
import Derived.Test.YtaiihnniblibaaaGreatDoorParseBind
namespace Go.Proofs.YtaiihnniblibaaaGreatDoor.Parse
open Go.ChangeShapes Go.WideShapes Go.ChangeAt Go.RowKit Tree MemT Mem
set_option linter.unusedVariables false

section
variable {P B0 g g' : Nat} {w w' W W' : World} {v : Value} {f : F}
theorem mx_new {n : Nd} (h : NV W W' v n) (hB : B0 ≤ W.heap.size) (hg : g < W.heap.size) (hg' : g' < W.heap.size) : ∃ A C, v = .agg #[.int .i64 n.k, .string n.x, .string n.y, .slice A n.c.len C] ∧ Fs W' (Mx B0 g g' W'.heap.size) (.slice A n.c.len C) n.c := by
 obtain ⟨A, C, e, hf⟩ := h
 exact ⟨A, C, e, mx_of hf hB (.inl hg) (.inl hg') (Nat.le_refl _)⟩
theorem mx_nil {S : Nat → Prop} : Fs w S (.slice none 0 0) .nil := ⟨none, 0, rfl, by omega⟩
theorem mx_setg (h : Fs w (Mx B0 g g' w.heap.size) v f) {x : Nat} (hx : x = g ∨ x = g' ∨ x < B0) (v0 v1 v2 v3 : Value) : Fs ((((w.setCell ⟨x, 0, none⟩ v0).setCell ⟨x, 1, none⟩ v1).setCell ⟨x, 2, none⟩ v2).setCell ⟨x, 3, none⟩ v3) (Mx B0 g g' ((((w.setCell ⟨x, 0, none⟩ v0).setCell ⟨x, 1, none⟩ v1).setCell ⟨x, 2, none⟩ v2).setCell ⟨x, 3, none⟩ v3).heap.size) v f := by
 rw [size_set4]
 exact h.keep fun b hb => (Bes2.set4 (P := x) w v0 v1 v2 v3).block b hb.2.1 (by have := hb.1; have := hb.2.2; omega) (by have := hb.1; have := hb.2.2; omega)
theorem Box4.setg {x : Nat} {T : TypeId} {a b c d : Value} (h : Box4 w x T a b c d) {y : Nat} (hy : y ≠ x) (v0 v1 v2 v3 : Value) : Box4 ((((w.setCell ⟨y, 0, none⟩ v0).setCell ⟨y, 1, none⟩ v1).setCell ⟨y, 2, none⟩ v2).setCell ⟨y, 3, none⟩ v3) x T a b c d :=
 (((h.other (p := ⟨y, 0, none⟩) hy _).other (p := ⟨y, 1, none⟩) hy _).other (p := ⟨y, 2, none⟩) hy _).other (p := ⟨y, 3, none⟩) hy _
theorem StX.setg {R z d : Nat} {l : List Tk} (h : StX w R W P z d l) {y : Nat} (hy : R < y) (v0 v1 v2 v3 : Value) : StX w R ((((W.setCell ⟨y, 0, none⟩ v0).setCell ⟨y, 1, none⟩ v1).setCell ⟨y, 2, none⟩ v2).setCell ⟨y, 3, none⟩ v3) P z d l := by
 obtain ⟨a, b, c, d', hx⟩ := h.bx
 have h1 := h.hR; have h2 := h.hlt
 exact ⟨bes_set4 h.bes (by omega) _ _ _ _, ps_set4 h.ps (by omega) _ _ _ _, ⟨a, b, c, d', hx.setg (by omega) _ _ _ _⟩, h.hR, h.hlt⟩
theorem StX.start {z d : Nat} {l : List Tk} (h : PS w P z l d) : StX w w.heap.size (w.alloc ndZ) P z d l := ⟨Bes.of (ndz_below w) P, h.alloc _, ⟨_, _, _, _, ndz_box w⟩, Nat.le_refl _, h.lt⟩
end
theorem rowX3 (w : World) (B0 g g' P : Nat) (hB : B0 ≤ w.heap.size) (hg : g < w.heap.size) (hg' : g' < w.heap.size) (hP : P < B0) (k : Int) (x y : ByteArray) (c : F) (s : Value) (hf : Fs w (Mx B0 g g' w.heap.size) s c) (k2 : Int) (x2 y2 : ByteArray) (c2 : F) (s2 : Value) (hf2 : Fs w (Mx B0 g g' w.heap.size) s2 c2) (k3 : Int) (x3 y3 : ByteArray) (c3 : F) (s3 : Value) (hf3 : Fs w (Mx B0 g g' w.heap.size) s3 c3) :
  RowX B0 g g' (oneF ⟨k, x, y, c⟩ (oneF ⟨k2, x2, y2, c2⟩ (one ⟨k3, x3, y3, c3⟩))) (.slice (some ⟨w.heap.size, 0, none⟩) 3 3) (w.alloc (.cells #[.int .i64 k, .string x, .string y, s, .int .i64 k2, .string x2, .string y2, s2, .int .i64 k3, .string x3, .string y3, s3] 24)) :=
 ⟨some ⟨w.heap.size, 0, none⟩, 3, rfl, rowX w B0 g g' [(⟨k, x, y, c⟩, s), (⟨k2, x2, y2, c2⟩, s2), (⟨k3, x3, y3, c3⟩, s3)] _ (by rfl) 3 rfl (by omega) hB hg hg' P hP (fun p hp => by
  simp only [List.mem_cons, List.not_mem_nil, or_false] at hp
  rcases hp with rfl | rfl | rfl <;> assumption)⟩
theorem rowX4 (w : World) (B0 g g' P : Nat) (hB : B0 ≤ w.heap.size) (hg : g < w.heap.size) (hg' : g' < w.heap.size) (hP : P < B0) (k : Int) (x y : ByteArray) (c : F) (s : Value) (hf : Fs w (Mx B0 g g' w.heap.size) s c) (k2 : Int) (x2 y2 : ByteArray) (c2 : F) (s2 : Value) (hf2 : Fs w (Mx B0 g g' w.heap.size) s2 c2) (k3 : Int) (x3 y3 : ByteArray) (c3 : F) (s3 : Value) (hf3 : Fs w (Mx B0 g g' w.heap.size) s3 c3) (k4 : Int) (x4 y4 : ByteArray) (c4 : F) (s4 : Value) (hf4 : Fs w (Mx B0 g g' w.heap.size) s4 c4) :
  RowX B0 g g' (oneF ⟨k, x, y, c⟩ (oneF ⟨k2, x2, y2, c2⟩ (oneF ⟨k3, x3, y3, c3⟩ (one ⟨k4, x4, y4, c4⟩)))) (.slice (some ⟨w.heap.size, 0, none⟩) 4 4) (w.alloc (.cells #[.int .i64 k, .string x, .string y, s, .int .i64 k2, .string x2, .string y2, s2, .int .i64 k3, .string x3, .string y3, s3, .int .i64 k4, .string x4, .string y4, s4] 24)) :=
 ⟨some ⟨w.heap.size, 0, none⟩, 4, rfl, rowX w B0 g g' [(⟨k, x, y, c⟩, s), (⟨k2, x2, y2, c2⟩, s2), (⟨k3, x3, y3, c3⟩, s3), (⟨k4, x4, y4, c4⟩, s4)] _ (by rfl) 4 rfl (by omega) hB hg hg' P hP (fun p hp => by
  simp only [List.mem_cons, List.not_mem_nil, or_false] at hp
  rcases hp with rfl | rfl | rfl | rfl <;> assumption)⟩
end Go.Proofs.YtaiihnniblibaaaGreatDoor.Parse
