/-
  Layer 7 (doc): Text, Line, Soft, Hard, Nest, Group: these documents.
-/
import Derived.Test.YtpankfbdlakmcaaDocFlat
namespace Go.Proofs.Ytpankfbdlakmcaa.Doc
open Go.ChangeShapes Go.WideShapes Go.ChangeAt Go.RowKit Mem
set_option linter.unusedVariables false

/-- A block of documents, none of X. -/
def Dx (X : Nat → Prop) (w : World) (b : Nat) : Prop := Db w b ∧ ¬ X b
theorem Gs.dx {X : Nat → Prop} {w w' : World} {v : Value} {g : G} (h : Gs w (Dx X w) v g) (hk : ∀ b, Dx X w b → w'.heap[b]? = w.heap[b]?) : Gs w' (Dx X w') v g :=
  (h.keep hk).more fun b hb => by obtain ⟨⟨cs, fz, e⟩, hx⟩ := hb; exact ⟨⟨cs, fz, (hk b ⟨⟨cs, fz, e⟩, hx⟩).trans e⟩, hx⟩
theorem Gs.dxB {X : Nat → Prop} {w w' : World} {v : Value} {g : G} (h : Gs w (Dx X w) v g) (hb : Below w.heap.size w w') : Gs w' (Dx X w') v g := h.dx fun b hb' => hb.block b hb'.1.lt
theorem Gs.toDb {X : Nat → Prop} {w : World} {v : Value} {g : G} (h : Gs w (Dx X w) v g) : Gs w (Db w) v g := h.more fun b hb => hb.1
/-- A document that a call answers. -/
def DocPost (X : Nat → Prop) (nd : Nd) (w : World) (e : Ending) (w' : World) : Prop := ∃ s, e = .returned (.agg #[.int .i64 nd.k, .string nd.x, s]) ∧ Gs w' (Dx X w') s nd.c ∧ Below w.heap.size w w'
theorem doc_size : (Try.prog.info? 32).map (·.size) = some 3 := by kernel_rfl
theorem Gs.nil' (w : World) (S : Nat → Prop) : Gs w S (.slice none 0 0) .nil := ⟨none, 0, rfl, by omega⟩
set_option maxRecDepth 100000 in
theorem text_any (X : Nat → Prop) (x : ByteArray) (w : World) : Calls Try.prog 26 #[.string x] w (DocPost X (textN x) w) := by
  by_cases hx : x.toList = []
  · have hx2 : (x.toList == []) = true := by simpa using hx
    have he : textN x = ⟨0, emp, .nil⟩ := by unfold textN; rw [if_pos hx]
    have hb := (Below.refl w.heap.size w).alloc (Nat.le_refl _) (.cells #[.int .i64 0, .string ⟨#[]⟩, .slice none 0 0] 32)
    rw [he]
    clear he hx
    go_enter Try.func26, Try.ntmps26
    go_wp2
    refine bodyPost_ret (results_cell_row rfl _ _ w.heap.size 32 _ (0, 0) _ rfl (heap_alloc_new _ _) Try.underlying32 rfl doc_size) rfl ?_
    exact ⟨_, rfl, Gs.nil' _ _, hb⟩
  · have hne : (x.toList == []) = false := by simpa using hx
    have he : textN x = ⟨1, x, .nil⟩ := by unfold textN; rw [if_neg hx]
    have hb := (Below.refl w.heap.size w).alloc (Nat.le_refl _) (.cells #[.int .i64 1, .string x, .slice none 0 0] 32)
    rw [he]
    clear he hx
    go_enter Try.func26, Try.ntmps26
    go_wp2
    refine bodyPost_ret (results_cell_row rfl _ _ w.heap.size 32 _ (0, 0) _ rfl (heap_alloc_new _ _) Try.underlying32 rfl doc_size) rfl ?_
    exact ⟨_, rfl, Gs.nil' _ _, hb⟩
set_option maxRecDepth 100000 in
theorem line_any (X : Nat → Prop) (w : World) : Calls Try.prog 28 #[] w (DocPost X ⟨2, emp, .nil⟩ w) := by
  have hb := (Below.refl w.heap.size w).alloc (Nat.le_refl _) (.cells #[.int .i64 2, .string ⟨#[]⟩, .slice none 0 0] 32)
  go_enter Try.func28, Try.ntmps28
  go_wp2
  refine bodyPost_ret (results_cell_row rfl _ _ w.heap.size 32 _ (0, 0) _ rfl (heap_alloc_new _ _) Try.underlying32 rfl doc_size) rfl ?_
  exact ⟨_, rfl, Gs.nil' _ _, hb⟩
set_option maxRecDepth 100000 in
theorem soft_any (X : Nat → Prop) (w : World) : Calls Try.prog 27 #[] w (DocPost X ⟨3, emp, .nil⟩ w) := by
  have hb := (Below.refl w.heap.size w).alloc (Nat.le_refl _) (.cells #[.int .i64 3, .string ⟨#[]⟩, .slice none 0 0] 32)
  go_enter Try.func27, Try.ntmps27
  go_wp2
  refine bodyPost_ret (results_cell_row rfl _ _ w.heap.size 32 _ (0, 0) _ rfl (heap_alloc_new _ _) Try.underlying32 rfl doc_size) rfl ?_
  exact ⟨_, rfl, Gs.nil' _ _, hb⟩
set_option maxRecDepth 100000 in
theorem hard_any (X : Nat → Prop) (w : World) : Calls Try.prog 23 #[] w (DocPost X ⟨4, emp, .nil⟩ w) := by
  have hb := (Below.refl w.heap.size w).alloc (Nat.le_refl _) (.cells #[.int .i64 4, .string ⟨#[]⟩, .slice none 0 0] 32)
  go_enter Try.func23, Try.ntmps23
  go_wp2
  refine bodyPost_ret (results_cell_row rfl _ _ w.heap.size 32 _ (0, 0) _ rfl (heap_alloc_new _ _) Try.underlying32 rfl doc_size) rfl ?_
  exact ⟨_, rfl, Gs.nil' _ _, hb⟩
theorem wrap_fin {X : Nat → Prop} (K : Int) (nd : Nd) (s : Value) (w : World) (hX : ∀ b, X b → b < w.heap.size) (hs : Gs w (Dx X w) s nd.c) : ∃ W,
    ((w.alloc (.cells #[.int .i64 nd.k, .string nd.x, s] 32)).alloc (.cells #[.int .i64 K, .string ⟨#[]⟩, .slice (some ⟨w.heap.size + 1 + 1, 0, none⟩) 1 1] 32)).alloc (.cells #[.int .i64 nd.k, .string nd.x, s] 32) = W ∧
    W.heap[w.heap.size + 1]? = some (Obj.cells #[.int .i64 K, .string ⟨#[]⟩, .slice (some ⟨w.heap.size + 1 + 1, 0, none⟩) 1 1] 32 (0, 0)) ∧ Gs W (Dx X W) (.slice (some ⟨w.heap.size + 1 + 1, 0, none⟩) 1 1) (.cons nd.k nd.x nd.c .nil) ∧ Below w.heap.size w W := by
  refine ⟨_, rfl, ?_⟩
  have b1 := (Below.refl w.heap.size w).alloc (Nat.le_refl _) (.cells #[.int .i64 nd.k, .string nd.x, s] 32)
  have hz1 : (w.alloc (.cells #[.int .i64 nd.k, .string nd.x, s] 32)).heap.size = w.heap.size + 1 := World.size_alloc _ _
  generalize w.alloc (.cells #[.int .i64 nd.k, .string nd.x, s] 32) = w1 at *
  generalize (Obj.cells #[.int .i64 K, .string ⟨#[]⟩, .slice (some ⟨w.heap.size + 1 + 1, 0, none⟩) 1 1] 32) = o2 at *
  have hx2 : (w1.alloc o2).heap[w1.heap.size]? = some o2 := heap_alloc_new _ _
  have b2 := (Below.refl w1.heap.size w1).alloc (Nat.le_refl _) o2
  have hz2 : (w1.alloc o2).heap.size = w1.heap.size + 1 := World.size_alloc _ _
  generalize w1.alloc o2 = w2 at *
  have hx3 : (w2.alloc (.cells #[.int .i64 nd.k, .string nd.x, s] 32)).heap[w2.heap.size]? = some (Obj.cells #[.int .i64 nd.k, .string nd.x, s] 32 (0, 0)) := heap_alloc_new _ _
  have b3 := (Below.refl w2.heap.size w2).alloc (Nat.le_refl _) (.cells #[.int .i64 nd.k, .string nd.x, s] 32)
  generalize w2.alloc (.cells #[.int .i64 nd.k, .string nd.x, s] 32) = w3 at *
  rw [hz1] at hz2 hx2
  rw [hz2] at hx3
  have b13 : Below (w.heap.size + 1) w1 w3 := (b2.mono (by omega)).trans (b3.mono (by omega))
  have b03 : Below w.heap.size w w3 := b1.trans (b13.mono (by omega))
  obtain ⟨r0, r1, r2⟩ := cl3 hx3
  refine ⟨(b3.block (w.heap.size + 1) (by omega)).trans hx2, ⟨w.heap.size + 1 + 1, 0, 0, 0, s, rfl, rfl, Nat.le_refl _, by omega, ⟨⟨_, _, hx3⟩, fun h => by have := hX _ h; omega⟩, r0, r1, r2, hs.dxB b03, fun A' hA => ⟨A', 0, rfl, by omega⟩⟩, b03⟩
set_option maxRecDepth 100000 in
theorem nest_any {X : Nat → Prop} (nd : Nd) (s : Value) (w : World) (hX : ∀ b, X b → b < w.heap.size) (hs : Gs w (Dx X w) s nd.c) : Calls Try.prog 24 #[.agg #[.int .i64 nd.k, .string nd.x, s]] w (DocPost X (nestN nd) w) := by
  obtain ⟨W, hW, hx, hg, hb⟩ := wrap_fin 5 nd s w hX hs
  obtain ⟨A, C, rfl, _, _⟩ := hs.slice
  obtain ⟨k, x, c⟩ := nd
  dsimp only at hs hW hg ⊢
  obtain ⟨q0, q1, q2⟩ := cl3 (heap_alloc_new w (.cells #[.int .i64 k, .string x, .slice A c.len C] 32))
  have HW := Lib.hid hW
  clear hW
  go_enter Try.func24, Try.ntmps24
  go_wp2
  rw [HW.out]
  refine bodyPost_ret (results_cell_row rfl _ _ (w.heap.size + 1) 32 _ (0, 0) _ rfl hx Try.underlying32 rfl doc_size) rfl ?_
  exact ⟨_, rfl, hg, hb⟩
set_option maxRecDepth 100000 in
theorem group_any {X : Nat → Prop} (nd : Nd) (s : Value) (w : World) (hX : ∀ b, X b → b < w.heap.size) (hs : Gs w (Dx X w) s nd.c) : Calls Try.prog 21 #[.agg #[.int .i64 nd.k, .string nd.x, s]] w (DocPost X (groupN nd) w) := by
  obtain ⟨W, hW, hx, hg, hb⟩ := wrap_fin 7 nd s w hX hs
  obtain ⟨A, C, rfl, _, _⟩ := hs.slice
  obtain ⟨k, x, c⟩ := nd
  dsimp only at hs hW hg ⊢
  obtain ⟨q0, q1, q2⟩ := cl3 (heap_alloc_new w (.cells #[.int .i64 k, .string x, .slice A c.len C] 32))
  have HW := Lib.hid hW
  clear hW
  go_enter Try.func21, Try.ntmps21
  go_wp2
  rw [HW.out]
  refine bodyPost_ret (results_cell_row rfl _ _ (w.heap.size + 1) 32 _ (0, 0) _ rfl hx Try.underlying32 rfl doc_size) rfl ?_
  exact ⟨_, rfl, hg, hb⟩
end Go.Proofs.Ytpankfbdlakmcaa.Doc
