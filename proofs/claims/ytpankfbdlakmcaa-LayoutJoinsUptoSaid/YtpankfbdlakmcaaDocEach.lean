/-
  Layer 7 (doc): each hands on a document's pieces; the functions that take them: counting, a list.
-/
import Derived.Test.YtpankfbdlakmcaaDocGather
import Derived.Test.YtpankfbdlakmcaaMemT
import Derived.Laws.EntriesVeiled
namespace Go.Proofs.Ytpankfbdlakmcaa.Doc
open Go.ChangeShapes Go.WideShapes Go.ChangeAt Go.RowKit Mem
set_option linter.unusedVariables false

theorem set_at {w : World} {g : Nat} {cs : Array Value} {T : TypeId} (h : w.heap[g]? = some (Obj.cells cs T (0, 0))) (i : Nat) (v : Value) : (w.setCell ⟨g, i, none⟩ v).heap[g]? = some (Obj.cells (cs.setIfInBounds i v) T (0, 0)) := by
  have hlt := lt_of h
  have h' : w.heap[g] = .cells cs T (0, 0) := by simpa [Array.getElem?_eq_getElem hlt] using h
  show (w.heap.modify g _)[g]? = _
  rw [Array.getElem?_eq_getElem (by simpa using hlt), Array.getElem_modify_self, h']
  simp
theorem frz {W : World} {g : Nat} {cs : Array Value} {T : TypeId} (h : W.heap[g]? = some (Obj.cells cs T (0, 0))) (i : Nat) : W.frozen? ⟨g, i, none⟩ = false := by simp [World.frozen?, h]
theorem cl0 {W : World} {g : Nat} {v : Value} {T : TypeId} (h : W.heap[g]? = some (Obj.cells #[v] T (0, 0))) : W.cell? ⟨g, 0, none⟩ = some v := by simp [World.cell?, h]
section
variable {B0 : Nat} {w w' W W' : World}
/-- A store into a variable of the function that takes pieces. -/
theorem Kept.set {z : Nat} {cs : Array Value} {T : TypeId} {fz : Nat × Nat} (hz : W.heap[z]? = some (Obj.cells cs T fz)) (hT : Snk T) (hB : B0 ≤ z) (v : Value) : Kept B0 W (W.setCell ⟨z, 0, none⟩ v) := by
  have hb := grownBy_setCell' W z v
  refine ⟨hb.os, hb.tape, hb.output, hb.size, fun k o hk hc => ?_⟩
  by_cases e : k = z
  · subst e
    rw [hz] at hk
    cases hk
    rcases hc with hc | hc
    · omega
    · exact absurd hT (hc _ _ _ rfl)
  · exact (hb.block k (lt_of hk) (by intro e2; injection e2 with e2; exact e e2)).trans hk
/-- A row of the function's own that has grown. -/
theorem Kept.row {base n size : Nat} {E : TypeId} {v : Value} {vs : List Value} (hg : W.grownBy W' v.ownBlock) (ho : W.ownsRow base E size v n vs) (hT : Snk E) (hB : B0 ≤ base) : Kept B0 W W' := by
  refine ⟨hg.os, hg.tape, hg.output, hg.size, fun k o hk hc => ?_⟩
  by_cases e : some k = v.ownBlock
  · rcases ho.2 with ⟨rfl, _⟩ | ⟨b, cap, cur, rfl, h1, h2, _⟩
    · cases e
    · have e : k = b := by simpa [Value.ownBlock] using e
      subst e
      rw [h2] at hk
      cases hk
      rcases hc with hc | hc
      · omega
      · exact absurd hT (hc _ _ _ rfl)
  · exact (hg.block k (lt_of hk) e).trans hk
end

/-! ### each -/
theorem each_start (gto : Nat) (caps : Array Value) (nd : Nd) (s : Value) (w : World) (hs : Gs w (Db w) s nd.c) (hok : okN nd) : ∃ W,
    ((w.alloc (.cells #[.int .i64 nd.k, .string nd.x, s] 32)).alloc (.cells #[.func (.func gto) #[] caps] 71)).alloc (.cells #[.func (.func 47) #[] #[.pointer (some ⟨w.heap.size + 1, 0, none⟩), .pointer (some ⟨w.heap.size + 1 + 1, 0, none⟩)]] 87) = W ∧
    Below w.heap.size w W ∧ NdAt W w.heap.size 0 nd s ∧ Bxs gto caps (w.heap.size + 1) (w.heap.size + 1 + 1) W ∧ w.heap.size + 3 ≤ W.heap.size := by
  refine ⟨_, rfl, ?_⟩
  generalize hgv : Value.func (.func 47) #[] #[.pointer (some ⟨w.heap.size + 1, 0, none⟩), .pointer (some ⟨w.heap.size + 1 + 1, 0, none⟩)] = gv
  have hx1 : (w.alloc (.cells #[.int .i64 nd.k, .string nd.x, s] 32)).heap[w.heap.size]? = some (Obj.cells #[.int .i64 nd.k, .string nd.x, s] 32 (0, 0)) := heap_alloc_new _ _
  have b1 := (Below.refl w.heap.size w).alloc (Nat.le_refl _) (.cells #[.int .i64 nd.k, .string nd.x, s] 32)
  have hz1 : (w.alloc (.cells #[.int .i64 nd.k, .string nd.x, s] 32)).heap.size = w.heap.size + 1 := World.size_alloc _ _
  generalize w.alloc (.cells #[.int .i64 nd.k, .string nd.x, s] 32) = w1 at *
  have hx2 : (w1.alloc (.cells #[.func (.func gto) #[] caps] 71)).heap[w1.heap.size]? = some (Obj.cells #[.func (.func gto) #[] caps] 71 (0, 0)) := heap_alloc_new _ _
  have b2 := (Below.refl w1.heap.size w1).alloc (Nat.le_refl _) (.cells #[.func (.func gto) #[] caps] 71)
  have hz2 : (w1.alloc (.cells #[.func (.func gto) #[] caps] 71)).heap.size = w1.heap.size + 1 := World.size_alloc _ _
  generalize w1.alloc (.cells #[.func (.func gto) #[] caps] 71) = w2 at *
  have hx4 : (w2.alloc (.cells #[gv] 87)).heap[w2.heap.size]? = some (Obj.cells #[gv] 87 (0, 0)) := heap_alloc_new _ _
  have b3 := (Below.refl w2.heap.size w2).alloc (Nat.le_refl _) (.cells #[gv] 87)
  have hz4 : (w2.alloc (.cells #[gv] 87)).heap.size = w2.heap.size + 1 := World.size_alloc _ _
  generalize w2.alloc (.cells #[gv] 87) = w4 at *
  rw [hz1] at hz2 hx2
  rw [hz2] at hz4 hx4
  have b24 : Below (w.heap.size + 1 + 1) w2 w4 := b3.mono (by omega)
  have b14 : Below (w.heap.size + 1) w1 w4 := (b2.mono (by omega)).trans (b24.mono (by omega))
  have b04 : Below w.heap.size w w4 := b1.trans (b14.mono (by omega))
  have e0 : w4.heap[w.heap.size]? = _ := (b14.block w.heap.size (by omega)).trans hx1
  have e1 : w4.heap[w.heap.size + 1]? = _ := (b24.block (w.heap.size + 1) (by omega)).trans hx2
  refine ⟨b04, ⟨⟨_, _, e0⟩, by simp [World.cell?, e0], by simp [World.cell?, e0], by simp [World.cell?, e0], hs.dbB b04, hok⟩, ⟨e1, by rw [hgv]; exact hx4⟩, by omega⟩

set_option maxRecDepth 100000 in
set_option maxHeartbeats 2000000 in
theorem each_any {B0 gto : Nat} {I : World → List Pc → Prop} {caps : Array Value} (nd : Nd) (s : Value) (w : World) (hS : Sink B0 I (pcs1 nd) gto caps) (hN : nsize nd ≤ 1000000) (hs : Gs w (Db w) s nd.c) (hok : okN nd) (hI : I w []) :
    Calls Try.prog 33 #[.agg #[.int .i64 nd.k, .string nd.x, s], .func (.func gto) #[] caps] w fun e w' => e = .returned (.tuple #[]) ∧ I w' (pcs1 nd) ∧ Kept B0 w w' := by
  obtain ⟨W, hW, hb, hnd, hbx, hsz⟩ := each_start gto caps nd s w hs hok
  have HG := Lib.hid (gather_any hS (gt := w.heap.size + 1) (gg := w.heap.size + 1 + 1) 1000000 (Nat.le_refl _) nd w.heap.size 0 s W [] [] hN hnd hbx (hS.keep _ _ _ hI (QK.ofB hb)) (by simp))
  have HB := Lib.hid hb
  have hq := hbx.c2
  obtain ⟨A, C, hsl, _, _⟩ := hs.slice
  rw [hsl] at hW
  rw [hsl]
  have HW := Lib.hid hW
  clear hb hnd hbx hs hI hS hsl hW
  obtain ⟨k, x, c⟩ := nd
  dsimp only at HW ⊢
  go_enter Try.func33, Try.ntmps33
  go_wp2_with fail
  rw [HW.out]
  refine HG.out.mono ?_
  rintro e w' ⟨rfl, hi, hk⟩
  have HI := Lib.hid hi
  have HK := Lib.hid ((Kept.ofB HB.out).trans hk)
  clear hi hk
  go_wp2
  go_end0
  exact ⟨rfl, HI.out, HK.out⟩
end Go.Proofs.Ytpankfbdlakmcaa.Doc
