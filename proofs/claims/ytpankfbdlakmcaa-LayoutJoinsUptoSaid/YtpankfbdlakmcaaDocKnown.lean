/-
  Layer 7 (doc): the laws' own example (known). Written by gen_docknown.py.
-/
import Derived.Test.YtpankfbdlakmcaaDocBuilt
import Derived.Test.YtpankfbdlakmcaaDocFew
import Derived.Test.YtpankfbdlakmcaaMemRel
namespace Go.Proofs.Ytpankfbdlakmcaa.Doc
open Go.ChangeShapes Go.WideShapes Go.ChangeAt Go.RowKit Mem
set_option linter.unusedVariables false

def XF : Nat → Prop := fun _ => False
/-- A document without parts that a call answers. -/
def LeafPost (k : Int) (x : ByteArray) (w : World) (e : Ending) (w' : World) : Prop := (∃ (A : Option Addr) (C : Nat), C ≤ 9223372036854775807 ∧ e = .returned (.agg #[.int .i64 k, .string x, .slice A 0 C])) ∧ Below w.heap.size w w'
theorem leaf_of {k : Int} {x : ByteArray} {w : World} {f : Nat} {args : Array Value} (h : Calls Try.prog f args w (DocPost XF ⟨k, x, .nil⟩ w)) : Calls Try.prog f args w (LeafPost k x w) := by
  refine h.mono ?_
  rintro e w' ⟨s, rfl, ⟨A, C, rfl, hC⟩, hb⟩
  exact ⟨⟨A, C, hC, rfl⟩, hb⟩
theorem hard_leaf (w : World) : Calls Try.prog 23 #[] w (LeafPost 4 emp w) := leaf_of (hard_any XF w)
theorem soft_leaf (w : World) : Calls Try.prog 27 #[] w (LeafPost 3 emp w) := leaf_of (soft_any XF w)
theorem line_leaf (w : World) : Calls Try.prog 28 #[] w (LeafPost 2 emp w) := leaf_of (line_any XF w)
theorem text_leaf (x : ByteArray) (hx : x.toList ≠ []) (w : World) : Calls Try.prog 26 #[.string x] w (LeafPost 1 x w) := leaf_of (by have := text_any XF x w; unfold textN at this; rwa [if_neg hx] at this)
/-- Documents that have just been laid, one behind the other. -/
theorem gs_new {X : Nat → Prop} (ps : List Nv) (w : World) (hX : ∀ b, X b → b < w.heap.size) (hk : ∀ p ∈ ps, Gs w (Dx X w) p.2 p.1.c) (hb : ps.length ≤ 1000 := by simp) :
    Gs (w.alloc (.cells (ps.flatMap ndC).toArray 32)) (Dx X (w.alloc (.cells (ps.flatMap ndC).toArray 32))) (.slice (some ⟨w.heap.size, 0, none⟩) ps.length ps.length) (ofL (ps.map (·.1))) := by
  have hb1 := (Below.refl w.heap.size w).alloc (Nat.le_refl _) (.cells (ps.flatMap ndC).toArray 32)
  have hx := heap_alloc_new w (.cells (ps.flatMap ndC).toArray 32)
  refine RowC.gs ps 0 ps.length ps.length rfl (Nat.le_refl _) (by omega) ⟨⟨_, _, hx⟩, fun h => by have := hX _ h; omega⟩ (fun i p hp => ?_) (fun p hp => (hk p hp).dxB hb1) _ (.inr rfl)
  have key : ∀ j u, (ndC p)[j]? = some u → (w.alloc (.cells (ps.flatMap ndC).toArray 32)).cell? ⟨w.heap.size, i * 3 + j, none⟩ = some u := fun j u hu => by
    have := MemT.flat_at ndC_len ps i p hp j u hu
    rw [World.cell?_alloc_at _ _ _ _ rfl]
    simpa using this
  simp only [Nat.zero_add]
  exact ⟨key 0 _ rfl, key 1 _ rfl, key 2 _ rfl⟩
def kT (l : List UInt8) : Nd := ⟨1, ⟨l.toArray⟩, .nil⟩
/-- The inner row, and the whole. -/
def kI : Nd := ⟨0, emp, ofL [⟨3, emp, .nil⟩, kT [97, 44], ⟨2, emp, .nil⟩, kT [98]]⟩
def kD : Nd := ⟨0, emp, ofL [kT [102, 40], nestN kI, kT [41]]⟩
theorem kI_row : rowN [⟨3, emp, .nil⟩, kT [97, 44], ⟨2, emp, .nil⟩, kT [98]] = kI := rfl
theorem kD_row : rowN [kT [102, 40], nestN kI, kT [41]] = kD := rfl
theorem kD2_row : rowN [kD, (⟨4, emp, .nil⟩ : Nd)] = ⟨0, emp, ofL [kD, (⟨4, emp, .nil⟩ : Nd)]⟩ := rfl
theorem kD_flat : flS (pcs1 kD) = ⟨#[102, 40, 97, 44, 32, 98, 41]⟩ ∧ noHard (pcs1 kD) = true ∧ (pcs1 kD).length = 8 := by refine ⟨?_, ?_, ?_⟩ <;> decide +kernel
theorem kD2_flat : flS (pcs1 (⟨0, emp, ofL [kD, (⟨4, emp, .nil⟩ : Nd)]⟩ : Nd)) = ⟨#[]⟩ ∧ noHard (pcs1 (⟨0, emp, ofL [kD, (⟨4, emp, .nil⟩ : Nd)]⟩ : Nd)) = false := by refine ⟨?_, ?_⟩ <;> decide +kernel
theorem kD_len : (flB (pcs1 kD)).length ≤ 140737488355328 := by decide +kernel
theorem kD2_len : (flB (pcs1 (⟨0, emp, ofL [kD, (⟨4, emp, .nil⟩ : Nd)]⟩ : Nd))).length ≤ 140737488355328 := by decide +kernel
theorem kD_size : nsize kD ≤ 100000 := by decide +kernel
theorem kD2_size : nsize (⟨0, emp, ofL [kD, (⟨4, emp, .nil⟩ : Nd)]⟩ : Nd) ≤ 100000 := by decide +kernel
theorem kI_ok : okN kI := ⟨by decide, by decide, trivial, by decide, trivial, by decide, trivial, by decide, trivial, trivial⟩
theorem kD_ok : okN kD := ⟨by decide, by decide, trivial, by decide, (okN_nest kI_ok).2, by decide, trivial, trivial⟩
theorem kD2_ok : okN (⟨0, emp, ofL [kD, (⟨4, emp, .nil⟩ : Nd)]⟩ : Nd) := ⟨by decide, by decide, kD_ok.2, by decide, trivial, trivial⟩
/-- A document with n parts that a call answers. -/
def DkPost (k : Int) (n : Nat) (g : G) (w : World) (e : Ending) (w' : World) : Prop := (∃ (A : Option Addr) (C : Nat), e = .returned (.agg #[.int .i64 k, .string ⟨#[]⟩, .slice A n C]) ∧ Gs w' (Dx XF w') (.slice A n C) g) ∧ Below w.heap.size w w'
theorem dk_of {k : Int} {n : Nat} {g : G} {w : World} {f : Nat} {args : Array Value} (hn : g.len = n) (h : Calls Try.prog f args w (DocPost XF ⟨k, emp, g⟩ w)) : Calls Try.prog f args w (DkPost k n g w) := by
  refine h.mono ?_
  rintro e w' ⟨s, rfl, hg, hb⟩
  obtain ⟨A, C, rfl, _, _⟩ := hg.slice
  dsimp only at hg ⊢
  rw [hn] at hg ⊢
  exact ⟨⟨A, C, rfl, hg⟩, hb⟩
def LkPost (k : Int) (x : ByteArray) (w : World) (e : Ending) (w' : World) : Prop := LeafPost k x w e w'
theorem ne_of {l : List UInt8} (h : l ≠ []) : (⟨l.toArray⟩ : ByteArray).toList ≠ [] := by rw [ByteArray.toList_eq]; simpa using h
theorem xf (w : World) : ∀ b, XF b → b < w.heap.size := fun b hb => hb.elim
theorem nil_gs {w : World} {S : Nat → Prop} {A : Option Addr} {C : Nat} (hC : C ≤ 9223372036854775807) : Gs w S (.slice A 0 C) .nil := ⟨A, C, rfl, hC⟩
end Go.Proofs.Ytpankfbdlakmcaa.Doc
