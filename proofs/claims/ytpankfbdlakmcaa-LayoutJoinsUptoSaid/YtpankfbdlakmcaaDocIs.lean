/-
  Layer 7 (doc): documents that calls answer, told by their pieces alone.
-/
import Derived.Test.YtpankfbdlakmcaaDocWrapsLaw
namespace Go.Proofs.Ytpankfbdlakmcaa.Doc
open Go.ChangeShapes Go.WideShapes Go.ChangeAt Go.RowKit Mem
set_option linter.unusedVariables false

/-- k, x and the slice A n C read as a document with pieces l, of at most N parts, in none of X. -/
def IsD (X : Nat → Prop) (w : World) (N : Nat) (l : List Pc) (k : Int) (x : ByteArray) (A : Option Addr) (n C : Nat) : Prop :=
  ∃ c, Gs w (Dx X w) (.slice A n C) c ∧ pcs1 ⟨k, x, c⟩ = l ∧ nsize ⟨k, x, c⟩ ≤ N ∧ okN ⟨k, x, c⟩
def IdPost (X : Nat → Prop) (N : Nat) (l : List Pc) (w : World) (e : Ending) (w' : World) : Prop := (∃ k x A n C, e = .returned (.agg #[.int .i64 k, .string x, .slice A n C]) ∧ IsD X w' N l k x A n C) ∧ Below w.heap.size w w'
section
variable {X X' : Nat → Prop} {w w' : World} {N : Nat} {l : List Pc} {k : Int} {x : ByteArray} {A : Option Addr} {n C f : Nat} {args : Array Value}
theorem id_of {nd : Nd} (hl : pcs1 nd = l) (hN : nsize nd ≤ N) (hok : okN nd) (h : Calls Try.prog f args w (DocPost X nd w)) : Calls Try.prog f args w (IdPost X N l w) := by
  refine h.mono ?_
  rintro e w' ⟨s, rfl, hg, hb⟩
  obtain ⟨A, C, rfl, _, _⟩ := hg.slice
  exact ⟨⟨_, _, A, _, C, rfl, nd.c, hg, hl, hN, hok⟩, hb⟩
theorem IsD.later (h : IsD X w N l k x A n C) (hb : Below w.heap.size w w') : IsD X w' N l k x A n C := by
  obtain ⟨c, h1, h2⟩ := h
  exact ⟨c, h1.dxB hb, h2⟩
theorem IsD.dx (h : IsD X w N l k x A n C) (hk : ∀ b, Dx X w b → w'.heap[b]? = w.heap[b]?) : IsD X w' N l k x A n C := by
  obtain ⟨c, h1, h2⟩ := h
  exact ⟨c, h1.dx hk, h2⟩
theorem IsD.less (h : IsD X w N l k x A n C) (hx : ∀ b, X' b → X b) : IsD X' w N l k x A n C := by
  obtain ⟨c, h1, h2⟩ := h
  exact ⟨c, h1.more fun b hb => ⟨hb.1, fun h => hb.2 (hx b h)⟩, h2⟩
/-- What has been taken in since is out of reach. -/
theorem IsD.out (h : IsD X w N l k x A n C) (hb : Below w.heap.size w w') (hx : ∀ b, X' b → X b ∨ w.heap.size ≤ b) : IsD X' w' N l k x A n C := by
  obtain ⟨c, h1, h2⟩ := h
  refine ⟨c, (h1.keep (fun b hb' => hb.block b hb'.1.lt)).more fun b hb' => ?_, h2⟩
  obtain ⟨⟨cs, fz, e⟩, hx2⟩ := hb'
  have hlt := lt_of e
  refine ⟨⟨cs, fz, (hb.block b hlt).trans e⟩, fun h => ?_⟩
  rcases hx b h with h | h
  · exact hx2 h
  · omega
theorem IsD.len (h : IsD X w N l k x A n C) : l.length ≤ 2 * N := by
  obtain ⟨c, _, rfl, h2, _⟩ := h
  have h3 := one_len k x c.len (pcs c)
  have h4 := pcs_len c
  have h5 : (pcs1 ⟨k, x, c⟩).length ≤ (pcs c).length + 2 := h3
  simp only [nsize] at h2
  omega
theorem plain_own (h : IsD X w N l k x A n C) (hN : N ≤ 100000) : Calls Try.prog 18 #[.agg #[.int .i64 k, .string x, .slice A n C]] w (PlainPost l w) := by
  obtain ⟨c, h1, rfl, h2, h3⟩ := h
  exact plain_any ⟨k, x, c⟩ (.slice A n C) w (by omega) h1.toDb h3
theorem plain_is (h : IsD X w N l k x A n C) (hN : N ≤ 100000) {m : Nat} (hm : l.length = m) : Calls Try.prog 18 #[.agg #[.int .i64 k, .string x, .slice A n C]] w (PlPost l m w) := pl_of hm (plain_own h hN)
theorem flat_is (h : IsD X w N l k x A n C) (hN : N ≤ 100000) (hf : (flB l).length ≤ 140737488355328) : Calls Try.prog 20 #[.agg #[.int .i64 k, .string x, .slice A n C]] w (FlatPost l w) := by
  obtain ⟨c, h1, rfl, h2, h3⟩ := h
  exact flat_any ⟨k, x, c⟩ (.slice A n C) w (by omega) h1.toDb h3 hf
theorem nest_is (hX : ∀ b, X b → b < w.heap.size) (h : IsD X w N l k x A n C) : Calls Try.prog 24 #[.agg #[.int .i64 k, .string x, .slice A n C]] w (IdPost X (N + 1) (((5, emp) : Pc) :: (l ++ [((6, emp) : Pc)])) w) := by
  obtain ⟨c, h1, rfl, h2, h3⟩ := h
  have := wrap_size 5 ⟨k, x, c⟩
  exact id_of (pcs_nest _) (Nat.le_trans this (by omega)) (okN_nest h3) (nest_any ⟨k, x, c⟩ (.slice A n C) w hX h1)
theorem group_is (hX : ∀ b, X b → b < w.heap.size) (h : IsD X w N l k x A n C) : Calls Try.prog 21 #[.agg #[.int .i64 k, .string x, .slice A n C]] w (IdPost X (N + 1) (((7, emp) : Pc) :: (l ++ [((8, emp) : Pc)])) w) := by
  obtain ⟨c, h1, rfl, h2, h3⟩ := h
  have := wrap_size 7 ⟨k, x, c⟩
  exact id_of (pcs_group _) (Nat.le_trans this (by omega)) (okN_group h3) (group_any ⟨k, x, c⟩ (.slice A n C) w hX h1)
theorem text_is (X : Nat → Prop) (w : World) {x : ByteArray} (hx : x.toList ≠ []) : Calls Try.prog 26 #[.string x] w (IdPost X 1 [((1, x) : Pc)] w) := by
  have e : textN x = ⟨1, x, .nil⟩ := by unfold textN; rw [if_neg hx]
  exact id_of (by rw [e]; rfl) (by rw [e]; exact Nat.le_refl _) (okN_text x) (text_any X x w)
theorem line_is (X : Nat → Prop) (w : World) : Calls Try.prog 28 #[] w (IdPost X 1 [((2, emp) : Pc)] w) := id_of (nd := ⟨2, emp, .nil⟩) rfl (by decide) ⟨by decide, trivial⟩ (line_any X w)
theorem hard_is (X : Nat → Prop) (w : World) : Calls Try.prog 23 #[] w (IdPost X 1 [((4, emp) : Pc)] w) := id_of (nd := ⟨4, emp, .nil⟩) rfl (by decide) ⟨by decide, trivial⟩ (hard_any X w)
/-- The document of a plan. -/
theorem built_is (hX : ∀ b, X b → b < w.heap.size) {c : G} (hc : c.size + 1 < 400) (hs : Gs w (Lo w.heap.size) (.slice A n C) c) : Calls Try.prog 12 #[.agg #[.int .i64 k, .string x, .slice A n C]] w (IdPost X 800 (plOne k x (plP c)) w) :=
  id_of (pcs_b1 k x c) (by have := b1_size k x c; omega) (okN_b1 k x c) (built_any c.size (by omega) X k x A n C c w (Nat.le_refl _) hX hs)
end

/-- Cells that read as documents, one behind the other. -/
def Ds (X : Nat → Prop) (w : World) (vs : List Value) (ls : List (List Pc)) (M : Nat) : Prop :=
  ∃ ps : List Nv, ps.flatMap ndC = vs ∧ (∀ p ∈ ps, Gs w (Dx X w) p.2 p.1.c) ∧ ps.map (fun p => pcs1 p.1) = ls ∧ (ofL (ps.map (·.1))).size ≤ M ∧ ∀ p ∈ ps, okN p.1
section
variable {X : Nat → Prop} {w w' : World} {N M : Nat} {l : List Pc} {k : Int} {x : ByteArray} {A : Option Addr} {n C : Nat} {vs : List Value} {ls : List (List Pc)}
theorem Ds.nil : Ds X w [] [] 0 := ⟨[], rfl, (fun p hp => by cases hp), rfl, Nat.le_refl _, fun p hp => by cases hp⟩
theorem Ds.cons (h : IsD X w N l k x A n C) (r : Ds X w vs ls M) : Ds X w (.int .i64 k :: .string x :: .slice A n C :: vs) (l :: ls) (N + M) := by
  obtain ⟨c, h1, h2, h3, h4⟩ := h
  obtain ⟨ps, r1, r2, r3, r4, r5⟩ := r
  refine ⟨(⟨k, x, c⟩, .slice A n C) :: ps, ?_, fun p hp => ?_, ?_, ?_, fun p hp => ?_⟩
  · rw [List.flatMap_cons, r1]; rfl
  · rcases List.mem_cons.1 hp with rfl | hp
    · exact h1
    · exact r2 p hp
  · rw [List.map_cons, r3, h2]
  · simp only [List.map_cons, ofL, G.size, nsize] at r4 h3 ⊢
    omega
  · rcases List.mem_cons.1 hp with rfl | hp
    · exact h4
    · exact r5 p hp
theorem Ds.later (h : Ds X w vs ls M) (hb : Below w.heap.size w w') : Ds X w' vs ls M := by
  obtain ⟨ps, r1, r2, r3⟩ := h
  exact ⟨ps, r1, fun p hp => (r2 p hp).dxB hb, r3⟩
theorem pcs_ofL : ∀ l : List Nd, pcs (ofL l) = (l.map pcs1).flatten
  | [] => rfl
  | nd :: l => by simp only [ofL, pcs, List.map_cons, List.flatten_cons, pcs_ofL l]; rfl
theorem ofL_len_size : ∀ l : List Nd, l.length ≤ (ofL l).size
  | [] => Nat.le_refl _
  | nd :: l => by have := ofL_len_size l; simp only [ofL, G.size, List.length_cons]; omega
theorem row_ds (hX : ∀ b, X b → b < w.heap.size) (h : Ds X w vs ls M) (hl : vs.length = n * 3) (hM : M ≤ 50000) (hc : n = 0 ∨ ∃ b off, A = some ⟨b, off, none⟩ ∧ ∀ j u, vs[j]? = some u → w.cell? ⟨b, off + j, none⟩ = some u) (hnC : n ≤ C) (hCm : C ≤ maxLen) :
    Calls Try.prog 22 #[.slice A n C] w (IdPost X (M + 1) ls.flatten w) := by
  obtain ⟨ps, rfl, r2, rfl, r4, r5⟩ := h
  have hpl : ps.length = n := by rw [MemT.flat_len ndC_len] at hl; omega
  have hle := ofL_len_size (ps.map (·.1))
  rw [List.length_map] at hle
  have hrs := row_size (ps.map (·.1))
  refine id_of (nd := rowN (ps.map (·.1))) ?_ (by omega) (okN_row fun nd hnd => ?_) (row_flat A n C ps _ w hX rfl hpl r2 hc (by omega) hnC hCm)
  · rw [pcs_row, pcs_ofL, List.map_map]; rfl
  · obtain ⟨p, hp, rfl⟩ := List.mem_map.1 hnd
    exact r5 p hp
theorem cells_new (w : World) (vs : List Value) (T : TypeId) : ∀ j u, vs[j]? = some u → (w.alloc (.cells vs.toArray T)).cell? ⟨w.heap.size, 0 + j, none⟩ = some u := fun j u hu => by
  rw [World.cell?_alloc_at _ _ _ _ rfl]
  simpa using hu
/-- A row of documents that have just been laid. -/
theorem row_new (hX : ∀ b, X b → b < w.heap.size) (h : Ds X w vs ls M) (hl : vs.length = n * 3) (hM : M ≤ 50000) :
    Calls Try.prog 22 #[.slice (some ⟨w.heap.size, 0, none⟩) n n] (w.alloc (.cells vs.toArray 32)) (IdPost X (M + 1) ls.flatten (w.alloc (.cells vs.toArray 32))) := by
  have hb := (Below.refl w.heap.size w).alloc (Nat.le_refl _) (.cells vs.toArray 32)
  have hnl : n ≤ 50000 := by
    obtain ⟨ps, rfl, _, _, r4, _⟩ := h
    have hle := ofL_len_size (ps.map (·.1))
    rw [List.length_map] at hle
    rw [MemT.flat_len ndC_len] at hl
    omega
  exact row_ds (fun b hb' => Nat.lt_of_lt_of_le (hX b hb') hb.size) (h.later hb) hl hM (.inr ⟨_, 0, rfl, cells_new w vs _⟩) (Nat.le_refl _) (by unfold maxLen; omega)
/-- Pieces with some between any two. -/
def jnP (b : List Pc) : List (List Pc) → List Pc
  | [] => []
  | a :: r => a ++ (r.flatMap fun d => b ++ d)
theorem pcs_jn (by_ : Nd) : ∀ L : List Nd, pcs (ofL (jn by_ L)) = jnP (pcs1 by_) (L.map pcs1)
  | [] => rfl
  | a :: r => by
    have : ∀ r : List Nd, pcs (ofL (r.flatMap fun d => [by_, d])) = (r.map pcs1).flatMap fun d => pcs1 by_ ++ d := by
      intro r
      induction r with
      | nil => rfl
      | cons d r ih =>
        simp only [List.flatMap_cons, List.map_cons, List.cons_append, List.nil_append, ofL, pcs, ih, List.append_assoc]
        rfl
    simp only [jn, ofL, pcs, List.map_cons, jnP, this]
    rfl
theorem jn_size (by_ : Nd) : ∀ L : List Nd, (ofL (jn by_ L)).size ≤ (ofL L).size + L.length * nsize by_
  | [] => Nat.zero_le _
  | a :: r => by
    have : ∀ r : List Nd, (ofL (r.flatMap fun d => [by_, d])).size ≤ (ofL r).size + r.length * nsize by_ := by
      intro r
      induction r with
      | nil => exact Nat.zero_le _
      | cons d r ih =>
        simp only [List.flatMap_cons, List.cons_append, List.nil_append, ofL, G.size, List.length_cons, Nat.succ_mul, nsize] at ih ⊢
        omega
    have h := this r
    simp only [jn, ofL, G.size, List.length_cons, Nat.succ_mul] at h ⊢
    omega
end
end Go.Proofs.Ytpankfbdlakmcaa.Doc
