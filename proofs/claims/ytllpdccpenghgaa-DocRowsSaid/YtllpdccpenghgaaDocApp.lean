/-
  Layer 7 (doc): rows of pieces appended one to another in a region that draws its order; rows of documents that lie in a block.
-/
import Derived.Test.YtllpdccpenghgaaDocBoxes
import Derived.Maps.AppendAt
namespace Go.Proofs.Ytllpdccpenghgaa.Doc
open Go.ChangeShapes Go.WideShapes Go.ChangeAt Go.RowKit Mem
set_option linter.unusedVariables false

theorem pcC_one (l : List Pc) : ∀ u ∈ l.flatMap pcC, u.oneCell' = true := fun u hu => by
  obtain ⟨p, _, hu⟩ := List.mem_flatMap.1 hu
  simp only [pcC, List.mem_cons, List.not_mem_nil, or_false] at hu
  rcases hu with rfl | rfl <;> rfl
theorem own_low {w : World} {base base' size n : Nat} {E : TypeId} {v : Value} {vs : List Value} (h : w.ownsRow base E size v n vs) (hb : base' ≤ base) : w.ownsRow base' E size v n vs := by
  refine ⟨h.1, ?_⟩
  rcases h.2 with hn | ⟨g, cap, cur, e, h1, h2⟩
  · exact .inl hn
  · exact .inr ⟨g, cap, cur, e, by omega, h2⟩
/-- append as an operation, its run being known. -/
theorem op_append {P : Program} {o : Oper} {a : Act} {W W' : World} {K : Act → World → Prop} {Q : Exit → Act → World → Prop} {s x : Operand} {t1 t2 : TypeId} {vs vx v' : Value} (ho : o.op = .call { callee := .builtin .append, args := #[s, x], argTypes := #[t1, t2] })
    (hs : a.eval s = vs) (hx : a.eval x = vx) (hrun : (Builtin.append_ #[t1, t2] o.type #[vs, vx]).run P W = .ok v' W') (h : K (a.put o.dst v') W') : o.wp P a W K Q := by
  unfold Oper.wp execOp
  simp only [ho, resolve, invoke, builtin, Sem.run_bind, Sem.run_pure, Result.andThen_ok, List.map_toArray, List.map_cons, List.map_nil, hs, hx, hrun]
  exact h
/-- A row of pieces behind another. -/
theorem app_run {W : World} {base base2 : Nat} {v v2 : Value} {l l2 : List Pc} (ty : TypeId) (hown : W.ownsRow base 47 2 v l.length (l.flatMap pcC)) (hown2 : W.ownsRow base2 47 2 v2 l2.length (l2.flatMap pcC)) (h63 : l.length + l2.length ≤ 1000000) (hbase : base ≤ W.heap.size) :
    ∃ v' W', (Builtin.append_ #[37, 37] ty #[v, v2]).run Try.prog W = .ok v' W' ∧ W'.ownsRow base 47 2 v' (l ++ l2).length ((l ++ l2).flatMap pcC) ∧ Below base W W' := by
  obtain ⟨i0, hi0, hz0, hz1, hz2⟩ := info_parts piece_info
  have hT := Try.underlying37
  rcases hown2.2 with ⟨rfl, h0⟩ | ⟨g, cap, cur, rfl, q1, q2, q3, q4, q5, q6⟩
  · have hl2 : l2 = [] := List.eq_nil_of_length_eq_zero h0
    subst hl2
    refine ⟨v, W, ?_, by simpa using hown, Below.refl _ _⟩
    rcases hown.2 with ⟨rfl, hh⟩ | ⟨g, cap, cur, rfl, _, _, hnc, _⟩
    · simp [Builtin.append_, run_underlying hT, sizeOf, typeInfo, hi0, Builtin.lenOf, Builtin.firstCells]
    · simp [Builtin.append_, run_underlying hT, sizeOf, typeInfo, hi0, Builtin.lenOf, Builtin.firstCells, hnc, storeCells]
  · obtain ⟨v', w', hr, h1, h2, _, _⟩ := run_append_own_at (P := Try.prog) W base 37 ty 47 i0 _ 2 24 hT hi0 hz0 hz1 hz2 rfl (by decide) v l.length (l.flatMap pcC) hown ⟨g, 0, none⟩ l2.length cap (l2.flatMap pcC) (MemT.flat_len pcC_len l2) (by
      intro j u hj
      have e2 : (⟨g, 0, none⟩ : Addr).add j = ⟨g, j, none⟩ := by unfold Addr.add; split <;> simp_all
      rw [e2]
      rw [← q6, List.getElem?_take] at hj
      split at hj
      · simpa [World.cell?, q2] using hj
      · cases hj) (pcC_one l2) (by unfold maxLen; omega) (by omega) hbase
    exact ⟨v', w', hr, by rw [List.length_append, List.flatMap_append]; exact h1, (Below.refl base W).grown h2 hbase (fun k e => (hown.lt k e).1)⟩
/-- A row of pieces of one's own behind w0. -/
def Ow (w0 W : World) (v : Value) (l : List Pc) : Prop := W.ownsRow w0.heap.size 47 2 v l.length (l.flatMap pcC)
/-- The region of 'append(append(append([]Piece{}, x..), y..), z..)'. -/
structure IA (w0 : World) (lx ly lz lxy lxyz : List Pc) (vx vy vz : Value) (L : Nat → Bool) (x : Nat → Value) (W : World) : Prop where
  bel : Below w0.heap.size w0 W
  l1 : L 1 = true → x 1 = vx
  l4 : L 4 = true → x 4 = vy
  l7 : L 7 = true → x 7 = vz
  r0 : L 0 = true → L 3 = false → Ow w0 W (x 0) []
  p2 : L 2 = true → L 3 = false → Ow w0 W (x 2) lx
  r3 : L 3 = true → L 6 = false → Ow w0 W (x 3) lx
  p5 : L 5 = true → L 6 = false → Ow w0 W (x 5) ly
  r6 : L 6 = true → L 9 = false → Ow w0 W (x 6) lxy
  p8 : L 8 = true → L 9 = false → Ow w0 W (x 8) lz
  r9 : L 9 = true → Ow w0 W (x 9) lxyz
  rA : L 10 = true → x 10 = x 9
  d3 : L 5 = true → L 3 = true
  d6 : L 6 = true → L 3 = true
  d8 : L 8 = true → L 6 = true
  d9 : L 9 = true → L 6 = true
  dA : L 10 = true → L 9 = true
section
variable {w0 : World} {lx ly lz lxy lxyz : List Pc} {vx vy vz : Value} {L : Nat → Bool} {x : Nat → Value} {W W' : World} {v : Value}
theorem IA.start : IA W lx ly lz lxy lxyz vx vy vz (fun _ => false) x W :=
  ⟨Below.refl _ _, (fun h => by cases h), (fun h => by cases h), (fun h => by cases h), (fun h => by cases h), (fun h => by cases h), (fun h => by cases h), (fun h => by cases h), (fun h => by cases h), (fun h => by cases h), (fun h => by cases h), (fun h => by cases h), (fun h => by cases h), (fun h => by cases h), (fun h => by cases h), (fun h => by cases h), (fun h => by cases h)⟩
/-- All that is not operation q's own stays, in a later world that has all that was. -/
theorem IA.keep (h : IA w0 lx ly lz lxy lxyz vx vy vz L x W) (hb : Below W.heap.size W W') : IA w0 lx ly lz lxy lxyz vx vy vz L x W' :=
  ⟨h.bel.trans (hb.mono h.bel.size), h.l1, h.l4, h.l7, fun a b => own_below' (h.r0 a b) hb, fun a b => own_below' (h.p2 a b) hb, fun a b => own_below' (h.r3 a b) hb, fun a b => own_below' (h.p5 a b) hb, fun a b => own_below' (h.r6 a b) hb, fun a b => own_below' (h.p8 a b) hb, fun a => own_below' (h.r9 a) hb, h.rA, h.d3, h.d6, h.d8, h.d9, h.dA⟩
theorem IA.load1 (h : IA w0 lx ly lz lxy lxyz vx vy vz L x W) : IA w0 lx ly lz lxy lxyz vx vy vz (updL L 1) (updX x 1 vx) W := by
  obtain ⟨a1, a2, a3, a4, a5, a6, a7, a8, a9, a10, a11, a12, a13, a14, a15, a16, a17⟩ := h
  refine ⟨a1, ?_, ?_, ?_, ?_, ?_, ?_, ?_, ?_, ?_, ?_, ?_, ?_, ?_, ?_, ?_, ?_⟩ <;> simp [updL, updX] <;> assumption
theorem IA.load4 (h : IA w0 lx ly lz lxy lxyz vx vy vz L x W) : IA w0 lx ly lz lxy lxyz vx vy vz (updL L 4) (updX x 4 vy) W := by
  obtain ⟨a1, a2, a3, a4, a5, a6, a7, a8, a9, a10, a11, a12, a13, a14, a15, a16, a17⟩ := h
  refine ⟨a1, ?_, ?_, ?_, ?_, ?_, ?_, ?_, ?_, ?_, ?_, ?_, ?_, ?_, ?_, ?_, ?_⟩ <;> simp [updL, updX] <;> assumption
theorem IA.load7 (h : IA w0 lx ly lz lxy lxyz vx vy vz L x W) : IA w0 lx ly lz lxy lxyz vx vy vz (updL L 7) (updX x 7 vz) W := by
  obtain ⟨a1, a2, a3, a4, a5, a6, a7, a8, a9, a10, a11, a12, a13, a14, a15, a16, a17⟩ := h
  refine ⟨a1, ?_, ?_, ?_, ?_, ?_, ?_, ?_, ?_, ?_, ?_, ?_, ?_, ?_, ?_, ?_, ?_⟩ <;> simp [updL, updX] <;> assumption
theorem IA.new (h : IA w0 lx ly lz lxy lxyz vx vy vz L x W)  (hb : Below W.heap.size W W') (ho : Ow w0 W' v []) : IA w0 lx ly lz lxy lxyz vx vy vz (updL L 0) (updX x 0 v) W' := by
  obtain ⟨a1, a2, a3, a4, a5, a6, a7, a8, a9, a10, a11, a12, a13, a14, a15, a16, a17⟩ := h.keep hb
  refine ⟨a1, ?_, ?_, ?_, ?_, ?_, ?_, ?_, ?_, ?_, ?_, ?_, ?_, ?_, ?_, ?_, ?_⟩ <;> simp [updL, updX] <;> first | assumption | (intros; assumption) | skip
theorem IA.plain2 (h : IA w0 lx ly lz lxy lxyz vx vy vz L x W)  (hb : Below W.heap.size W W') (ho : Ow w0 W' v lx) : IA w0 lx ly lz lxy lxyz vx vy vz (updL L 2) (updX x 2 v) W' := by
  obtain ⟨a1, a2, a3, a4, a5, a6, a7, a8, a9, a10, a11, a12, a13, a14, a15, a16, a17⟩ := h.keep hb
  refine ⟨a1, ?_, ?_, ?_, ?_, ?_, ?_, ?_, ?_, ?_, ?_, ?_, ?_, ?_, ?_, ?_, ?_⟩ <;> simp [updL, updX] <;> first | assumption | (intros; assumption) | skip
theorem IA.plain5 (h : IA w0 lx ly lz lxy lxyz vx vy vz L x W) (e0 : L 3 = true) (hb : Below W.heap.size W W') (ho : Ow w0 W' v ly) : IA w0 lx ly lz lxy lxyz vx vy vz (updL L 5) (updX x 5 v) W' := by
  obtain ⟨a1, a2, a3, a4, a5, a6, a7, a8, a9, a10, a11, a12, a13, a14, a15, a16, a17⟩ := h.keep hb
  refine ⟨a1, ?_, ?_, ?_, ?_, ?_, ?_, ?_, ?_, ?_, ?_, ?_, ?_, ?_, ?_, ?_, ?_⟩ <;> simp [updL, updX] <;> first | assumption | (intros; assumption) | skip
theorem IA.plain8 (h : IA w0 lx ly lz lxy lxyz vx vy vz L x W) (e0 : L 6 = true) (hb : Below W.heap.size W W') (ho : Ow w0 W' v lz) : IA w0 lx ly lz lxy lxyz vx vy vz (updL L 8) (updX x 8 v) W' := by
  obtain ⟨a1, a2, a3, a4, a5, a6, a7, a8, a9, a10, a11, a12, a13, a14, a15, a16, a17⟩ := h.keep hb
  refine ⟨a1, ?_, ?_, ?_, ?_, ?_, ?_, ?_, ?_, ?_, ?_, ?_, ?_, ?_, ?_, ?_, ?_⟩ <;> simp [updL, updX] <;> first | assumption | (intros; assumption) | skip
theorem IA.app3 (h : IA w0 lx ly lz lxy lxyz vx vy vz L x W) (hL : L 3 = false)  (hb : Below w0.heap.size W W') (ho : Ow w0 W' v lx) : IA w0 lx ly lz lxy lxyz vx vy vz (updL L 3) (updX x 3 v) W' := by
  have f5 : L 5 = false := by cases e : L 5 with | false => rfl | true => rw [h.d3 e] at hL; exact hL
  have f6 : L 6 = false := by cases e : L 6 with | false => rfl | true => rw [h.d6 e] at hL; exact hL
  have f8 : L 8 = false := by cases e : L 8 with | false => rfl | true => rw [h.d8 e] at f6; exact f6
  have f9 : L 9 = false := by cases e : L 9 with | false => rfl | true => rw [h.d9 e] at f6; exact f6
  have fA : L 10 = false := by cases e : L 10 with | false => rfl | true => rw [h.dA e] at f9; exact f9
  obtain ⟨a1, a2, a3, a4, a5, a6, a7, a8, a9, a10, a11, a12, a13, a14, a15, a16, a17⟩ := h
  refine ⟨a1.trans hb, ?_, ?_, ?_, ?_, ?_, ?_, ?_, ?_, ?_, ?_, ?_, ?_, ?_, ?_, ?_, ?_⟩ <;> simp [updL, updX, f5, f6, f8, f9, fA] <;> first | assumption | (intros; assumption) | skip
theorem IA.app6 (h : IA w0 lx ly lz lxy lxyz vx vy vz L x W) (hL : L 6 = false) (e0 : L 3 = true) (hb : Below w0.heap.size W W') (ho : Ow w0 W' v lxy) : IA w0 lx ly lz lxy lxyz vx vy vz (updL L 6) (updX x 6 v) W' := by
  have f8 : L 8 = false := by cases e : L 8 with | false => rfl | true => rw [h.d8 e] at hL; exact hL
  have f9 : L 9 = false := by cases e : L 9 with | false => rfl | true => rw [h.d9 e] at hL; exact hL
  have fA : L 10 = false := by cases e : L 10 with | false => rfl | true => rw [h.dA e] at f9; exact f9
  obtain ⟨a1, a2, a3, a4, a5, a6, a7, a8, a9, a10, a11, a12, a13, a14, a15, a16, a17⟩ := h
  refine ⟨a1.trans hb, ?_, ?_, ?_, ?_, ?_, ?_, ?_, ?_, ?_, ?_, ?_, ?_, ?_, ?_, ?_, ?_⟩ <;> simp [updL, updX, f8, f9, fA, e0] <;> first | assumption | (intros; assumption) | skip
theorem IA.app9 (h : IA w0 lx ly lz lxy lxyz vx vy vz L x W) (hL : L 9 = false) (e0 : L 3 = true) (e1 : L 6 = true) (hb : Below w0.heap.size W W') (ho : Ow w0 W' v lxyz) : IA w0 lx ly lz lxy lxyz vx vy vz (updL L 9) (updX x 9 v) W' := by
  have fA : L 10 = false := by cases e : L 10 with | false => rfl | true => rw [h.dA e] at hL; exact hL
  obtain ⟨a1, a2, a3, a4, a5, a6, a7, a8, a9, a10, a11, a12, a13, a14, a15, a16, a17⟩ := h
  refine ⟨a1.trans hb, ?_, ?_, ?_, ?_, ?_, ?_, ?_, ?_, ?_, ?_, ?_, ?_, ?_, ?_, ?_, ?_⟩ <;> simp [updL, updX, fA, e0, e1] <;> first | assumption | (intros; assumption) | skip
theorem IA.last (h : IA w0 lx ly lz lxy lxyz vx vy vz L x W) (e0 : L 9 = true) : IA w0 lx ly lz lxy lxyz vx vy vz (updL L 10) (updX x 10 (x 9)) W := by
  obtain ⟨a1, a2, a3, a4, a5, a6, a7, a8, a9, a10, a11, a12, a13, a14, a15, a16, a17⟩ := h
  refine ⟨a1, ?_, ?_, ?_, ?_, ?_, ?_, ?_, ?_, ?_, ?_, ?_, ?_, ?_, ?_, ?_, ?_⟩ <;> simp [updL, updX] <;> assumption
end
section
variable {X : Nat → Prop} {w : World} {n M g : Nat} {vs : List Value} {ls : List (List Pc)}
theorem cells_at {T : TypeId} {fz : Nat × Nat} (hg : w.heap[g]? = some (Obj.cells vs.toArray T fz)) : ∀ j u, vs[j]? = some u → w.cell? ⟨g, 0 + j, none⟩ = some u := fun j u hu => by
  simp only [World.cell?, hg, Nat.zero_add]
  simpa using hu
theorem ds_len (h : Ds X w vs ls M) (hl : vs.length = n * 3) : n ≤ M := by
  obtain ⟨ps, rfl, _, _, r4, _⟩ := h
  have hle := ofL_len_size (ps.map (·.1))
  rw [List.length_map] at hle
  rw [MemT.flat_len ndC_len] at hl
  omega
/-- A row of documents that lie in block g. -/
theorem row_at (hX : ∀ b, X b → b < w.heap.size) (h : Ds X w vs ls M) (hl : vs.length = n * 3) (hM : M ≤ 50000) (hg : w.heap[g]? = some (Obj.cells vs.toArray 29 (0, 0))) :
    Calls Try.prog 16 #[.slice (some ⟨g, 0, none⟩) n n] w (IdPost X (M + 1) ls.flatten w) := by
  have := ds_len h hl
  exact row_ds hX h hl hM (.inr ⟨_, 0, rfl, cells_at hg⟩) (Nat.le_refl _) (by unfold maxLen; omega)
theorem join_at {kb : Int} {xb : ByteArray} {Ab : Option Addr} {nb Cb Nb : Nat} {lb : List Pc} (hX : ∀ b, X b → b < w.heap.size) (hb : IsD X w Nb lb kb xb Ab nb Cb) (h : Ds X w vs ls M) (hl : vs.length = n * 3) (hM : M ≤ 50000) (hg : w.heap[g]? = some (Obj.cells vs.toArray 29 (0, 0))) :
    Calls Try.prog 17 #[.agg #[.int .i64 kb, .string xb, .slice Ab nb Cb], .slice (some ⟨g, 0, none⟩) n n] w (IdPost X (M + n * Nb + 1) (jnP lb ls) w) := by
  have := ds_len h hl
  exact join_ds hX hb h hl hM (.inr ⟨_, 0, rfl, lt_of hg, cells_at hg⟩) (Nat.le_refl _) (by unfold maxLen; omega)
theorem row_none (hX : ∀ b, X b → b < w.heap.size) : Calls Try.prog 16 #[.slice none 0 0] w (IdPost X 1 [] w) := row_ds (A := none) (n := 0) (C := 0) hX Ds.nil rfl (by omega) (.inl rfl) (Nat.le_refl _) (by unfold maxLen; omega)
theorem join_none {kb : Int} {xb : ByteArray} {Ab : Option Addr} {nb Cb Nb : Nat} {lb : List Pc} (hX : ∀ b, X b → b < w.heap.size) (hb : IsD X w Nb lb kb xb Ab nb Cb) : Calls Try.prog 17 #[.agg #[.int .i64 kb, .string xb, .slice Ab nb Cb], .slice none 0 0] w (IdPost X (0 + 0 * Nb + 1) [] w) := join_ds (A := none) (n := 0) (C := 0) hX hb Ds.nil rfl (by omega) (.inl rfl) (Nat.le_refl _) (by unfold maxLen; omega)
theorem zero_is (X : Nat → Prop) (w : World) : IsD X w 1 [] 0 ⟨#[]⟩ none 0 0 := ⟨.nil, Gs.nil' _ _, rfl, Nat.le_refl _, by decide, trivial⟩
end
theorem ow_form {w0 W : World} {v : Value} {l : List Pc} {m : Nat} (hm : l.length = m) (h : Ow w0 W v l) : ∃ (A : Option Addr) (C : Nat), v = .slice A m C ∧ m ≤ C ∧ C ≤ maxLen ∧ RdP W A l := by
  subst hm
  have h0 : W.ownsRow w0.heap.size 47 2 v l.length (l.flatMap pcC) := h
  rcases h0.2 with ⟨e, hz⟩ | ⟨g, cap, cur, e, _, _, h3, h4, _⟩
  · exact ⟨none, 0, by rw [e, hz], by omega, by unfold maxLen; omega, .inl (List.eq_nil_of_length_eq_zero hz)⟩
  · exact ⟨_, cap, e, h3, h4, RdP.of_own (e ▸ h0)⟩
end Go.Proofs.Ytllpdccpenghgaa.Doc
