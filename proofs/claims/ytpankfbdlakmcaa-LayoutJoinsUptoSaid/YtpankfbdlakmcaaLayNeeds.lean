/-
  Layer 8 (layout): needs. Written by gen_layneeds.py.
-/
import Derived.Test.YtpankfbdlakmcaaLayBack
import Derived.Test.YtpankfbdlakmcaaLayAdd
import Derived.Test.YtpankfbdlakmcaaMemCall
namespace Go.Proofs.Ytpankfbdlakmcaa.Doc
open Go.ChangeShapes Go.WideShapes Go.ChangeAt Go.RowKit Mem
set_option linter.unusedVariables false
attribute [local go_sem] Oper.semAt_some

def iV (l : List Nat) : List Value := l.map fun (v : Nat) => Value.int .i64 (v : Int)
theorem iV_len (l : List Nat) : (iV l).length = l.length := by simp [iV]
theorem int_info : (Try.prog.info? 3).map (fun i => (i.zero, i.size, i.bytes)) = some (some (.int .i64 0), 1, 8) := by kernel_rfl
theorem make_ints (n : Nat) (hn : n ≤ 1000000) (w : World) : (Instr.makeSlice 57 (.int .i64 (n : Int)) (.int .i64 (n : Int))).run Try.prog w = .ok (.slice (some ⟨w.heap.size, 0, none⟩) n n) (w.alloc (.cells (iV (List.replicate n 0)).toArray 3)) := by
  obtain ⟨i0, hi0, hz0, hz1, hz2⟩ := info_parts int_info
  have h := run_make (P := Try.prog) w 57 3 i0 (.int .i64 0) Try.underlying57 hi0 hz0 .i64 .i64 n n (by omega) (Int.le_refl _) (by rw [hz2]; omega) (by omega)
  rw [h]
  simp only [Int.toNat_natCast]
  congr 2
  have : madeCells (Value.int .i64 0).cells (n * i0.size) = (iV (List.replicate n 0)).toArray := by
    rw [hz1, Nat.mul_one]
    apply Array.toList_inj.1
    have := toList_madeCells_one (Value.int .i64 0) n
    simp only [Value.cells]
    rw [this]
    simp [iV]
  rw [this]
/-- append of one integer onto a row of the call's own, inside a fence. -/
theorem appIn_int {F : Fence} {n : Nat} (w : World) {ops : Array Oper} {rest : List Oper} {o : Oper} {a : Act} {Q : Exit → Act → World → Prop} (hgd : o.guard = none) (s x : Operand)
    (ho : o.op = .call { callee := .builtin .append, args := #[s, x], argTypes := #[57, 57] }) (base : Nat) (v : Value) (m : Nat) (vs : List Value) (line : Value) (hs : a.eval s = v)
    (hown : w.ownsRow base 3 1 v m vs) (h1 : line.oneCell' = true) (g : Nat) (hg : g = w.heap.size) (hx : a.eval x = .slice (some ⟨g, 0, none⟩) 1 1) (h63 : m ≤ 1000000000) (hbase : base ≤ w.heap.size)
    (h : ∀ v' w', w'.ownsRow base 3 1 v' (m + 1) (vs ++ [line]) → (w.alloc (.cells #[line] 3)).grownBy w' v.ownBlock → wpListIn F n Try.prog ops Q rest (a.put o.dst v') w') :
    wpListIn F n Try.prog ops Q (o :: rest) a (w.alloc (.cells #[line] 3)) := by
  obtain ⟨i0, hi0, hz0, hz1, hz2⟩ := info_parts int_info
  subst hg
  refine wpListIn_plain hgd fun K hK => ?_
  obtain ⟨v', w', hr, h2, h3, _, h5⟩ := run_append_own_at (P := Try.prog) (w.alloc (.cells #[line] 3)) base 57 o.type 3 i0 (.int .i64 0) 1 8 Try.underlying57 hi0 hz0 hz1 hz2 rfl (by decide) v m vs (hown.alloc _) ⟨w.heap.size, 0, none⟩ 1 1 [line] rfl (cell_one_new _ _ _) (by simp [h1]) (by unfold maxLen; omega) (by omega) (by simp; omega)
  unfold Oper.wpIn
  refine ⟨?_, ?_⟩
  · simp [Oper.about, ho, resolve, Target.leads, Sem.run_pure]
  · rw [Oper.semAt_plain F _ _ (by rw [ho]; intro c hc'; cases hc')]
    simp [execOp, ho, resolve, invoke, builtin, hs, hx, hr, Result.andThen]
    exact hK _ _ (h v' w' h2 h3)

/-- What each piece needs where it begins a group. -/
def needL : List Pc → List Nat
  | [] => []
  | p :: l => (if p.1 = 7 then gwp 0 l else 0) :: needL l
theorem brk_pos {p : Pc} {l : List Pc} (h : isB p.1 = true) : brk (p :: l) = fwp p + sumP l := if_pos h
theorem brk_neg {p : Pc} {l : List Pc} (h : isB p.1 = false) : brk (p :: l) = brk l := if_neg (by rw [h]; decide)
theorem bst_neg {p : Pc} {l : List Pc} (h8 : p.1 ≠ 8) (h7 : p.1 ≠ 7) : bst (p :: l) = bst l := (if_neg h8).trans (if_neg h7)
theorem needL_neg {p : Pc} {l : List Pc} (h7 : p.1 ≠ 7) : needL (p :: l) = 0 :: needL l := by show _ :: _ = _; rw [if_neg h7]
theorem ko_drew (W : World) : KeepsOthers W W.drew := ⟨Nat.le_refl _, fun _ _ h _ => h⟩
theorem needL_len : ∀ l : List Pc, (needL l).length = l.length
  | [] => rfl
  | p :: l => by simp only [needL, List.length_cons, needL_len l]
theorem needL_at : ∀ (l : List Pc) (i : Nat) (p : Pc), l[i]? = some p → (needL l)[i]? = some (if p.1 = 7 then gwp 0 (l.drop (i + 1)) else 0)
  | [], i, p, h => by simp at h
  | q :: l, 0, p, h => by simp only [List.getElem?_cons_zero, Option.some.injEq] at h; subst h; rfl
  | q :: l, i + 1, p, h => by simpa [needL] using needL_at l i p (by simpa using h)
theorem gwp_le : ∀ (l : List Pc) (d : Nat), gwp d l ≤ sumP l
  | [], d => by unfold gwp; exact Nat.le_refl _
  | p :: l, d => by
    show gwp d (p :: l) ≤ fwp p + sumP l
    unfold gwp
    split
    · cases d with
      | zero => have := bw_brk l; simp only []; omega
      | succ d => have := gwp_le l d; simp only []; omega
    · split
      · have := gwp_le l (d + 1); omega
      · have := gwp_le l d; omega
theorem needL_le : ∀ (l : List Pc) (i v : Nat), (needL l)[i]? = some v → v ≤ sumP l
  | [], i, v, h => by simp [needL] at h
  | p :: l, 0, v, h => by
    simp only [needL, List.getElem?_cons_zero, Option.some.injEq] at h
    subst h
    show _ ≤ fwp p + sumP l
    split
    · have := gwp_le l 0; omega
    · omega
  | p :: l, i + 1, v, h => by
    have := needL_le l i v (by simpa [needL] using h)
    show _ ≤ fwp p + sumP l
    omega
theorem sumP_drop : ∀ (l : List Pc) (i : Nat), sumP (l.drop i) ≤ sumP l
  | [], i => by simp
  | p :: l, 0 => Nat.le_refl _
  | p :: l, i + 1 => by have := sumP_drop l i; show sumP (l.drop i) ≤ fwp p + sumP l; omega
theorem brk_le : ∀ l : List Pc, brk l ≤ sumP l := fun l => by have := bw_brk l; omega
theorem dep_drop (o c : Int) : ∀ (l : List Pc) (n i : Nat), dep o c n l = some 0 → ∃ g, dep o c g (l.drop i) = some 0
  | [], n, i, h => ⟨n, by simpa using h⟩
  | p :: l, n, 0, h => ⟨n, h⟩
  | p :: l, n, i + 1, h => by
    unfold dep at h
    split at h
    · exact dep_drop o c l _ i h
    · split at h
      · cases n with
        | zero => cases h
        | succ n => exact dep_drop o c l _ i h
      · exact dep_drop o c l _ i h
theorem bst_le : ∀ (l : List Pc), ∀ v ∈ bst l, v ≤ sumP l
  | [], v, h => by simp [bst] at h
  | p :: l, v, h => by
    show v ≤ fwp p + sumP l
    unfold bst at h
    split at h
    · rcases List.mem_cons.1 h with rfl | h
      · have := brk_le l; omega
      · have := bst_le l v h; omega
    · split at h
      · have := bst_le l v (List.mem_of_mem_tail h); omega
      · have := bst_le l v h; omega
theorem bst_length_le : ∀ (l : List Pc), (bst l).length ≤ l.length
  | [] => Nat.le_refl _
  | p :: l => by
    have := bst_length_le l
    unfold bst
    split
    · simp only [List.length_cons]; omega
    · split
      · simp only [List.length_tail, List.length_cons]; omega
      · simp only [List.length_cons]; omega

/-- The variables of needs, all behind block z: needed (and its row), sum, broken, behind (and its row), and the variable of Backward. -/
structure NI (w0 : World) (z m C : Nat) (a : Option Addr) (sv bv : Nat) (hv rv : List Nat) (W : World) : Prop where
  row : W.heap[z]? = some (.cells (iV rv).toArray 3 (0, 0))
  ned : W.heap[z + 1]? = some (.cells #[.slice (some ⟨z, 0, none⟩) m m] 57 (0, 0))
  sum : W.heap[z + 1 + 1]? = some (.cells #[.int .i64 (sv : Int)] 3 (0, 0))
  brk : W.heap[z + 1 + 1 + 1]? = some (.cells #[.int .i64 (bv : Int)] 3 (0, 0))
  beh : ∃ v, W.heap[z + 1 + 1 + 1 + 1]? = some (.cells #[v] 57 (0, 0)) ∧ W.ownsRow (z + 6) 3 1 v hv.length (iV hv.reverse)
  box : W.heap[z + 5]? = some (.cells #[.slice a m C] 42 (0, 0))
  bel : Below z w0 W
section
variable {w0 : World} {z m C : Nat} {a : Option Addr} {sv bv : Nat} {hv rv : List Nat} {W W' : World}
theorem NI.csum (h : NI w0 z m C a sv bv hv rv W) : W.cell? ⟨z + 1 + 1, 0, none⟩ = some (.int .i64 (sv : Int)) := cl0 h.sum
theorem NI.fsum (h : NI w0 z m C a sv bv hv rv W) : W.frozen? ⟨z + 1 + 1, 0, none⟩ = false := frz h.sum 0
theorem NI.cbrk (h : NI w0 z m C a sv bv hv rv W) : W.cell? ⟨z + 1 + 1 + 1, 0, none⟩ = some (.int .i64 (bv : Int)) := cl0 h.brk
theorem NI.fbrk (h : NI w0 z m C a sv bv hv rv W) : W.frozen? ⟨z + 1 + 1 + 1, 0, none⟩ = false := frz h.brk 0
theorem NI.cned (h : NI w0 z m C a sv bv hv rv W) : W.cell? ⟨z + 1, 0, none⟩ = some (.slice (some ⟨z, 0, none⟩) m m) := cl0 h.ned
theorem NI.crow (h : NI w0 z m C a sv bv hv rv W) (i : Nat) : W.cell? ⟨z, i, none⟩ = (iV rv)[i]? := by simp [World.cell?, h.row]
theorem NI.frow (h : NI w0 z m C a sv bv hv rv W) (i : Nat) : W.frozen? ⟨z, i, none⟩ = false := frz h.row i
theorem NI.size (h : NI w0 z m C a sv bv hv rv W) : z + 6 ≤ W.heap.size := by have := lt_of h.box; omega
/-- What turns at most one block, which is none of these, and none below. -/
theorem own_ge {B n : Nat} {v : Value} {xs : List Value} {E : TypeId} (h : W.ownsRow B E 1 v n xs) {b : Nat} (hb : b < B) (hg : W.grownBy W' (some b)) : W'.ownsRow B E 1 v n xs :=
  h.kept hg (.inr fun e => by have := (h.lt b e).1; omega)
theorem own_any {B n : Nat} {v : Value} {xs : List Value} {E : TypeId} (h : W.ownsRow B E 1 v n xs) (hk : ∀ (k : Nat) (cs : Array Value) (fz : Nat × Nat), W.heap[k]? = some (Obj.cells cs E fz) → W'.heap[k]? = some (Obj.cells cs E fz)) : W'.ownsRow B E 1 v n xs := by
  refine ⟨h.1, ?_⟩
  rcases h.2 with hn | ⟨g, cap, cur, e, h1, h2, h3⟩
  · exact .inl hn
  · exact .inr ⟨g, cap, cur, e, h1, hk _ _ _ h2, h3⟩
/-- Cells are as they were. -/
theorem NI.same (h : NI w0 z m C a sv bv hv rv W) (hk : ∀ (k : Nat) (cs : Array Value) (T : TypeId) (fz : Nat × Nat), W.heap[k]? = some (Obj.cells cs T fz) → W'.heap[k]? = some (Obj.cells cs T fz)) (hb : Below z W W') : NI w0 z m C a sv bv hv rv W' := by
  obtain ⟨v, h1, h2⟩ := h.beh
  exact ⟨hk _ _ _ _ h.row, hk _ _ _ _ h.ned, hk _ _ _ _ h.sum, hk _ _ _ _ h.brk, ⟨v, hk _ _ _ _ h1, own_any h2 fun k cs fz e => hk k cs _ fz e⟩, hk _ _ _ _ h.box, h.bel.trans hb⟩
theorem NI.drew (h : NI w0 z m C a sv bv hv rv W) : NI w0 z m C a sv bv hv rv W.drew := ⟨h.row, h.ned, h.sum, h.brk, h.beh, h.box, ⟨h.bel.os, h.bel.tape, h.bel.output, h.bel.size, h.bel.block⟩⟩
theorem NI.later (h : NI w0 z m C a sv bv hv rv W) (hb : Below W.heap.size W W') : NI w0 z m C a sv bv hv rv W' :=
  h.same (fun k cs T fz e => (hb.block k (lt_of e)).trans e) (hb.mono (by have := h.size; omega))
theorem NI.nc (h : NI w0 z m C a sv bv hv rv W) {row : Option Nat} (hg : W.grownBy W' row) (hr : ∀ r, row = some r → z + 6 ≤ r ∧ ∃ o : Obj, W.heap[r]? = some o ∧ o.isCells = false) : NI w0 z m C a sv bv hv rv W' :=
  h.same (fun k cs T fz e => (hg.block k (lt_of e) (fun e2 => by
    obtain ⟨_, o, q1, q2⟩ := hr k e2.symm
    rw [e] at q1; cases q1; cases q2)).trans e) ((Below.refl z W).grown hg (by have := h.size; omega) (fun k e => by have := (hr k e).1; omega))
theorem set_ne (W : World) {b k : Nat} (j : Nat) (u : Value) (h : b ≠ k) : (W.setCell ⟨b, j, none⟩ u).heap[k]? = W.heap[k]? := Below.heap_setCell _ _ _ _ (fun e => h (by simpa using e.symm))
theorem NI.setSum (h : NI w0 z m C a sv bv hv rv W) (n : Nat) : NI w0 z m C a n bv hv rv (W.setCell ⟨z + 1 + 1, 0, none⟩ (.int .i64 (n : Int))) := by
  obtain ⟨v, h1, h2⟩ := h.beh
  refine ⟨(set_ne W 0 _ (by omega)).trans h.row, (set_ne W 0 _ (by omega)).trans h.ned, set_at h.sum 0 _, (set_ne W 0 _ (by omega)).trans h.brk, ⟨v, (set_ne W 0 _ (by omega)).trans h1, own_ge h2 (by omega) (set_grown W _ 0 _)⟩, (set_ne W 0 _ (by omega)).trans h.box, h.bel.setCell (p := ⟨z + 1 + 1, 0, none⟩) (by show z ≤ z + 1 + 1; omega) _⟩
theorem NI.setBrk (h : NI w0 z m C a sv bv hv rv W) (n : Nat) : NI w0 z m C a sv n hv rv (W.setCell ⟨z + 1 + 1 + 1, 0, none⟩ (.int .i64 (n : Int))) := by
  obtain ⟨v, h1, h2⟩ := h.beh
  refine ⟨(set_ne W 0 _ (by omega)).trans h.row, (set_ne W 0 _ (by omega)).trans h.ned, (set_ne W 0 _ (by omega)).trans h.sum, set_at h.brk 0 _, ⟨v, (set_ne W 0 _ (by omega)).trans h1, own_ge h2 (by omega) (set_grown W _ 0 _)⟩, (set_ne W 0 _ (by omega)).trans h.box, h.bel.setCell (p := ⟨z + 1 + 1 + 1, 0, none⟩) (by show z ≤ z + 1 + 1 + 1; omega) _⟩
theorem NI.setRow (h : NI w0 z m C a sv bv hv rv W) (i n : Nat) (rv' : List Nat) (hr : (iV rv).set i (.int .i64 (n : Int)) = iV rv') : NI w0 z m C a sv bv hv rv' (W.setCell ⟨z, i, none⟩ (.int .i64 (n : Int))) := by
  obtain ⟨v, h1, h2⟩ := h.beh
  refine ⟨?_, (set_ne W i _ (by omega)).trans h.ned, (set_ne W i _ (by omega)).trans h.sum, (set_ne W i _ (by omega)).trans h.brk, ⟨v, (set_ne W i _ (by omega)).trans h1, own_ge h2 (by omega) (set_grown W _ i _)⟩, (set_ne W i _ (by omega)).trans h.box, h.bel.setCell (p := ⟨z, i, none⟩) (Nat.le_refl z) _⟩
  rw [set_at h.row i _, ← hr]
  simp
theorem NI.setBeh (h : NI w0 z m C a sv bv hv rv W) {u : Value} {hv' : List Nat} (ho : W.ownsRow (z + 6) 3 1 u hv'.length (iV hv'.reverse)) : NI w0 z m C a sv bv hv' rv (W.setCell ⟨z + 1 + 1 + 1 + 1, 0, none⟩ u) := by
  obtain ⟨v, h1, h2⟩ := h.beh
  refine ⟨(set_ne W 0 _ (by omega)).trans h.row, (set_ne W 0 _ (by omega)).trans h.ned, (set_ne W 0 _ (by omega)).trans h.sum, (set_ne W 0 _ (by omega)).trans h.brk, ⟨u, set_at h1 0 _, own_ge ho (by omega) (set_grown W _ 0 _)⟩, (set_ne W 0 _ (by omega)).trans h.box, h.bel.setCell (p := ⟨z + 1 + 1 + 1 + 1, 0, none⟩) (by show z ≤ z + 1 + 1 + 1 + 1; omega) _⟩
/-- One is appended to behind's row: the rest is as it was (behind itself is told anew by setBeh). -/
theorem NI.push (h : NI w0 z m C a sv bv hv rv W) {v v' : Value} (hc : W.heap[z + 1 + 1 + 1 + 1]? = some (.cells #[v] 57 (0, 0))) {line : Value} (hg : (W.alloc (.cells #[line] 3)).grownBy W' v.ownBlock) (hlt : ∀ k, v.ownBlock = some k → z + 6 ≤ k)
    (ho : W'.ownsRow (z + 6) 3 1 v' (hv.length + 1) (iV hv.reverse ++ [.int .i64 (bv : Int)])) : NI w0 z m C a sv bv (bv :: hv) rv (W'.setCell ⟨z + 1 + 1 + 1 + 1, 0, none⟩ v') := by
  have hs := h.size
  have hk : ∀ k cs T fz, k < z + 6 → W.heap[k]? = some (.cells cs T fz) → W'.heap[k]? = some (.cells cs T fz) := fun k cs T fz hk e => (hg.block k (by have := lt_of e; simp; omega) (fun e2 => by have := hlt k e2.symm; omega)).trans ((Lib.alloc_old W _ k (lt_of e)).trans e)
  have hb : Below z W W' := ((Below.refl z W).alloc (by omega) _).grown hg (by simp; omega) (fun k e => by have := hlt k e; omega)
  have e : iV (bv :: hv).reverse = iV hv.reverse ++ [.int .i64 (bv : Int)] := by simp [iV]
  refine ⟨(set_ne W' 0 _ (by omega)).trans (hk _ _ _ _ (by omega) h.row), (set_ne W' 0 _ (by omega)).trans (hk _ _ _ _ (by omega) h.ned), (set_ne W' 0 _ (by omega)).trans (hk _ _ _ _ (by omega) h.sum), (set_ne W' 0 _ (by omega)).trans (hk _ _ _ _ (by omega) h.brk), ⟨v', set_at (hk _ _ _ _ (by omega) hc) 0 _, ?_⟩,
    (set_ne W' 0 _ (by omega)).trans (hk _ _ _ _ (by omega) h.box), (h.bel.trans hb).setCell (p := ⟨z + 1 + 1 + 1 + 1, 0, none⟩) (by show z ≤ z + 1 + 1 + 1 + 1; omega) _⟩
  rw [e]
  exact own_ge ho (by omega) (set_grown W' _ 0 _)
theorem push_cell (h : NI w0 z m C a sv bv hv rv W) {v : Value} (hc : W.heap[z + 1 + 1 + 1 + 1]? = some (Obj.cells #[v] 57 (0, 0))) {line : Value} (hg : (W.alloc (.cells #[line] 3)).grownBy W' v.ownBlock) (hlt : ∀ k, v.ownBlock = some k → z + 6 ≤ k) : W'.heap[z + 1 + 1 + 1 + 1]? = some (Obj.cells #[v] 57 (0, 0)) :=
  (hg.block _ (by have := lt_of hc; simp; omega) (fun e2 => by have := hlt _ e2.symm; omega)).trans ((Lib.alloc_old W _ _ (lt_of hc)).trans hc)
theorem own_isCells {B n size : Nat} {v : Value} {xs : List Value} {E : TypeId} (h : W.ownsRow B E size v n xs) : ∀ (j : Nat) (o : Obj), v.ownBlock = some j → W.heap[j]? = some o → o.isCells = true := by
  intro j o hj ho
  rcases h.2 with ⟨rfl, _⟩ | ⟨g, cap, cur, rfl, _, hg, _⟩
  · simp [Value.ownBlock] at hj
  · simp only [Value.ownBlock, Option.some.injEq] at hj
    subst hj
    rw [hg] at ho
    cases ho
    rfl
theorem NI.bform (h : NI w0 z m C a sv bv hv rv W) : ∃ A c, W.heap[z + 1 + 1 + 1 + 1]? = some (.cells #[.slice A hv.length c] 57 (0, 0)) ∧ hv.length ≤ c ∧ c ≤ maxLen ∧ W.ownsRow (z + 6) 3 1 (.slice A hv.length c) hv.length (iV hv.reverse) ∧
    ∀ v r, hv = v :: r → ∃ g, A = some ⟨g, 0, none⟩ ∧ W.cell? ⟨g, r.length, none⟩ = some (.int .i64 (v : Int)) ∧ W.ownsRow (z + 6) 3 1 (.slice (some ⟨g, 0, none⟩) r.length c) r.length (iV r.reverse) := by
  obtain ⟨v, h1, h2⟩ := h.beh
  have h2' := h2
  rcases h2.2 with ⟨rfl, h0⟩ | ⟨g, cap, cur, rfl, q1, q2, q3, q4, q5, q6⟩
  · exact ⟨none, 0, by rw [h0]; exact h1, by omega, by unfold maxLen; omega, by rw [h0] at h2 ⊢; exact h2, fun v r e => by subst e; cases h0⟩
  · refine ⟨_, cap, h1, q3, q4, h2', fun v r e => ⟨g, rfl, ?_, ?_⟩⟩
    · subst e
      have e : (iV (v :: r).reverse)[r.length]? = some (.int .i64 (v : Int)) := by unfold iV; simp
      rw [← q6, List.getElem?_take_of_lt (by simp)] at e
      simpa [World.cell?, q2] using e
    · subst e
      simp only [List.length_cons] at q3 q6
      refine ⟨by simp [iV], .inr ⟨g, cap, cur, rfl, q1, q2, by omega, q4, q5, ?_⟩⟩
      have e := congrArg (List.take (r.length * 1)) q6
      rw [List.take_take, show min (r.length * 1) ((r.length + 1) * 1) = r.length * 1 by omega] at e
      rw [e]
      unfold iV
      simp
theorem kpb_of (h : NI w0 z m C a sv bv hv rv W) {sv' bv' : Nat} {hv' rv' : List Nat} (h' : NI w0 z m C a sv' bv' hv' rv' W') (ha : ∀ b, (Value.slice a m C).ownBlock = some b → b < z) : KpB (z + 5) (.slice a m C) W W' :=
  ⟨h'.box.trans h.box.symm, fun b hb => (h'.bel.block b (ha b hb)).trans (h.bel.block b (ha b hb)).symm⟩
end
/-- .. when the pieces from i on have been gone through. -/
def RI (w0 : World) (z m C : Nat) (a : Option Addr) (l : List Pc) (i : Nat) (W : World) : Prop := NI w0 z m C a (sumP (l.drop i)) (brk (l.drop i)) (bst (l.drop i)) (List.replicate i 0 ++ needL (l.drop i)) W
theorem rv_zero (i : Nat) (l : List Nat) : List.replicate (i + 1) 0 ++ l = List.replicate i 0 ++ 0 :: l := by
  rw [List.replicate_succ', List.append_assoc]; rfl
theorem rv_set (i n : Nat) (l : List Nat) : (iV (List.replicate (i + 1) 0 ++ l)).set i (.int .i64 (n : Int)) = iV (List.replicate i 0 ++ n :: l) := by
  rw [rv_zero]
  unfold iV
  rw [List.map_append, List.map_append, List.map_cons, List.map_cons, List.set_append_right _ _ (by simp)]
  simp

theorem five_new (w : World) (o1 o2 o3 o4 o5 : Obj) : (((((w.alloc o1).alloc o2).alloc o3).alloc o4).alloc o5).heap[w.heap.size]? = some o1 ∧ (((((w.alloc o1).alloc o2).alloc o3).alloc o4).alloc o5).heap[w.heap.size + 1]? = some o2 ∧ (((((w.alloc o1).alloc o2).alloc o3).alloc o4).alloc o5).heap[w.heap.size + 1 + 1]? = some o3 ∧
    (((((w.alloc o1).alloc o2).alloc o3).alloc o4).alloc o5).heap[w.heap.size + 1 + 1 + 1]? = some o4 ∧ (((((w.alloc o1).alloc o2).alloc o3).alloc o4).alloc o5).heap[w.heap.size + 1 + 1 + 1 + 1]? = some o5 := by
  have n1 := heap_alloc_new w o1
  have z1 : (w.alloc o1).heap.size = w.heap.size + 1 := World.size_alloc _ _
  generalize w.alloc o1 = w1 at *
  have n2 := heap_alloc_new w1 o2
  have z2 : (w1.alloc o2).heap.size = w1.heap.size + 1 := World.size_alloc _ _
  have p2 := fun k hk => Lib.alloc_old w1 o2 k hk
  generalize w1.alloc o2 = w2 at *
  have n3 := heap_alloc_new w2 o3
  have z3 : (w2.alloc o3).heap.size = w2.heap.size + 1 := World.size_alloc _ _
  have p3 := fun k hk => Lib.alloc_old w2 o3 k hk
  generalize w2.alloc o3 = w3 at *
  have n4 := heap_alloc_new w3 o4
  have z4 : (w3.alloc o4).heap.size = w3.heap.size + 1 := World.size_alloc _ _
  have p4 := fun k hk => Lib.alloc_old w3 o4 k hk
  generalize w3.alloc o4 = w4 at *
  have n5 := heap_alloc_new w4 o5
  have p5 := fun k hk => Lib.alloc_old w4 o5 k hk
  generalize w4.alloc o5 = w5 at *
  rw [z4, z3, z2, z1] at n5
  rw [z3, z2, z1] at n4
  rw [z2, z1] at n3
  rw [z1] at n2
  exact ⟨by rw [p5 _ (by omega), p4 _ (by omega), p3 _ (by omega), p2 _ (by omega), n1], by rw [p5 _ (by omega), p4 _ (by omega), p3 _ (by omega), n2], by rw [p5 _ (by omega), p4 _ (by omega), n3], by rw [p5 _ (by omega), n4], n5⟩

set_option maxHeartbeats 16000000 in
set_option maxRecDepth 100000 in
theorem needs_any (a : Option Addr) (m C : Nat) (l : List Pc) (w : World) (hlm : l.length = m) (hm : m ≤ 100000) (hmC : m ≤ C) (hs : sumP l ≤ 4611686018427387904) (hx : ∀ p ∈ l, p.2.size ≤ 4611686018427387904) (hd : dep 7 8 0 l = some 0) (hr : RdP w a l) (ha : ∀ b, (Value.slice a m C).ownBlock = some b → b < w.heap.size) :
    Calls Try.prog 29 #[.slice a m C] w fun e w' => (∃ g, e = .returned (.slice (some ⟨g, 0, none⟩) m m) ∧ g < w'.heap.size ∧ ∀ (i v : Nat), (needL l)[i]? = some v → w'.cell? ⟨g, i, none⟩ = some (.int .i64 (v : Int))) ∧ Below w.heap.size w w' := by
  suffices h : CallsIn Fence.wide 5 Try.prog 29 #[.slice a m C] w (fun e w' => (∃ g, e = .returned (.slice (some ⟨g, 0, none⟩) m m) ∧ g < w'.heap.size ∧ ∀ (i v : Nat), (needL l)[i]? = some v → w'.cell? ⟨g, i, none⟩ = some (.int .i64 (v : Int))) ∧ Below w.heap.size w w') from callsIn_wide.1 h
  have hmk := fun W => make_ints m (by omega) W
  obtain ⟨w5, hw5⟩ : ∃ w5, (((((w.alloc (.cells (iV (List.replicate m 0)).toArray 3)).alloc (.cells #[.slice (some ⟨w.heap.size, 0, none⟩) m m] 57)).alloc (.cells #[.int .i64 0] 3)).alloc (.cells #[.int .i64 0] 3)).alloc (.cells #[.slice none 0 0] 57)) = w5 := ⟨_, rfl⟩
  have HW5 := Lib.hid hw5
  have hz5 : w5.heap.size = w.heap.size + 5 := by rw [← hw5]; simp [World.size_alloc]
  have HN0 : Hid (NI w w.heap.size m C a 0 0 [] (List.replicate m 0) (w5.alloc (.cells #[.slice a m C] 42))) := by
    have hb5 : Below w.heap.size w w5 := by
      rw [← hw5]
      exact (((((Below.refl w.heap.size w).alloc (Nat.le_refl _) _).alloc (by simp [World.size_alloc]) _).alloc (by simp [World.size_alloc]; omega) _).alloc (by simp [World.size_alloc]; omega) _).alloc (by simp [World.size_alloc]; omega) _
    have hbx := heap_alloc_new w5 (.cells #[.slice a m C] 42)
    rw [hz5] at hbx
    have hold : ∀ k, k < w5.heap.size → (w5.alloc (.cells #[.slice a m C] 42)).heap[k]? = w5.heap[k]? := fun k hk => Lib.alloc_old w5 _ k hk
    obtain ⟨e1, e2, e3, e4, e5⟩ := five_new w (.cells (iV (List.replicate m 0)).toArray 3) (.cells #[.slice (some ⟨w.heap.size, 0, none⟩) m m] 57) (.cells #[.int .i64 0] 3) (.cells #[.int .i64 0] 3) (.cells #[.slice none 0 0] 57)
    rw [hw5] at e1 e2 e3 e4 e5
    exact ⟨(hold _ (by omega)).trans e1, (hold _ (by omega)).trans e2, (hold _ (by omega)).trans e3, (hold _ (by omega)).trans e4, ⟨.slice none 0 0, (hold _ (by omega)).trans e5, World.ownsRow_nil _ _ _ _⟩, hbx, hb5.alloc (by omega) _⟩
  have HRD : Hid (RdP (w5.alloc (.cells #[.slice a m C] 42)) a l) := hr.below HN0.out.bel
  have HA := Lib.hid ha
  have HLM := Lib.hid hlm
  have HS := Lib.hid hs
  have HD := Lib.hid hd
  have HXS := Lib.hid hx
  clear hr hlm hs hd hx hw5 ha
  refine callsIn_of_wp_marks Try.func29 rfl trivial ?_ rfl
  simp only [Try.ntmps29, List.size_toArray, List.length_cons, List.length_nil, Nat.reduceAdd, Nat.reduceSub, Array.replicate_succ, Array.replicate_zero, List.push_toArray, List.append_toArray, List.nil_append, List.cons_append]
  gi_wp2
  rw [HW5.out]
  refine ⟨trivial, (callsIn_wide.2 (backP_any a m C w5)).mono ?_⟩
  rintro e wB ⟨rfl, hwB⟩
  rw [hwB] at HN0 HRD
  have hzB : wB.heap.size = w.heap.size + 6 := by rw [← hwB, World.size_alloc, hz5]
  rw [hz5]
  have HZB := Lib.hid hzB
  obtain ⟨z, hz⟩ : ∃ z, w.heap.size = z := ⟨_, rfl⟩
  have HZ := Lib.hid hz
  rw [hz] at HN0 HA HZB ⊢
  rw [hz] at hzB
  clear hwB hz5 hz hmk HW5
  gi_wp2
  refine range_told (n := 5) (by omega) (gf := 51) (lb := #[.pointer (some ⟨z + 5, 0, none⟩)]) rfl (enters_of Try.func51 (by kernel_rfl) rfl)
    (backP_stops 4 (by omega) (z + 5) m C a l HLM.out (by omega) hmC wB HN0.out.box HRD.out) (fun h k => h.trans k) (KpB.put (by omega) (fun b hb => by have := HA.out b hb; omega)) (fun _ => rfl)
    (fun pre W => RI w z m C a l (m - pre.length) W)
    (fun _ _ _ => False) (fun W => RI w z m C a l 0 W)
    (fun s X Y row hs hg hr => NI.nc hs hg fun r e => by have := hr r e; rw [HZB.out] at this; exact this)
    (fun _ _ _ _ _ hs _ _ => hs)
    (by rw [List.length_nil, Nat.sub_zero]; unfold RI; rw [List.drop_eq_nil_of_le (by rw [HLM.out]; exact Nat.le_refl m)]; simpa [sumP, brk, bst, needL] using HN0.out)
    (fun x b W => W.heap[b]? = some (.cells #[.int .i64 (pcAt l x).1, .string (pcAt l x).2] 45 (0, 0)) ∧ z + 6 ≤ b) (fun x b s X Y row h hg hr => ⟨(grownBy_keeps_cells hg (fun r e => (hr r e).2) h.1 rfl).trans h.1, h.2⟩)
    (fun ys W hSy hi => by rw [hSy, dn_len, Nat.sub_self] at hi; exact hi)
    (fun c pre W _ hi => hi.elim)
    ?round ?rest
  case round =>
    intro xi bz
    obtain ⟨pv, hpv⟩ : ∃ pv, pcAt l xi = pv := ⟨_, rfl⟩
    obtain ⟨k, x⟩ := pv
    dsimp only [encP, pcV]
    rw [hpv]
    apply Exists.intro
    refine ⟨?_, ?_⟩
    · intro lo pre W K hWb hi hR hsp hlt hK
      have b11 := (Below.refl W.heap.size W).alloc (Nat.le_refl _) (.cells #[.int .i64 k, .string x] 45)
      have hi2 := NI.later hi b11
      have HK := Lib.hid (hK (W.alloc (.cells #[.int .i64 k, .string x] 45)) ((KeepsOthers.alloc W _).from _) (kpb_of hi hi2 HA.out) hi2 ⟨by rw [← hWb]; exact heap_alloc_new _ _, by rw [← hWb]; exact NI.size hi⟩)
      have HWB := Lib.hid hWb
      clear hK hi hR hsp hlt b11 hi2 hWb
      gi_wp2
      rw [HWB.out]
      exact HK.out
    · intro lr pre W0 hi hax hsp hlt
      obtain ⟨j, hj, hpre⟩ := hsp
      obtain ⟨_, _, hxx⟩ := dn_last hpre
      have hxm : xi < m := by omega
      have hxl : l[xi]? = some (k, x) := by
        have h1 : xi < l.length := by rw [HLM.out]; exact hxm
        rw [List.getElem?_eq_getElem h1]
        unfold pcAt at hpv
        simp only [List.getD, List.getElem?_eq_getElem h1, Option.getD_some] at hpv
        rw [hpv]
      have hdr : l.drop xi = (k, x) :: l.drop (xi + 1) := by
        have h1 : xi < l.length := by rw [HLM.out]; exact hxm
        rw [List.drop_eq_getElem_cons h1]
        rw [List.getElem?_eq_getElem h1] at hxl
        injection hxl with hxl
        rw [hxl]
      have e1 : m - pre.length = xi + 1 := by omega
      have e2 : m - (pre ++ [xi]).length = xi := by rw [List.length_append, List.length_singleton]; omega
      have hxs : x.size ≤ 4611686018427387904 := HXS.out _ (List.mem_of_getElem? hxl)
      obtain ⟨gd, hgd⟩ := dep_drop 7 8 l 0 xi HD.out
      have hsum := sumP_drop l xi
      rw [hdr] at hgd hsum
      rw [e1] at hi
      unfold RI at hi
      obtain ⟨suf, hsuf⟩ : ∃ suf, l.drop (xi + 1) = suf := ⟨_, rfl⟩
      rw [hsuf] at hi hgd hsum
      have hsl : suf.length ≤ m := by rw [← hsuf, List.length_drop, HLM.out]; omega
      obtain ⟨hbx, hbz⟩ := hax
      obtain ⟨Fin, hFin⟩ : ∃ Fin : World → Prop, (fun W => KeepsFrom wB.heap.size W0 W ∧ KpB (z + 5) (.slice a m C) W0 W ∧ RI w z m C a l (m - (pre ++ [xi]).length) W) = Fin := ⟨_, rfl⟩
      have HFIN : Hid (∀ W, KeepsOthers W0 W → NI w z m C a (sumP ((k, x) :: suf)) (brk ((k, x) :: suf)) (bst ((k, x) :: suf)) (List.replicate xi 0 ++ needL ((k, x) :: suf)) W → Fin W) := fun W h1 h2 => by
        rw [← hFin]
        refine ⟨h1.from _, kpb_of hi h2 HA.out, ?_⟩
        rw [e2]
        unfold RI
        rw [hdr, hsuf]
        exact h2
      refine wpIn_mono (Q := finP Fin) ?_ (fun e a3 W3 hp => by
        subst hFin
        cases e with
        | normal => exact hp
        | ret => exact hp.elim
        | exit id => exact hp.elim
        | goto t => exact hp.elim
        | panic ch => exact hp.elim
        | outgrown => exact hp.elim)
      clear hFin hdr hsuf e1 e2 hpre hxx hj hlt hpv hxl
      have hgw := gwp_bst suf 0
      have hfl : fwp (k, x) + sumP suf ≤ 4611686018427387904 := Nat.le_trans hsum HS.out
      have HBK : Hid (isB k = true → ∀ W, KeepsOthers W0 W → NI w z m C a (fwp (k, x) + sumP suf) (fwp (k, x) + sumP suf) (bst suf) (List.replicate (xi + 1) 0 ++ needL suf) W → Fin W) := fun hk W h1 h2 => by
        have q := isB_iff.1 hk
        refine HFIN.out W h1 ?_
        rw [brk_pos hk, bst_neg (by show k ≠ 8; omega) (by show k ≠ 7; omega), needL_neg (by show k ≠ 7; omega), ← rv_zero]
        exact h2
      have HEND : Hid (k = 8 → ∀ W, KeepsOthers W0 W → NI w z m C a (fwp (k, x) + sumP suf) (brk suf) (brk suf :: bst suf) (List.replicate (xi + 1) 0 ++ needL suf) W → Fin W) := fun hk W h1 h2 => by
        subst hk
        refine HFIN.out W h1 ?_
        rw [show needL ((8, x) :: suf) = 0 :: needL suf from rfl, ← rv_zero]
        exact h2
      have HBEG : Hid (k = 7 → ∃ v0 r nd, bst suf = v0 :: r ∧ v0 ≤ 4611686018427387904 ∧ nd ≤ 4611686018427387904 ∧ nd + v0 = fwp (k, x) + sumP suf ∧ ∀ W, KeepsOthers W0 W → NI w z m C a (fwp (k, x) + sumP suf) (brk suf) r (List.replicate xi 0 ++ nd :: needL suf) W → Fin W) := fun hk => by
        subst hk
        have hl := bst_len suf (gd + 1) hgd
        have hf7 : fwp (7, x) = 0 := rfl
        cases hb : bst suf with
        | nil => rw [hb] at hl; cases hl
        | cons v0 r =>
          have hg := hgw v0 (by rw [hb]; rfl)
          refine ⟨v0, r, gwp 0 suf, rfl, by omega, by omega, by omega, fun W h1 h2 => HFIN.out W h1 ?_⟩
          rw [show bst ((7, x) :: suf) = r by show (bst suf).tail = r; rw [hb]; rfl]
          exact h2
      have HOTH : Hid (isB k = false → k ≠ 7 → k ≠ 8 → ∀ W, KeepsOthers W0 W → NI w z m C a (fwp (k, x) + sumP suf) (brk suf) (bst suf) (List.replicate (xi + 1) 0 ++ needL suf) W → Fin W) := fun hk h7 h8 W h1 h2 => by
        refine HFIN.out W h1 ?_
        rw [brk_neg hk, bst_neg h8 h7, needL_neg h7, ← rv_zero]
        exact h2
      have hbl := bst_length_le suf
      obtain ⟨fw, hfw⟩ : ∃ fw, fwp (k, x) = fw := ⟨_, rfl⟩
      have HFW : Hid (∀ W, Calls Try.prog 43 #[.agg #[.int .i64 k, .string x]] W fun e w' => e = .returned (.int .i64 (fw : Int)) ∧ Below W.heap.size W w') := fun W => by rw [← hfw]; exact flatWidth_any k x hxs W
      rw [hfw] at HBK HEND HBEG HOTH hfl
      generalize bst suf = hv at *
      generalize brk suf = bv at *
      obtain ⟨nt, hnt⟩ : ∃ nt, needL suf = nt := ⟨_, rfl⟩
      rw [hnt] at HBK HEND HBEG HOTH hi
      obtain ⟨rv, hrv⟩ : ∃ rv, rv = List.replicate (xi + 1) 0 ++ nt := ⟨_, rfl⟩
      rw [← hrv] at HBK HEND HOTH hi
      have HRV := Lib.hid hrv
      clear hrv hnt
      generalize sumP suf = sv at *
      obtain ⟨sv1, hsv1⟩ : ∃ sv1, fw + sv = sv1 := ⟨_, rfl⟩
      rw [hsv1] at HBK HEND HBEG HOTH hfl
      have hw7 : IntKind.i64.wrap ((sv : Int) + (fw : Int)) = (sv1 : Int) := by rw [IntKind.wrap_i64]; omega
      have hpb : W0.heap[bz]? = some (Obj.cells #[.int .i64 k, .string x] 45 (0, 0)) := by
        have := hbx
        exact this
      obtain ⟨ST, hST⟩ : ∃ ST : World → Prop, (fun W => NI w z m C a sv bv hv rv W ∧ W.heap[bz]? = some (Obj.cells #[.int .i64 k, .string x] 45 (0, 0))) = ST := ⟨_, rfl⟩
      obtain ⟨FIN, hFIN⟩ : ∃ FIN : World → Prop, (fun W => NI w z m C a sv1 bv hv rv W ∧ W.heap[bz]? = some (Obj.cells #[.int .i64 k, .string x] 45 (0, 0))) = FIN := ⟨_, rfl⟩
      have HST0 : Hid (ST W0.drew) := by show ST _; rw [← hST]; exact ⟨NI.drew hi, hpb⟩
      have HSTN : Hid (∀ W, ST W → NI w z m C a sv bv hv rv W) := fun W h => by rw [← hST] at h; exact h.1
      have HSTP : Hid (∀ W, ST W → W.cell? ⟨bz, 0, none⟩ = some (.int .i64 k) ∧ W.cell? ⟨bz, 1, none⟩ = some (.string x)) := fun W h => by rw [← hST] at h; exact cl2 h.2
      have HKO : Hid (∀ W W', Below W.heap.size W W' → KeepsOthers W W') := fun W W' h => ⟨h.size, fun q o hq _ => (h.block q (lt_of hq)).trans hq⟩
      have HFL : Hid (∀ W W', Below W.heap.size W W' → FIN W → FIN W') := fun W W' h hf => by rw [← hFIN] at hf ⊢; exact ⟨hf.1.later h, (h.block bz (lt_of hf.2)).trans hf.2⟩
      have HSL : Hid (∀ W W', Below W.heap.size W W' → ST W → ST W') := fun W W' h hf => by rw [← hST] at hf ⊢; exact ⟨hf.1.later h, (h.block bz (lt_of hf.2)).trans hf.2⟩
      have HF : Hid (∀ W, ST W → FIN (W.setCell ⟨z + 1 + 1, 0, none⟩ (.int .i64 (sv1 : Int)))) := fun W hf => by rw [← hST] at hf; rw [← hFIN]; exact ⟨hf.1.setSum sv1, (set_ne W 0 _ (by omega)).trans hf.2⟩
      have HFN : Hid (∀ W, FIN W → NI w z m C a sv1 bv hv rv W ∧ W.cell? ⟨bz, 0, none⟩ = some (.int .i64 k)) := fun W h => by rw [← hFIN] at h; exact ⟨h.1, (cl2 h.2).1⟩
      have hxi0 : (0 : Int) ≤ (xi : Int) := by omega
      have hxim : (xi : Int) < (m : Int) := by omega
      clear hST hFIN hi hbx hpb hbz hgd hsum hgw hfw hsv1 HFIN hxs HXS HS HD HLM HRD HN0 hxm
      gi_wp2
      refine region_rel2In 4 (fun W => ST W) (fun W W' => KeepsOthers W W' ∧ (FIN W → FIN W')) [Cd.is (Value.int .i64 ((sv : Int))), Cd.is (Value.agg #[.int .i64 k, .string x]), Cd.is (Value.int .i64 ((fw : Int))), Cd.is (Value.int .i64 ((sv1 : Int))), ⟨fun _ W => FIN W, fun _ _ _ h q => h.2 q⟩] (by kernel_rfl) (by decide) (by kernel_rfl) (by kernel_rfl) (fun ⟨_, _, h⟩ => h) HST0.out ⟨KeepsOthers.refl _, id⟩ (fun _ _ _ h k => ⟨h.1.trans k.1, fun q => k.2 (h.2 q)⟩) ?steps ?behind
      case steps =>
        intro xv W hW a ha
        replace hW : KeepsOthers W0 W := (ko_drew W0).trans hW.1
        simp only [fillA] at ha
        simp only [List.setIfInBounds_toArray, List.set_cons_succ, List.set_cons_zero, Nat.zero_add, Nat.reduceAdd] at ha
        subst ha
        refine ⟨fun hI hS hd K hK => ?s0, fun hI hS hd K hK => ?s1, fun hI hS hd K hK => ?s2, fun hI hS hd K hK => ?s3, fun hI hS hd K hK => ?s4, trivial⟩
        case s0 =>
          clear hd
          simp only [Act.put, List.setIfInBounds_toArray, List.set_cons_succ, List.set_cons_zero] at hK
          refine (if_pos (by rfl)).mpr ?_
          have hc := (HSTN.out W (hS (.inl (by kernel_rfl)))).csum
          go_simp
          exact hK.out _ _ ⟨KeepsOthers.refl _, id⟩ (.inr id) rfl
        case s1 =>
          clear hd
          simp only [Act.put, List.setIfInBounds_toArray, List.set_cons_succ, List.set_cons_zero] at hK
          refine (if_pos (by rfl)).mpr ?_
          obtain ⟨hp0, hp1⟩ := HSTP.out W (hS (.inl (by kernel_rfl)))
          go_simp
          exact hK.out _ _ ⟨KeepsOthers.refl _, id⟩ (.inr id) rfl
        case s2 =>
          have hx1 : xv 1 = Value.agg #[.int .i64 k, .string x] := hd 1 (by kernel_rfl)
          clear hd
          simp only [Act.put, List.setIfInBounds_toArray, List.set_cons_succ, List.set_cons_zero] at hK
          rw [hx1] at hK ⊢
          refine (if_pos (by rfl)).mpr ?_
          have hst := hS (.inl (by kernel_rfl))
          go_simp
          refine (HFW.out W).mono ?_
          rintro e W' ⟨rfl, hb⟩
          exact hK.out _ _ ⟨HKO.out _ _ hb, HFL.out _ _ hb⟩ (.inr (HSL.out _ _ hb)) rfl
        case s3 =>
          have hx0 : xv 0 = Value.int .i64 ((sv : Int)) := hd 0 (by kernel_rfl)
          have hx2 : xv 2 = Value.int .i64 ((fw : Int)) := hd 2 (by kernel_rfl)
          clear hd
          simp only [Act.put, List.setIfInBounds_toArray, List.set_cons_succ, List.set_cons_zero] at hK
          rw [hx0] at hK ⊢
          rw [hx2] at hK ⊢
          refine (if_pos (by rfl)).mpr ?_
          go_simp
          exact hK.out _ _ ⟨KeepsOthers.refl _, id⟩ (.inr id) rfl
        case s4 =>
          have hx3 : xv 3 = Value.int .i64 ((sv1 : Int)) := hd 3 (by kernel_rfl)
          clear hd
          simp only [Act.put] at hK
          rw [hx3] at hK ⊢
          refine (if_pos (by rfl)).mpr ?_
          have hst := hS (.inr rfl)
          have hc := (HSTN.out W hst).csum
          have hfz := (HSTN.out W hst).fsum
          have hf := HF.out W hst
          clear hst
          go_simp
          exact hK.out undef _ ⟨KeepsOthers.setCell _ _ _, fun _ => hf⟩ (.inl trivial) hf
      case behind =>
        intro xv w1 hW hx a ha
        replace hW : KeepsOthers W0 w1 := (ko_drew W0).trans hW.1
        simp only [fillA] at ha
        simp only [List.setIfInBounds_toArray, List.set_cons_succ, List.set_cons_zero, Nat.zero_add, Nat.reduceAdd] at ha
        subst ha
        have hfin := hx 4 (by decide)
        have HF1 : Hid (FIN w1) := hfin
        have HK1 := Lib.hid hW
        clear hx hW hfin
        obtain ⟨hn1, hp0⟩ := HFN.out w1 HF1.out
        have HN1 := Lib.hid hn1
        have hcs := hn1.csum
        have hcb := hn1.cbrk
        have hfb := hn1.fbrk
        clear HFN HF HSL HFL HKO HSTP HSTN HST0 HF1 HFW hw7 hn1
        by_cases k2 : k = 2
        · subst k2
          have HX := Lib.hid (HBK.out rfl _ (HK1.out.trans (KeepsOthers.setCell w1 _ _)) (HN1.out.setBrk sv1))
          clear HBK HEND HBEG HOTH
          gi_wp2
          exact HX.out
        by_cases k3 : k = 3
        · subst k3
          have HX := Lib.hid (HBK.out rfl _ (HK1.out.trans (KeepsOthers.setCell w1 _ _)) (HN1.out.setBrk sv1))
          clear HBK HEND HBEG HOTH
          gi_wp2
          exact HX.out
        by_cases k4 : k = 4
        · subst k4
          have HX := Lib.hid (HBK.out rfl _ (HK1.out.trans (KeepsOthers.setCell w1 _ _)) (HN1.out.setBrk sv1))
          clear HBK HEND HBEG HOTH
          gi_wp2
          exact HX.out
        have b2 : (k == 2) = false := by simpa using k2
        have b3 : (k == 3) = false := by simpa using k3
        have b4 : (k == 4) = false := by simpa using k4
        by_cases k8 : k = 8
        · subst k8
          obtain ⟨A, c, hcv, hc1, hc2, hown, _⟩ := HN1.out.bform
          have hcc := cl0 hcv
          have hfc := frz hcv 0
          have HOWN := Lib.hid hown
          have HCV := Lib.hid hcv
          have hEN := HEND.out rfl
          have HEN := Lib.hid hEN
          have hsz := HN1.out.size
          clear hown hcv HBK HEND HBEG HOTH hEN b2 b3 b4 k2 k3 k4 hcs hfb
          gi_wp2_with (gi_at_builtin; refine appIn_int w1 rfl _ _ rfl (z + 6) (.slice A hv.length c) hv.length (iV hv.reverse) (.int .i64 (bv : Int)) rfl HOWN.out rfl w1.heap.size rfl rfl (by omega) hsz ?_; intro v' w2 hown' hgrow; have hcc2 := push_cell HN1.out HCV.out hgrow (fun q e => (HOWN.out.lt q e).1); have hfc2 := frz hcc2 0; have hcc3 := cl0 hcc2; obtain ⟨gq, cq, rfl⟩ := own_form hown'; have HX := Lib.hid (HEN.out _ (HK1.out.trans (((KeepsOthers.alloc w1 _).trans (KeepsOthers.of_grownBy hgrow (own_isCells (HOWN.out.alloc _)))).trans (KeepsOthers.setCell w2 _ _))) (HN1.out.push HCV.out hgrow (fun q e => (HOWN.out.lt q e).1) hown')); clear hgrow hown' hcc2 HOWN HCV HEN hcc hfc)
          exact HX.out
        have b8 : (k == 8) = false := by simpa using k8
        by_cases k7 : k = 7
        · subst k7
          obtain ⟨v0, r, nd, hhv, hv0, hnd, hsum, hEN⟩ := HBEG.out rfl
          obtain ⟨A, c1, hcv, hc1, hc2, _, hvr⟩ := HN1.out.bform
          obtain ⟨gv, rfl, hcg, hrow⟩ := hvr v0 r hhv
          obtain ⟨n0, hn0⟩ : ∃ n0, r.length = n0 := ⟨_, rfl⟩
          obtain ⟨n1, hn1⟩ : ∃ n1, hv.length = n1 := ⟨_, rfl⟩
          have hn01 : n1 = n0 + 1 := by rw [← hn1, hhv, ← hn0]; rfl
          rw [hn0] at hcg
          rw [hn1] at hcv hc1
          have hcc := cl0 hcv
          have hn0m : n0 ≤ 100000 := by rw [hn1] at hbl; omega
          have hwl : IntKind.i64.wrap ((n1 : Int) - 1) = (n0 : Int) := by rw [IntKind.wrap_i64]; omega
          have hws : IntKind.i64.wrap ((sv1 : Int) - (v0 : Int)) = (nd : Int) := by rw [IntKind.wrap_i64]; omega
          have hi0 : (0 : Int) ≤ (n0 : Int) := by omega
          have hi1 : (n0 : Int) < (n1 : Int) := by omega
          have hi2 : (n0 : Int) ≤ (c1 : Int) := by omega
          have hgz : z + 6 ≤ gv := by have := hrow.lt gv (by simp [Value.ownBlock]); omega
          obtain ⟨ST2, hST2⟩ : ∃ ST2 : World → Prop, (fun U => NI w z m C a sv1 bv hv rv U ∧ U.heap[z + 1 + 1 + 1 + 1]? = some (Obj.cells #[.slice (some ⟨gv, 0, none⟩) n1 c1] 57 (0, 0)) ∧ U.cell? ⟨gv, n0, none⟩ = some (.int .i64 (v0 : Int)) ∧ U.ownsRow (z + 6) 3 1 (.slice (some ⟨gv, 0, none⟩) r.length c1) r.length (iV r.reverse)) = ST2 := ⟨_, rfl⟩
          obtain ⟨FIN, hFIN⟩ : ∃ FIN : World → Prop, (fun U => NI w z m C a sv1 bv hv (List.replicate xi 0 ++ nd :: nt) U ∧ U.heap[z + 1 + 1 + 1 + 1]? = some (Obj.cells #[.slice (some ⟨gv, 0, none⟩) n1 c1] 57 (0, 0)) ∧ U.ownsRow (z + 6) 3 1 (.slice (some ⟨gv, 0, none⟩) r.length c1) r.length (iV r.reverse)) = FIN := ⟨_, rfl⟩
          have HST2 : Hid (ST2 w1.drew) := by show ST2 _; rw [← hST2]; exact ⟨HN1.out.drew, hcv, hcg, hrow⟩
          have HN2 : Hid (∀ U, ST2 U → NI w z m C a sv1 bv hv rv U ∧ U.cell? ⟨z + 1 + 1 + 1 + 1, 0, none⟩ = some (.slice (some ⟨gv, 0, none⟩) n1 c1) ∧ U.cell? ⟨gv, n0, none⟩ = some (.int .i64 (v0 : Int))) := fun U h => by rw [← hST2] at h; exact ⟨h.1, cl0 h.2.1, h.2.2.1⟩
          have HZC : Hid (∀ U, ST2 U → ∃ u, U.cell? ⟨z, xi, none⟩ = some u) := fun U h => by rw [← hST2] at h; rw [h.1.crow, HRV.out]; exact ⟨_, List.getElem?_eq_getElem (by simp [iV]; omega)⟩
          have HZF : Hid (∀ U, ST2 U → U.frozen? ⟨z, xi, none⟩ = false) := fun U h => by rw [← hST2] at h; exact h.1.frow xi
          have HF2 : Hid (∀ U, ST2 U → FIN (U.setCell ⟨z, xi, none⟩ (.int .i64 (nd : Int)))) := fun U h => by
            rw [← hST2] at h
            rw [← hFIN]
            exact ⟨h.1.setRow xi nd _ (by rw [HRV.out]; exact rv_set xi nd nt), (set_ne U xi _ (by omega)).trans h.2.1, own_ge h.2.2.2 (by omega) (set_grown U _ xi _)⟩
          have HFN : Hid (∀ U, FIN U → U.cell? ⟨z + 1 + 1 + 1 + 1, 0, none⟩ = some (.slice (some ⟨gv, 0, none⟩) n1 c1) ∧ U.frozen? ⟨z + 1 + 1 + 1 + 1, 0, none⟩ = false) := fun U h => by rw [← hFIN] at h; exact ⟨cl0 h.2.1, frz h.2.1 0⟩
          have HFE : Hid (∀ U, KeepsOthers w1 U → FIN U → Fin (U.setCell ⟨z + 1 + 1 + 1 + 1, 0, none⟩ (.slice (some ⟨gv, 0, none⟩) n0 c1))) := fun U h1 h => by
            rw [← hFIN] at h
            refine hEN _ ((HK1.out.trans h1).trans (KeepsOthers.setCell U _ _)) ?_
            have := h.1.setBeh (hv' := r) h.2.2
            rw [hn0] at this
            exact this
          clear HBK HEND HBEG HOTH hEN b2 b3 b4 b8 k2 k3 k4 k8 hST2 hFIN hcv hcg hrow hvr hhv hsum hn0 hn1 hn01 hn0m hc1 hgz hfb hcb
          gi_wp2
          refine region_rel2In 9 (fun W => ST2 W) (fun W W' => KeepsOthers W W' ∧ (FIN W → FIN W')) [Cd.is (Value.slice (some ⟨z, 0, none⟩) m m), Cd.is (Value.int .i64 ((xi : Int))), Cd.is (Value.int .i64 ((sv1 : Int))), Cd.is (Value.slice (some ⟨gv, 0, none⟩) n1 c1), Cd.is (Value.int .i64 ((n0 : Int))), Cd.is (Value.pointer (some ⟨gv, n0, none⟩)), Cd.is (Value.int .i64 ((v0 : Int))), Cd.is (Value.int .i64 ((nd : Int))), Cd.is (Value.pointer (some ⟨z, xi, none⟩)), ⟨fun _ W => FIN W, fun _ _ _ h q => h.2 q⟩] (by kernel_rfl) (by decide) (by kernel_rfl) (by kernel_rfl) (fun ⟨_, _, h⟩ => h) HST2.out ⟨KeepsOthers.refl _, id⟩ (fun _ _ _ h k => ⟨h.1.trans k.1, fun q => k.2 (h.2 q)⟩) ?steps ?behind
          case steps =>
            intro xv W hW a ha
            replace hW : KeepsOthers w1 W := (ko_drew w1).trans hW.1
            simp only [fillA] at ha
            simp only [List.setIfInBounds_toArray, List.set_cons_succ, List.set_cons_zero, Nat.zero_add, Nat.reduceAdd] at ha
            subst ha
            refine ⟨fun hI hS hd K hK => ?s0, fun hI hS hd K hK => ?s1, fun hI hS hd K hK => ?s2, fun hI hS hd K hK => ?s3, fun hI hS hd K hK => ?s4, fun hI hS hd K hK => ?s5, fun hI hS hd K hK => ?s6, fun hI hS hd K hK => ?s7, fun hI hS hd K hK => ?s8, fun hI hS hd K hK => ?s9, trivial⟩
            case s0 =>
              clear hd
              simp only [Act.put, List.setIfInBounds_toArray, List.set_cons_succ, List.set_cons_zero] at hK
              refine (if_pos (by rfl)).mpr ?_
              have hn := HN2.out W (hS (.inl (by kernel_rfl)))
              have hc := hn.1.cned
              go_simp
              exact hK.out _ _ ⟨KeepsOthers.refl _, id⟩ (.inr id) rfl
            case s1 =>
              clear hd
              simp only [Act.put, List.setIfInBounds_toArray, List.set_cons_succ, List.set_cons_zero] at hK
              refine (if_pos (by rfl)).mpr ?_
              go_simp
              exact hK.out _ _ ⟨KeepsOthers.refl _, id⟩ (.inr id) rfl
            case s2 =>
              clear hd
              simp only [Act.put, List.setIfInBounds_toArray, List.set_cons_succ, List.set_cons_zero] at hK
              refine (if_pos (by rfl)).mpr ?_
              have hn := HN2.out W (hS (.inl (by kernel_rfl)))
              have hc := hn.1.csum
              go_simp
              exact hK.out _ _ ⟨KeepsOthers.refl _, id⟩ (.inr id) rfl
            case s3 =>
              clear hd
              simp only [Act.put, List.setIfInBounds_toArray, List.set_cons_succ, List.set_cons_zero] at hK
              refine (if_pos (by rfl)).mpr ?_
              have hn := HN2.out W (hS (.inl (by kernel_rfl)))
              have hc := hn.2.1
              go_simp
              exact hK.out _ _ ⟨KeepsOthers.refl _, id⟩ (.inr id) rfl
            case s4 =>
              clear hd
              simp only [Act.put, List.setIfInBounds_toArray, List.set_cons_succ, List.set_cons_zero] at hK
              refine (if_pos (by rfl)).mpr ?_
              go_simp
              exact hK.out _ _ ⟨KeepsOthers.refl _, id⟩ (.inr id) rfl
            case s5 =>
              have hx3 : xv 3 = Value.slice (some ⟨gv, 0, none⟩) n1 c1 := hd 3 (by kernel_rfl)
              have hx4 : xv 4 = Value.int .i64 ((n0 : Int)) := hd 4 (by kernel_rfl)
              clear hd
              simp only [Act.put, List.setIfInBounds_toArray, List.set_cons_succ, List.set_cons_zero] at hK
              rw [hx3] at hK ⊢
              rw [hx4] at hK ⊢
              refine (if_pos (by rfl)).mpr ?_
              go_simp
              exact hK.out _ _ ⟨KeepsOthers.refl _, id⟩ (.inr id) rfl
            case s6 =>
              have hx5 : xv 5 = Value.pointer (some ⟨gv, n0, none⟩) := hd 5 (by kernel_rfl)
              clear hd
              simp only [Act.put, List.setIfInBounds_toArray, List.set_cons_succ, List.set_cons_zero] at hK
              rw [hx5] at hK ⊢
              refine (if_pos (by rfl)).mpr ?_
              have hn := HN2.out W (hS (.inl (by kernel_rfl)))
              have hc := hn.2.2
              go_simp
              exact hK.out _ _ ⟨KeepsOthers.refl _, id⟩ (.inr id) rfl
            case s7 =>
              have hx2 : xv 2 = Value.int .i64 ((sv1 : Int)) := hd 2 (by kernel_rfl)
              have hx6 : xv 6 = Value.int .i64 ((v0 : Int)) := hd 6 (by kernel_rfl)
              clear hd
              simp only [Act.put, List.setIfInBounds_toArray, List.set_cons_succ, List.set_cons_zero] at hK
              rw [hx2] at hK ⊢
              rw [hx6] at hK ⊢
              refine (if_pos (by rfl)).mpr ?_
              go_simp
              exact hK.out _ _ ⟨KeepsOthers.refl _, id⟩ (.inr id) rfl
            case s8 =>
              have hx0 : xv 0 = Value.slice (some ⟨z, 0, none⟩) m m := hd 0 (by kernel_rfl)
              have hx1 : xv 1 = Value.int .i64 ((xi : Int)) := hd 1 (by kernel_rfl)
              clear hd
              simp only [Act.put, List.setIfInBounds_toArray, List.set_cons_succ, List.set_cons_zero] at hK
              rw [hx0] at hK ⊢
              rw [hx1] at hK ⊢
              refine (if_pos (by rfl)).mpr ?_
              go_simp
              exact hK.out _ _ ⟨KeepsOthers.refl _, id⟩ (.inr id) rfl
            case s9 =>
              have hx7 : xv 7 = Value.int .i64 ((nd : Int)) := hd 7 (by kernel_rfl)
              have hx8 : xv 8 = Value.pointer (some ⟨z, xi, none⟩) := hd 8 (by kernel_rfl)
              clear hd
              simp only [Act.put] at hK
              rw [hx7] at hK ⊢
              rw [hx8] at hK ⊢
              refine (if_pos (by rfl)).mpr ?_
              have hst := hS (.inr rfl)
              obtain ⟨u, hc⟩ := HZC.out W hst
              have hfz := HZF.out W hst
              have hf := HF2.out W hst
              clear hst
              go_simp
              exact hK.out undef _ ⟨KeepsOthers.setCell _ _ _, fun _ => hf⟩ (.inl trivial) hf
          case behind =>
            intro xv W hW hx a ha
            replace hW : KeepsOthers w1 W := (ko_drew w1).trans hW.1
            simp only [fillA] at ha
            simp only [List.setIfInBounds_toArray, List.set_cons_succ, List.set_cons_zero, Nat.zero_add, Nat.reduceAdd] at ha
            subst ha
            have hfin := hx 9 (by decide)
            have HF3 : Hid (FIN W) := hfin
            have HK3 := Lib.hid hW
            clear hx hW hfin
            obtain ⟨hc9, hf9⟩ := HFN.out W HF3.out
            have HX := Lib.hid (HFE.out W HK3.out HF3.out)
            clear HFN HFE HF2 HZF HZC HN2 HST2
            gi_wp2
            exact HX.out
        have b7 : (k == 7) = false := by simpa using k7
        have HX := Lib.hid (HOTH.out (isB_not.2 ⟨k2, k3, k4⟩) k7 k8 w1 HK1.out HN1.out)
        clear HBK HEND HBEG HOTH
        gi_wp2
        exact HX.out
  case rest =>
    intro D W hD hJ hK
    have hn := NI.nc hJ (grownBy_putObj' W D (.deferred none)) (fun r e => by cases e; exact ⟨by rw [← HZB.out]; exact hD, _, hK, rfl⟩)
    have HE := Lib.hid hn
    have hcn := NI.cned hJ
    clear hJ hn
    gi_wp2
    refine ⟨by simp, .inl ⟨_, _, rfl, run_takeDeferred hK, ?_⟩⟩
    refine ⟨_, results_tmp rfl _ _ _, ?_⟩
    have hE := HE.out
    refine ⟨⟨z, rfl, by have := hE.size; omega, fun i v h => ?_⟩, by rw [HZ.out]; exact hE.bel⟩
    rw [hE.crow]
    have : needL (l.drop 0) = needL l := rfl
    rw [this, List.replicate_zero, List.nil_append]
    unfold iV
    rw [List.getElem?_map, h]; rfl
end Go.Proofs.Ytpankfbdlakmcaa.Doc
