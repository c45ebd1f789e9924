/-
  Words for memory, of no layer: rows of slices of bytes of the call's own; make and copy inside a fence.
-/
import Derived.Test.YtccbbmkdmdllgaaMem
import Derived.RangeFuncBox
import Derived.RangeFuncLeaves
import Derived.Shelf.Abstract
import Derived.OwnWalkIn
import Derived.TacticsInMore
import Derived.LoopNIn
import Derived.LoopIn
import Derived.Laws.CopyOwn
namespace Go.Proofs.Ytccbbmkdmdllgaa.Mem
open Go.ChangeShapes Go.WideShapes Go.ChangeAt Go.RowKit
set_option linter.unusedVariables false

/-! ### Two laws inside a fence -/
theorem wpListIn_make_all {F : Fence} {n : Nat} {P : Program} (w : World) {ops : Array Oper} {rest : List Oper} {o : Oper} {a : Act} {Q : Exit → Act → World → Prop}
    (hg : o.guard = none) (l c : Operand) (t : TypeId) (hop : o.op = Op.makeSlice t l c) (e : TypeId) (i : TypeInfo) (z : Value) (h1 : P.underlying t = some (.slice e)) (h2 : P.info? e = some i) (h3 : i.zero = some z) (h4 : i.size = 1)
    (kl kc : IntKind) (L C : Int) (m : Nat) (hl : a.eval l = .int kl L) (hc : a.eval c = .int kc C) (hL : L = (m : Int)) (hC : C = (m : Int)) (b2 : i.bytes * m ≤ 281474976710656) (b3 : m ≤ maxLen)
    (hK : ∀ cs : Array Value, cs.size = m → wpListIn F n P ops Q rest (a.put o.dst (.slice (some ⟨w.heap.size, 0, none⟩) m m)) (w.alloc (.cells cs e))) :
    wpListIn F n P ops Q (o :: rest) a w := by
  refine wpListIn_plain hg fun K hK' => ?_
  subst hL; subst hC
  have hb : (i.bytes : Int) * (m : Int) ≤ 281474976710656 := by rw [← Int.natCast_mul]; omega
  have hrun := run_make (P := P) w t e i z h1 h2 h3 kl kc m m (by omega) (Int.le_refl _) hb (by unfold maxLen at b3; omega)
  simp only [Int.toNat_natCast] at hrun
  unfold Oper.wpIn
  refine ⟨?_, ?_⟩
  · simp [Oper.about, hop]
  · rw [Oper.semAt_plain F _ _ (by rw [hop]; intro c hc'; cases hc')]
    simp [execOp, hop, hl, hc, hrun, Result.andThen]
    exact hK' _ _ (hK _ (by rw [size_madeCells, h4, Nat.mul_one]))

theorem wpListIn_copy_all {F : Fence} {n : Nat} {P : Program} (w : World) {ops : Array Oper} {rest : List Oper} {o : Oper} {a : Act} {Q : Exit → Act → World → Prop}
    (hg : o.guard = none) (d s : Operand) (dT sT : TypeId) (hop : o.op = .call { callee := .builtin .copy, args := #[d, s], argTypes := #[dT, sT] }) (elem : TypeId) (hu : P.underlying dT = some (.slice elem)) (hsz : (P.info? elem).map (·.size) = some 1)
    (g m dCap : Nat) (ad : Addr) (sLen sCap : Nat) (hd : a.eval d = .slice (some ⟨g, 0, none⟩) m dCap) (hs : a.eval s = .slice (some ad) sLen sCap) (hsl : sLen = m)
    (cur : Array Value) (t : TypeId) (hh : w.heap[g]? = some (.cells cur t (0, 0))) (cs : List Value) (hn : cs.length = m) (hcur : cur.size = m)
    (hsrc : ∀ j v, cs[j]? = some v → w.cell? (ad.add j) = some v) (h1 : ∀ v ∈ cs, v.oneCell' = true)
    (hK : ∀ w', w'.heap[g]? = some (.cells cs.toArray t (0, 0)) → w.grownBy w' (some g) → wpListIn F n P ops Q rest (a.put o.dst (goInt m)) w') :
    wpListIn F n P ops Q (o :: rest) a w := by
  subst hsl
  refine wpListIn_plain hg fun K hK' => ?_
  have hrun := run_copy_row (P := P) w dT sT o.type elem g 0 sLen dCap ad sLen sCap cur t cs hu hsz hh (by rw [hn]; exact (Nat.min_self _).symm) hsrc (by omega) h1
  have hcl : cur.toList.drop (0 + cs.length) = [] := List.drop_eq_nil_of_le (by simp; omega)
  rw [hcl, List.take_zero, List.nil_append, List.append_nil, hn] at hrun
  unfold Oper.wpIn
  refine ⟨?_, ?_⟩
  · simp [Oper.about, hop, resolve, Target.leads, Sem.run_pure]
  · rw [Oper.semAt_plain F _ _ (by rw [hop]; intro c hc'; cases hc')]
    simp [execOp, hop, resolve, invoke, builtin, hd, hs, hrun, Result.andThen]
    exact hK' _ _ (hK _ (setRow_heap w g cur _ t _ hh) ⟨rfl, rfl, rfl, by simp [World.setRow], fun k _ hk => setRow_other w g k _ (fun e => hk (by rw [e]))⟩)

/-! ### Lists, two by two -/
def All2 {α β : Type} (R : α → β → Prop) (a : List α) (b : List β) : Prop := a.length = b.length ∧ ∀ (i : Nat) (x : α) (y : β), a[i]? = some x → b[i]? = some y → R x y
section
variable {α β : Type} {R R' : α → β → Prop} {a c : List α} {b d : List β}
theorem All2.nil : All2 R [] [] := ⟨rfl, fun i x y h => by simp at h⟩
theorem All2.mono (h : All2 R a b) (hr : ∀ x y, R x y → R' x y) : All2 R' a b := ⟨h.1, fun i x y h1 h2 => hr x y (h.2 i x y h1 h2)⟩
theorem All2.append (h : All2 R a b) (h' : All2 R c d) : All2 R (a ++ c) (b ++ d) :=
  ⟨by simp [h.1, h'.1], fun i x y h1 h2 => by
    by_cases hi : i < a.length
    · rw [List.getElem?_append_left hi] at h1
      rw [List.getElem?_append_left (by rw [← h.1]; exact hi)] at h2
      exact h.2 i x y h1 h2
    · rw [List.getElem?_append_right (by omega)] at h1
      rw [List.getElem?_append_right (by rw [← h.1]; omega), ← h.1] at h2
      exact h'.2 _ x y h1 h2⟩
theorem All2.one {x : α} {y : β} (h : R x y) : All2 R [x] [y] :=
  ⟨rfl, fun i u v h1 h2 => by
    cases i with
    | zero => simp at h1 h2; subst h1; subst h2; exact h
    | succ i => simp at h1⟩
theorem All2.snoc (h : All2 R a b) {x : α} {y : β} (hx : R x y) : All2 R (a ++ [x]) (b ++ [y]) := h.append (All2.one hx)
theorem All2.at_ (h : All2 R a b) {i : Nat} (hi : i < b.length) (da : α) (db : β) : R (a.getD i da) (b.getD i db) :=
  h.2 i _ _ (by simp [List.getD, show i < a.length by rw [h.1]; exact hi]) (by simp [List.getD, hi])
end

theorem All2.memR {α β : Type} {R : α → β → Prop} {a : List α} {b : List β} (h : All2 R a b) {x : α} (hx : x ∈ a) : ∃ y, R x y := by
  obtain ⟨i, hi, rfl⟩ := List.getElem_of_mem hx
  have hb : i < b.length := by rw [← h.1]; exact hi
  exact ⟨_, h.2 i _ b[i] (by simp) (by simp)⟩
theorem All2.memMono {α β : Type} {R R' : α → β → Prop} {a : List α} {b : List β} (h : All2 R a b) (hr : ∀ x ∈ a, ∀ y, R x y → R' x y) : All2 R' a b :=
  ⟨h.1, fun i x y h1 h2 => hr x (List.mem_of_getElem? h1) y (h.2 i x y h1 h2)⟩

theorem own_cell {w : World} {base : Nat} {e : TypeId} {size : Nat} {v : Value} {n : Nat} {vs : List Value} (h : w.ownsRow base e size v n vs) : v.oneCell' = true := by
  obtain ⟨a, c, rfl, _, _⟩ := own_slice h; rfl

/-! ### Slices of slices of bytes -/

/-- The value is a slice that reads as the bytes x; it lies below block B. -/
def LR (w : World) (B : Nat) (v : Value) (x : List Int) : Prop := ∃ A c, v = .slice A x.length c ∧ x.length ≤ c ∧ c ≤ maxLen ∧ RB w B A x
/-- The slice at A, of as many elements as vs has, reads as vs; it lies below block B. -/
def RV (w : World) (B : Nat) (A : Option Addr) (vs : List Value) : Prop :=
  vs = [] ∨ ∃ b off, A = some ⟨b, off, none⟩ ∧ b < B ∧ ∀ i, i < vs.length → w.cell? ⟨b, off + i, none⟩ = some (vs.getD i undef)
theorem LR.below {w w' : World} {B : Nat} {v : Value} {x : List Int} (h : LR w B v x) {B0 : Nat} (hb : Below B0 w w') (hB : B ≤ B0) : LR w' B v x := by
  obtain ⟨A, c, e, h1, h2, h3⟩ := h
  exact ⟨A, c, e, h1, h2, h3.below hb hB⟩
theorem LR.more {w : World} {B B' : Nat} {v : Value} {x : List Int} (h : LR w B v x) (hB : B ≤ B') : LR w B' v x := by
  obtain ⟨A, c, e, h1, h2, h3⟩ := h
  exact ⟨A, c, e, h1, h2, h3.more hB⟩
theorem RV.below {w w' : World} {B : Nat} {A : Option Addr} {vs : List Value} (h : RV w B A vs) {B0 : Nat} (hb : Below B0 w w') (hB : B ≤ B0) : RV w' B A vs := by
  rcases h with h | ⟨b, off, e, hl, hc⟩
  · exact .inl h
  · exact .inr ⟨b, off, e, hl, fun i hi => (hb.cell (by show b < B0; omega)).trans (hc i hi)⟩
theorem RV.more {w : World} {B B' : Nat} {A : Option Addr} {vs : List Value} (h : RV w B A vs) (hB : B ≤ B') : RV w B' A vs := by
  rcases h with h | ⟨b, off, e, hl, hc⟩
  · exact .inl h
  · exact .inr ⟨b, off, e, by omega, hc⟩
theorem RV.at_ {w : World} {B : Nat} {A : Option Addr} {vs : List Value} (h : RV w B A vs) {i : Nat} (hi : i < vs.length) : ∃ b off, A = some ⟨b, off, none⟩ ∧ b < B ∧ w.cell? ⟨b, off + i, none⟩ = some (vs.getD i undef) := by
  rcases h with h | ⟨b, off, e, hl, hc⟩
  · subst h; simp at hi
  · exact ⟨b, off, e, hl, hc i hi⟩

/-- A line of the call's own: a slice from block 'base' on that owns the bytes x. -/
def LV (w : World) (base : Nat) (v : Value) (x : List Int) : Prop := w.ownsRow base 5 1 v x.length (x.map (Value.int .u8)) ∧ Byt x
/-- A row of lines of the call's own. -/
def OwnLs (w : World) (base : Nat) (v : Value) (L : List (List Int)) : Prop := ∃ vs, w.ownsRow base 22 1 v L.length vs ∧ All2 (LV w base) vs L

theorem LV.lr {w : World} {base : Nat} {v : Value} {x : List Int} (h : LV w base v x) : LR w w.heap.size v x := by
  obtain ⟨A, c, rfl, h1, h2⟩ := own_slice h.1
  exact ⟨A, c, rfl, h1, h2, own_rb h.1 h.2⟩

/-- The block 'row' is no row of bytes and no row of slices of bytes. -/
def Other (w : World) (row : Option Nat) : Prop := ∀ k, row = some k → ∀ cur e r, w.heap[k]? = some (.cells cur e r) → e ≠ 5 ∧ e ≠ 22
theorem own_other {w w' : World} {base : Nat} {e : TypeId} {size : Nat} {v : Value} {n : Nat} {vs : List Value} {row : Option Nat} (h : w.ownsRow base e size v n vs) (he : e = 5 ∨ e = 22) (hg : w.grownBy w' row) (ho : Other w row) : w'.ownsRow base e size v n vs := by
  refine h.kept hg ?_
  rcases h.2 with ⟨rfl, _⟩ | ⟨g, cap, cur, rfl, _, hgb, _⟩
  · exact .inl rfl
  · refine .inr fun e' => ?_
    have := ho g (by simpa [Value.ownBlock] using e'.symm) cur e _ hgb
    rcases he with he | he
    · exact this.1 he
    · exact this.2 he
theorem LV.other {w w' : World} {base : Nat} {v : Value} {x : List Int} {row : Option Nat} (h : LV w base v x) (hg : w.grownBy w' row) (ho : Other w row) : LV w' base v x := ⟨own_other h.1 (.inl rfl) hg ho, h.2⟩
theorem OwnLs.other {w w' : World} {base : Nat} {v : Value} {L : List (List Int)} {row : Option Nat} (h : OwnLs w base v L) (hg : w.grownBy w' row) (ho : Other w row) : OwnLs w' base v L := by
  obtain ⟨vs, h1, h2⟩ := h
  exact ⟨vs, own_other h1 (.inr rfl) hg ho, h2.mono fun x y hx => hx.other hg ho⟩
theorem LV.below {w w' : World} {base : Nat} {v : Value} {x : List Int} (h : LV w base v x) {B : Nat} (hb : Below B w w') (hB : w.heap.size ≤ B) : LV w' base v x := ⟨own_below h.1 hb hB, h.2⟩
theorem OwnLs.below {w w' : World} {base : Nat} {v : Value} {L : List (List Int)} (h : OwnLs w base v L) {B : Nat} (hb : Below B w w') (hB : w.heap.size ≤ B) : OwnLs w' base v L := by
  obtain ⟨vs, h1, h2⟩ := h
  exact ⟨vs, own_below h1 hb hB, h2.mono fun x y hx => hx.below hb hB⟩
theorem LV.base {w : World} {base base' : Nat} {v : Value} {x : List Int} (h : LV w base v x) (hb : base' ≤ base) : LV w base' v x := ⟨own_base h.1 hb, h.2⟩
theorem OwnLs.base {w : World} {base base' : Nat} {v : Value} {L : List (List Int)} (h : OwnLs w base v L) (hb : base' ≤ base) : OwnLs w base' v L := by
  obtain ⟨vs, h1, h2⟩ := h
  exact ⟨vs, own_base h1 hb, h2.mono fun x y hx => hx.base hb⟩
theorem OwnLs.nil (w : World) (base : Nat) : OwnLs w base (.slice none 0 0) [] := ⟨[], World.ownsRow_nil _ _ _ _, All2.nil⟩

/-- The row's own block has turned (append): the lines are as they were. -/
theorem LV.own {w w' : World} {base base' size n : Nat} {v u : Value} {us : List Value} {x : List Int} (h : LV w base v x) (hu : w.ownsRow base' 22 size u n us) (hg : w.grownBy w' u.ownBlock) : LV w' base v x :=
  ⟨h.1.kept hg (own_apart h.1 hu (by decide)), h.2⟩

theorem slice_info : (Try.prog.info? 22).map (fun i => (i.zero, i.size, i.bytes)) = some (some (.slice none 0 0), 1, 24) := by kernel_rfl
theorem u8_size : (Try.prog.info? 5).map (·.size) = some 1 := by kernel_rfl

/-- Read as a row of slices. -/
theorem own_rv {w : World} {base n c : Nat} {e : TypeId} {A : Option Addr} {vs : List Value} (h : w.ownsRow base e 1 (.slice A n c) n vs) : RV w w.heap.size A vs := by
  by_cases hx : vs = []
  · exact .inl hx
  · have hn : n = vs.length := by have := h.1; simpa using this.symm
    have hp : 0 < vs.length := List.length_pos_iff.2 hx
    rcases h.2 with ⟨_, h0⟩ | ⟨g, cap, cur, hv, hg0, hg, h1, h2, h3, h4⟩
    · omega
    · injection hv with hA _ _
      refine .inr ⟨g, 0, hA, lt_of_block hg, fun i hi => ?_⟩
      have hlt : i < cur.size := by omega
      have e1 : w.cell? ⟨g, 0 + i, none⟩ = cur[i]? := by simp [World.cell?, hg]
      rw [e1]
      have e2 : vs[i]? = cur.toList[i]? := by rw [← h4, List.getElem?_take]; simp; omega
      rw [← Array.getElem?_toList, ← e2]
      simp [List.getD, hi]

/-- What a row of lines of the call's own reads as. -/
theorem OwnLs.reads {w : World} {base : Nat} {v : Value} {L : List (List Int)} (h : OwnLs w base v L) : ∃ A c vs, v = .slice A L.length c ∧ L.length ≤ c ∧ c ≤ maxLen ∧ vs.length = L.length ∧ RV w w.heap.size A vs ∧ All2 (LR w w.heap.size) vs L := by
  obtain ⟨vs, h1, h2⟩ := h
  obtain ⟨A, c, rfl, h3, h4⟩ := own_slice h1
  exact ⟨A, c, vs, rfl, h3, h4, h2.1, own_rv h1, h2.mono fun x y hx => hx.lr⟩

/-- append of one slice onto a row of slices of the call's own, inside a fence. -/
theorem appIn_one {F : Fence} {n : Nat} (w : World) {ops : Array Oper} {rest : List Oper} {o : Oper} {a : Act} {Q : Exit → Act → World → Prop} (hgd : o.guard = none) (s x : Operand)
    (ho : o.op = .call { callee := .builtin .append, args := #[s, x], argTypes := #[24, 24] }) (base : Nat) (v : Value) (vs : List Value) (line : Value) (hs : a.eval s = v)
    (hown : w.ownsRow base 22 1 v vs.length vs) (h1 : line.oneCell' = true) (g : Nat) (hg : g = w.heap.size) (hx : a.eval x = .slice (some ⟨g, 0, none⟩) 1 1) (h63 : vs.length ≤ 1000000000) (hbase : base ≤ w.heap.size)
    (h : ∀ v' w', w'.ownsRow base 22 1 v' (vs.length + 1) (vs ++ [line]) → (w.alloc (.cells #[line] 22)).grownBy w' v.ownBlock → (v'.ownBlock = v.ownBlock ∨ v'.ownBlock = some (w.heap.size + 1)) → wpListIn F n Try.prog ops Q rest (a.put o.dst v') w') :
    wpListIn F n Try.prog ops Q (o :: rest) a (w.alloc (.cells #[line] 22)) := by
  obtain ⟨i0, hi0, hz0, hz1, hz2⟩ := info_parts slice_info
  subst hg
  refine wpListIn_plain hgd fun K hK => ?_
  obtain ⟨v', w', hr, h2, h3, _, h5⟩ := run_append_own_at (P := Try.prog) (w.alloc (.cells #[line] 22)) base 24 o.type 22 i0 (.slice none 0 0) 1 24 Try.underlying24 hi0 hz0 hz1 hz2 rfl (by decide) v vs.length vs (hown.alloc _) ⟨w.heap.size, 0, none⟩ 1 1 [line] rfl (cell_one_new _ _ _) (by simp [h1]) (by unfold maxLen; omega) (by omega) (by simp; omega)
  unfold Oper.wpIn
  refine ⟨?_, ?_⟩
  · simp [Oper.about, ho, resolve, Target.leads, Sem.run_pure]
  · rw [Oper.semAt_plain F _ _ (by rw [ho]; intro c hc'; cases hc')]
    simp [execOp, ho, resolve, invoke, builtin, hs, hx, hr, Result.andThen]
    exact hK _ _ (h v' w' h2 h3 (by simpa using h5))

/-- The same, outside. -/
theorem app_one (w : World) {ops : Array Oper} {rest : List Oper} {o : Oper} {a : Act} {Q : Exit → Act → World → Prop} (hgd : o.guard = none) (s x : Operand)
    (ho : o.op = .call { callee := .builtin .append, args := #[s, x], argTypes := #[24, 24] }) (base : Nat) (v : Value) (vs : List Value) (line : Value) (hs : a.eval s = v)
    (hown : w.ownsRow base 22 1 v vs.length vs) (h1 : line.oneCell' = true) (g : Nat) (hg : g = w.heap.size) (hx : a.eval x = .slice (some ⟨g, 0, none⟩) 1 1) (h63 : vs.length ≤ 1000000000) (hbase : base ≤ w.heap.size)
    (h : ∀ v' w', w'.ownsRow base 22 1 v' (vs.length + 1) (vs ++ [line]) → (w.alloc (.cells #[line] 22)).grownBy w' v.ownBlock → (v'.ownBlock = v.ownBlock ∨ v'.ownBlock = some (w.heap.size + 1)) → wpList Try.prog ops Q rest (a.put o.dst v') w') :
    wpList Try.prog ops Q (o :: rest) a (w.alloc (.cells #[line] 22)) := by
  obtain ⟨i0, hi0, hz0, hz1, hz2⟩ := info_parts slice_info
  subst hg
  refine wpList_append_own_at (P := Try.prog) _ hgd s x 24 ho base 22 i0 (.slice none 0 0) 1 24 Try.underlying24 hi0 hz0 hz1 hz2 rfl (by decide) v vs.length vs hs (hown.alloc _) ⟨w.heap.size, 0, none⟩ 1 1 [line] hx rfl (cell_one_new _ _ _) (by simp [h1]) (by unfold maxLen; omega) (by omega) (by simp; omega) fun v' w' h2 h3 _ h4 => h v' w' h2 h3 (by simpa using h4)

/-- One integer onto a row of integers, inside a fence. -/
theorem appIn_int {F : Fence} {n : Nat} (w : World) {ops : Array Oper} {rest : List Oper} {o : Oper} {a : Act} {Q : Exit → Act → World → Prop} (hgd : o.guard = none) (s x : Operand)
    (ho : o.op = .call { callee := .builtin .append, args := #[s, x], argTypes := #[26, 26] }) (base : Nat) (v : Value) (ks : List Int) (k : Int) (hs : a.eval s = v)
    (hown : w.ownsRow base 3 1 v ks.length (ks.map (Value.int .i64))) (g : Nat) (hg : g = w.heap.size) (hx : a.eval x = .slice (some ⟨g, 0, none⟩) 1 1) (h63 : ks.length ≤ 1000000000) (hbase : base ≤ w.heap.size)
    (h : ∀ v' w', w'.ownsRow base 3 1 v' (ks ++ [k]).length ((ks ++ [k]).map (Value.int .i64)) → (w.alloc (.cells #[.int .i64 k] 3)).grownBy w' v.ownBlock → (v'.ownBlock = v.ownBlock ∨ v'.ownBlock = some (w.heap.size + 1)) → wpListIn F n Try.prog ops Q rest (a.put o.dst v') w') :
    wpListIn F n Try.prog ops Q (o :: rest) a (w.alloc (.cells #[.int .i64 k] 3)) := by
  obtain ⟨i0, hi0, hz0, hz1, hz2⟩ := info_parts int_info
  subst hg
  refine wpListIn_plain hgd fun K hK => ?_
  obtain ⟨v', w', hr, h2, h3, _, h5⟩ := run_append_own_at (P := Try.prog) (w.alloc (.cells #[.int .i64 k] 3)) base 26 o.type 3 i0 (.int .i64 0) 1 8 Try.underlying26 hi0 hz0 hz1 hz2 rfl (by decide) v ks.length (ks.map (Value.int .i64)) (hown.alloc _) ⟨w.heap.size, 0, none⟩ 1 1 [.int .i64 k] rfl (cell_one_new _ _ _) (by simp [Value.oneCell']) (by unfold maxLen; omega) (by omega) (by simp; omega)
  unfold Oper.wpIn
  refine ⟨?_, ?_⟩
  · simp [Oper.about, ho, resolve, Target.leads, Sem.run_pure]
  · rw [Oper.semAt_plain F _ _ (by rw [ho]; intro c hc'; cases hc')]
    simp [execOp, ho, resolve, invoke, builtin, hs, hx, hr, Result.andThen]
    exact hK _ _ (h v' w' (by simpa using h2) h3 (by simpa using h5))
end Go.Proofs.Ytccbbmkdmdllgaa.Mem
