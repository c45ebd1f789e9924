import Derived.Test.YtmknghhgcecafaaDoorJxB
import Derived.Test.YtmknghhgcecafaaDoorJxA
import Derived.Laws.OwnMore

/-
  Layer 5 (tree): a row of nodes of one's own, whose Kids lie in blocks of a set S, none of them the row's own.
-/
namespace Go.Proofs.YtmknghhgcecafaaDoor.Tree
open Go.ChangeShapes Go.WideShapes Go.ChangeAt Go.RowKit Mem
set_option linter.unusedVariables false

def OwnS (w : World) (S : Nat → Prop) (v : Value) (L : List Nd) : Prop :=
  ∃ ps : List (Nd × Value), ps.map (·.1) = L ∧ w.ownsRow 0 24 4 v L.length (ps.flatMap ndC) ∧ ∀ p ∈ ps, Fs w S p.2 p.1.c
theorem OwnS.nil (w : World) (S : Nat → Prop) : OwnS w S (.slice none 0 0) [] := ⟨[], rfl, World.ownsRow_nil _ _ _ _, fun p hp => by cases hp⟩
theorem OwnS.slice {w : World} {S : Nat → Prop} {v : Value} {L : List Nd} (h : OwnS w S v L) : ∃ a c, v = .slice a L.length c ∧ L.length ≤ c ∧ c ≤ maxLen := by
  obtain ⟨ps, _, ho, _⟩ := h
  exact own_slice' ho
theorem OwnS.lt {w : World} {S : Nat → Prop} {v : Value} {L : List Nd} (h : OwnS w S v L) {g : Nat} (hg : v.ownBlock = some g) : g < w.heap.size := by
  obtain ⟨ps, _, ho, _⟩ := h
  exact (ho.lt g hg).2
theorem OwnS.grown {w w' : World} {S : Nat → Prop} {v : Value} {L : List Nd} {row : Option Nat} (h : OwnS w S v L) (hg : w.grownBy w' row) (hne : v.ownBlock = none ∨ v.ownBlock ≠ row) (hS : ∀ b, S b → b < w.heap.size ∧ some b ≠ row) : OwnS w' S v L := by
  obtain ⟨ps, e, ho, hf⟩ := h
  exact ⟨ps, e, ho.kept hg hne, fun p hp => (hf p hp).keep fun b hb => hg.block b (hS b hb).1 (hS b hb).2⟩
theorem OwnS.more {w : World} {S S' : Nat → Prop} {v : Value} {L : List Nd} (h : OwnS w S v L) (hS : ∀ b, S b → S' b) : OwnS w S' v L := by
  obtain ⟨ps, e, ho, hf⟩ := h
  exact ⟨ps, e, ho, fun p hp => (hf p hp).more hS⟩
theorem grown_below {w w' : World} (h : Below w.heap.size w w') (row : Option Nat) : w.grownBy w' row := ⟨h.os, h.tape, h.output, h.size, fun k hk _ => h.block k hk⟩
theorem below_grown {w w' : World} {B : Nat} {row : Option Nat} (h : w.grownBy w' row) (hB : B ≤ w.heap.size) (hr : ∀ k, row = some k → B ≤ k) : Below B w w' :=
  ⟨h.os, h.tape, h.output, h.size, fun k hk => h.block k (Nat.lt_of_lt_of_le hk hB) (fun e => by have := hr k e.symm; omega)⟩
theorem OwnS.later {w w' : World} {S : Nat → Prop} {v : Value} {L : List Nd} (h : OwnS w S v L) (hb : Below w.heap.size w w') (hS : ∀ b, S b → b < w.heap.size) : OwnS w' S v L := by
  cases hv : v.ownBlock with
  | none => exact h.grown (grown_below hb none) (.inl hv) (fun b hbS => ⟨hS b hbS, by simp⟩)
  | some g => exact h.grown (grown_below hb none) (.inr (by simp [hv])) (fun b hbS => ⟨hS b hbS, by simp⟩)
/-- The row as a row of trees. -/
theorem OwnS.fs {w : World} {S S' : Nat → Prop} {v : Value} {L : List Nd} (h : OwnS w S v L) (hS : ∀ b, S b → S' b) (hg : ∀ g, v.ownBlock = some g → S' g) : Fs w S' v (ofL L) := by
  obtain ⟨ps, h1, ho, hf⟩ := h
  rcases ho.2 with ⟨rfl, h0⟩ | ⟨g, cap, cur, rfl, hg0, hg2, q1, q2, q3, q4⟩
  · rw [List.eq_nil_of_length_eq_zero h0]
    exact ⟨none, 0, rfl, by omega⟩
  · have e : ofL L = ofL (ps.map (·.1)) := by rw [h1]
    rw [e]
    have hc := ho.cells (g := g) rfl
    have ad : ∀ j, (⟨g, 0, none⟩ : Addr).add j = ⟨g, j, none⟩ := fun j => by unfold Addr.add; split <;> simp_all
    refine fs_row g (hg g rfl) ps 0 L.length cap (by rw [← h1]; simp) q1 q2 (fun j u hu => ?_) (fun p hp => (hf p hp).more hS) _ (.inr rfl)
    have := hc j u hu
    rwa [ad, ← Nat.zero_add j] at this

/-- append of one node, that has just been laid, onto a row of one's own: the row's block alone may change, or a new one is laid. -/
theorem run_app_own (w : World) (ty : TypeId) (S : Nat → Prop) (v : Value) (L : List Nd) (b c : Nat) (nd : Nd) (s : Value)
    (hc : w.cell? ⟨b, 0, none⟩ = some (.int .i64 nd.k) ∧ w.cell? ⟨b, 1, none⟩ = some (.string nd.x) ∧ w.cell? ⟨b, 2, none⟩ = some (.string nd.y) ∧ w.cell? ⟨b, 3, none⟩ = some s) (h1 : OwnS w S v L) (h2 : Fs w S s nd.c)
    (hS : ∀ b, S b → b < w.heap.size ∧ some b ≠ v.ownBlock) (hlen : L.length ≤ 1000000) :
    ∃ v' w', (Builtin.append_ #[22, 22] ty #[v, .slice (some ⟨b, 0, none⟩) 1 c]).run Tryd.prog w = .ok v' w' ∧ OwnS w' S v' (L ++ [nd]) ∧ w.grownBy w' v.ownBlock ∧ (v'.ownBlock = v.ownBlock ∨ v'.ownBlock = some w.heap.size) := by
  obtain ⟨i0, hi0, hz0, hz1, hz2⟩ := info_parts node_info
  obtain ⟨ps, e1, ho, hf⟩ := h1
  obtain ⟨A2, C2, e2, _, _⟩ := h2.slice
  have hmul : (L.length + 1) * 64 ≤ 1000001 * 64 := Nat.mul_le_mul (by omega) (Nat.le_refl _)
  obtain ⟨v', w', hrun, r1, r2, _, r3⟩ := run_append_own_at (P := Tryd.prog) w 0 22 ty 24 i0 _ 4 64 Tryd.underlying22 hi0 hz0 hz1 hz2 rfl (by decide) v L.length _ ho ⟨b, 0, none⟩ 1 c (ndC (nd, s)) rfl (fun j u hj => by
    have ad : (⟨b, 0, none⟩ : Addr).add j = ⟨b, j, none⟩ := by unfold Addr.add; split <;> simp_all
    rw [ad]
    match j, hj with
    | 0, hj => simp [ndC] at hj; rw [← hj]; exact hc.1
    | 1, hj => simp [ndC] at hj; rw [← hj]; exact hc.2.1
    | 2, hj => simp [ndC] at hj; rw [← hj]; exact hc.2.2.1
    | 3, hj => simp [ndC] at hj; rw [← hj]; exact hc.2.2.2
    | j + 4, hj => simp [ndC] at hj) (by intro u hu; simp [ndC] at hu; rcases hu with rfl | rfl | rfl | rfl <;> first | rfl | (rw [e2]; rfl)) (by unfold maxLen; omega) (by omega) (Nat.zero_le _)
  refine ⟨v', w', hrun, ⟨ps ++ [(nd, s)], by rw [List.map_append, e1]; rfl, by rw [List.length_append, List.flatMap_append]; simpa using r1, fun p hp => ?_⟩, r2, r3⟩
  rcases List.mem_append.1 hp with hp | hp
  · exact (hf p hp).keep fun b hb => r2.block b (hS b hb).1 (hS b hb).2
  · simp only [List.mem_singleton] at hp
    subst hp
    exact h2.keep fun b hb => r2.block b (hS b hb).1 (hS b hb).2
theorem wp_app_own {o : Oper} {a : Act} {w : World} {K : Act → World → Prop} {Q : Exit → Act → World → Prop} (s x : Operand)
    (ho : o.op = .call { callee := .builtin .append, args := #[s, x], argTypes := #[22, 22] }) (S : Nat → Prop) (v : Value) (L : List Nd) (b c : Nat) (nd : Nd) (sv : Value) (hs : a.eval s = v) (hx : a.eval x = .slice (some ⟨b, 0, none⟩) 1 c)
    (hc : w.cell? ⟨b, 0, none⟩ = some (.int .i64 nd.k) ∧ w.cell? ⟨b, 1, none⟩ = some (.string nd.x) ∧ w.cell? ⟨b, 2, none⟩ = some (.string nd.y) ∧ w.cell? ⟨b, 3, none⟩ = some sv) (h1 : OwnS w S v L) (h2 : Fs w S sv nd.c)
    (hS : ∀ b, S b → b < w.heap.size ∧ some b ≠ v.ownBlock) (hlen : L.length ≤ 1000000)
    (hK : ∀ v' w', OwnS w' S v' (L ++ [nd]) → w.grownBy w' v.ownBlock → (v'.ownBlock = v.ownBlock ∨ v'.ownBlock = some w.heap.size) → K (a.put o.dst v') w') : Oper.wp Tryd.prog o a w K Q := by
  obtain ⟨v', w', hrun, r1, r2, r3⟩ := run_app_own w o.type S v L b c nd sv hc h1 h2 hS hlen
  unfold Oper.wp
  simp [execOp, ho, resolve, invoke, builtin, hs, hx, hrun, Result.andThen]
  exact hK v' w' r1 r2 r3
theorem wpList_app_own {ops : Array Oper} {rest : List Oper} {o : Oper} {a : Act} {w : World} {Q : Exit → Act → World → Prop} (hgd : o.guard = none) (s x : Operand)
    (ho : o.op = .call { callee := .builtin .append, args := #[s, x], argTypes := #[22, 22] }) (S : Nat → Prop) (v : Value) (L : List Nd) (b c : Nat) (nd : Nd) (sv : Value) (hs : a.eval s = v) (hx : a.eval x = .slice (some ⟨b, 0, none⟩) 1 c)
    (hc : w.cell? ⟨b, 0, none⟩ = some (.int .i64 nd.k) ∧ w.cell? ⟨b, 1, none⟩ = some (.string nd.x) ∧ w.cell? ⟨b, 2, none⟩ = some (.string nd.y) ∧ w.cell? ⟨b, 3, none⟩ = some sv) (h1 : OwnS w S v L) (h2 : Fs w S sv nd.c)
    (hS : ∀ b, S b → b < w.heap.size ∧ some b ≠ v.ownBlock) (hlen : L.length ≤ 1000000)
    (h : ∀ v' w', OwnS w' S v' (L ++ [nd]) → w.grownBy w' v.ownBlock → (v'.ownBlock = v.ownBlock ∨ v'.ownBlock = some w.heap.size) → wpList Tryd.prog ops Q rest (a.put o.dst v') w') : wpList Tryd.prog ops Q (o :: rest) a w := by
  refine wpList_plain hgd fun K hK => ?_
  exact wp_app_own s x ho S v L b c nd sv hs hx hc h1 h2 hS hlen fun v' w' r1 r2 r3 => hK _ _ (h v' w' r1 r2 r3)
end Go.Proofs.YtmknghhgcecafaaDoor.Tree

/-
  Layer 5 (tree): the document's Copy: the same tree, of new memory. Written by gen_treerefcopy.py.
-/
namespace Go.Proofs.YtmknghhgcecafaaDoor.Tree
open Go.ChangeShapes Go.WideShapes Go.ChangeAt Go.RowKit Mem
set_option linter.unusedVariables false

/-- The blocks from one on that are there. -/
def Rng (B : Nat) (W : World) : Nat → Prop := fun b => B ≤ b ∧ b < W.heap.size
theorem rng_later {B : Nat} {W W' : World} {v : Value} {f : F} (h : Fs W (Rng B W) v f) (hb : Below W.heap.size W W') : Fs W' (Rng B W') v f :=
  (h.keep fun b hb' => hb.block b hb'.2).more fun b hb' => ⟨hb'.1, Nat.lt_of_lt_of_le hb'.2 hb.size⟩
/-- The blocks that the Kids of a new row may lie in. -/
def CS (w W : World) (v : Value) : Nat → Prop := fun b => w.heap.size + 3 ≤ b ∧ b < W.heap.size ∧ some b ≠ v.ownBlock
/-- What holds at each round: vb: what the variable holds; v: the row. -/
structure CAt (w W : World) (k : Int) (x y : ByteArray) (A : Option Addr) (n C : Nat) (vb v : Value) (L : List Nd) : Prop where
  bel : Below w.heap.size w W
  b1 : Boxed W w.heap.size k x y (.slice A n C)
  b2 : Boxed W (w.heap.size + 1) 0 ⟨#[]⟩ ⟨#[]⟩ (.slice none 0 0)
  b3 : Boxed W (w.heap.size + 2) k x y vb
  o : OwnS W (CS w W v) v L
  d : ∀ g, v.ownBlock = some g → w.heap.size + 3 ≤ g
theorem set_grown (w : World) (g i : Nat) (v : Value) : w.grownBy (w.setCell ⟨g, i, none⟩ v) (some g) := by
  have h := (Below.refl 0 w).setCell (p := ⟨g, i, none⟩) (Nat.zero_le _) v
  refine ⟨h.os, h.tape, h.output, h.size, fun k _ hne => ?_⟩
  exact Below.heap_setCell _ _ _ _ (fun e => hne (by rw [e]))
section
variable {w W W' : World} {k : Int} {x y : ByteArray} {A : Option Addr} {n C : Nat} {vb v v' : Value} {L : List Nd} {nd : Nd}
theorem CAt.sS (h : CAt w W k x y A n C vb v L) : ∀ b, CS w W v b → b < W.heap.size ∧ some b ≠ v.ownBlock := fun b hb => ⟨hb.2.1, hb.2.2⟩
theorem CAt.later (h : CAt w W k x y A n C vb v L) (hb : Below W.heap.size W W') : CAt w W' k x y A n C vb v L :=
  ⟨h.bel.trans (hb.mono h.bel.size), h.b1.below hb h.b1.lt, h.b2.below hb h.b2.lt, h.b3.below hb h.b3.lt, (h.o.later hb fun b hb' => hb'.2.1).more fun b hb' => ⟨hb'.1, Nat.lt_of_lt_of_le hb'.2.1 hb.size, hb'.2.2⟩, h.d⟩
theorem CAt.app (h : CAt w W k x y A n C vb v L) (ho : OwnS W' (CS w W v) v' (L ++ [nd])) (hg : W.grownBy W' v.ownBlock) (hv : v'.ownBlock = v.ownBlock ∨ v'.ownBlock = some W.heap.size) : CAt w W' k x y A n C vb v' (L ++ [nd]) := by
  have q1 := h.b1.lt; have q2 := h.b2.lt; have q3 := h.b3.lt
  refine ⟨h.bel.trans (below_grown hg h.bel.size fun g e => Nat.le_trans (by omega) (h.d g e)), (hg.block _ q1 fun e => by have := h.d _ e.symm; omega).trans h.b1, (hg.block _ q2 fun e => by have := h.d _ e.symm; omega).trans h.b2, (hg.block _ q3 fun e => by have := h.d _ e.symm; omega).trans h.b3, ho.more fun b hb => ⟨hb.1, Nat.lt_of_lt_of_le hb.2.1 hg.size, fun e => ?_⟩, fun g e => ?_⟩
  · rcases hv with hv | hv
    · exact hb.2.2 (e.trans hv)
    · rw [hv] at e
      obtain rfl := Option.some.inj e
      exact Nat.lt_irrefl _ hb.2.1
  · rcases hv with hv | hv
    · exact h.d g (hv ▸ e)
    · rw [hv] at e
      obtain rfl := Option.some.inj e
      omega
theorem CAt.set (h : CAt w W k x y A n C vb v L) : CAt w (W.setCell ⟨w.heap.size + 2, 3, none⟩ v) k x y A n C v v L := by
  have hg := set_grown W (w.heap.size + 2) 3 v
  refine ⟨h.bel.setCell (p := ⟨w.heap.size + 2, 3, none⟩) (show w.heap.size ≤ w.heap.size + 2 by omega) _, (Below.heap_setCell _ _ _ _ (show w.heap.size ≠ w.heap.size + 2 by omega)).trans h.b1, (Below.heap_setCell _ _ _ _ (show w.heap.size + 1 ≠ w.heap.size + 2 by omega)).trans h.b2, ?_, (h.o.grown hg (.inr fun e => by have := h.d _ e; omega) fun b hb => ⟨hb.2.1, fun e => by have := Option.some.inj e; have := hb.1; omega⟩).more fun b hb => ⟨hb.1, Nat.lt_of_lt_of_le hb.2.1 hg.size, hb.2.2⟩, h.d⟩
  have := set_at h.b3 3 v
  unfold Boxed
  simpa using this
theorem rng_cs {wr W : World} (h : CAt w wr k x y A n C vb v L) (hb : Below wr.heap.size wr W) {b : Nat} (hb' : Rng wr.heap.size W b) : CS w W v b :=
  ⟨Nat.le_trans h.b3.lt hb'.1, hb'.2, fun e => by have := h.o.lt e.symm; have := hb'.1; omega⟩
end

/-- A tree of new memory: its row is the call's own, its Kids' blocks are new, and none of them is the row's. -/
def NewT (w W : World) (v : Value) (L : List Nd) : Prop := OwnS W (fun b => w.heap.size ≤ b ∧ b < W.heap.size ∧ some b ≠ v.ownBlock) v L ∧ ∀ g, v.ownBlock = some g → w.heap.size ≤ g
theorem NewT.fs {w W : World} {v : Value} {L : List Nd} (h : NewT w W v L) : Fs W (Rng w.heap.size W) v (ofL L) :=
  h.1.fs (fun b hb => ⟨hb.1, hb.2.1⟩) fun g e => ⟨h.2 g e, h.1.lt e⟩
def CopySpec (N : Nat) : Prop := ∀ (k : Int) (x y : ByteArray) (A : Option Addr) (n C : Nat) (c : F) (w : World), c.size ≤ N → c.size ≤ 100000 → Fs w (Lo w.heap.size) (.slice A n C) c →
  Calls Tryd.prog 18 #[.agg #[.int .i64 k, .string x, .string y, .slice A n C]] w fun e w' => Below w.heap.size w w' ∧ ∃ (Ar : Option Addr) (nr Cr : Nat), e = .returned (.agg #[.int .i64 k, .string x, .string y, .slice Ar nr Cr]) ∧ NewT w w' (.slice Ar nr Cr) (toL c)

theorem toL_drop_take {c : F} {i : Nat} {k : Int} {x y : ByteArray} {kc r : F} (h : c.drop i = .cons k x y kc r) : (toL c)[i]? = some ⟨k, x, y, kc⟩ := by
  induction i generalizing c with
  | zero => rw [show c = .cons k x y kc r from h]; rfl
  | succ i ih =>
    cases c with
    | nil => simp [F.drop] at h
    | cons k' x' y' c' r' => exact ih (c := r') h

set_option maxRecDepth 100000 in
set_option maxHeartbeats 16000000 in
theorem copy_step (N : Nat) (ih : ∀ M, M < N → CopySpec M) : CopySpec N := by
  intro k x y A n C c w hN hbig hf
  have HIH := Lib.hid ih
  obtain ⟨A', C', e, hnC, hCm⟩ := hf.slice
  injection e with q1 q2 q3
  subst q1; subst q2; subst q3
  have b1 := below3 w (.cells #[.int .i64 k, .string x, .string y, .slice A c.len C] 24) (.cells #[.int .i64 0, .string ⟨#[]⟩, .string ⟨#[]⟩, .slice none 0 0] 24) (.cells #[.int .i64 k, .string x, .string y, .slice none 0 0] 24)
  have HM : Hid (CAt w (((w.alloc (.cells #[.int .i64 k, .string x, .string y, .slice A c.len C] 24)).alloc (.cells #[.int .i64 0, .string ⟨#[]⟩, .string ⟨#[]⟩, .slice none 0 0] 24)).alloc (.cells #[.int .i64 k, .string x, .string y, .slice none 0 0] 24)) k x y A c.len C (.slice none 0 0) (.slice none 0 0) ((toL c).take 0)) := by
    refine ⟨b1, ?_, ?_, ?_, OwnS.nil _ _, fun g e => by cases e⟩
    · exact (Below.heap_alloc _ _ _ (by simp <;> omega)).trans ((Below.heap_alloc _ _ _ (by simp)).trans (heap_alloc_new _ _))
    · have e : w.heap.size + 1 = (w.alloc (.cells #[.int .i64 k, .string x, .string y, .slice A c.len C] 24)).heap.size := by simp
      rw [e]
      exact (Below.heap_alloc _ _ _ (by simp)).trans (heap_alloc_new _ _)
    · have e : w.heap.size + 2 = ((w.alloc (.cells #[.int .i64 k, .string x, .string y, .slice A c.len C] 24)).alloc (.cells #[.int .i64 0, .string ⟨#[]⟩, .string ⟨#[]⟩, .slice none 0 0] 24)).heap.size := by simp
      rw [e]
      exact heap_alloc_new _ _
  obtain ⟨n, hn⟩ : ∃ n, c.len = n := ⟨_, rfl⟩
  have HLN : Hid (n ≤ 100000) := by show n ≤ _; have := F.len_le_size c; omega
  rw [hn] at HM hf hnC ⊢
  have HF := Lib.hid hf
  have HN := Lib.hid hn
  have hCm' : C ≤ 9223372036854775807 := hCm
  clear ih hf b1 hn
  go_enter Tryd.func18, Tryd.ntmps18
  go_wp2
  go_loopw [4] (fun s4 wr => ∃ (i ln C0 : Nat) (A0 : Option Addr), i ≤ n ∧ s4 = .int .i64 (i : Int) ∧ Hid (CAt w wr k x y A n C (.slice A0 ln C0) (.slice A0 ln C0) ((toL c).take i))) (fun s4 _ => n - (intOf s4).toNat)
  case atStart => exact ⟨0, 0, 0, none, Nat.zero_le _, rfl, HM.out⟩
  case round =>
    clear HM
    obtain ⟨i, ln, C0, A0, hi, rfl, HM⟩ := hrel
    obtain ⟨p0, p1, p2, p3⟩ := HM.out.b1.cells
    by_cases hlt : i < n
    · have hlt' : (i : Int) < (n : Int) := by omega
      have hi0 : (0 : Int) ≤ (i : Int) := by omega
      obtain ⟨kk, kx, ky, kc, kr, hdr, hdr2⟩ := F.drop_cons (n := i) (f := c) (by rw [HN.out]; exact hlt)
      have hfw := HF.out.below HM.out.bel (Nat.le_refl _)
      obtain ⟨b0, off0, s0, rfl, hb0, _, hat⟩ := hfw.at_ hdr
      obtain ⟨Ak, Ck, rfl, hk1, hk2⟩ := hat.kids.slice
      have hnd := toL_drop_take hdr
      have hsz := size_drop hdr
      have HTK : Hid ((toL c).take (i + 1) = (toL c).take i ++ [⟨kk, kx, ky, kc⟩]) := by show _ = _; rw [List.take_add_one, hnd]; rfl
      have hlb : b0 < wr.heap.size := Nat.lt_of_lt_of_le hb0 HM.out.bel.size
      obtain ⟨kn, hkn⟩ : ∃ kn, kc.len = kn := ⟨_, rfl⟩
      rw [hkn] at hat hk1
      have HND : Hid (∀ W, Below wr.heap.size wr W → W.cell? ⟨b0, off0 + i * 4, none⟩ = some (.int .i64 kk) ∧ W.cell? ⟨b0, off0 + i * 4 + 1, none⟩ = some (.string kx) ∧ W.cell? ⟨b0, off0 + i * 4 + 2, none⟩ = some (.string ky) ∧ W.cell? ⟨b0, off0 + i * 4 + 3, none⟩ = some (.slice Ak kn Ck)) := fun W hW =>
        ⟨(hW.cell (p := ⟨b0, off0 + i * 4, none⟩) hlb).trans hat.c0, (hW.cell (p := ⟨b0, off0 + i * 4 + 1, none⟩) hlb).trans hat.c1, (hW.cell (p := ⟨b0, off0 + i * 4 + 2, none⟩) hlb).trans hat.c2, (hW.cell (p := ⟨b0, off0 + i * 4 + 3, none⟩) hlb).trans hat.c3⟩
      have hkl := F.len_le_size kc
      have HKF : Hid (∀ W, Below wr.heap.size wr W → Fs W (Lo W.heap.size) (.slice Ak kn Ck) kc) := fun W hW => (hat.kids.below hW HM.out.bel.size).up (Nat.le_trans HM.out.bel.size hW.size)
      have HC : Hid (∀ W, Below wr.heap.size wr W → Calls Tryd.prog 18 #[.agg #[.int .i64 kk, .string kx, .string ky, .slice Ak kn Ck]] W fun e w' => Below W.heap.size W w' ∧ ∃ (Ar : Option Addr) (nr Cr : Nat), e = .returned (.agg #[.int .i64 kk, .string kx, .string ky, .slice Ar nr Cr]) ∧ Fs w' (Rng W.heap.size w') (.slice Ar nr Cr) kc) := fun W hW =>
        (HIH.out kc.size (by omega) kk kx ky Ak kn Ck kc W (Nat.le_refl _) (by omega) ((HKF.out W hW))).mono fun e w' ⟨hb, Ar, nr, Cr, he, hnw⟩ => ⟨hb, Ar, nr, Cr, he, by have := hnw.fs; rwa [ofL_toL] at this⟩
      obtain ⟨L, hL⟩ : ∃ L, (toL c).take i = L := ⟨_, rfl⟩
      rw [hL] at HM HTK
      have HLL : Hid (L.length ≤ 1000000) := by show L.length ≤ _; rw [← hL, List.length_take, toL_len, HN.out]; have := HLN.out; omega
      clear hdr hdr2 hfw hat hnd hsz hL hkn hkl hk2
      go_wp2
      refine region_rel3 [0, 1, 2, 3, 4, 5, 6, 7, 8, 9] 9 11 (fun W W' => Below W.heap.size W W') (fun W => Below wr.heap.size wr W) (fun v' W => CAt w W k x y (some ⟨b0, off0, none⟩) n C (.slice A0 ln C0) v' (L ++ [⟨kk, kx, ky, kc⟩])) (fun v' W => CAt w W k x y (some ⟨b0, off0, none⟩) n C v' v' (L ++ [⟨kk, kx, ky, kc⟩])) [Cd.any, Cd.any, Cd.any, Cd.any, Cd.any, Cd.any, Cd.any, ⟨fun v W => ∃ (Ar : Option Addr) (nr Cr : Nat), v = .agg #[.int .i64 kk, .string kx, .string ky, .slice Ar nr Cr] ∧ Fs W (Rng wr.heap.size W) (.slice Ar nr Cr) kc, fun v W W' hU h => by obtain ⟨Ar, nr, Cr, e, hf⟩ := h; exact ⟨Ar, nr, Cr, e, rng_later hf hU⟩⟩, ⟨fun v W => ∃ (b : Nat) (Ar : Option Addr) (nr Cr : Nat), v = .slice (some ⟨b, 0, none⟩) 1 1 ∧ wr.heap.size ≤ b ∧ b < W.heap.size ∧ W.cell? ⟨b, 0, none⟩ = some (.int .i64 kk) ∧ W.cell? ⟨b, 1, none⟩ = some (.string kx) ∧ W.cell? ⟨b, 2, none⟩ = some (.string ky) ∧ W.cell? ⟨b, 3, none⟩ = some (.slice Ar nr Cr) ∧ Fs W (Rng wr.heap.size W) (.slice Ar nr Cr) kc, fun v W W' hU h => by obtain ⟨b, Ar, nr, Cr, e, h1, h2, c0, c1, c2, c3, hf⟩ := h; exact ⟨b, Ar, nr, Cr, e, h1, Nat.lt_of_lt_of_le h2 hU.size, (hU.cell (p := ⟨b, 0, none⟩) h2).trans c0, (hU.cell (p := ⟨b, 1, none⟩) h2).trans c1, (hU.cell (p := ⟨b, 2, none⟩) h2).trans c2, (hU.cell (p := ⟨b, 3, none⟩) h2).trans c3, rng_later hf hU⟩⟩, Cd.any, Cd.any, Cd.any] [(fun v => v = Value.pointer (some ⟨w.heap.size + 2, 3, none⟩)), (fun v => v = Value.slice A0 ln C0), (fun v => v = Value.pointer (some ⟨w.heap.size, 3, none⟩)), (fun v => v = Value.slice (some ⟨b0, off0, none⟩) n C), (fun v => v = Value.int .i64 (i : Int)), (fun v => v = Value.pointer (some ⟨b0, off0 + i * 4, none⟩)), (fun v => v = Value.agg #[.int .i64 kk, .string kx, .string ky, .slice Ak kn Ck]), (fun _ => True), (fun _ => True), (fun _ => True), (fun v => v = Value.pointer (some ⟨w.heap.size + 2, 3, none⟩)), (fun _ => True)] (by kernel_rfl) (by decide) (by kernel_rfl) (by kernel_rfl) (by kernel_rfl) (by decide) (by decide) (by decide) ((Below.refl _ _).drew) (fun _ _ hU hS => hS.trans (hU.mono hS.size)) (fun _ _ _ hU hS => hS.later hU) (fun _ _ _ hU hS => hS.later hU) ?steps ?behind
      case steps =>
        intro xv W a ha
        simp only [fillA] at ha
        simp only [List.setIfInBounds_toArray, List.set_cons_succ, List.set_cons_zero, Nat.zero_add, Nat.reduceAdd] at ha
        subst ha
        refine ⟨fun hI hS1 hS2 hd he K hK => ?s0, fun hI hS1 hS2 hd he K hK => ?s1, fun hI hS1 hS2 hd he K hK => ?s2, fun hI hS1 hS2 hd he K hK => ?s3, fun hI hS1 hS2 hd he K hK => ?s4, fun hI hS1 hS2 hd he K hK => ?s5, fun hI hS1 hS2 hd he K hK => ?s6, fun hI hS1 hS2 hd he K hK => ?s7, fun hI hS1 hS2 hd he K hK => ?s8, fun hI hS1 hS2 hd he K hK => ?s9, fun hI hS1 hS2 hd he K hK => ?s10, fun hI hS1 hS2 hd he K hK => ?s11, trivial⟩
        case s0 =>
          clear hd he hS1 hS2
          simp only [Act.put, List.setIfInBounds_toArray, List.set_cons_succ, List.set_cons_zero] at hK
          refine (if_pos (by rfl)).mpr ?_
          go_simp
          exact hK.out _ _ (fun _ _ => ⟨Below.refl _ _, trivial⟩) (fun e => absurd e (by decide)) (fun e => absurd e (by decide)) rfl
        case s1 =>
          have hx0 : xv 0 = Value.pointer (some ⟨w.heap.size + 2, 3, none⟩) := hd 0 (by kernel_rfl)
          have hSW := hS1 (.inl (by kernel_rfl))
          clear hd he hS1 hS2
          simp only [Act.put, List.setIfInBounds_toArray, List.set_cons_succ, List.set_cons_zero] at hK
          rw [hx0] at hK ⊢
          refine (if_pos (by rfl)).mpr ?_
          obtain ⟨hq0, hq1, hq2, hq3⟩ := (HM.out.later hSW).b3.cells
          go_simp
          exact hK.out _ _ (fun _ _ => ⟨Below.refl _ _, trivial⟩) (fun e => absurd e (by decide)) (fun e => absurd e (by decide)) rfl
        case s2 =>
          clear hd he hS1 hS2
          simp only [Act.put, List.setIfInBounds_toArray, List.set_cons_succ, List.set_cons_zero] at hK
          refine (if_pos (by rfl)).mpr ?_
          go_simp
          exact hK.out _ _ (fun _ _ => ⟨Below.refl _ _, trivial⟩) (fun e => absurd e (by decide)) (fun e => absurd e (by decide)) rfl
        case s3 =>
          have hx2 : xv 2 = Value.pointer (some ⟨w.heap.size, 3, none⟩) := hd 2 (by kernel_rfl)
          have hSW := hS1 (.inl (by kernel_rfl))
          clear hd he hS1 hS2
          simp only [Act.put, List.setIfInBounds_toArray, List.set_cons_succ, List.set_cons_zero] at hK
          rw [hx2] at hK ⊢
          refine (if_pos (by rfl)).mpr ?_
          obtain ⟨hq0, hq1, hq2, hq3⟩ := (HM.out.later hSW).b1.cells
          go_simp
          exact hK.out _ _ (fun _ _ => ⟨Below.refl _ _, trivial⟩) (fun e => absurd e (by decide)) (fun e => absurd e (by decide)) rfl
        case s4 =>
          clear hd he hS1 hS2
          simp only [Act.put, List.setIfInBounds_toArray, List.set_cons_succ, List.set_cons_zero] at hK
          refine (if_pos (by rfl)).mpr ?_
          go_simp
          exact hK.out _ _ (fun _ _ => ⟨Below.refl _ _, trivial⟩) (fun e => absurd e (by decide)) (fun e => absurd e (by decide)) rfl
        case s5 =>
          have hx3 : xv 3 = Value.slice (some ⟨b0, off0, none⟩) n C := hd 3 (by kernel_rfl)
          have hx4 : xv 4 = Value.int .i64 (i : Int) := hd 4 (by kernel_rfl)
          clear hd he hS1 hS2
          simp only [Act.put, List.setIfInBounds_toArray, List.set_cons_succ, List.set_cons_zero] at hK
          rw [hx3] at hK ⊢
          rw [hx4] at hK ⊢
          refine (if_pos (by rfl)).mpr ?_
          go_simp
          exact hK.out _ _ (fun _ _ => ⟨Below.refl _ _, trivial⟩) (fun e => absurd e (by decide)) (fun e => absurd e (by decide)) rfl
        case s6 =>
          have hx5 : xv 5 = Value.pointer (some ⟨b0, off0 + i * 4, none⟩) := hd 5 (by kernel_rfl)
          have hSW := hS1 (.inl (by kernel_rfl))
          clear hd he hS1 hS2
          simp only [Act.put, List.setIfInBounds_toArray, List.set_cons_succ, List.set_cons_zero] at hK
          rw [hx5] at hK ⊢
          refine (if_pos (by rfl)).mpr ?_
          obtain ⟨hq0, hq1, hq2, hq3⟩ := HND.out W hSW
          go_simp
          exact hK.out _ _ (fun _ _ => ⟨Below.refl _ _, trivial⟩) (fun e => absurd e (by decide)) (fun e => absurd e (by decide)) rfl
        case s7 =>
          have hx6 : xv 6 = Value.agg #[.int .i64 kk, .string kx, .string ky, .slice Ak kn Ck] := hd 6 (by kernel_rfl)
          have hSW := hS1 (.inl (by kernel_rfl))
          clear hd he hS1 hS2
          simp only [Act.put, List.setIfInBounds_toArray, List.set_cons_succ, List.set_cons_zero] at hK
          rw [hx6] at hK ⊢
          refine (if_pos (by rfl)).mpr ?_
          go_simp
          go_at_call 18
          refine (HC.out W hSW).mono ?_
          rintro e w' ⟨hb, Ar, nr, Cr, rfl, hf⟩
          exact hK.out _ _ (fun _ _ => ⟨hb, Ar, nr, Cr, rfl, hf.more fun b hb' => ⟨Nat.le_trans hSW.size hb'.1, hb'.2⟩⟩) (fun e => absurd e (by decide)) (fun e => absurd e (by decide)) trivial
        case s8 =>
          have he7 : ∃ (Ar : Option Addr) (nr Cr : Nat), xv 7 = .agg #[.int .i64 kk, .string kx, .string ky, .slice Ar nr Cr] ∧ Fs W (Rng wr.heap.size W) (.slice Ar nr Cr) kc := he (.inl (by kernel_rfl)) 7 (by kernel_rfl)
          have hSW := hS1 (.inl (by kernel_rfl))
          clear hd he hS1 hS2
          simp only [Act.put, List.setIfInBounds_toArray, List.set_cons_succ, List.set_cons_zero] at hK
          refine (if_pos (by rfl)).mpr ?_
          obtain ⟨Ar, nr, Cr, e7, hf⟩ := he7
          rw [e7] at hK ⊢
          go_simp
          have hb := below1 W (.cells #[.int .i64 kk, .string kx, .string ky, .slice Ar nr Cr] 24)
          have hbx := boxed_new W kk kx ky (.slice Ar nr Cr)
          obtain ⟨z0, z1, z2, z3⟩ := hbx.cells
          exact hK.out _ _ (fun _ _ => ⟨hb, W.heap.size, Ar, nr, Cr, rfl, hSW.size, by simp, z0, z1, z2, z3, rng_later hf hb⟩) (fun e => absurd e (by decide)) (fun e => absurd e (by decide)) trivial
        case s9 =>
          have hx1 : xv 1 = Value.slice A0 ln C0 := hd 1 (by kernel_rfl)
          have he8 : ∃ (b : Nat) (Ar : Option Addr) (nr Cr : Nat), xv 8 = .slice (some ⟨b, 0, none⟩) 1 1 ∧ wr.heap.size ≤ b ∧ b < W.heap.size ∧ W.cell? ⟨b, 0, none⟩ = some (.int .i64 kk) ∧ W.cell? ⟨b, 1, none⟩ = some (.string kx) ∧ W.cell? ⟨b, 2, none⟩ = some (.string ky) ∧ W.cell? ⟨b, 3, none⟩ = some (.slice Ar nr Cr) ∧ Fs W (Rng wr.heap.size W) (.slice Ar nr Cr) kc := he (.inr rfl) 8 (by kernel_rfl)
          have hSW := hS1 (.inr rfl)
          clear hd he hS1 hS2
          simp only [Act.put, List.setIfInBounds_toArray, List.set_cons_succ, List.set_cons_zero] at hK
          rw [hx1] at hK ⊢
          refine (if_pos (by rfl)).mpr ?_
          obtain ⟨b, Ar, nr, Cr, e8, h1, h2, c0, c1, c2, c3, hf⟩ := he8
          have HMW := HM.out.later hSW
          rw [e8] at hK ⊢
          refine wp_app_own _ _ rfl (CS w W (.slice A0 ln C0)) (.slice A0 ln C0) L b 1 ⟨kk, kx, ky, kc⟩ (.slice Ar nr Cr) rfl rfl ⟨c0, c1, c2, c3⟩ HMW.o (hf.more fun b' hb' => rng_cs HM.out hSW hb') HMW.sS HLL.out ?_
          intro v' w' r1 r2 r3
          exact hK.out _ _ (fun e => absurd rfl e) (fun _ => HMW.app r1 r2 r3) (fun e => absurd e (by decide)) trivial
        case s10 =>
          clear hd he hS1 hS2
          simp only [Act.put, List.setIfInBounds_toArray, List.set_cons_succ, List.set_cons_zero] at hK
          refine (if_pos (by rfl)).mpr ?_
          go_simp
          exact hK.out _ _ (fun _ _ => ⟨Below.refl _ _, trivial⟩) (fun e => absurd e (by decide)) (fun e => absurd e (by decide)) rfl
        case s11 =>
          have hx10 : xv 10 = Value.pointer (some ⟨w.heap.size + 2, 3, none⟩) := hd 10 (by kernel_rfl)
          have hS2W := hS2 rfl
          clear hd he hS1 hS2
          simp only [Act.put] at hK
          rw [hx10] at hK ⊢
          refine (if_pos (by rfl)).mpr ?_
          obtain ⟨a9, c9, e9, _, _⟩ := hS2W.o.slice
          obtain ⟨m9, hm9⟩ : ∃ m, (L ++ [(⟨kk, kx, ky, kc⟩ : Nd)]).length = m := ⟨_, rfl⟩
          rw [hm9] at e9
          clear hm9
          obtain ⟨y0, y1, y2, y3⟩ := frz hS2W.b3
          obtain ⟨x0, x1, x2, x3⟩ := hS2W.b3.cells
          have hset := hS2W.set
          rw [e9] at hK hset ⊢
          go_simp
          exact hK.out undef _ (fun _ e => absurd rfl e) (fun e => absurd e (by decide)) (fun _ => hset) trivial
      case behind =>
        intro xv W hW hx a ha
        simp only [fillA] at ha
        simp only [List.setIfInBounds_toArray, List.set_cons_succ, List.set_cons_zero, Nat.zero_add, Nat.reduceAdd] at ha
        subst ha
        have HX : Hid (∃ (A1 : Option Addr) (n1 C1 : Nat), CAt w W k x y (some ⟨b0, off0, none⟩) n C (.slice A1 n1 C1) (.slice A1 n1 C1) ((toL c).take (i + 1))) := by
          obtain ⟨a9, c9, e9, _, _⟩ := hW.o.slice
          rw [e9] at hW
          exact ⟨a9, _, c9, by rw [HTK.out]; exact hW⟩
        obtain ⟨A1, n1, C1, hM2⟩ := HX.out
        have HM2 := Lib.hid hM2
        clear hx hW hM2 HX
        go_wp2
        go_roundw
        case rel => exact ⟨i + 1, n1, C1, A1, by omega, by go_num, HM2.out⟩
        case measure => simp [intOf]; omega
    · have hlt' : ¬ (i : Int) < (n : Int) := by omega
      obtain rfl : i = n := by omega
      obtain ⟨z0, z1, z2, z3⟩ := HM.out.b3.cells
      obtain ⟨y0, y1, y2, y3⟩ := frz HM.out.b2
      obtain ⟨x0, x1, x2, x3⟩ := HM.out.b2.cells
      have HT : Hid ((toL c).take i = toL c) := by show _ = _; rw [List.take_of_length_le]; rw [toL_len, HN.out]; exact Nat.le_refl _
      clear hlt
      go_wp2
      refine bodyPost_ret (results_cell_row rfl _ _ (w.heap.size + 1) 24 _ (0, 0) _ rfl (box_new HM.out.b2) Tryd.underlying24 rfl hi_node) rfl ?_
      have hbb := box_below wr (w.heap.size + 1) (.int .i64 k) (.string x) (.string y) (.slice A0 ln C0)
      have hoth : ∀ b, b ≠ w.heap.size + 1 → (((((wr.setCell ⟨w.heap.size + 1, 0, none⟩ (.int .i64 k)).setCell ⟨w.heap.size + 1, 1, none⟩ (.string x)).setCell ⟨w.heap.size + 1, 2, none⟩ (.string y)).setCell ⟨w.heap.size + 1, 3, none⟩ (.slice A0 ln C0))).heap[b]? = wr.heap[b]? := fun b hb => set4_other _ _ _ _ _ _ _ hb
      have hgr : wr.grownBy (((((wr.setCell ⟨w.heap.size + 1, 0, none⟩ (.int .i64 k)).setCell ⟨w.heap.size + 1, 1, none⟩ (.string x)).setCell ⟨w.heap.size + 1, 2, none⟩ (.string y)).setCell ⟨w.heap.size + 1, 3, none⟩ (.slice A0 ln C0))) (some (w.heap.size + 1)) := ⟨hbb.os, hbb.tape, hbb.output, hbb.size, fun b _ hne => hoth b fun e => hne (by rw [e])⟩
      have hM := HM.out
      rw [HT.out] at hM
      refine ⟨hM.bel.trans (hbb.mono (Nat.le_succ _)), A0, ln, C0, rfl, ?_, fun g e => Nat.le_trans (by omega) (hM.d g e)⟩
      exact (hM.o.grown hgr (.inr fun e => by have := hM.d _ e; omega) fun b hb => ⟨hb.2.1, fun e => by have := Option.some.inj e; have := hb.1; omega⟩).more fun b hb => ⟨Nat.le_trans (by omega) hb.1, Nat.lt_of_lt_of_le hb.2.1 hbb.size, hb.2.2⟩
theorem copy_any (N : Nat) : CopySpec N := by
  induction N using Nat.strongRecOn with
  | _ N ih => exact copy_step N ih
end Go.Proofs.YtmknghhgcecafaaDoor.Tree

/-
  Layer 5 (tree): one node of a row of one's own, read and written anew.
-/
namespace Go.Proofs.YtmknghhgcecafaaDoor.Tree
open Go.ChangeShapes Go.WideShapes Go.ChangeAt Go.RowKit Mem
set_option linter.unusedVariables false

theorem flat_set (p' : Nd × Value) : ∀ (ps : List (Nd × Value)) (i : Nat), i < ps.length →
    ((((ps.flatMap ndC).set (i * 4) (.int .i64 p'.1.k)).set (i * 4 + 1) (.string p'.1.x)).set (i * 4 + 2) (.string p'.1.y)).set (i * 4 + 3) p'.2 = (ps.set i p').flatMap ndC
  | [], i, h => by simp at h
  | p :: ps, 0, h => by simp [ndC]
  | p :: ps, i + 1, h => by
    have ih := flat_set p' ps i (by simpa using h)
    have e : ∀ (j : Nat) (l : List Value) (u : Value), (ndC p ++ l).set (4 + j) u = ndC p ++ l.set j u := fun j l u => by
      rw [List.set_append, if_neg (by rw [ndC_len]; omega), ndC_len, show 4 + j - 4 = j by omega]
    rw [List.flatMap_cons, List.set_cons_succ, List.flatMap_cons, ← ih, show (i + 1) * 4 = 4 + i * 4 by omega, show 4 + i * 4 + 1 = 4 + (i * 4 + 1) by omega, show 4 + i * 4 + 2 = 4 + (i * 4 + 2) by omega, show 4 + i * 4 + 3 = 4 + (i * 4 + 3) by omega, e, e, e, e]

/-- One node of such a row. -/
theorem OwnS.at_ {w : World} {S : Nat → Prop} {A : Option Addr} {n c : Nat} {L : List Nd} (h : OwnS w S (.slice A n c) L) {i : Nat} {nd : Nd} (hi : L[i]? = some nd) :
    ∃ g s, A = some ⟨g, 0, none⟩ ∧ g < w.heap.size ∧ w.cell? ⟨g, i * 4, none⟩ = some (.int .i64 nd.k) ∧ w.cell? ⟨g, i * 4 + 1, none⟩ = some (.string nd.x) ∧ w.cell? ⟨g, i * 4 + 2, none⟩ = some (.string nd.y) ∧ w.cell? ⟨g, i * 4 + 3, none⟩ = some s ∧ Fs w S s nd.c := by
  obtain ⟨ps, h1, ho, hf⟩ := h
  have hlen : ps.length = L.length := by rw [← h1]; simp
  have hil : i < L.length := (List.getElem?_eq_some_iff.1 hi).1
  obtain ⟨p, hp⟩ : ∃ p, ps[i]? = some p := ⟨_, List.getElem?_eq_getElem (by omega)⟩
  have hpn : p.1 = nd := by
    have : (ps.map (·.1))[i]? = some p.1 := by rw [List.getElem?_map, hp]; rfl
    rw [h1, hi] at this
    exact (Option.some.inj this).symm
  rcases ho.2 with ⟨_, h0⟩ | ⟨g, cap, cur, hv, hg0, hg, q1, q2, q3, q4⟩
  · omega
  · injection hv with e1 e2 e3
    have hc := ho.cells (g := g) (by rw [e1]; rfl)
    have ad : ∀ j, (⟨g, 0, none⟩ : Addr).add j = ⟨g, j, none⟩ := fun j => by unfold Addr.add; split <;> simp_all
    have at_ : ∀ j u, (ndC p)[j]? = some u → w.cell? ⟨g, i * 4 + j, none⟩ = some u := fun j u hu => by
      have := hc (i * 4 + j) u (MemT.flat_at (sz := 4) ndC_len ps i p hp j u hu)
      rwa [ad] at this
    refine ⟨g, p.2, e1, lt_of_block hg, ?_, ?_, ?_, ?_, ?_⟩
    · have := at_ 0 _ rfl; rwa [hpn] at this
    · have := at_ 1 _ rfl; rwa [hpn] at this
    · have := at_ 2 _ rfl; rwa [hpn] at this
    · exact at_ 3 _ rfl
    · have := hf p (List.mem_of_getElem? hp); rwa [hpn] at this

/-- The world with one node of block g written anew. -/
def put4 (w : World) (g i : Nat) (k : Int) (x y : ByteArray) (s : Value) : World := (((w.setCell ⟨g, i * 4, none⟩ (.int .i64 k)).setCell ⟨g, i * 4 + 1, none⟩ (.string x)).setCell ⟨g, i * 4 + 2, none⟩ (.string y)).setCell ⟨g, i * 4 + 3, none⟩ s
theorem put4_grown (w : World) (g i : Nat) (k : Int) (x y : ByteArray) (s : Value) : w.grownBy (put4 w g i k x y s) (some g) := by
  have hb : Below 0 w (put4 w g i k x y s) := by
    unfold put4
    exact ((((Below.refl 0 w).setCell (Nat.zero_le _) _).setCell (Nat.zero_le _) _).setCell (Nat.zero_le _) _).setCell (Nat.zero_le _) _
  refine ⟨hb.os, hb.tape, hb.output, hb.size, fun b _ hne => ?_⟩
  have hne' : b ≠ g := fun e => hne (by rw [e])
  unfold put4
  rw [Below.heap_setCell _ _ _ _ hne', Below.heap_setCell _ _ _ _ hne', Below.heap_setCell _ _ _ _ hne', Below.heap_setCell _ _ _ _ hne']
theorem OwnS.put {w : World} {S : Nat → Prop} {g n c : Nat} {L : List Nd} (h : OwnS w S (.slice (some ⟨g, 0, none⟩) n c) L) (i : Nat) (hi : i < L.length) (k : Int) (x y : ByteArray) (s : Value) (c' : F) (hf : Fs w S s c') (hS : ∀ b, S b → b < w.heap.size ∧ b ≠ g) :
    OwnS (put4 w g i k x y s) S (.slice (some ⟨g, 0, none⟩) n c) (L.set i ⟨k, x, y, c'⟩) := by
  obtain ⟨ps, e1, ho, hfs⟩ := h
  obtain ⟨a', c'', e, _, _⟩ := own_slice' ho
  injection e with _ e2 _
  subst e2
  have hlen : ps.length = L.length := by rw [← e1]; simp
  have r1 := (ho.stored (i * 4) (.int .i64 k)).1
  have r2 := (r1.stored (i * 4 + 1) (.string x)).1
  have r3 := (r2.stored (i * 4 + 2) (.string y)).1
  have r4 := (r3.stored (i * 4 + 3) s).1
  rw [flat_set (⟨k, x, y, c'⟩, s) ps i (by omega)] at r4
  have hg := put4_grown w g i k x y s
  have keep : ∀ {v : Value} {f : F}, Fs w S v f → Fs (put4 w g i k x y s) S v f := fun hv => hv.keep fun b hb => hg.block b (hS b hb).1 (fun e => (hS b hb).2 (Option.some.inj e))
  refine ⟨ps.set i (⟨k, x, y, c'⟩, s), by rw [List.map_set, e1], by rw [List.length_set]; exact r4, fun p hp => ?_⟩
  rcases List.mem_or_eq_of_mem_set hp with hp | rfl
  · exact keep (hfs p hp)
  · exact keep hf
end Go.Proofs.YtmknghhgcecafaaDoor.Tree

/-
  Layer 5 (tree): slices.Clone at a row of nodes: a row of the call's own, whose Kids are those of the row that came in.
-/
namespace Go.Proofs.YtmknghhgcecafaaDoor.Tree
open Go.ChangeShapes Go.WideShapes Go.ChangeAt Go.RowKit Mem
set_option linter.unusedVariables false

/-- append of nothing. -/
theorem app_nil (w : World) {ops : Array Oper} {rest : List Oper} {o : Oper} {a : Act} {Q : Exit → Act → World → Prop} (hgd : o.guard = none) (s x : Operand)
    (ho : o.op = .call { callee := .builtin .append, args := #[s, x], argTypes := #[22, 22] }) (B base : Nat) (v : Value) (L1 : List Nd) (ad : Addr) (c : Nat) (hs : a.eval s = v) (hx : a.eval x = .slice (some ad) 0 c)
    (h1 : OwnN w B base v L1) (hB : B ≤ base) (hbase : base ≤ w.heap.size) (hlen : L1.length ≤ 1000000)
    (h : ∀ v' w', OwnN w' B base v' L1 → Below base w w' → wpList Tryd.prog ops Q rest (a.put o.dst v') w') : wpList Tryd.prog ops Q (o :: rest) a w := by
  obtain ⟨i0, hi0, hz0, hz1, hz2⟩ := info_parts node_info
  obtain ⟨ps1, e1, ho1, hf1⟩ := h1
  refine wpList_append_own_at (P := Tryd.prog) w hgd s x 22 ho base 24 i0 (.agg #[.int .i64 0, .string ⟨#[]⟩, .string ⟨#[]⟩, .slice none 0 0]) 4 64 Tryd.underlying22 hi0 hz0 hz1 hz2 rfl (by decide) v L1.length _ hs ho1 ad 0 c [] hx rfl (fun j u hu => by simp at hu) (fun u hu => by cases hu) (by unfold maxLen; omega) (by omega) hbase fun v' w' r1 r2 _ _ => ?_
  have hbl : Below base w w' := (Below.refl _ _).grown r2 hbase (fun k hk => (ho1.lt k hk).1)
  exact h v' w' ⟨ps1, e1, by simpa using r1, fun p hp => (hf1 p hp).below hbl hB⟩ hbl

theorem OwnN.owns {w : World} {B base : Nat} {v : Value} {L : List Nd} (h : OwnN w B base v L) : OwnS w (Lo B) v L ∧ ∀ g, v.ownBlock = some g → base ≤ g := by
  obtain ⟨ps, e, ho, hf⟩ := h
  refine ⟨⟨ps, e, ⟨ho.1, ?_⟩, hf⟩, fun g hg => (ho.lt g hg).1⟩
  rcases ho.2 with h' | ⟨g, cap, cur, h1, h2, h3⟩
  · exact .inl h'
  · exact .inr ⟨g, cap, cur, h1, Nat.zero_le _, h3⟩
theorem ownN_empty (w : World) (B : Nat) : OwnN (w.alloc (.cells #[] 24)) B w.heap.size (.slice (some ⟨w.heap.size, 0, none⟩) 0 0) [] :=
  ⟨[], rfl, World.ownsRow_lit w #[] 0 (Nat.le_refl _) (Nat.zero_le _) rfl, fun p hp => by cases hp⟩

def ClonePost (B : Nat) (w : World) (c : F) (e : Ending) (w' : World) : Prop := Below w.heap.size w w' ∧ ∃ (Ar : Option Addr) (nr Cr : Nat), e = .returned (.slice Ar nr Cr) ∧ OwnS w' (Lo B) (.slice Ar nr Cr) (toL c) ∧ ∀ g, (Value.slice Ar nr Cr).ownBlock = some g → w.heap.size ≤ g

set_option maxRecDepth 100000 in
set_option maxHeartbeats 8000000 in
theorem clone_any (B : Nat) (A : Option Addr) (n C : Nat) (c : F) (w : World) (hf : Fs w (Lo B) (.slice A n C) c) (hBw : B ≤ w.heap.size) (hlen : c.len ≤ 1000000) :
    Calls Tryd.prog 29 #[.slice A n C] w fun e w' => ClonePost B w c e w' := by
  cases A with
  | none =>
    have hc : c = .nil := by
      cases c with
      | nil => rfl
      | cons k x y c r =>
        obtain ⟨b, off, n', C', s, e, _⟩ := hf
        injection e with e1 _ _
        cases e1
    subst hc
    obtain ⟨A', C', e, hC⟩ := hf
    injection e with e1 e2 e3
    subst e2
    have HB := Lib.hid (Below.refl w.heap.size w)
    clear e1 e3 hlen
    have hnil : ∀ W : World, (binOp .eql 22 (.slice none 0 C) (.slice none 0 0)).run Tryd.prog W = .ok (.bool true) W := fun _ => rfl
    go_enter Tryd.func29, Tryd.ntmps29
    go_wp2
    go_ret
    exact ⟨HB.out, none, 0, 0, rfl, OwnS.nil _ _, fun g e => by cases e⟩
  | some ad =>
    have b1 := below1 w (.cells #[] 24)
    have HO := Lib.hid (ownN_empty w B)
    have HB1 := Lib.hid b1
    obtain ⟨A', C', e, hnC, hCm⟩ := hf.slice
    injection e with e1 e2 e3
    have hn : n ≤ 1000000 := by omega
    have HSZ : Hid (w.heap.size ≤ (w.alloc (.cells #[] 24)).heap.size) := b1.size
    cases c with
    | nil =>
      have hn0 : n = 0 := e2
      subst hn0
      clear e1 e2 e3 hlen hf b1 hn hnC hCm
      have hnil : ∀ W : World, (binOp .eql 22 (.slice (some ad) 0 C) (.slice none 0 0)).run Tryd.prog W = .ok (.bool false) W := fun _ => rfl
      go_enter Tryd.func29, Tryd.ntmps29
      go_wp2_with (at_builtin; refine app_nil _ rfl _ _ rfl B w.heap.size _ [] ad C rfl rfl HO.out hBw HSZ.out (by simp) ?_)
      intro v3 w3 ho3 hb3
      obtain ⟨a3, c3, rfl, _, _⟩ := ho3.slice
      have HE := Lib.hid ho3.owns
      have HB3 := Lib.hid (HB1.out.trans hb3)
      clear ho3 hb3
      go_wp2
      go_ret
      exact ⟨HB3.out, a3, _, c3, rfl, HE.out.1, HE.out.2⟩
    | cons k x y c r =>
      have had : ∃ b off, ad = ⟨b, off, none⟩ := by
        obtain ⟨b, off, n', C', s, e, _⟩ := hf
        injection e with q1 _ _
        exact ⟨b, off, Option.some.inj q1⟩
      obtain ⟨b, off, rfl⟩ := had
      have HF := Lib.hid (hf.below b1 hBw)
      clear e1 e2 e3 hlen hf b1 hnC hCm
      have hnil : ∀ W : World, (binOp .eql 22 (.slice (some ⟨b, off, none⟩) n C) (.slice none 0 0)).run Tryd.prog W = .ok (.bool false) W := fun _ => rfl
      go_enter Tryd.func29, Tryd.ntmps29
      go_wp2_with (at_builtin; refine app_fs _ rfl _ _ rfl B w.heap.size _ [] _ b off n C rfl rfl HO.out HF.out hBw HSZ.out (by simpa using hn) ?_)
      intro v3 w3 ho3 hb3
      obtain ⟨a3, c3, rfl, _, _⟩ := ho3.slice
      have HE := Lib.hid ho3.owns
      have HB3 := Lib.hid (HB1.out.trans hb3)
      obtain ⟨m3, hm3⟩ : ∃ m, (toL (.cons k x y c r)).length = m := ⟨_, rfl⟩
      rw [hm3] at HE ⊢
      clear ho3 hb3 hm3
      go_wp2
      go_ret
      exact ⟨HB3.out, a3, _, c3, rfl, HE.out.1, HE.out.2⟩
end Go.Proofs.YtmknghhgcecafaaDoor.Tree

/-
  Layer 5 (tree): what holds while the program's Copy goes down first Kids: all that has been gone through reads as the tree, if what is still ahead does.
-/
namespace Go.Proofs.YtmknghhgcecafaaDoor.Tree
open Go.ChangeShapes Go.WideShapes Go.ChangeAt Go.RowKit Mem
set_option linter.unusedVariables false

theorem toL_size : ∀ {c : F}, ∀ nd ∈ toL c, nd.c.size < c.size
  | .nil, nd, h => by cases h
  | .cons k x y c r, nd, h => by
    rcases List.mem_cons.1 h with rfl | h
    · simp only [F.size]; omega
    · have := toL_size (c := r) nd h; simp only [F.size]; omega
/-- In every world that is as wr on the new blocks below N, but for v's own, in which v reads as f, vt reads as ct. -/
def Wand (w : World) (N : Nat) (wr : World) (v : Value) (f : F) (vt : Value) (ct : F) : Prop := ∀ (W' : World) (S' : Nat → Prop), (∀ b, w.heap.size + 2 ≤ b → b < N → some b ≠ v.ownBlock → W'.heap[b]? = wr.heap[b]?) → (∀ b, w.heap.size + 2 ≤ b → b < N → S' b) → Fs W' S' v f → Fs W' S' vt ct
section
variable {w wr W : World} {N : Nat} {v vt : Value} {f ct : F}
theorem Wand.mono {N' : Nat} (h : Wand w N wr v f vt ct) (hN : N ≤ N') : Wand w N' wr v f vt ct := fun W' S' h1 h2 h3 => h W' S' (fun b hb hb' hne => h1 b hb (by omega) hne) (fun b hb hb' => h2 b hb (by omega)) h3
theorem Wand.later (h : Wand w N wr v f vt ct) (hN : N ≤ wr.heap.size) (hb : Below wr.heap.size wr W) : Wand w N W v f vt ct := fun W' S' h1 h2 h3 => h W' S' (fun b hb0 hb' hne => (h1 b hb0 hb' hne).trans (hb.block b (by omega))) h2 h3
theorem Wand.grown (h : Wand w N wr v f vt ct) (hN : N ≤ wr.heap.size) (hg : wr.grownBy W v.ownBlock) : Wand w N W v f vt ct := fun W' S' h1 h2 h3 => h W' S' (fun b hb0 hb' hne => (h1 b hb0 hb' hne).trans (hg.block b (by omega) hne)) h2 h3
end

/-- At the head of the way down: v is the row that is gone through next; its Kids are still those that came in. -/
structure CpAt (w wr : World) (k : Int) (x y : ByteArray) (vt : Value) (ct : F) (v : Value) (f : F) : Prop where
  bel : Below w.heap.size w wr
  b1 : Boxed wr w.heap.size k x y vt
  b2 : Boxed wr (w.heap.size + 1) 0 ⟨#[]⟩ ⟨#[]⟩ (.slice none 0 0)
  o : OwnS wr (Lo w.heap.size) v (toL f)
  d : ∀ g, v.ownBlock = some g → w.heap.size + 2 ≤ g
  sz : w.heap.size + 2 ≤ wr.heap.size
  wand : Wand w wr.heap.size wr v f vt ct

/-- While the row's Kids but the first are copied: i of them are. -/
structure CiAt (w W : World) (N g n C : Nat) (k : Int) (x y : ByteArray) (vt : Value) (ct : F) (v0 : Value) (f c0 : F) (i : Nat) : Prop where
  bel : Below w.heap.size w W
  b1 : Boxed W w.heap.size k x y vt
  b2 : Boxed W (w.heap.size + 1) 0 ⟨#[]⟩ ⟨#[]⟩ (.slice none 0 0)
  row : ∃ ps : List (Nd × Value), ps.map (·.1) = toL f ∧ W.ownsRow 0 24 4 (.slice (some ⟨g, 0, none⟩) n C) n (ps.flatMap ndC) ∧ (∀ p, ps[0]? = some p → p.2 = v0) ∧
    (∀ j p, 1 ≤ j → j ≤ i → ps[j]? = some p → Fs W (fun b => N ≤ b ∧ b < W.heap.size ∧ some b ≠ v0.ownBlock) p.2 p.1.c) ∧ (∀ j p, i < j → ps[j]? = some p → Fs W (Lo w.heap.size) p.2 p.1.c)
  o0 : OwnS W (Lo w.heap.size) v0 (toL c0)
  d0 : ∀ g0, v0.ownBlock = some g0 → N ≤ g0
  hg : w.heap.size + 2 ≤ g ∧ g < N
  hN : N ≤ W.heap.size
  wand : Wand w N W (.slice (some ⟨g, 0, none⟩) n C) f vt ct

theorem flat_set3 (p : Nd × Value) (ps : List (Nd × Value)) (v0 : Value) : ((p :: ps).flatMap ndC).set 3 v0 = ((p.1, v0) :: ps).flatMap ndC := by simp [ndC]

section
variable {w wr W W' : World} {N g n C : Nat} {k : Int} {x y : ByteArray} {vt v v0 : Value} {ct f c0 : F} {i : Nat}
/-- The first Kid's own Kids have been cloned. -/
theorem CpAt.start {w1 : World} {k0 : Int} {x0 y0 : ByteArray} {r : F} (h : CpAt w wr k x y vt ct (.slice (some ⟨g, 0, none⟩) n C) (.cons k0 x0 y0 c0 r)) (hb : Below wr.heap.size wr w1) (ho : OwnS w1 (Lo w.heap.size) v0 (toL c0)) (hd : ∀ g0, v0.ownBlock = some g0 → wr.heap.size ≤ g0) :
    CiAt w (w1.setCell ⟨g, 3, none⟩ v0) wr.heap.size g n C k x y vt ct v0 (.cons k0 x0 y0 c0 r) c0 0 := by
  have hg2 := h.d g rfl
  have hgl := h.o.lt (g := g) rfl
  have q1 := h.b1.lt; have q2 := h.b2.lt
  have hgr := set_grown w1 g 3 v0
  have hor : OwnS w1 (Lo w.heap.size) (.slice (some ⟨g, 0, none⟩) n C) (toL (.cons k0 x0 y0 c0 r)) := h.o.later hb fun b hb' => Nat.lt_of_lt_of_le hb' h.bel.size
  have hlo : ∀ b, Lo w.heap.size b → b < w1.heap.size ∧ some b ≠ some g := fun b hb' => by
    have hb'' : b < w.heap.size := hb'
    have := h.bel.size; have := hb.size
    exact ⟨by omega, fun e => by have := Option.some.inj e; omega⟩
  have hle := hb.size
  refine ⟨(h.bel.trans (hb.mono h.bel.size)).setCell (p := ⟨g, 3, none⟩) (show w.heap.size ≤ g by omega) _, (Below.heap_setCell _ _ _ _ (show w.heap.size ≠ g by omega)).trans (h.b1.below hb q1), (Below.heap_setCell _ _ _ _ (show w.heap.size + 1 ≠ g by omega)).trans (h.b2.below hb q2), ?_, ho.grown hgr (.inr fun e => by have := hd _ e; omega) hlo, hd, ⟨hg2, hgl⟩, Nat.le_trans hle hgr.size, (h.wand.later (Nat.le_refl _) hb).grown hle hgr⟩
  obtain ⟨ps, e1, hown, hfs⟩ := hor
  obtain ⟨a', c', e, _, _⟩ := own_slice' hown
  injection e with _ e2 _
  rw [← e2] at hown
  match ps, e1 with
  | p :: ps, e1 =>
    have hst := (hown.stored 3 v0).1
    rw [flat_set3] at hst
    refine ⟨(p.1, v0) :: ps, e1, hst, fun q hq => by simp at hq; rw [← hq], fun j q h1 h2 => by omega, fun j q hj hq => ?_⟩
    obtain ⟨j', rfl⟩ : ∃ j', j = j' + 1 := ⟨j - 1, by omega⟩
    have hm : q ∈ p :: ps := List.mem_cons_of_mem _ (List.mem_of_getElem? (by simpa using hq))
    exact (hfs q hm).keep fun b hb' => hgr.block b (hlo b hb').1 (hlo b hb').2
theorem CiAt.later (h : CiAt w W N g n C k x y vt ct v0 f c0 i) (hb : Below W.heap.size W W') : CiAt w W' N g n C k x y vt ct v0 f c0 i := by
  have hs := h.bel.size
  obtain ⟨ps, e1, ho, e0, h1, h2⟩ := h.row
  refine ⟨h.bel.trans (hb.mono hs), h.b1.below hb h.b1.lt, h.b2.below hb h.b2.lt, ⟨ps, e1, ?_, e0, fun j p a b c => ((h1 j p a b c).keep fun q hq => hb.block q hq.2.1).more fun q hq => ⟨hq.1, Nat.lt_of_lt_of_le hq.2.1 hb.size, hq.2.2⟩, fun j p a b => (h2 j p a b).below hb hs⟩, h.o0.later hb fun b hb' => Nat.lt_of_lt_of_le hb' hs, h.d0, h.hg, Nat.le_trans h.hN hb.size, h.wand.later h.hN hb⟩
  exact ho.kept (grown_below hb none) (.inr (by simp [Value.ownBlock]))
/-- One Kid has been copied. -/
theorem CiAt.put {nd : Nd} {s' : Value} (h : CiAt w W N g n C k x y vt ct v0 f c0 i) (hnd : (toL f)[i + 1]? = some nd) (hf : Fs W (fun b => N ≤ b ∧ b < W.heap.size ∧ some b ≠ v0.ownBlock) s' nd.c) :
    CiAt w (put4 W g (i + 1) nd.k nd.x nd.y s') N g n C k x y vt ct v0 f c0 (i + 1) := by
  have hg2 := h.hg; have hN := h.hN
  have hgr := put4_grown W g (i + 1) nd.k nd.x nd.y s'
  obtain ⟨ps, e1, ho, e0, h1, h2⟩ := h.row
  have hil : i + 1 < ps.length := by
    have := (List.getElem?_eq_some_iff.1 hnd).1
    rw [← e1, List.length_map] at this
    exact this
  have r1 := (ho.stored ((i + 1) * 4) (.int .i64 nd.k)).1
  have r2 := (r1.stored ((i + 1) * 4 + 1) (.string nd.x)).1
  have r3 := (r2.stored ((i + 1) * 4 + 2) (.string nd.y)).1
  have r4 := (r3.stored ((i + 1) * 4 + 3) s').1
  rw [flat_set (nd, s') ps (i + 1) hil] at r4
  have hlo : ∀ b, Lo w.heap.size b → b < W.heap.size ∧ some b ≠ some g := fun b hb' => by
    have hb'' : b < w.heap.size := hb'
    have := h.bel.size
    exact ⟨by omega, fun e => by have := Option.some.inj e; omega⟩
  have hfr : ∀ b, (N ≤ b ∧ b < W.heap.size ∧ some b ≠ v0.ownBlock) → b < W.heap.size ∧ some b ≠ some g := fun b hb' => ⟨hb'.2.1, fun e => by have := Option.some.inj e; have := hb'.1; omega⟩
  refine ⟨h.bel.trans (below_grown hgr h.bel.size fun q e => by have := Option.some.inj e; omega), (hgr.block _ h.b1.lt fun e => by have := Option.some.inj e; omega).trans h.b1, (hgr.block _ h.b2.lt fun e => by have := Option.some.inj e; omega).trans h.b2, ⟨ps.set (i + 1) (nd, s'), ?_, r4, ?_, fun j p a b c => ?_, fun j p a b => ?_⟩, h.o0.grown hgr (.inr fun e => by have := h.d0 _ e; omega) hlo, h.d0, h.hg, Nat.le_trans h.hN hgr.size, h.wand.grown h.hN hgr⟩
  · rw [List.map_set, e1]
    apply List.ext_getElem?
    intro j
    rw [List.getElem?_set]
    split
    · rename_i hj
      subst hj
      rw [if_pos (by rw [← e1, List.length_map]; exact hil)]
      exact hnd.symm
    · rfl
  · intro p hp
    rw [List.getElem?_set_ne (by omega)] at hp
    exact e0 p hp
  · by_cases hj : j = i + 1
    · subst hj
      rw [List.getElem?_set_self hil] at c
      obtain rfl := Option.some.inj c
      exact (hf.keep fun b hb' => hgr.block b (hfr b hb').1 (hfr b hb').2).more fun b hb' => ⟨hb'.1, Nat.lt_of_lt_of_le hb'.2.1 hgr.size, hb'.2.2⟩
    · rw [List.getElem?_set_ne (Ne.symm hj)] at c
      exact ((h1 j p a (by omega) c).keep fun b hb' => hgr.block b (hfr b hb').1 (hfr b hb').2).more fun b hb' => ⟨hb'.1, Nat.lt_of_lt_of_le hb'.2.1 hgr.size, hb'.2.2⟩
  · rw [List.getElem?_set_ne (by omega)] at b
    exact (h2 j p (by omega) b).keep fun q hq => hgr.block q (hlo q hq).1 (hlo q hq).2
/-- All are copied: on with the first Kid's Kids. -/
theorem CiAt.done {k0 : Int} {x0 y0 : ByteArray} {r : F} (h : CiAt w W N g n C k x y vt ct v0 (.cons k0 x0 y0 c0 r) c0 i) (hi : r.len ≤ i) : CpAt w W k x y vt ct v0 c0 := by
  have hg2 := h.hg; have hN := h.hN
  refine ⟨h.bel, h.b1, h.b2, h.o0, fun g0 e => by have := h.d0 g0 e; omega, by omega, fun W' S' hw hS hf => ?_⟩
  obtain ⟨ps, e1, ho, e0, h1, h2⟩ := h.row
  obtain ⟨a', C', e, hnC, hCm⟩ := own_slice' ho
  have hlen : ps.length = r.len + 1 := by
    have : (ps.map (·.1)).length = (toL (.cons k0 x0 y0 c0 r)).length := by rw [e1]
    rw [List.length_map, toL_len] at this
    exact this
  have hlen2 : (ps.flatMap ndC).length = n * 4 := ho.1
  rw [MemT.flat_len ndC_len] at hlen2
  have hn : ps.length = n := by omega
  have hgne : some g ≠ v0.ownBlock := fun e => by have := h.d0 g e.symm; omega
  have hgeq : W'.heap[g]? = W.heap[g]? := hw g hg2.1 (by omega) hgne
  refine h.wand W' S' (fun b hb hb' hne => hw b hb (by omega) fun e => ?_) (fun b hb hb' => hS b hb (by omega)) ?_
  · have := h.d0 b e.symm
    omega
  · have ad : ∀ j, (⟨g, 0, none⟩ : Addr).add j = ⟨g, j, none⟩ := fun j => by unfold Addr.add; split <;> simp_all
    have hc := ho.cells (g := g) rfl
    injection e with _ _ e3
    have hrow := fs_row (w := W') (S := S') g (hS g hg2.1 (by omega)) ps 0 n C hn (by rw [← e3] at hnC; exact hnC) (by rw [e3]; exact hCm) (fun j u hu => by
      have := hc j u hu
      rw [ad] at this
      rw [Nat.zero_add]
      exact (World.cell?_of_block (a := ⟨g, j, none⟩) hgeq).trans this) (fun p hp => by
        obtain ⟨j, hj⟩ := List.getElem?_of_mem hp
        have hjl : j < ps.length := (List.getElem?_eq_some_iff.1 hj).1
        by_cases hj0 : j = 0
        · subst hj0
          have hp1 : p.1 = ⟨k0, x0, y0, c0⟩ := by
            have : (ps.map (·.1))[0]? = some p.1 := by rw [List.getElem?_map, hj]; rfl
            rw [e1] at this
            exact (Option.some.inj this).symm
          rw [e0 p hj, hp1]
          exact hf
        · exact ((h1 j p (by omega) (by omega) hj).keep fun b hb' => hw b (by have := hb'.1; omega) hb'.2.1 hb'.2.2).more fun b hb' => hS b (by have := hb'.1; omega) hb'.2.1) _ (.inr rfl)
    have e4 : ofL (ps.map (·.1)) = .cons k0 x0 y0 c0 r := by rw [e1, ofL_toL]
    rwa [e4] at hrow
/-- At the end of the way down. -/
theorem CpAt.fin {A : Option Addr} {m M : Nat} (h : CpAt w wr k x y vt ct (.slice A m M) .nil) : Fs wr (fun b => w.heap.size + 2 ≤ b ∧ b < wr.heap.size) vt ct := by
  obtain ⟨a', c', e, _, hc⟩ := h.o.slice
  injection e with e1 e2 e3
  exact h.wand wr _ (fun _ _ _ _ => rfl) (fun b hb hb' => ⟨hb, hb'⟩) ⟨A, M, by rw [e2]; rfl, by rw [e3]; exact hc⟩
/-- The cells of node j. -/
theorem CiAt.at_ (h : CiAt w W N g n C k x y vt ct v0 f c0 i) {j : Nat} {nd : Nd} (hj : (toL f)[j]? = some nd) :
    ∃ s, W.cell? ⟨g, j * 4, none⟩ = some (.int .i64 nd.k) ∧ W.cell? ⟨g, j * 4 + 1, none⟩ = some (.string nd.x) ∧ W.cell? ⟨g, j * 4 + 2, none⟩ = some (.string nd.y) ∧ W.cell? ⟨g, j * 4 + 3, none⟩ = some s ∧ (i < j → Fs W (Lo w.heap.size) s nd.c) ∧ (j = 0 → s = v0) := by
  obtain ⟨ps, e1, ho, e0, h1, h2⟩ := h.row
  have hjl : j < ps.length := by
    have := (List.getElem?_eq_some_iff.1 hj).1
    rw [← e1, List.length_map] at this
    exact this
  obtain ⟨p, hp⟩ : ∃ p, ps[j]? = some p := ⟨_, List.getElem?_eq_getElem hjl⟩
  have hpn : p.1 = nd := by
    have : (ps.map (·.1))[j]? = some p.1 := by rw [List.getElem?_map, hp]; rfl
    rw [e1, hj] at this
    exact (Option.some.inj this).symm
  have hc := ho.cells (g := g) rfl
  have ad : ∀ j, (⟨g, 0, none⟩ : Addr).add j = ⟨g, j, none⟩ := fun j => by unfold Addr.add; split <;> simp_all
  have at_ : ∀ t u, (ndC p)[t]? = some u → W.cell? ⟨g, j * 4 + t, none⟩ = some u := fun t u hu => by
    have := hc (j * 4 + t) u (MemT.flat_at (sz := 4) ndC_len ps j p hp t u hu)
    rwa [ad] at this
  refine ⟨p.2, ?_, ?_, ?_, at_ 3 _ rfl, fun hij => ?_, fun h0 => by subst h0; exact e0 p hp⟩
  · have := at_ 0 _ rfl; rwa [hpn] at this
  · have := at_ 1 _ rfl; rwa [hpn] at this
  · have := at_ 2 _ rfl; rwa [hpn] at this
  · have := h2 j p hij hp; rwa [hpn] at this
theorem CiAt.frz4 (h : CiAt w W N g n C k x y vt ct v0 f c0 i) (j : Nat) : W.frozen? ⟨g, j * 4, none⟩ = false ∧ W.frozen? ⟨g, j * 4 + 1, none⟩ = false ∧ W.frozen? ⟨g, j * 4 + 2, none⟩ = false ∧ W.frozen? ⟨g, j * 4 + 3, none⟩ = false := by
  obtain ⟨ps, _, ho, _⟩ := h.row
  exact ⟨ho.frozenAt _, ho.frozenAt _, ho.frozenAt _, ho.frozenAt _⟩
end
end Go.Proofs.YtmknghhgcecafaaDoor.Tree

/-
  Layer 5 (tree): the program's Copy: the same tree, of new memory.
-/
namespace Go.Proofs.YtmknghhgcecafaaDoor.Tree
open Go.ChangeShapes Go.WideShapes Go.ChangeAt Go.RowKit Mem
set_option linter.unusedVariables false

theorem OwnS.frz {w : World} {S : Nat → Prop} {g n c : Nat} {L : List Nd} (h : OwnS w S (.slice (some ⟨g, 0, none⟩) n c) L) (j : Nat) : w.frozen? ⟨g, j, none⟩ = false := by
  obtain ⟨ps, _, ho, _⟩ := h
  obtain ⟨_, _, e, _, _⟩ := own_slice' ho
  injection e with _ e2 _
  rw [← e2] at ho
  exact ho.frozenAt j
def TCopyPost (w : World) (k : Int) (x y : ByteArray) (c : F) (e : Ending) (w' : World) : Prop := Below w.heap.size w w' ∧ ∃ (Ar : Option Addr) (nr Cr : Nat), e = .returned (.agg #[.int .i64 k, .string x, .string y, .slice Ar nr Cr]) ∧ Fs w' (Rng w.heap.size w') (.slice Ar nr Cr) c
/-- The row's block is cells that are not frozen. -/
def TF (W : World) (v : Value) : Prop := ∀ g, v.ownBlock = some g → ∃ vals, W.heap[g]? = some (.cells vals 24 (0, 0))
theorem TF.below {W W' : World} {v : Value} (h : TF W v) (hb : Below W.heap.size W W') : TF W' v := fun g e => by
  obtain ⟨vals, q⟩ := h g e
  exact ⟨vals, (hb.block g (lt_of_block q)).trans q⟩
theorem TF.set {W : World} {v : Value} (h : TF W v) (b off : Nat) (u : Value) : TF (W.setCell ⟨b, off, none⟩ u) v := fun g e => by
  obtain ⟨vals, q⟩ := h g e
  by_cases hb : g = b
  · subst hb
    exact ⟨_, set_at q off u⟩
  · exact ⟨vals, (Below.heap_setCell _ _ _ _ hb).trans q⟩
theorem OwnS.tf {w : World} {S : Nat → Prop} {v : Value} {L : List Nd} (h : OwnS w S v L) : TF w v := fun g e => by
  obtain ⟨ps, h1, ho, hf⟩ := h
  rcases ho.2 with ⟨e0, h0⟩ | ⟨g', cap, cur, hv, hg0, hg, q1, q2, q3, q4⟩
  · rw [e0] at e; cases e
  · rw [hv] at e
    obtain rfl := Option.some.inj e
    exact ⟨_, hg⟩
def TCopyPostF (w : World) (k : Int) (x y : ByteArray) (c : F) (e : Ending) (w' : World) : Prop := Below w.heap.size w w' ∧ ∃ (Ar : Option Addr) (nr Cr : Nat), e = .returned (.agg #[.int .i64 k, .string x, .string y, .slice Ar nr Cr]) ∧ Fs w' (Rng w.heap.size w') (.slice Ar nr Cr) c ∧ TF w' (.slice Ar nr Cr)
def TCopySpecF (N : Nat) : Prop := ∀ (k : Int) (x y : ByteArray) (A : Option Addr) (n C : Nat) (c : F) (w : World), c.size ≤ N → c.size ≤ 100000 → Fs w (Lo w.heap.size) (.slice A n C) c →
  Calls Tryd.prog 24 #[.agg #[.int .i64 k, .string x, .string y, .slice A n C]] w fun e w' => TCopyPostF w k x y c e w'
def TCopySpec (N : Nat) : Prop := ∀ (k : Int) (x y : ByteArray) (A : Option Addr) (n C : Nat) (c : F) (w : World), c.size ≤ N → c.size ≤ 100000 → Fs w (Lo w.heap.size) (.slice A n C) c →
  Calls Tryd.prog 24 #[.agg #[.int .i64 k, .string x, .string y, .slice A n C]] w fun e w' => TCopyPost w k x y c e w'

set_option maxRecDepth 100000 in
set_option maxHeartbeats 16000000 in
theorem tcopy_step (N : Nat) (ih : ∀ M, M < N → TCopySpec M) : TCopySpecF N := by
  intro k x y A n C c w hN hbig hf
  have HIH := Lib.hid ih
  have b1 := below2 w (.cells #[.int .i64 k, .string x, .string y, .slice A n C] 24) (.cells #[.int .i64 0, .string ⟨#[]⟩, .string ⟨#[]⟩, .slice none 0 0] 24)
  have HCL := Lib.hid (clone_any w.heap.size A n C c _ (hf.below b1 (Nat.le_refl _)) b1.size (Nat.le_trans (F.len_le_size c) (by omega)))
  have HX1 : Hid (Boxed ((w.alloc (.cells #[.int .i64 k, .string x, .string y, .slice A n C] 24)).alloc (.cells #[.int .i64 0, .string ⟨#[]⟩, .string ⟨#[]⟩, .slice none 0 0] 24)) w.heap.size k x y (.slice A n C)) := (Below.heap_alloc _ _ _ (by simp)).trans (heap_alloc_new _ _)
  have HX2 : Hid (Boxed ((w.alloc (.cells #[.int .i64 k, .string x, .string y, .slice A n C] 24)).alloc (.cells #[.int .i64 0, .string ⟨#[]⟩, .string ⟨#[]⟩, .slice none 0 0] 24)) (w.heap.size + 1) 0 ⟨#[]⟩ ⟨#[]⟩ (.slice none 0 0)) := by
    have e : w.heap.size + 1 = (w.alloc (.cells #[.int .i64 k, .string x, .string y, .slice A n C] 24)).heap.size := by simp
    rw [e]
    exact heap_alloc_new _ _
  have HS2 : Hid (((w.alloc (.cells #[.int .i64 k, .string x, .string y, .slice A n C] 24)).alloc (.cells #[.int .i64 0, .string ⟨#[]⟩, .string ⟨#[]⟩, .slice none 0 0] 24)).heap.size = w.heap.size + 2) := by show _ = _; simp
  have HBB := Lib.hid b1
  clear ih hf b1
  go_enter Tryd.func24, Tryd.ntmps24
  go_wp2_with fail
  refine HCL.out.mono ?_
  rintro e w3 ⟨hb3, At, nt, Ct, rfl, ho3, hd3⟩
  have hx1 := HX1.out.below hb3 HX1.out.lt
  have hx2 := HX2.out.below hb3 HX2.out.lt
  have HM : Hid (CpAt w (w3.setCell ⟨w.heap.size, 3, none⟩ (.slice At nt Ct)) k x y (.slice At nt Ct) c (.slice At nt Ct) c) := by
    have hs := hb3.size
    have hs2 := HS2.out
    have hgr := set_grown w3 w.heap.size 3 (.slice At nt Ct)
    refine ⟨(HBB.out.trans (hb3.mono HBB.out.size)).setCell (p := ⟨w.heap.size, 3, none⟩) (Nat.le_refl _) _, ?_, (Below.heap_setCell _ _ _ _ (show w.heap.size + 1 ≠ w.heap.size by omega)).trans hx2, ho3.grown hgr (.inr fun e => by have := hd3 _ e; omega) fun b hb => ?_, fun g e => by have := hd3 g e; omega, Nat.le_trans (by omega) hgr.size, fun W' S' _ _ h => h⟩
    · have := set_at hx1 3 (.slice At nt Ct)
      unfold Boxed
      simpa using this
    · have hb' : b < w.heap.size := hb
      exact ⟨by omega, fun e => by have := Option.some.inj e; omega⟩
  have HTF0 : Hid (TF (w3.setCell ⟨w.heap.size, 3, none⟩ (.slice At nt Ct)) (.slice At nt Ct)) := ho3.tf.set _ _ _
  obtain ⟨y0, y1, y2, y3⟩ := frz hx1
  obtain ⟨x0', x1', x2', x3'⟩ := hx1.cells
  obtain ⟨p0, p1, p2, p3⟩ := HM.out.b1.cells
  clear hx1 hx2 ho3 hd3 hb3 HCL HX1 HX2 HS2 HBB
  go_wp2
  clear p0 p1 p2 p3 x0' x1' x2' x3' y0 y1 y2 y3
  go_loopg [3] (c.size + 1) (fun p s3 wr => ∃ (A : Option Addr) (n C : Nat) (f : F), f.size < p ∧ f.size ≤ N ∧ f.size ≤ 100000 ∧ s3 = .slice A n C ∧ Hid (CpAt w wr k x y (.slice At nt Ct) c (.slice A n C) f) ∧ Hid (TF wr (.slice At nt Ct)))
  case atStart => exact ⟨At, nt, Ct, c, by omega, hN, hbig, rfl, HM.out, HTF0.out⟩
  case round =>
    clear HM hN hbig HTF0
    obtain ⟨A1, n1, C1, f, hsz, hN, hbig, rfl, HM, HTF⟩ := hrel
    cases hfe : f with
    | nil =>
      rw [hfe] at HM
      obtain ⟨a', c', e, _, _⟩ := HM.out.o.slice
      injection e with e1 e2 e3
      have hn0 : n1 = 0 := e2
      subst hn0
      have hfs := HM.out.fin
      obtain ⟨p0, p1, p2, p3⟩ := HM.out.b1.cells
      obtain ⟨y0, y1, y2, y3⟩ := frz HM.out.b2
      obtain ⟨x0', x1', x2', x3'⟩ := HM.out.b2.cells
      have HFS := Lib.hid hfs
      clear e1 e2 e3 hfe hfs
      go_wp2
      refine bodyPost_ret (results_cell_row rfl _ _ (w.heap.size + 1) 24 _ (0, 0) _ rfl (box_new HM.out.b2) Tryd.underlying24 rfl hi_node) rfl ?_
      have hbb := box_below wr (w.heap.size + 1) (.int .i64 k) (.string x) (.string y) (.slice At nt Ct)
      exact ⟨HM.out.bel.trans (hbb.mono (Nat.le_succ _)), At, nt, Ct, rfl, (HFS.out.keep fun b hb => set4_other _ _ _ _ _ _ _ (by have := hb.1; omega)).more fun b hb => ⟨Nat.le_trans (by omega) hb.1, Nat.lt_of_lt_of_le hb.2 hbb.size⟩, (((HTF.out.set _ _ _).set _ _ _).set _ _ _).set _ _ _⟩
    | cons k0 x0 y0 c0 r =>
      rw [hfe] at HM hsz hN hbig
      have hnd0 : (toL (.cons k0 x0 y0 c0 r))[0]? = some ⟨k0, x0, y0, c0⟩ := rfl
      have hlen : n1 = r.len + 1 := by
        obtain ⟨a', c', e, _, _⟩ := HM.out.o.slice
        injection e with e1 e2 e3
        rw [e2, toL_len]; rfl
      have hcap : n1 ≤ C1 ∧ C1 ≤ 9223372036854775807 := by
        obtain ⟨a', c', e, h1, h2⟩ := HM.out.o.slice
        injection e with e1 e2 e3
        exact ⟨by omega, by rw [e3]; exact h2⟩
      obtain ⟨hnC, hCm⟩ := hcap
      obtain ⟨g, s0, rfl, hgl, d0, d1, d2, d3, hf0⟩ := HM.out.o.at_ hnd0
      obtain ⟨A0, C0, rfl, _, _⟩ := hf0.slice
      simp only [F.size] at hsz hN hbig
      obtain ⟨n0, hn0⟩ : ∃ n0, c0.len = n0 := ⟨_, rfl⟩
      rw [hn0] at d3 hf0
      have hl0 := F.len_le_size c0
      have hlr := F.len_le_size r
      have HCL := Lib.hid (clone_any w.heap.size A0 n0 C0 c0 wr hf0 HM.out.bel.size (by omega))
      have d3' : wr.cell? ⟨g, 3, none⟩ = some (.slice A0 n0 C0) := by simpa using d3
      obtain ⟨A', n', C', hsl, en, eC, hA'⟩ := tail_slice g 0 n1 C1 (by omega) hnC
      have hn' : n' = r.len := by omega
      have hCm' : C' ≤ 9223372036854775807 := by omega
      have hnC' : n' ≤ C' := by omega
      have hn1 : (0 : Int) < (n1 : Int) := by omega
      have hA2 : Hid (n' = 0 ∨ A' = some ⟨g, 4, none⟩) := by rcases hA' with h | h; exact .inl (by omega); exact .inr (by rw [h])
      have hn'b : n' ≤ 100000 := by omega
      have HNR := Lib.hid hn'
      have HLN := Lib.hid hlen
      clear hfe hnd0 d0 d1 d2 d3 hf0 hn0 hl0 hA' en eC hn' hlr hlen
      go_wp2_with fail
      refine HCL.out.mono ?_
      rintro e w4 ⟨hb4, A4, n4, C4, rfl, ho4, hd4⟩
      have HI := Lib.hid (HM.out.start hb4 ho4 hd4)
      have HTI := Lib.hid ((HTF.out.below hb4).set g 3 (.slice A4 n4 C4))
      have hz := HM.out.o.later hb4 fun b hb => Nat.lt_of_lt_of_le hb HM.out.bel.size
      have hzf := hz.frz 3
      have hzc := (hb4.cell (p := ⟨g, 3, none⟩) hgl).trans d3'
      have HGL := Lib.hid hgl
      clear hb4 ho4 hd4 hz HCL HM hgl d3'
      go_wp2
      clear hzf hzc
      go_loopw [30] (fun s30 W => ∃ i : Nat, i ≤ n' ∧ s30 = .int .i64 (i : Int) ∧ Hid (CiAt w W wr.heap.size g n1 C1 k x y (.slice At nt Ct) c (.slice A4 n4 C4) (.cons k0 x0 y0 c0 r) c0 i) ∧ Hid (TF W (.slice At nt Ct))) (fun s30 _ => n' - (intOf s30).toNat)
      case atStart => exact ⟨0, Nat.zero_le _, rfl, HI.out, HTI.out⟩
      case round =>
        clear HI HTI HTF
        obtain ⟨i, hi, rfl, HI, HTI⟩ := hrel
        rename World => W
        by_cases hlt : i < n'
        · obtain rfl := hA2.out.resolve_left (by omega)
          have hlt' : (i : Int) < (n' : Int) := by omega
          have hi0 : (0 : Int) ≤ (i : Int) := by omega
          have hi1 : (i : Int) + 1 < (n1 : Int) := by have := HLN.out; have := HNR.out; omega
          obtain ⟨⟨kk, kx, ky, kc⟩, hnd⟩ : ∃ nd, (toL (.cons k0 x0 y0 c0 r))[i + 1]? = some nd := ⟨_, List.getElem?_eq_getElem (by rw [toL_len]; have := HNR.out; simp only [F.len]; omega)⟩
          obtain ⟨s, e0, e1, e2, e3, hfk, _⟩ := HI.out.at_ hnd
          have hfk := hfk (Nat.lt_succ_self _)
          dsimp only at e0 e1 e2 hfk
          obtain ⟨Ak, Ck, rfl, _, _⟩ := hfk.slice
          obtain ⟨kn, hkn⟩ : ∃ kn, kc.len = kn := ⟨_, rfl⟩
          rw [hkn] at e3 hfk
          rw [show (i + 1) * 4 = 4 + i * 4 by omega] at e0 e1 e2 e3
          have hmem := toL_size _ (List.mem_of_getElem? hnd)
          dsimp only [F.size] at hmem
          have b5 := below1 W (.cells #[.int .i64 kk, .string kx, .string ky, .slice Ak kn Ck] 24)
          have HC := Lib.hid (HIH.out kc.size (by omega) kk kx ky Ak kn Ck kc _ (Nat.le_refl _) (by omega) (((hfk.below b5 HI.out.bel.size).up (Nat.le_trans HI.out.bel.size b5.size))))
          have HI5 := Lib.hid (HI.out.later b5)
          have HT5 := Lib.hid (HTI.out.below b5)
          have HND := Lib.hid hnd
          have HBL : Hid (W.heap.size ≤ (W.alloc (.cells #[.int .i64 kk, .string kx, .string ky, .slice Ak kn Ck] 24)).heap.size) := b5.size
          clear hnd hfk hkn hmem b5
          go_wp2_with fail
          refine HC.out.mono ?_
          rintro e w6 ⟨hb6, Ar, nr, Cr, rfl, hf6⟩
          have hI6 := HI5.out.later hb6
          obtain ⟨s6, u0, u1, u2, u3, _, _⟩ := hI6.at_ HND.out
          obtain ⟨z0, z1, z2, z3⟩ := hI6.frz4 (i + 1)
          have HP := hI6.put HND.out (hf6.more fun b hb => ⟨Nat.le_trans HI5.out.hN hb.1, hb.2, fun e => by have := HI5.out.o0.lt e.symm; have := hb.1; omega⟩)
          unfold put4 at HP
          have HT6 := Lib.hid (HT5.out.below hb6)
          have HP2 := Lib.hid HP
          clear hI6 HP hf6 hb6 HI HI5 HC e0 e1 e2 e3
          go_wp2
          go_roundw
          case rel => exact ⟨i + 1, by omega, by go_num, HP2.out, (((HT6.out.set _ _ _).set _ _ _).set _ _ _).set _ _ _⟩
          case measure => simp [intOf]; omega
        · have hlt' : ¬ (i : Int) < (n' : Int) := by omega
          obtain ⟨s, e0, e1, e2, e3, _, hs⟩ := HI.out.at_ (j := 0) (nd := ⟨k0, x0, y0, c0⟩) rfl
          obtain rfl := hs rfl
          have e3' : W.cell? ⟨g, 3, none⟩ = some (.slice A4 n4 C4) := by simpa using e3
          have HD := Lib.hid (HI.out.done (by have := HNR.out; omega))
          clear e0 e1 e2 e3 hs hlt
          go_wp2
          go_roundg (c0.size + 1)
          case measure => omega
          case rel => exact ⟨A4, n4, C4, c0, by omega, by omega, by omega, rfl, HD.out, HTI.out⟩
theorem TCopySpecF.plain {N : Nat} (h : TCopySpecF N) : TCopySpec N := fun k x y A n C c w h1 h2 h3 => (h k x y A n C c w h1 h2 h3).mono fun e w' hp => by
  obtain ⟨hb, Ar, nr, Cr, e1, hf, _⟩ := hp
  exact ⟨hb, Ar, nr, Cr, e1, hf⟩
theorem tcopyF_any (N : Nat) : TCopySpecF N := by
  induction N using Nat.strongRecOn with
  | _ N ih => exact tcopy_step N fun M hM => (ih M hM).plain
theorem tcopy_any (N : Nat) : TCopySpec N := (tcopyF_any N).plain
end Go.Proofs.YtmknghhgcecafaaDoor.Tree

/-
  Layer 5 (tree): whether two nodes are alike, but for their Kids.
-/
namespace Go.Proofs.YtmknghhgcecafaaDoor.Tree
open Go.ChangeShapes Go.WideShapes Go.ChangeAt Go.RowKit Mem
set_option linter.unusedVariables false

def alikeB (k : Int) (x y : ByteArray) (n : Nat) (k' : Int) (x' y' : ByteArray) (n' : Nat) : Bool := k == k' && (x.toList == x'.toList && (y.toList == y'.toList && decide (n = n')))

end Go.Proofs.YtmknghhgcecafaaDoor.Tree

/-
  Layer 5 (tree): slices.EqualFunc at the program's Same, and Same. Written by gen_treesame.py.
-/
namespace Go.Proofs.YtmknghhgcecafaaDoor.Tree
open Go.ChangeShapes Go.WideShapes Go.ChangeAt Go.RowKit Mem
set_option linter.unusedVariables false

def sameT (k : Int) (x y : ByteArray) (c : F) (k' : Int) (x' y' : ByteArray) (c' : F) : Bool := k == k' && (x.toList == x'.toList && (y.toList == y'.toList && same c c'))
theorem same_len : ∀ {f g : F}, same f g = true → f.len = g.len
  | .nil, .nil, _ => rfl
  | .nil, .cons .., h => by simp [same] at h
  | .cons .., .nil, h => by simp [same] at h
  | .cons k x y c r, .cons k' x' y' c' r', h => by
    simp only [same, Bool.and_eq_true] at h
    simp only [F.len, same_len h.2]
theorem same_cons (k : Int) (x y : ByteArray) (c r : F) (k' : Int) (x' y' : ByteArray) (c' r' : F) : same (.cons k x y c r) (.cons k' x' y' c' r') = (sameT k x y c k' x' y' c' && same r r') := by
  simp only [same, sameT, Bool.and_assoc]
theorem sameT_alike {k : Int} {x y : ByteArray} {c : F} {k' : Int} {x' y' : ByteArray} {c' : F} (h : alikeB k x y c.len k' x' y' c'.len = false) : sameT k x y c k' x' y' c' = false := by
  unfold sameT
  unfold alikeB at h
  cases hs : same c c' with
  | false => simp
  | true =>
    rw [decide_eq_true (same_len hs), Bool.and_true] at h
    rw [Bool.and_true]
    exact h
theorem sameT_same {k : Int} {x y : ByteArray} {c : F} {k' : Int} {x' y' : ByteArray} {c' : F} (h : alikeB k x y c.len k' x' y' c'.len = true) : sameT k x y c k' x' y' c' = same c c' ∧ c.len = c'.len := by
  unfold alikeB at h
  unfold sameT
  simp only [Bool.and_eq_true, decide_eq_true_eq] at h
  obtain ⟨h1, h2, h3, h4⟩ := h
  rw [h1, h2, h3]
  exact ⟨by simp, h4⟩
def SamePost (b : Bool) (w : World) (e : Ending) (w' : World) : Prop := e = .returned (.bool b) ∧ Below w.heap.size w w'
/-- The two variables of Same. -/
structure MAt (w W : World) (k : Int) (x y : ByteArray) (s : Value) (c : F) (k' : Int) (x' y' : ByteArray) (s' : Value) (c' : F) : Prop where
  bel : Below w.heap.size w W
  b2 : Boxed W w.heap.size k x y s
  b3 : Boxed W (w.heap.size + 1) k' x' y' s'
  f2 : Fs W (Lo w.heap.size) s c
  f3 : Fs W (Lo w.heap.size) s' c'
/-- While both are written anew: q: has the second been written? -/
structure MQ (w W : World) (k : Int) (x y : ByteArray) (s : Value) (kb : Int) (xb yb : ByteArray) (sb : Value) (k2 : Int) (x2 y2 : ByteArray) (s2 : Value) (q : Bool) : Prop where
  bel : Below w.heap.size w W
  b2 : Boxed W w.heap.size k x y s
  b3 : q = false → Boxed W (w.heap.size + 1) k2 x2 y2 s2
  b4 : q = true → Boxed W (w.heap.size + 1) kb xb yb sb
section
variable {w W W' : World} {k kb k2 : Int} {x y xb yb x2 y2 : ByteArray} {s sb s2 : Value} {q : Bool}
theorem MQ.later (h : MQ w W k x y s kb xb yb sb k2 x2 y2 s2 q) (hb : Below W.heap.size W W') : MQ w W' k x y s kb xb yb sb k2 x2 y2 s2 q :=
  ⟨h.bel.trans (hb.mono h.bel.size), h.b2.below hb h.b2.lt, fun e => (h.b3 e).below hb (h.b3 e).lt, fun e => (h.b4 e).below hb (h.b4 e).lt⟩
theorem MQ.start {k0 : Int} {x0 y0 : ByteArray} {s0 : Value} (hb : Below w.heap.size w W) (h2 : Boxed W w.heap.size k0 x0 y0 s0) (h3 : Boxed W (w.heap.size + 1) k2 x2 y2 s2) :
    MQ w ((((W.setCell ⟨w.heap.size, 0, none⟩ (.int .i64 k)).setCell ⟨w.heap.size, 1, none⟩ (.string x)).setCell ⟨w.heap.size, 2, none⟩ (.string y)).setCell ⟨w.heap.size, 3, none⟩ s) k x y s kb xb yb sb k2 x2 y2 s2 false :=
  ⟨hb.trans (box_below _ _ _ _ _ _), box_new h2, fun _ => (set4_other _ _ _ _ _ _ _ (by omega)).trans h3, fun e => by cases e⟩
theorem MQ.done (h : MQ w W k x y s kb xb yb sb k2 x2 y2 s2 false) :
    MQ w ((((W.setCell ⟨w.heap.size + 1, 0, none⟩ (.int .i64 kb)).setCell ⟨w.heap.size + 1, 1, none⟩ (.string xb)).setCell ⟨w.heap.size + 1, 2, none⟩ (.string yb)).setCell ⟨w.heap.size + 1, 3, none⟩ sb) k x y s kb xb yb sb k2 x2 y2 s2 true :=
  ⟨h.bel.trans ((box_below _ _ _ _ _ _).mono (Nat.le_succ _)), (set4_other _ _ _ _ _ _ _ (by omega)).trans h.b2, fun e => (by cases e), fun _ => box_new (h.b3 rfl)⟩
end

end Go.Proofs.YtmknghhgcecafaaDoor.Tree

/-
  Layer 5 (tree): the document's Same. Written by gen_treerefsame.py.
-/
namespace Go.Proofs.YtmknghhgcecafaaDoor.Tree
open Go.ChangeShapes Go.WideShapes Go.ChangeAt Go.RowKit Mem
set_option linter.unusedVariables false

def RSameSpec (N : Nat) : Prop := ∀ (k : Int) (x y : ByteArray) (A : Option Addr) (n C : Nat) (c : F) (k' : Int) (x' y' : ByteArray) (A' : Option Addr) (n' C' : Nat) (c' : F) (w : World), c.size ≤ N → c.size ≤ 100000 → Fs w (Lo w.heap.size) (.slice A n C) c → Fs w (Lo w.heap.size) (.slice A' n' C') c' →
  Calls Tryd.prog 13 #[.agg #[.int .i64 k, .string x, .string y, .slice A n C], .agg #[.int .i64 k', .string x', .string y', .slice A' n' C']] w fun e w' => SamePost (sameT k x y c k' x' y' c') w e w'

set_option maxRecDepth 100000 in
set_option maxHeartbeats 16000000 in
theorem rsame_step (N : Nat) (ih : ∀ M, M < N → RSameSpec M) : RSameSpec N := by
  intro k x y A n C c k' x' y' A' n' C' c' w hN hbig hf hf'
  have HIH := Lib.hid ih
  have b1 := below2 w (.cells #[.int .i64 k, .string x, .string y, .slice A n C] 24) (.cells #[.int .i64 k', .string x', .string y', .slice A' n' C'] 24)
  have HB := Lib.hid b1
  have HX2 : Hid (Boxed ((w.alloc (.cells #[.int .i64 k, .string x, .string y, .slice A n C] 24)).alloc (.cells #[.int .i64 k', .string x', .string y', .slice A' n' C'] 24)) w.heap.size k x y (.slice A n C)) := (Below.heap_alloc _ _ _ (by simp)).trans (heap_alloc_new _ _)
  have HX3 : Hid (Boxed ((w.alloc (.cells #[.int .i64 k, .string x, .string y, .slice A n C] 24)).alloc (.cells #[.int .i64 k', .string x', .string y', .slice A' n' C'] 24)) (w.heap.size + 1) k' x' y' (.slice A' n' C')) := by
    have e : w.heap.size + 1 = (w.alloc (.cells #[.int .i64 k, .string x, .string y, .slice A n C] 24)).heap.size := by simp
    rw [e]
    exact heap_alloc_new _ _
  have HF := Lib.hid hf; have HF' := Lib.hid hf'
  obtain ⟨_, _, e, hnC, hCm⟩ := hf.slice
  injection e with q1 q2 q3
  obtain ⟨_, _, e', hnC', hCm'⟩ := hf'.slice
  injection e' with q1' q2' q3'
  have HN1 := Lib.hid q2; have HN2 := Lib.hid q2'
  have hn1 : n ≤ 100000 := by have := F.len_le_size c; omega
  have hC1 : C ≤ 9223372036854775807 := by omega
  have hC2 : C' ≤ 9223372036854775807 := by omega
  have hc1 : n ≤ C := by omega
  have hc2 : n' ≤ C' := by omega
  obtain ⟨res, hres⟩ : ∃ res, sameT k x y c k' x' y' c' = res := ⟨_, rfl⟩
  rw [hres]
  have HR0 := Lib.hid hres
  clear ih hf hf' b1 hres q1 q2 q3 q1' q2' q3' hnC hnC' hCm hCm'
  cases hal : alikeB k x y n k' x' y' n' with
  | false =>
    have HE : Hid (res = false) := by show _ = _; rw [← HR0.out, sameT_alike (by rw [← HN1.out, ← HN2.out]; exact hal)]
    unfold alikeB at hal
    cases hk : (k == k') with
    | false =>
      have hkn : (k != k') = true := by rw [bne, hk]; rfl
      clear hal
      go_enter Tryd.func13, Tryd.ntmps13
      go_wp2
      go_ret
      exact ⟨by rw [HE.out]; rfl, HB.out⟩
    | true =>
      have hkn : (k != k') = false := by rw [bne, hk]; rfl
      cases hx : (x.toList == x'.toList) with
      | false =>
        clear hal
        go_enter Tryd.func13, Tryd.ntmps13
        go_wp2
        go_ret
        exact ⟨by rw [HE.out]; rfl, HB.out⟩
      | true =>
        cases hy : (y.toList == y'.toList) with
        | false =>
          clear hal
          go_enter Tryd.func13, Tryd.ntmps13
          go_wp2
          go_ret
          exact ⟨by rw [HE.out]; rfl, HB.out⟩
        | true =>
          have hn : ¬ n = n' := by
            rw [hk, hx, hy] at hal
            simpa using hal
          have hn' : ((n : Int) == (n' : Int)) = false := by
            have : ¬ ((n : Int) = (n' : Int)) := by omega
            simpa using this
          have hnn : ((n : Int) != (n' : Int)) = true := by rw [bne, hn']; rfl
          clear hal
          go_enter Tryd.func13, Tryd.ntmps13
          go_wp2
          go_ret
          exact ⟨by rw [HE.out]; rfl, HB.out⟩
  | true =>
    obtain ⟨hss, hll⟩ := sameT_same (c := c) (c' := c') (by rw [← HN1.out, ← HN2.out]; exact hal)
    have HR : Hid (same (c.drop 0) (c'.drop 0) = res) := by show same c c' = _; rw [← hss]; exact HR0.out
    have hnn : n = n' := by rw [HN1.out, HN2.out]; exact hll
    unfold alikeB at hal
    simp only [Bool.and_eq_true, decide_eq_true_eq] at hal
    obtain ⟨hk, hx, hy, _⟩ := hal
    have hkn : (k != k') = false := by rw [bne, hk]; rfl
    subst hnn
    clear hss hll
    go_enter Tryd.func13, Tryd.ntmps13
    go_wp2
    clear hk hx hy hkn
    go_loopw [5] (fun s5 wr => ∃ j : Nat, j ≤ n ∧ s5 = .int .i64 (j : Int) ∧ Hid (same (c.drop j) (c'.drop j) = res) ∧ Hid (Below w.heap.size w wr) ∧ Hid (Boxed wr w.heap.size k x y (.slice A n C)) ∧ Hid (Boxed wr (w.heap.size + 1) k' x' y' (.slice A' n C'))) (fun s5 _ => n - (intOf s5).toNat)
    case atStart => exact ⟨0, Nat.zero_le _, rfl, HR.out, HB.out, HX2.out, HX3.out⟩
    case round =>
      clear HR HB HX2 HX3
      obtain ⟨j, hj, rfl, HR, HB, HX2, HX3⟩ := hrel
      obtain ⟨p0, p1, p2, p3⟩ := HX2.out.cells
      by_cases hlt : j < n
      · have hlt' : (j : Int) < (n : Int) := by omega
        have hj0 : (0 : Int) ≤ (j : Int) := by omega
        obtain ⟨k1, x1, y1, c1, r1, hd1, hd1'⟩ := F.drop_cons (n := j) (f := c) (by rw [← HN1.out]; exact hlt)
        obtain ⟨k2, x2, y2, c2, r2, hd2, hd2'⟩ := F.drop_cons (n := j) (f := c') (by rw [← HN2.out]; exact hlt)
        have hw1 := HF.out.below HB.out (Nat.le_refl _)
        have hw2 := HF'.out.below HB.out (Nat.le_refl _)
        obtain ⟨ba, oa, s1, rfl, hba, _, hat1⟩ := hw1.at_ hd1
        obtain ⟨bb, ob, s2, rfl, hbb, _, hat2⟩ := hw2.at_ hd2
        obtain ⟨Ak, Ck, rfl, _, _⟩ := hat1.kids.slice
        obtain ⟨Al, Cl, rfl, _, _⟩ := hat2.kids.slice
        have hs1 := size_drop hd1
        obtain ⟨m1, hm1⟩ : ∃ m, c1.len = m := ⟨_, rfl⟩
        obtain ⟨m2, hm2⟩ : ∃ m, c2.len = m := ⟨_, rfl⟩
        rw [hm1] at hat1
        rw [hm2] at hat2
        have hla : ba < wr.heap.size := Nat.lt_of_lt_of_le hba HB.out.size
        have hlb : bb < wr.heap.size := Nat.lt_of_lt_of_le hbb HB.out.size
        have HND : Hid (∀ W, Below wr.heap.size wr W → (W.cell? ⟨ba, oa + j * 4, none⟩ = some (.int .i64 k1) ∧ W.cell? ⟨ba, oa + j * 4 + 1, none⟩ = some (.string x1) ∧ W.cell? ⟨ba, oa + j * 4 + 2, none⟩ = some (.string y1) ∧ W.cell? ⟨ba, oa + j * 4 + 3, none⟩ = some (.slice Ak m1 Ck)) ∧
            (W.cell? ⟨bb, ob + j * 4, none⟩ = some (.int .i64 k2) ∧ W.cell? ⟨bb, ob + j * 4 + 1, none⟩ = some (.string x2) ∧ W.cell? ⟨bb, ob + j * 4 + 2, none⟩ = some (.string y2) ∧ W.cell? ⟨bb, ob + j * 4 + 3, none⟩ = some (.slice Al m2 Cl))) := fun W hW =>
          ⟨⟨(hW.cell (p := ⟨ba, oa + j * 4, none⟩) hla).trans hat1.c0, (hW.cell (p := ⟨ba, oa + j * 4 + 1, none⟩) hla).trans hat1.c1, (hW.cell (p := ⟨ba, oa + j * 4 + 2, none⟩) hla).trans hat1.c2, (hW.cell (p := ⟨ba, oa + j * 4 + 3, none⟩) hla).trans hat1.c3⟩,
            (hW.cell (p := ⟨bb, ob + j * 4, none⟩) hlb).trans hat2.c0, (hW.cell (p := ⟨bb, ob + j * 4 + 1, none⟩) hlb).trans hat2.c1, (hW.cell (p := ⟨bb, ob + j * 4 + 2, none⟩) hlb).trans hat2.c2, (hW.cell (p := ⟨bb, ob + j * 4 + 3, none⟩) hlb).trans hat2.c3⟩
        have HX : Hid (∀ W, Below wr.heap.size wr W → Boxed W w.heap.size k x y (.slice (some ⟨ba, oa, none⟩) n C) ∧ Boxed W (w.heap.size + 1) k' x' y' (.slice (some ⟨bb, ob, none⟩) n C')) := fun W hW => ⟨HX2.out.below hW HX2.out.lt, HX3.out.below hW HX3.out.lt⟩
        obtain ⟨sm, hsm⟩ : ∃ sm, sameT k1 x1 y1 c1 k2 x2 y2 c2 = sm := ⟨_, rfl⟩
        have HC : Hid (∀ W, Below wr.heap.size wr W → Calls Tryd.prog 13 #[.agg #[.int .i64 k1, .string x1, .string y1, .slice Ak m1 Ck], .agg #[.int .i64 k2, .string x2, .string y2, .slice Al m2 Cl]] W fun e w' => SamePost sm W e w') := fun W hW => by
          rw [← hsm]
          have hs := Nat.le_trans HB.out.size hW.size
          exact HIH.out c1.size (by omega) k1 x1 y1 Ak m1 Ck c1 k2 x2 y2 Al m2 Cl c2 W (Nat.le_refl _) (by omega) ((hat1.kids.below hW HB.out.size).up hs) ((hat2.kids.below hW HB.out.size).up hs)
        have hrr := HR.out
        rw [hd1, hd2, same_cons, hsm] at hrr
        have HRR : Hid ((sm && same (c.drop (j + 1)) (c'.drop (j + 1))) = res) := by show _ = _; rw [hd1', hd2']; exact hrr
        clear hd1 hd1' hd2 hd2' hw1 hw2 hba hbb hlb hla hat1 hat2 hs1 hm1 hm2 hsm hrr HR HX2 HX3
        go_wp2
        clear p0 p1 p2 p3
        refine region_rel (fun W W' => Below W.heap.size W W') [Cd.is (Value.pointer (some ⟨w.heap.size, 3, none⟩)), Cd.is (Value.slice (some ⟨ba, oa, none⟩) n C), Cd.is (Value.int .i64 (j : Int)), Cd.is (Value.pointer (some ⟨ba, oa + j * 4, none⟩)), Cd.is (Value.agg #[.int .i64 k1, .string x1, .string y1, .slice Ak m1 Ck]), Cd.is (Value.pointer (some ⟨w.heap.size + 1, 3, none⟩)), Cd.is (Value.slice (some ⟨bb, ob, none⟩) n C'), Cd.is (Value.int .i64 (j : Int)), Cd.is (Value.pointer (some ⟨bb, ob + j * 4, none⟩)), Cd.is (Value.agg #[.int .i64 k2, .string x2, .string y2, .slice Al m2 Cl]), Cd.is (Value.bool sm), Cd.is (Value.bool (!sm))] (by kernel_rfl) (by decide) (by kernel_rfl) (Below.refl _ _) (fun _ _ _ h k => h.trans (k.mono h.size)) ?steps ?behind
        case steps =>
          intro xv W hW a ha
          replace hW := undrew hW
          simp only [fillA] at ha
          simp only [List.setIfInBounds_toArray, List.set_cons_succ, List.set_cons_zero, Nat.zero_add, Nat.reduceAdd] at ha
          subst ha
          refine ⟨fun hd K hK => ?s0, fun hd K hK => ?s1, fun hd K hK => ?s2, fun hd K hK => ?s3, fun hd K hK => ?s4, fun hd K hK => ?s5, fun hd K hK => ?s6, fun hd K hK => ?s7, fun hd K hK => ?s8, fun hd K hK => ?s9, fun hd K hK => ?s10, fun hd K hK => ?s11, trivial⟩
          case s0 =>
            clear hd
            simp only [Act.put, List.setIfInBounds_toArray, List.set_cons_succ, List.set_cons_zero] at hK
            refine (if_pos (by rfl)).mpr ?_
            go_simp
            exact hK.out _ _ (Below.refl _ _) rfl
          case s1 =>
            have hx0 : xv 0 = Value.pointer (some ⟨w.heap.size, 3, none⟩) := hd 0 (by kernel_rfl)
            clear hd
            simp only [Act.put, List.setIfInBounds_toArray, List.set_cons_succ, List.set_cons_zero] at hK
            rw [hx0] at hK ⊢
            refine (if_pos (by rfl)).mpr ?_
            obtain ⟨hq0, hq1, hq2, hq3⟩ := (HX.out W hW).1.cells
            go_simp
            exact hK.out _ _ (Below.refl _ _) rfl
          case s2 =>
            clear hd
            simp only [Act.put, List.setIfInBounds_toArray, List.set_cons_succ, List.set_cons_zero] at hK
            refine (if_pos (by rfl)).mpr ?_
            go_simp
            exact hK.out _ _ (Below.refl _ _) rfl
          case s3 =>
            have hx1 : xv 1 = Value.slice (some ⟨ba, oa, none⟩) n C := hd 1 (by kernel_rfl)
            have hx2 : xv 2 = Value.int .i64 (j : Int) := hd 2 (by kernel_rfl)
            clear hd
            simp only [Act.put, List.setIfInBounds_toArray, List.set_cons_succ, List.set_cons_zero] at hK
            rw [hx1] at hK ⊢
            rw [hx2] at hK ⊢
            refine (if_pos (by rfl)).mpr ?_
            go_simp
            exact hK.out _ _ (Below.refl _ _) rfl
          case s4 =>
            have hx3 : xv 3 = Value.pointer (some ⟨ba, oa + j * 4, none⟩) := hd 3 (by kernel_rfl)
            clear hd
            simp only [Act.put, List.setIfInBounds_toArray, List.set_cons_succ, List.set_cons_zero] at hK
            rw [hx3] at hK ⊢
            refine (if_pos (by rfl)).mpr ?_
            obtain ⟨hq0, hq1, hq2, hq3⟩ := (HND.out W hW).1
            go_simp
            exact hK.out _ _ (Below.refl _ _) rfl
          case s5 =>
            clear hd
            simp only [Act.put, List.setIfInBounds_toArray, List.set_cons_succ, List.set_cons_zero] at hK
            refine (if_pos (by rfl)).mpr ?_
            go_simp
            exact hK.out _ _ (Below.refl _ _) rfl
          case s6 =>
            have hx5 : xv 5 = Value.pointer (some ⟨w.heap.size + 1, 3, none⟩) := hd 5 (by kernel_rfl)
            clear hd
            simp only [Act.put, List.setIfInBounds_toArray, List.set_cons_succ, List.set_cons_zero] at hK
            rw [hx5] at hK ⊢
            refine (if_pos (by rfl)).mpr ?_
            obtain ⟨hq0, hq1, hq2, hq3⟩ := (HX.out W hW).2.cells
            go_simp
            exact hK.out _ _ (Below.refl _ _) rfl
          case s7 =>
            clear hd
            simp only [Act.put, List.setIfInBounds_toArray, List.set_cons_succ, List.set_cons_zero] at hK
            refine (if_pos (by rfl)).mpr ?_
            go_simp
            exact hK.out _ _ (Below.refl _ _) rfl
          case s8 =>
            have hx6 : xv 6 = Value.slice (some ⟨bb, ob, none⟩) n C' := hd 6 (by kernel_rfl)
            have hx7 : xv 7 = Value.int .i64 (j : Int) := hd 7 (by kernel_rfl)
            clear hd
            simp only [Act.put, List.setIfInBounds_toArray, List.set_cons_succ, List.set_cons_zero] at hK
            rw [hx6] at hK ⊢
            rw [hx7] at hK ⊢
            refine (if_pos (by rfl)).mpr ?_
            go_simp
            exact hK.out _ _ (Below.refl _ _) rfl
          case s9 =>
            have hx8 : xv 8 = Value.pointer (some ⟨bb, ob + j * 4, none⟩) := hd 8 (by kernel_rfl)
            clear hd
            simp only [Act.put, List.setIfInBounds_toArray, List.set_cons_succ, List.set_cons_zero] at hK
            rw [hx8] at hK ⊢
            refine (if_pos (by rfl)).mpr ?_
            obtain ⟨hq0, hq1, hq2, hq3⟩ := (HND.out W hW).2
            go_simp
            exact hK.out _ _ (Below.refl _ _) rfl
          case s10 =>
            have hx4 : xv 4 = Value.agg #[.int .i64 k1, .string x1, .string y1, .slice Ak m1 Ck] := hd 4 (by kernel_rfl)
            have hx9 : xv 9 = Value.agg #[.int .i64 k2, .string x2, .string y2, .slice Al m2 Cl] := hd 9 (by kernel_rfl)
            clear hd
            simp only [Act.put, List.setIfInBounds_toArray, List.set_cons_succ, List.set_cons_zero] at hK
            rw [hx4] at hK ⊢
            rw [hx9] at hK ⊢
            refine (if_pos (by rfl)).mpr ?_
            go_simp
            go_at_call 13
            refine (HC.out W hW).mono ?_
            rintro e w' ⟨rfl, hb⟩
            exact hK.out _ _ hb rfl
          case s11 =>
            have hx10 : xv 10 = Value.bool sm := hd 10 (by kernel_rfl)
            clear hd
            simp only [Act.put, List.setIfInBounds_toArray, List.set_cons_succ, List.set_cons_zero] at hK
            rw [hx10] at hK ⊢
            refine (if_pos (by rfl)).mpr ?_
            go_simp
            exact hK.out _ _ (Below.refl _ _) rfl
        case behind =>
          intro xv W hW hx a ha
          replace hW := undrew hW
          simp only [fillA] at ha
          simp only [List.setIfInBounds_toArray, List.set_cons_succ, List.set_cons_zero, Nat.zero_add, Nat.reduceAdd] at ha
          subst ha
          have h11 : xv 11 = Value.bool (!sm) := hx 11 (by decide)
          rw [h11]
          have HB5 := Lib.hid (HB.out.trans (hW.mono HB.out.size))
          have HX5 : Hid (Boxed W w.heap.size k x y (.slice (some ⟨ba, oa, none⟩) n C) ∧ Boxed W (w.heap.size + 1) k' x' y' (.slice (some ⟨bb, ob, none⟩) n C')) := HX.out W hW
          clear hx hW h11 HX HND HC
          cases sm with
          | false =>
            have HE : Hid (res = false) := by show _ = _; rw [← HRR.out]; rfl
            go_wp2
            go_ret
            exact ⟨by rw [HE.out]; rfl, HB5.out⟩
          | true =>
            have HE : Hid (same (c.drop (j + 1)) (c'.drop (j + 1)) = res) := by show _ = _; rw [← HRR.out]; rfl
            go_wp2
            go_roundw
            case rel => exact ⟨j + 1, by omega, by go_num, HE.out, HB5.out, HX5.out.1, HX5.out.2⟩
            case measure => simp [intOf]; omega
      · have hlt' : ¬ (j : Int) < (n : Int) := by omega
        have HE : Hid (res = true) := by
          show _ = _
          rw [← HR.out, F.drop_all _ _ (by rw [← HN1.out]; omega), F.drop_all _ _ (by rw [← HN2.out]; omega)]
          rfl
        clear hlt
        go_wp2
        go_ret
        exact ⟨by rw [HE.out]; rfl, HB.out⟩
theorem rsame_any (N : Nat) : RSameSpec N := by
  induction N using Nat.strongRecOn with
  | _ N ih => exact rsame_step N ih
end Go.Proofs.YtmknghhgcecafaaDoor.Tree

/-
  Layer 5 (tree): the document's Size, as the tests have it; and that a tree is the same as itself.
-/
namespace Go.Proofs.YtmknghhgcecafaaDoor.Tree
open Go.ChangeShapes Go.WideShapes Go.ChangeAt Go.RowKit Mem
set_option linter.unusedVariables false

set_option maxRecDepth 100000 in
set_option maxHeartbeats 4000000 in
theorem refSize_any (k : Int) (x y : ByteArray) (A : Option Addr) (n C : Nat) (c : F) (m : Nat) (w : World) (hf : Fs w (Lo w.heap.size) (.slice A n C) c) (hm1 : 1 ≤ m) (hm2 : m ≤ 100000) :
    Calls Tryd.prog 20 #[.agg #[.int .i64 k, .string x, .string y, .slice A n C], .int .i64 (m : Int)] w fun e w' => e = .returned (.int .i64 ((min (c.size + 1) m : Nat) : Int)) ∧ Below w.heap.size w w' := by
  have b1 := below1 w (.cells #[.int .i64 k, .string x, .string y, .slice A n C] 24)
  have HC := Lib.hid (nodes_any c.size k x y A n C c m w.heap.size (w.alloc (.cells #[.int .i64 k, .string x, .string y, .slice A n C] 24)) (Nat.le_refl _) (hf.below b1 (Nat.le_refl _)) b1.size hm1 hm2)
  have HB1 := Lib.hid b1
  have HL : Hid (((⟨k, x, y, c⟩ :: nodes c : List Nd).take m).length = min (c.size + 1) m) := by show _ = _; rw [List.length_take, List.length_cons, nodes_len, Nat.min_comm]
  generalize ((⟨k, x, y, c⟩ :: nodes c : List Nd).take m) = T at *
  generalize min (c.size + 1) m = s at *
  clear hf hm1 hm2 b1
  go_enter Tryd.func20, Tryd.ntmps20
  go_wp2_with fail
  refine HC.out.mono ?_
  rintro e w1 ⟨⟨v1, rfl, ho1⟩, hb1⟩
  obtain ⟨a1, c1, rfl, hc1, hc1'⟩ := ho1.slice
  have HB := Lib.hid (HB1.out.trans (hb1.mono HB1.out.size))
  rw [HL.out] at hc1 ⊢
  clear ho1 hb1 HC HL hc1'
  go_wp2
  go_ret
  exact ⟨rfl, HB.out⟩


theorem sameT_refl (k : Int) (x y : ByteArray) (c : F) : sameT k x y c k x y c = true := by
  unfold sameT
  rw [same_refl]
  simp
end Go.Proofs.YtmknghhgcecafaaDoor.Tree
