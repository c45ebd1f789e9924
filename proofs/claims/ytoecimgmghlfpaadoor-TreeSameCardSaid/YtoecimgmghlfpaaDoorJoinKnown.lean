import Derived.Test.YtoecimgmghlfpaaDoorJoinRows
import Derived.Test.YtoecimgmghlfpaaDoorTreeRightAll

/-
  Layer 5 (tree): the laws' own builders: Name, Bin, Const, File.
-/
namespace Go.Proofs.YtoecimgmghlfpaaDoor.Tree
open Go.ChangeShapes Go.WideShapes Go.ChangeAt Go.RowKit Mem
set_option linter.unusedVariables false

def ofL : List Nd → F
  | [] => .nil
  | nd :: l => .cons nd.k nd.x nd.y nd.c (ofL l)
theorem ofL_len : ∀ l : List Nd, (ofL l).len = l.length
  | [] => rfl
  | nd :: l => by simp only [ofL, F.len, ofL_len l, List.length_cons]

/-- A row of nodes in block g reads as trees. -/
theorem fs_row {w : World} {S : Nat → Prop} (g : Nat) (hg : S g) : ∀ (ps : List (Nd × Value)) (off n C : Nat), ps.length = n → n ≤ C → C ≤ 9223372036854775807 → (∀ j u, (ps.flatMap ndC)[j]? = some u → w.cell? ⟨g, off + j, none⟩ = some u) → (∀ p ∈ ps, Fs w S p.2 p.1.c) →
    ∀ A, (n = 0 ∨ A = some ⟨g, off, none⟩) → Fs w S (.slice A n C) (ofL (ps.map (·.1)))
  | [], off, n, C, hl, hC, hm, hc, hf, A, hA => by
    simp only [List.length_nil] at hl
    subst hl
    exact ⟨A, C, rfl, hm⟩
  | p :: ps, off, n, C, hl, hC, hm, hc, hf, A, hA => by
    simp only [List.length_cons] at hl
    subst hl
    obtain ⟨C', rfl⟩ : ∃ C', C = C' + 1 := ⟨C - 1, by omega⟩
    have hA' : A = some ⟨g, off, none⟩ := hA.resolve_left (by omega)
    subst hA'
    have hj : ∀ j u, (ndC p)[j]? = some u → w.cell? ⟨g, off + j, none⟩ = some u := fun j u hu => hc j u (by
      rw [List.flatMap_cons, List.getElem?_append_left (by
        rcases Nat.lt_or_ge j (ndC p).length with h' | h'
        · exact h'
        · rw [List.getElem?_eq_none h'] at hu; cases hu)]
      exact hu)
    refine ⟨g, off, ps.length, C', p.2, rfl, by rw [ofL_len, List.length_map], by omega, hm, hg, hj 0 _ rfl, hj 1 _ rfl, hj 2 _ rfl, hj 3 _ rfl, hf p (List.mem_cons_self ..), fun A' hA' => ?_⟩
    refine fs_row g hg ps (off + 4) ps.length C' rfl (by omega) (by omega) (fun j u hu => ?_) (fun q hq => hf q (List.mem_cons_of_mem _ hq)) A' ?_
    · rw [show off + 4 + j = off + (4 + j) by omega]
      refine hc (4 + j) u ?_
      rw [List.flatMap_cons, List.getElem?_append_right (by rw [ndC_len]; omega), ndC_len, show 4 + j - 4 = j by omega]
      exact hu
    · rcases hA' with h | h
      · left
        have : (ofL (ps.map (·.1))).len = ps.length := by rw [ofL_len, List.length_map]
        rw [h] at this
        exact this.symm
      · exact .inr h

def toL : F → List Nd
  | .nil => []
  | .cons k x y c r => ⟨k, x, y, c⟩ :: toL r
theorem toL_len : ∀ f : F, (toL f).length = f.len
  | .nil => rfl
  | .cons k x y c r => by simp only [toL, List.length_cons, F.len, toL_len r]
theorem ofL_toL : ∀ f : F, ofL (toL f) = f
  | .nil => rfl
  | .cons k x y c r => by simp only [toL, ofL, ofL_toL r]
theorem ofL_append : ∀ (l : List Nd) (f : F), ofL (l ++ toL f) = l.foldr (fun nd g => .cons nd.k nd.x nd.y nd.c g) f
  | [], f => by simp [ofL_toL]
  | nd :: l, f => by simp only [List.cons_append, ofL, ofL_append l f, List.foldr_cons]

/-- The cells of a row of trees. -/
theorem fs_cells {w : World} {S : Nat → Prop} : ∀ {f : F} {b off n C : Nat}, Fs w S (.slice (some ⟨b, off, none⟩) n C) f →
    ∃ ps : List (Nd × Value), ps.map (·.1) = toL f ∧ ps.length = n ∧ (∀ j u, (ps.flatMap ndC)[j]? = some u → w.cell? ⟨b, off + j, none⟩ = some u) ∧ ∀ p ∈ ps, Fs w S p.2 p.1.c
  | .nil, b, off, n, C, ⟨A, C', e, _⟩ => by
    injection e with _ e2 _
    subst e2
    exact ⟨[], rfl, rfl, fun j u hu => by simp at hu, fun p hp => by cases hp⟩
  | .cons k x y c r, b, off, n, C, ⟨b', off', n', C', s, e, h1, h2, h3, hS, c0, c1, c2, c3, hk, hr⟩ => by
    injection e with e1 e2 e3
    injection e1 with e1
    injection e1 with e4 e5
    subst e4; subst e5; subst e2; subst e3
    obtain ⟨ps, p1, p2, p3, p4⟩ := fs_cells (hr (some ⟨b, off + 4, none⟩) (.inr rfl))
    refine ⟨(⟨k, x, y, c⟩, s) :: ps, by rw [List.map_cons, p1]; rfl, by rw [List.length_cons, p2], fun j u hu => ?_, fun p hp => ?_⟩
    · rw [List.flatMap_cons] at hu
      by_cases hj : j < 4
      · rw [List.getElem?_append_left (by rw [ndC_len]; exact hj)] at hu
        match j, hj, hu with
        | 0, _, hu => cases hu; exact c0
        | 1, _, hu => cases hu; exact c1
        | 2, _, hu => cases hu; exact c2
        | 3, _, hu => cases hu; exact c3
      · rw [List.getElem?_append_right (by rw [ndC_len]; omega), ndC_len] at hu
        have := p3 (j - 4) u hu
        rwa [show off + 4 + (j - 4) = off + j by omega] at this
    · rcases List.mem_cons.1 hp with rfl | hp
      · exact hk
      · exact p4 p hp

theorem own_fsS {w : World} {S : Nat → Prop} {B base : Nat} {v : Value} {L : List Nd} (h : OwnN w B base v L) (hB : ∀ b, b < B → S b) (hS : ∀ g, base ≤ g → g < w.heap.size → S g) : Fs w S v (ofL L) := by
  obtain ⟨ps, h1, ho, hf⟩ := h
  rcases ho.2 with ⟨rfl, h0⟩ | ⟨g, cap, cur, rfl, hg0, hg, q1, q2, q3, q4⟩
  · rw [List.eq_nil_of_length_eq_zero h0]
    exact ⟨none, 0, rfl, by omega⟩
  · have e : ofL L = ofL (ps.map (·.1)) := by rw [h1]
    rw [e]
    have hc := ho.cells (g := g) rfl
    have ad : ∀ j, (⟨g, 0, none⟩ : Addr).add j = ⟨g, j, none⟩ := fun j => by unfold Addr.add; split <;> simp_all
    refine fs_row g (hS g hg0 (lt_of_block hg)) ps 0 L.length cap (by rw [← h1]; simp) q1 q2 (fun j u hu => ?_) (fun p hp => (hf p hp).more hB) _ (.inr rfl)
    have := hc j u hu
    rwa [ad, ← Nat.zero_add j] at this
theorem own_fs {w : World} {B base : Nat} {v : Value} {L : List Nd} (h : OwnN w B base v L) (hB : B ≤ w.heap.size) : Fs w (Lo w.heap.size) v (ofL L) :=
  own_fsS h (fun b hb => Nat.lt_of_lt_of_le hb hB) (fun g _ hg => hg)
/-- A variable's four cells written anew: the other blocks are as they were. -/
theorem set4_other (w : World) (g b : Nat) (v0 v1 v2 v3 : Value) (h : b ≠ g) : ((((w.setCell ⟨g, 0, none⟩ v0).setCell ⟨g, 1, none⟩ v1).setCell ⟨g, 2, none⟩ v2).setCell ⟨g, 3, none⟩ v3).heap[b]? = w.heap[b]? := by
  rw [Below.heap_setCell _ _ _ _ h, Below.heap_setCell _ _ _ _ h, Below.heap_setCell _ _ _ _ h, Below.heap_setCell _ _ _ _ h]

/-- append of a row of trees onto a row of the call's own. -/
theorem app_fs (w : World) {ops : Array Oper} {rest : List Oper} {o : Oper} {a : Act} {Q : Exit → Act → World → Prop} (hgd : o.guard = none) (s x : Operand)
    (ho : o.op = .call { callee := .builtin .append, args := #[s, x], argTypes := #[22, 22] }) (B base : Nat) (v : Value) (L1 : List Nd) (f : F) (b off m c : Nat) (hs : a.eval s = v) (hx : a.eval x = .slice (some ⟨b, off, none⟩) m c)
    (h1 : OwnN w B base v L1) (h2 : Fs w (Lo B) (.slice (some ⟨b, off, none⟩) m c) f) (hB : B ≤ base) (hbase : base ≤ w.heap.size) (hlen : L1.length + m ≤ 1000000)
    (h : ∀ v' w', OwnN w' B base v' (L1 ++ toL f) → Below base w w' → wpList Tryd.prog ops Q rest (a.put o.dst v') w') : wpList Tryd.prog ops Q (o :: rest) a w := by
  obtain ⟨i0, hi0, hz0, hz1, hz2⟩ := info_parts node_info
  obtain ⟨ps1, e1, ho1, hf1⟩ := h1
  obtain ⟨ps2, e2, hl2, hc2, hf2⟩ := fs_cells h2
  have ad : ∀ j, (⟨b, off, none⟩ : Addr).add j = ⟨b, off + j, none⟩ := fun j => by unfold Addr.add; split <;> simp_all
  have hlen2 : (toL f).length = m := by rw [← e2, List.length_map, hl2]
  refine wpList_append_own_at (P := Tryd.prog) w hgd s x 22 ho base 24 i0 (.agg #[.int .i64 0, .string ⟨#[]⟩, .string ⟨#[]⟩, .slice none 0 0]) 4 64 Tryd.underlying22 hi0 hz0 hz1 hz2 rfl (by decide) v L1.length _ hs ho1 ⟨b, off, none⟩ m c (ps2.flatMap ndC) hx (by rw [MemT.flat_len ndC_len, hl2]) (fun j u hu => by rw [ad]; exact hc2 j u hu) (ndC_one hf2) (by unfold maxLen; omega) (by omega) hbase fun v' w' r1 r2 _ _ => ?_
  have hbl : Below base w w' := (Below.refl _ _).grown r2 hbase (fun k hk => (ho1.lt k hk).1)
  refine h v' w' ⟨ps1 ++ ps2, by rw [List.map_append, e1, e2], by rw [List.flatMap_append, List.length_append, hlen2]; exact r1, fun p hp => ?_⟩ hbl
  rcases List.mem_append.1 hp with hp | hp
  · exact (hf1 p hp).below hbl hB
  · exact (hf2 p hp).below hbl hB

/-- The value v is a node. -/
def NodeIs (w : World) (v : Value) (k : Int) (x : ByteArray) (c : F) : Prop := ∃ A n C, v = .agg #[.int .i64 k, .string x, .string ⟨#[]⟩, .slice A n C] ∧ Fs w (Lo w.heap.size) (.slice A n C) c
theorem NodeIs.later {w w' : World} {v : Value} {k : Int} {x : ByteArray} {c : F} (h : NodeIs w v k x c) (hb : Below w.heap.size w w') : NodeIs w' v k x c := by
  obtain ⟨A, n, C, e, hf⟩ := h
  exact ⟨A, n, C, e, hf.later hb⟩

theorem hi_node : (Tryd.prog.info? 24).map (·.size) = some 4 := by kernel_rfl
theorem fs_empty (w : World) (S : Nat → Prop) : Fs w S (.slice none 0 0) .nil := ⟨none, 0, rfl, by omega⟩
theorem nodeIs_leaf (w : World) (k : Int) (s : ByteArray) : NodeIs w (.agg #[.int .i64 k, .string s, .string ⟨#[]⟩, .slice none 0 0]) k s .nil := ⟨none, 0, 0, rfl, fs_empty _ _⟩

theorem lawName_any (s : ByteArray) (w : World) : Calls Tryd.prog 20 #[.string s] w fun e w' => Below w.heap.size w w' ∧ ∃ v, e = .returned v ∧ NodeIs w' v 9 s .nil := by
  go_enter Tryd.func20, Tryd.ntmps20
  go_wp2
  refine bodyPost_ret (results_cell_row rfl _ _ w.heap.size 24 #[.int .i64 9, .string s, .string ⟨#[]⟩, .slice none 0 0] (0, 0) _ rfl (heap_alloc_new _ _) Tryd.underlying24 rfl hi_node) rfl ?_
  exact ⟨below1 _ _, _, rfl, nodeIs_leaf _ _ _⟩

theorem blk3 (w : World) (o1 o2 o3 o4 : Obj) : ((((w.alloc o1).alloc o2).alloc o3).alloc o4).heap[w.heap.size + 1 + 1]? = some o3 := by
  have e : w.heap.size + 1 + 1 = ((w.alloc o1).alloc o2).heap.size := by simp
  rw [Below.heap_alloc _ _ _ (by simp), e, heap_alloc_new]
theorem blk2 (w : World) (o1 o2 o3 : Obj) : (((w.alloc o1).alloc o2).alloc o3).heap[w.heap.size + 1]? = some o2 := by
  have e : w.heap.size + 1 = (w.alloc o1).heap.size := by simp
  rw [Below.heap_alloc _ _ _ (by simp), e, heap_alloc_new]
theorem below3 (w : World) (o1 o2 o3 : Obj) : Below w.heap.size w (((w.alloc o1).alloc o2).alloc o3) := (below2 w o1 o2).trans ((below1 _ _).mono (below2 w o1 o2).size)

/-- A row of two nodes, newly laid. -/
theorem fs_two (W : World) (k1 k2 : Int) (x1 x2 : ByteArray) (A1 A2 : Option Addr) (n1 C1 n2 C2 : Nat) (c1 c2 : F) (h1 : Fs W (Lo W.heap.size) (.slice A1 n1 C1) c1) (h2 : Fs W (Lo W.heap.size) (.slice A2 n2 C2) c2) :
    Fs (W.alloc (.cells #[.int .i64 k1, .string x1, .string ⟨#[]⟩, .slice A1 n1 C1, .int .i64 k2, .string x2, .string ⟨#[]⟩, .slice A2 n2 C2] 24)) (Lo (W.heap.size + 1)) (.slice (some ⟨W.heap.size, 0, none⟩) 2 2) (.cons k1 x1 ⟨#[]⟩ c1 (.cons k2 x2 ⟨#[]⟩ c2 .nil)) := by
  have hb := below1 W (.cells #[.int .i64 k1, .string x1, .string ⟨#[]⟩, .slice A1 n1 C1, .int .i64 k2, .string x2, .string ⟨#[]⟩, .slice A2 n2 C2] 24)
  refine fs_row W.heap.size (by show _ < _; omega) [(⟨k1, x1, ⟨#[]⟩, c1⟩, .slice A1 n1 C1), (⟨k2, x2, ⟨#[]⟩, c2⟩, .slice A2 n2 C2)] 0 2 2 rfl (Nat.le_refl _) (by omega) (fun j u hu => ?_) (fun p hp => ?_) _ (.inr rfl)
  · rw [Nat.zero_add, World.cell?_alloc_at _ _ _ _ rfl]; simpa [ndC] using hu
  · simp only [List.mem_cons, List.not_mem_nil, or_false] at hp
    rcases hp with rfl | rfl
    · exact (h1.below hb (Nat.le_refl _)).up (Nat.le_succ _)
    · exact (h2.below hb (Nat.le_refl _)).up (Nat.le_succ _)
theorem fs_one (W : World) (k1 : Int) (x1 : ByteArray) (A1 : Option Addr) (n1 C1 : Nat) (c1 : F) (h1 : Fs W (Lo W.heap.size) (.slice A1 n1 C1) c1) :
    Fs (W.alloc (.cells #[.int .i64 k1, .string x1, .string ⟨#[]⟩, .slice A1 n1 C1] 24)) (Lo (W.heap.size + 1)) (.slice (some ⟨W.heap.size, 0, none⟩) 1 1) (.cons k1 x1 ⟨#[]⟩ c1 .nil) := by
  have hb := below1 W (.cells #[.int .i64 k1, .string x1, .string ⟨#[]⟩, .slice A1 n1 C1] 24)
  refine fs_row W.heap.size (by show _ < _; omega) [(⟨k1, x1, ⟨#[]⟩, c1⟩, .slice A1 n1 C1)] 0 1 1 rfl (Nat.le_refl _) (by omega) (fun j u hu => ?_) (fun p hp => ?_) _ (.inr rfl)
  · rw [Nat.zero_add, World.cell?_alloc_at _ _ _ _ rfl]; simpa [ndC] using hu
  · simp only [List.mem_singleton] at hp
    subst hp
    exact (h1.below hb (Nat.le_refl _)).up (Nat.le_succ _)

set_option maxRecDepth 100000 in
set_option maxHeartbeats 4000000 in
theorem lawBin_any (op : ByteArray) (k1 k2 : Int) (x1 x2 : ByteArray) (A1 A2 : Option Addr) (n1 C1 n2 C2 : Nat) (c1 c2 : F) (w : World) (h1 : Fs w (Lo w.heap.size) (.slice A1 n1 C1) c1) (h2 : Fs w (Lo w.heap.size) (.slice A2 n2 C2) c2) :
    Calls Tryd.prog 19 #[.string op, .agg #[.int .i64 k1, .string x1, .string ⟨#[]⟩, .slice A1 n1 C1], .agg #[.int .i64 k2, .string x2, .string ⟨#[]⟩, .slice A2 n2 C2]] w fun e w' => Below w.heap.size w w' ∧ ∃ v, e = .returned v ∧ NodeIs w' v 29 op (.cons k1 x1 ⟨#[]⟩ c1 (.cons k2 x2 ⟨#[]⟩ c2 .nil)) := by
  go_enter Tryd.func19, Tryd.ntmps19
  go_wp2
  refine bodyPost_ret (results_cell_row rfl _ _ (w.heap.size + 1 + 1) 24 _ (0, 0) _ rfl (blk3 _ _ _ _ _) Tryd.underlying24 rfl hi_node) rfl ?_
  have b3 := below3 w (.cells #[.int .i64 k1, .string x1, .string ⟨#[]⟩, .slice A1 n1 C1] 24) (.cells #[.int .i64 k2, .string x2, .string ⟨#[]⟩, .slice A2 n2 C2] 24) (.cells #[.int .i64 29, .string op, .string ⟨#[]⟩, .slice (some ⟨w.heap.size + 1 + 1 + 1, 0, none⟩) 2 2] 24)
  have hf := fs_two _ k1 k2 x1 x2 A1 A2 n1 C1 n2 C2 c1 c2 (h1.later b3) (h2.later b3)
  refine ⟨b3.trans ((below1 _ _).mono b3.size), _, rfl, some ⟨w.heap.size + 1 + 1 + 1, 0, none⟩, 2, 2, rfl, ?_⟩
  simp only [World.size_alloc] at hf ⊢
  exact hf

set_option maxRecDepth 100000 in
set_option maxHeartbeats 4000000 in
theorem lawConst_any (s : ByteArray) (k1 : Int) (x1 : ByteArray) (A1 : Option Addr) (n1 C1 : Nat) (c1 : F) (w : World) (h1 : Fs w (Lo w.heap.size) (.slice A1 n1 C1) c1) :
    Calls Tryd.prog 23 #[.string s, .agg #[.int .i64 k1, .string x1, .string ⟨#[]⟩, .slice A1 n1 C1]] w fun e w' => Below w.heap.size w w' ∧ ∃ v, e = .returned v ∧ NodeIs w' v 4 s (.cons k1 x1 ⟨#[]⟩ c1 .nil) := by
  go_enter Tryd.func23, Tryd.ntmps23
  go_wp2
  refine bodyPost_ret (results_cell_row rfl _ _ (w.heap.size + 1) 24 _ (0, 0) _ rfl (blk2 _ _ _ _) Tryd.underlying24 rfl hi_node) rfl ?_
  have b2 := below2 w (.cells #[.int .i64 k1, .string x1, .string ⟨#[]⟩, .slice A1 n1 C1] 24) (.cells #[.int .i64 4, .string s, .string ⟨#[]⟩, .slice (some ⟨w.heap.size + 1 + 1, 0, none⟩) 1 1] 24)
  have hf := fs_one _ k1 x1 A1 n1 C1 c1 (h1.later b2)
  refine ⟨b2.trans ((below1 _ _).mono b2.size), _, rfl, some ⟨w.heap.size + 1 + 1, 0, none⟩, 1, 1, rfl, ?_⟩
  simp only [World.size_alloc] at hf ⊢
  exact hf

set_option maxRecDepth 100000 in
set_option maxHeartbeats 4000000 in
theorem lawFile_any (g n : Nat) (c : F) (w : World) (hn : n ≤ 100000) (hf : Fs w (Lo w.heap.size) (.slice (some ⟨g, 0, none⟩) n n) c) :
    Calls Tryd.prog 22 #[.slice (some ⟨g, 0, none⟩) n n] w fun e w' => Below w.heap.size w w' ∧ ∃ v, e = .returned v ∧ NodeIs w' v 1 ⟨#[]⟩ (.cons 2 ⟨#[112]⟩ ⟨#[]⟩ .nil c) := by
  have b1 := below1 w (.cells #[.int .i64 0, .string ⟨#[]⟩, .string ⟨#[]⟩, .slice none 0 0] 24)
  have hown := ownN_new (w.alloc (.cells #[.int .i64 0, .string ⟨#[]⟩, .string ⟨#[]⟩, .slice none 0 0] 24)) w.heap.size ⟨2, ⟨#[112]⟩, ⟨#[]⟩, .nil⟩ (.slice none 0 0) (fs_empty _ _) b1.size
  have b2 := below1 (w.alloc (.cells #[.int .i64 0, .string ⟨#[]⟩, .string ⟨#[]⟩, .slice none 0 0] 24)) (.cells #[.int .i64 2, .string ⟨#[112]⟩, .string ⟨#[]⟩, .slice none 0 0] 24)
  have b12 := b1.trans (b2.mono b1.size)
  have HF2 := Lib.hid (hf.below b12 (Nat.le_refl _))
  have e1 : (w.alloc (.cells #[.int .i64 0, .string ⟨#[]⟩, .string ⟨#[]⟩, .slice none 0 0] 24)).heap.size = w.heap.size + 1 := by simp
  rw [e1] at hown
  have HO := Lib.hid hown
  have HB := Lib.hid b12
  have HBX : Hid (Boxed ((w.alloc (.cells #[.int .i64 0, .string ⟨#[]⟩, .string ⟨#[]⟩, .slice none 0 0] 24)).alloc (.cells #[.int .i64 2, .string ⟨#[112]⟩, .string ⟨#[]⟩, .slice none 0 0] 24)) w.heap.size 0 ⟨#[]⟩ ⟨#[]⟩ (.slice none 0 0)) := (boxed_new w _ _ _ _).below b2 (by simp)
  have HSZ : Hid (w.heap.size + 1 ≤ ((w.alloc (.cells #[.int .i64 0, .string ⟨#[]⟩, .string ⟨#[]⟩, .slice none 0 0] 24)).alloc (.cells #[.int .i64 2, .string ⟨#[112]⟩, .string ⟨#[]⟩, .slice none 0 0] 24)).heap.size) := by show _ ≤ _; simp
  clear hf b1 b2 b12 hown
  go_enter Tryd.func22, Tryd.ntmps22
  go_wp2_with (at_builtin; refine app_fs _ rfl _ _ rfl w.heap.size (w.heap.size + 1) _ [⟨2, ⟨#[112]⟩, ⟨#[]⟩, .nil⟩] c g 0 n n rfl rfl HO.out HF2.out (Nat.le_succ _) HSZ.out ?_ ?_)
  · show 1 + n ≤ _; omega
  intro v3 w3 ho3 hb3
  obtain ⟨a3, c3, rfl, hc3, hc3'⟩ := ho3.slice
  have HFS := Lib.hid (own_fsS (S := fun b => b ≠ w.heap.size ∧ b < w3.heap.size) ho3 (fun b hb => ⟨by omega, by have := HB.out.size; have := hb3.size; omega⟩) (fun g hg hg2 => ⟨by omega, hg2⟩))
  have HB3 := Lib.hid (HBX.out.below hb3 (Nat.lt_succ_self _))
  have HBE := Lib.hid (HB.out.trans (hb3.mono (Nat.le_succ _)))
  obtain ⟨z0, z1, z2, z3⟩ := frz HB3.out
  obtain ⟨y0, y1, y2, y3⟩ := HB3.out.cells
  clear ho3 hb3 hc3 hc3'
  go_wp2
  refine bodyPost_ret (results_cell_row rfl _ _ w.heap.size 24 _ (0, 0) _ rfl (box_new HB3.out) Tryd.underlying24 rfl hi_node) rfl ?_
  have hbb := box_below w3 w.heap.size (.int .i64 1) (.string ⟨#[]⟩) (.string ⟨#[]⟩) (.slice a3 ([⟨2, ⟨#[112]⟩, ⟨#[]⟩, .nil⟩] ++ toL c : List Nd).length c3)
  refine ⟨HBE.out.trans hbb, _, rfl, a3, _, c3, rfl, ?_⟩
  have e : ofL ([⟨2, ⟨#[112]⟩, ⟨#[]⟩, .nil⟩] ++ toL c) = .cons 2 ⟨#[112]⟩ ⟨#[]⟩ .nil c := by rw [ofL_append]; rfl
  rw [← e]
  exact (HFS.out.keep fun b hb => set4_other _ _ _ _ _ _ _ hb.1).more fun b hb => Nat.lt_of_lt_of_le hb.2 hbb.size
end Go.Proofs.YtoecimgmghlfpaaDoor.Tree

/-
  Layer 5 (tree): the chapter's examples hold in the program. Written by gen_treeknown.py.
-/
namespace Go.Proofs.YtoecimgmghlfpaaDoor.Tree
open Go.ChangeShapes Go.WideShapes Go.ChangeAt Go.RowKit Mem
set_option linter.unusedVariables false

def cNode (k : Int) (x : ByteArray) (c : F) : Cd TB := ⟨fun v W => NodeIs W v k x c, fun v W W' hb h => h.later hb⟩
/-- A slice of one element, at the front of its array. -/
def Row1 (c : F) (v : Value) (W : World) : Prop := ∃ g, v = .slice (some ⟨g, 0, none⟩) 1 1 ∧ Fs W (Lo W.heap.size) (.slice (some ⟨g, 0, none⟩) 1 1) c
def cRow1 (c : F) : Cd TB := ⟨Row1 c, fun v W W' hb ⟨g, e, h⟩ => ⟨g, e, h.later hb⟩⟩

def xF : F := .cons 9 ⟨#[98]⟩ ⟨#[]⟩ .nil (.cons 9 ⟨#[99]⟩ ⟨#[]⟩ .nil .nil)
def mF : F := .cons 28 ⟨#[45]⟩ ⟨#[]⟩ (.cons 9 ⟨#[120]⟩ ⟨#[]⟩ .nil .nil) .nil
theorem p1 : parenI 29 ⟨#[45]⟩ (.cons 9 ⟨#[97]⟩ ⟨#[]⟩ .nil (.cons 29 ⟨#[45]⟩ ⟨#[]⟩ xF .nil)) 1 = true := by decide +kernel
theorem p2 : parenI 29 ⟨#[45]⟩ (.cons 29 ⟨#[45]⟩ ⟨#[]⟩ xF (.cons 9 ⟨#[97]⟩ ⟨#[]⟩ .nil .nil)) 0 = false := by decide +kernel
theorem p3 : parenI 28 ⟨#[45]⟩ mF 0 = true := by decide +kernel
theorem r1 : rightT nmB tkB 1 ⟨#[]⟩ ⟨#[]⟩ .nil = false := by decide +kernel
theorem r2 : rightT nmB tkB 1 ⟨#[]⟩ ⟨#[]⟩ (.cons 2 ⟨#[112]⟩ ⟨#[]⟩ .nil (.cons 4 ⟨#[97]⟩ ⟨#[]⟩ (.cons 29 ⟨#[45]⟩ ⟨#[]⟩ xF .nil) .nil)) = true := by decide +kernel
theorem l1 : level ⟨#[60, 60]⟩ = 5 := by decide +kernel
theorem sm2 : Small (.cons 2 ⟨#[112]⟩ ⟨#[]⟩ .nil (.cons 4 ⟨#[97]⟩ ⟨#[]⟩ (.cons 29 ⟨#[45]⟩ ⟨#[]⟩ xF .nil) .nil)) := by
  simp only [Small, xF]; decide

set_option maxRecDepth 100000 in
set_option maxHeartbeats 16000000 in
theorem known_any (w : World) (hT : Lex.Tab w) : Calls Tryd.prog 6 #[] w fun e w' => e = .returned (.bool true) ∧ Below w.heap.size w w' := by
  have HTW := Lib.hid hT
  have HN1 := Lib.hid (lawName_any ⟨#[98]⟩ w)
  clear hT
  go_enter Tryd.func6, Tryd.ntmps6
  go_wp2_with fail
  refine HN1.out.mono ?_
  rintro e w1 ⟨hb1, v1, rfl, A1, n1, C1, rfl, hf1⟩
  have HB1 := Lib.hid hb1; have HF1 := Lib.hid hf1
  have HN2 := Lib.hid (lawName_any ⟨#[99]⟩ w1)
  clear hb1 hf1 HN1
  go_wp2_with fail
  refine HN2.out.mono ?_
  rintro e w2 ⟨hb2, v2, rfl, A2, n2, C2, rfl, hf2⟩
  have HB2 := Lib.hid (HB1.out.trans (hb2.mono HB1.out.size))
  have HN3 := Lib.hid (lawBin_any ⟨#[45]⟩ 9 9 ⟨#[98]⟩ ⟨#[99]⟩ A1 A2 n1 C1 n2 C2 .nil .nil w2 (HF1.out.later hb2) hf2)
  clear hb2 hf2 HN2 HF1
  go_wp2_with fail
  refine HN3.out.mono ?_
  rintro e w3 ⟨hb3, v3, rfl, Ax, nx, Cx, rfl, hf3⟩
  have HB3 := Lib.hid (HB2.out.trans (hb3.mono HB2.out.size))
  have HF3 := Lib.hid (show Fs w3 (Lo w3.heap.size) (.slice Ax nx Cx) xF from hf3)
  have b4 := below1 w3 (.cells #[.int .i64 29, .string ⟨#[45]⟩, .string ⟨#[]⟩, .slice Ax nx Cx] 24)
  have HB4 := Lib.hid b4
  have HN4 := Lib.hid (lawName_any ⟨#[120]⟩ (w3.alloc (.cells #[.int .i64 29, .string ⟨#[45]⟩, .string ⟨#[]⟩, .slice Ax nx Cx] 24)))
  clear hb3 hf3 HN3 b4
  go_wp2_with fail
  refine HN4.out.mono ?_
  rintro e w5 ⟨hb5, v5, rfl, A5, n5, C5, rfl, hf5⟩
  have HB5 := Lib.hid hb5; have HF5 := Lib.hid hf5
  clear hb5 hf5 HN4
  go_wp2
  obtain ⟨WM, hWM⟩ : ∃ WM, (((w5.alloc (.cells #[.int .i64 9, .string ⟨#[120]⟩, .string ⟨#[]⟩, .slice A5 n5 C5] 24)).alloc (.cells #[.int .i64 28, .string ⟨#[45]⟩, .string ⟨#[]⟩, .slice (some ⟨w5.heap.size, 0, none⟩) 1 1] 24)).alloc (.cells #[.int .i64 28, .string ⟨#[45]⟩, .string ⟨#[]⟩, .slice (some ⟨w5.heap.size + 1, 0, none⟩) 1 1] 24)) = WM := ⟨_, rfl⟩
  rw [hWM]
  have hfa := fs_one w5 9 ⟨#[120]⟩ A5 n5 C5 .nil HF5.out
  have c1 := below1 w5 (.cells #[.int .i64 9, .string ⟨#[120]⟩, .string ⟨#[]⟩, .slice A5 n5 C5] 24)
  have hfb := fs_one (w5.alloc (.cells #[.int .i64 9, .string ⟨#[120]⟩, .string ⟨#[]⟩, .slice A5 n5 C5] 24)) 28 ⟨#[45]⟩ (some ⟨w5.heap.size, 0, none⟩) 1 1 (.cons 9 ⟨#[120]⟩ ⟨#[]⟩ .nil .nil) (by simpa using hfa)
  have c2 := below2 w5 (.cells #[.int .i64 9, .string ⟨#[120]⟩, .string ⟨#[]⟩, .slice A5 n5 C5] 24) (.cells #[.int .i64 28, .string ⟨#[45]⟩, .string ⟨#[]⟩, .slice (some ⟨w5.heap.size, 0, none⟩) 1 1] 24)
  have c3 : Below w5.heap.size w5 WM := by rw [← hWM]; exact below3 _ _ _ _
  have c33 : Below ((w5.alloc (.cells #[.int .i64 9, .string ⟨#[120]⟩, .string ⟨#[]⟩, .slice A5 n5 C5] 24)).alloc (.cells #[.int .i64 28, .string ⟨#[45]⟩, .string ⟨#[]⟩, .slice (some ⟨w5.heap.size, 0, none⟩) 1 1] 24)).heap.size ((w5.alloc (.cells #[.int .i64 9, .string ⟨#[120]⟩, .string ⟨#[]⟩, .slice A5 n5 C5] 24)).alloc (.cells #[.int .i64 28, .string ⟨#[45]⟩, .string ⟨#[]⟩, .slice (some ⟨w5.heap.size, 0, none⟩) 1 1] 24)) WM := by rw [← hWM]; exact below1 _ _
  have hmb : Boxed WM (w5.heap.size + 1 + 1) 28 ⟨#[45]⟩ ⟨#[]⟩ (.slice (some ⟨w5.heap.size + 1, 0, none⟩) 1 1) := by
    have := boxed_new ((w5.alloc (.cells #[.int .i64 9, .string ⟨#[120]⟩, .string ⟨#[]⟩, .slice A5 n5 C5] 24)).alloc (.cells #[.int .i64 28, .string ⟨#[45]⟩, .string ⟨#[]⟩, .slice (some ⟨w5.heap.size, 0, none⟩) 1 1] 24)) 28 ⟨#[45]⟩ ⟨#[]⟩ (.slice (some ⟨w5.heap.size + 1, 0, none⟩) 1 1)
    rw [hWM] at this
    simpa using this
  have hmf : Fs WM (Lo WM.heap.size) (.slice (some ⟨w5.heap.size + 1, 0, none⟩) 1 1) mF := by
    have h0 : Fs ((w5.alloc (.cells #[.int .i64 9, .string ⟨#[120]⟩, .string ⟨#[]⟩, .slice A5 n5 C5] 24)).alloc (.cells #[.int .i64 28, .string ⟨#[45]⟩, .string ⟨#[]⟩, .slice (some ⟨w5.heap.size, 0, none⟩) 1 1] 24)) (Lo ((w5.alloc (.cells #[.int .i64 9, .string ⟨#[120]⟩, .string ⟨#[]⟩, .slice A5 n5 C5] 24)).alloc (.cells #[.int .i64 28, .string ⟨#[45]⟩, .string ⟨#[]⟩, .slice (some ⟨w5.heap.size, 0, none⟩) 1 1] 24)).heap.size) (.slice (some ⟨w5.heap.size + 1, 0, none⟩) 1 1) mF := by simpa [mF] using hfb
    exact (h0.below c33 (Nat.le_refl _)).up c33.size
  have hxb : Boxed WM w3.heap.size 29 ⟨#[45]⟩ ⟨#[]⟩ (.slice Ax nx Cx) := ((boxed_new w3 _ _ _ _).below HB5.out (by simp)).below c3 (Nat.lt_of_lt_of_le (by simp) HB5.out.size)
  have hw3 : Below w3.heap.size w3 WM := HB4.out.trans ((HB5.out.trans (c3.mono HB5.out.size)).mono HB4.out.size)
  have hxf := (HF3.out.below hw3 (Nat.le_refl _)).up hw3.size
  have hwm : Below w.heap.size w WM := HB3.out.trans (hw3.mono HB3.out.size)
  have HWM := Lib.hid hwm
  have HV : Hid (∀ W, Below WM.heap.size WM W → (W.cell? ⟨w3.heap.size, 0, none⟩ = some (.int .i64 29) ∧ W.cell? ⟨w3.heap.size, 1, none⟩ = some (.string ⟨#[45]⟩) ∧ W.cell? ⟨w3.heap.size, 2, none⟩ = some (.string ⟨#[]⟩) ∧ W.cell? ⟨w3.heap.size, 3, none⟩ = some (.slice Ax nx Cx)) ∧
      (W.cell? ⟨w5.heap.size + 1 + 1, 0, none⟩ = some (.int .i64 28) ∧ W.cell? ⟨w5.heap.size + 1 + 1, 1, none⟩ = some (.string ⟨#[45]⟩) ∧ W.cell? ⟨w5.heap.size + 1 + 1, 2, none⟩ = some (.string ⟨#[]⟩) ∧ W.cell? ⟨w5.heap.size + 1 + 1, 3, none⟩ = some (.slice (some ⟨w5.heap.size + 1, 0, none⟩) 1 1))) := fun W hW =>
    ⟨(hxb.below hW hxb.lt).cells, (hmb.below hW hmb.lt).cells⟩
  have HXF : Hid (∀ W, Below WM.heap.size WM W → Fs W (Lo W.heap.size) (.slice Ax nx Cx) xF) := fun W hW => hxf.later hW
  have HMF : Hid (∀ W, Below WM.heap.size WM W → Fs W (Lo W.heap.size) (.slice (some ⟨w5.heap.size + 1, 0, none⟩) 1 1) mF) := fun W hW => hmf.later hW
  have HT : Hid (∀ W, Below WM.heap.size WM W → Lex.Tab W) := fun W hW => (HTW.out.below hwm HTW.out.pos).below hW (Nat.lt_of_lt_of_le HTW.out.pos hwm.size)
  have HSZ : Hid (∀ W, Below WM.heap.size WM W → Calls Tryd.prog 10 #[.agg #[.int .i64 29, .string ⟨#[45]⟩, .string ⟨#[]⟩, .slice Ax nx Cx]] W fun e w' => e = .returned (.int .i64 3) ∧ Below W.heap.size W w') := fun W hW => size_any 2 29 ⟨#[45]⟩ ⟨#[]⟩ Ax nx Cx xF W (by decide) (by decide) (hxf.later hW)
  have PM := Lib.hid p3
  have HSM := Lib.hid sm2
  have HR := Lib.hid r2
  clear hWM hfa c1 hfb c2 c3 c33 hmb hmf hxb hw3 hxf hwm HF5 HB5 HB4 HF3 HB3 HB2 HB1 HTW
  refine region_rel (fun W W' => Below W.heap.size W W') [cNode 9 ⟨#[97]⟩ .nil, Cd.is (Value.agg #[.int .i64 29, .string ⟨#[45]⟩, .string ⟨#[]⟩, .slice Ax nx Cx]), cNode 29 ⟨#[45]⟩ (.cons 9 ⟨#[97]⟩ ⟨#[]⟩ .nil (.cons 29 ⟨#[45]⟩ ⟨#[]⟩ xF .nil)), Cd.is (Value.bool true), Cd.is (Value.bool true), Cd.is (Value.agg #[.int .i64 29, .string ⟨#[45]⟩, .string ⟨#[]⟩, .slice Ax nx Cx]), cNode 9 ⟨#[97]⟩ .nil, cNode 29 ⟨#[45]⟩ (.cons 29 ⟨#[45]⟩ ⟨#[]⟩ xF (.cons 9 ⟨#[97]⟩ ⟨#[]⟩ .nil .nil)), Cd.is (Value.bool false), Cd.is (Value.bool true), Cd.is (Value.bool true), Cd.is (Value.bool true), Cd.is (Value.agg #[.int .i64 28, .string ⟨#[45]⟩, .string ⟨#[]⟩, .slice (some ⟨w5.heap.size + 1, 0, none⟩) 1 1]), Cd.is (Value.bool true), Cd.is (Value.bool true), Cd.is (Value.bool true), Cd.is (Value.agg #[.int .i64 1, .string ⟨#[]⟩, .string ⟨#[]⟩, .slice none 0 0]), Cd.is (Value.bool false), Cd.is (Value.bool true), Cd.is (Value.bool true), Cd.is (Value.bool true), Cd.is (Value.agg #[.int .i64 29, .string ⟨#[45]⟩, .string ⟨#[]⟩, .slice Ax nx Cx]), cNode 4 ⟨#[97]⟩ (.cons 29 ⟨#[45]⟩ ⟨#[]⟩ xF .nil), cRow1 (.cons 4 ⟨#[97]⟩ ⟨#[]⟩ (.cons 29 ⟨#[45]⟩ ⟨#[]⟩ xF .nil) .nil), cNode 1 ⟨#[]⟩ (.cons 2 ⟨#[112]⟩ ⟨#[]⟩ .nil (.cons 4 ⟨#[97]⟩ ⟨#[]⟩ (.cons 29 ⟨#[45]⟩ ⟨#[]⟩ xF .nil) .nil)), Cd.is (Value.bool true), Cd.is (Value.bool true), Cd.is (Value.bool true), Cd.is (Value.agg #[.int .i64 29, .string ⟨#[45]⟩, .string ⟨#[]⟩, .slice Ax nx Cx]), Cd.is (Value.int .i64 3), Cd.is (Value.bool true), Cd.is (Value.bool true), Cd.is (Value.bool true), Cd.is (Value.int .i64 5), Cd.is (Value.bool true), Cd.is (Value.bool true), Cd.is (Value.bool true)] (by kernel_rfl) (by decide) (by kernel_rfl) (Below.refl _ _) (fun _ _ _ h k => h.trans (k.mono h.size)) ?steps ?behind
  case steps =>
    intro xv W hW a ha
    replace hW := undrew hW
    simp only [fillA] at ha
    simp only [List.setIfInBounds_toArray, List.set_cons_succ, List.set_cons_zero, Nat.zero_add, Nat.reduceAdd] at ha
    subst ha
    refine ⟨fun hd K hK => ?s0, fun hd K hK => ?s1, fun hd K hK => ?s2, fun hd K hK => ?s3, fun hd K hK => ?s4, fun hd K hK => ?s5, fun hd K hK => ?s6, fun hd K hK => ?s7, fun hd K hK => ?s8, fun hd K hK => ?s9, fun hd K hK => ?s10, fun hd K hK => ?s11, fun hd K hK => ?s12, fun hd K hK => ?s13, fun hd K hK => ?s14, fun hd K hK => ?s15, fun hd K hK => ?s16, fun hd K hK => ?s17, fun hd K hK => ?s18, fun hd K hK => ?s19, fun hd K hK => ?s20, fun hd K hK => ?s21, fun hd K hK => ?s22, fun hd K hK => ?s23, fun hd K hK => ?s24, fun hd K hK => ?s25, fun hd K hK => ?s26, fun hd K hK => ?s27, fun hd K hK => ?s28, fun hd K hK => ?s29, fun hd K hK => ?s30, fun hd K hK => ?s31, fun hd K hK => ?s32, fun hd K hK => ?s33, fun hd K hK => ?s34, fun hd K hK => ?s35, fun hd K hK => ?s36, trivial⟩
    case s0 =>
      clear hd
      simp only [Act.put, List.setIfInBounds_toArray, List.set_cons_succ, List.set_cons_zero] at hK
      refine (if_pos (by rfl)).mpr ?_
      go_simp
      go_at_call 20
      refine (lawName_any ⟨#[97]⟩ W).mono ?_
      rintro e w' ⟨hb, v, rfl, hn⟩
      exact hK.out _ _ hb hn
    case s1 =>
      clear hd
      simp only [Act.put, List.setIfInBounds_toArray, List.set_cons_succ, List.set_cons_zero] at hK
      refine (if_pos (by rfl)).mpr ?_
      obtain ⟨⟨hq0, hq1, hq2, hq3⟩, _⟩ := HV.out W hW
      go_simp
      exact hK.out _ _ (Below.refl _ _) rfl
    case s2 =>
      have hx0 : NodeIs W (xv 0) 9 ⟨#[97]⟩ (.nil) := hd 0 (by kernel_rfl)
      have hx1 : xv 1 = Value.agg #[.int .i64 29, .string ⟨#[45]⟩, .string ⟨#[]⟩, .slice Ax nx Cx] := hd 1 (by kernel_rfl)
      clear hd
      simp only [Act.put, List.setIfInBounds_toArray, List.set_cons_succ, List.set_cons_zero] at hK
      rw [hx1] at hK ⊢
      refine (if_pos (by rfl)).mpr ?_
      obtain ⟨A0, n0, C0, e0, hf0⟩ := hx0
      rw [e0]
      rw [e0] at hK
      have HF0 := Lib.hid hf0
      clear e0 hf0
      go_simp
      go_at_call 19
      refine (lawBin_any ⟨#[45]⟩ 9 29 ⟨#[97]⟩ ⟨#[45]⟩ A0 Ax n0 C0 nx Cx .nil xF W HF0.out (HXF.out W hW)).mono ?_
      rintro e w' ⟨hb, v, rfl, hn⟩
      exact hK.out _ _ hb hn
    case s3 =>
      have hx2 : NodeIs W (xv 2) 29 ⟨#[45]⟩ (.cons 9 ⟨#[97]⟩ ⟨#[]⟩ .nil (.cons 29 ⟨#[45]⟩ ⟨#[]⟩ xF .nil)) := hd 2 (by kernel_rfl)
      clear hd
      simp only [Act.put, List.setIfInBounds_toArray, List.set_cons_succ, List.set_cons_zero] at hK
      refine (if_pos (by rfl)).mpr ?_
      obtain ⟨A2, n2, C2, e2, hf2⟩ := hx2
      rw [e2]
      rw [e2] at hK
      have HF2 := Lib.hid hf2
      clear e2 hf2
      go_simp
      go_at_call 15
      refine (paren_is W 29 ⟨#[45]⟩ ⟨#[]⟩ A2 n2 C2 _ 1 HF2.out).mono ?_
      rintro e w' ⟨rfl, hb⟩
      exact hK.out _ _ hb (by rw [p1]; rfl)
    case s4 =>
      have hx3 : xv 3 = Value.bool true := hd 3 (by kernel_rfl)
      clear hd
      simp only [Act.put, List.setIfInBounds_toArray, List.set_cons_succ, List.set_cons_zero] at hK
      rw [hx3] at hK ⊢
      refine (if_pos (by rfl)).mpr ?_
      go_simp
      exact hK.out _ _ (Below.refl _ _) rfl
    case s5 =>
      have hx4 : xv 4 = Value.bool true := hd 4 (by kernel_rfl)
      clear hd
      simp only [Act.put, List.setIfInBounds_toArray, List.set_cons_succ, List.set_cons_zero] at hK
      rw [hx4] at hK ⊢
      refine (if_pos (by rfl)).mpr ?_
      obtain ⟨⟨hq0, hq1, hq2, hq3⟩, _⟩ := HV.out W hW
      go_simp
      exact hK.out _ _ (Below.refl _ _) rfl
    case s6 =>
      have hx4 : xv 4 = Value.bool true := hd 4 (by kernel_rfl)
      clear hd
      simp only [Act.put, List.setIfInBounds_toArray, List.set_cons_succ, List.set_cons_zero] at hK
      rw [hx4] at hK ⊢
      refine (if_pos (by rfl)).mpr ?_
      go_simp
      go_at_call 20
      refine (lawName_any ⟨#[97]⟩ W).mono ?_
      rintro e w' ⟨hb, v, rfl, hn⟩
      exact hK.out _ _ hb hn
    case s7 =>
      have hx4 : xv 4 = Value.bool true := hd 4 (by kernel_rfl)
      have hx6 : NodeIs W (xv 6) 9 ⟨#[97]⟩ (.nil) := hd 6 (by kernel_rfl)
      have hx5 : xv 5 = Value.agg #[.int .i64 29, .string ⟨#[45]⟩, .string ⟨#[]⟩, .slice Ax nx Cx] := hd 5 (by kernel_rfl)
      clear hd
      simp only [Act.put, List.setIfInBounds_toArray, List.set_cons_succ, List.set_cons_zero] at hK
      rw [hx4] at hK ⊢
      rw [hx5] at hK ⊢
      refine (if_pos (by rfl)).mpr ?_
      obtain ⟨A6, n6, C6, e6, hf6⟩ := hx6
      rw [e6]
      rw [e6] at hK
      have HF6 := Lib.hid hf6
      clear e6 hf6
      go_simp
      go_at_call 19
      refine (lawBin_any ⟨#[45]⟩ 29 9 ⟨#[45]⟩ ⟨#[97]⟩ Ax A6 nx Cx n6 C6 xF .nil W (HXF.out W hW) HF6.out).mono ?_
      rintro e w' ⟨hb, v, rfl, hn⟩
      exact hK.out _ _ hb hn
    case s8 =>
      have hx4 : xv 4 = Value.bool true := hd 4 (by kernel_rfl)
      have hx7 : NodeIs W (xv 7) 29 ⟨#[45]⟩ (.cons 29 ⟨#[45]⟩ ⟨#[]⟩ xF (.cons 9 ⟨#[97]⟩ ⟨#[]⟩ .nil .nil)) := hd 7 (by kernel_rfl)
      clear hd
      simp only [Act.put, List.setIfInBounds_toArray, List.set_cons_succ, List.set_cons_zero] at hK
      rw [hx4] at hK ⊢
      refine (if_pos (by rfl)).mpr ?_
      obtain ⟨A7, n7, C7, e7, hf7⟩ := hx7
      rw [e7]
      rw [e7] at hK
      have HF7 := Lib.hid hf7
      clear e7 hf7
      go_simp
      go_at_call 15
      refine (paren_is W 29 ⟨#[45]⟩ ⟨#[]⟩ A7 n7 C7 _ 0 HF7.out).mono ?_
      rintro e w' ⟨rfl, hb⟩
      exact hK.out _ _ hb (by rw [p2]; rfl)
    case s9 =>
      have hx4 : xv 4 = Value.bool true := hd 4 (by kernel_rfl)
      have hx8 : xv 8 = Value.bool false := hd 8 (by kernel_rfl)
      clear hd
      simp only [Act.put, List.setIfInBounds_toArray, List.set_cons_succ, List.set_cons_zero] at hK
      rw [hx4] at hK ⊢
      rw [hx8] at hK ⊢
      refine (if_pos (by rfl)).mpr ?_
      go_simp
      exact hK.out _ _ (Below.refl _ _) rfl
    case s10 =>
      have hx4 : xv 4 = Value.bool true := hd 4 (by kernel_rfl)
      have hx9 : xv 9 = Value.bool true := hd 9 (by kernel_rfl)
      clear hd
      simp only [Act.put, List.setIfInBounds_toArray, List.set_cons_succ, List.set_cons_zero] at hK
      rw [hx4] at hK ⊢
      rw [hx9] at hK ⊢
      refine (if_pos (by rfl)).mpr ?_
      go_simp
      exact hK.out _ _ (Below.refl _ _) rfl
    case s11 =>
      have hx10 : xv 10 = Value.bool true := hd 10 (by kernel_rfl)
      clear hd
      simp only [Act.put, List.setIfInBounds_toArray, List.set_cons_succ, List.set_cons_zero] at hK
      rw [hx10] at hK ⊢
      refine (if_pos (by rfl)).mpr ?_
      go_simp
      exact hK.out _ _ (Below.refl _ _) rfl
    case s12 =>
      have hx11 : xv 11 = Value.bool true := hd 11 (by kernel_rfl)
      clear hd
      simp only [Act.put, List.setIfInBounds_toArray, List.set_cons_succ, List.set_cons_zero] at hK
      rw [hx11] at hK ⊢
      refine (if_pos (by rfl)).mpr ?_
      obtain ⟨_, ⟨hq0, hq1, hq2, hq3⟩⟩ := HV.out W hW
      go_simp
      exact hK.out _ _ (Below.refl _ _) rfl
    case s13 =>
      have hx11 : xv 11 = Value.bool true := hd 11 (by kernel_rfl)
      have hx12 : xv 12 = Value.agg #[.int .i64 28, .string ⟨#[45]⟩, .string ⟨#[]⟩, .slice (some ⟨w5.heap.size + 1, 0, none⟩) 1 1] := hd 12 (by kernel_rfl)
      clear hd
      simp only [Act.put, List.setIfInBounds_toArray, List.set_cons_succ, List.set_cons_zero] at hK
      rw [hx11] at hK ⊢
      rw [hx12] at hK ⊢
      refine (if_pos (by rfl)).mpr ?_
      go_simp
      go_at_call 15
      refine (paren_is W 28 ⟨#[45]⟩ ⟨#[]⟩ (some ⟨w5.heap.size + 1, 0, none⟩) 1 1 mF 0 (HMF.out W hW)).mono ?_
      rintro e w' ⟨rfl, hb⟩
      exact hK.out _ _ hb (by rw [PM.out]; rfl)
    case s14 =>
      have hx11 : xv 11 = Value.bool true := hd 11 (by kernel_rfl)
      have hx13 : xv 13 = Value.bool true := hd 13 (by kernel_rfl)
      clear hd
      simp only [Act.put, List.setIfInBounds_toArray, List.set_cons_succ, List.set_cons_zero] at hK
      rw [hx11] at hK ⊢
      rw [hx13] at hK ⊢
      refine (if_pos (by rfl)).mpr ?_
      go_simp
      exact hK.out _ _ (Below.refl _ _) rfl
    case s15 =>
      have hx14 : xv 14 = Value.bool true := hd 14 (by kernel_rfl)
      clear hd
      simp only [Act.put, List.setIfInBounds_toArray, List.set_cons_succ, List.set_cons_zero] at hK
      rw [hx14] at hK ⊢
      refine (if_pos (by rfl)).mpr ?_
      go_simp
      exact hK.out _ _ (Below.refl _ _) rfl
    case s16 =>
      have hx15 : xv 15 = Value.bool true := hd 15 (by kernel_rfl)
      clear hd
      simp only [Act.put, List.setIfInBounds_toArray, List.set_cons_succ, List.set_cons_zero] at hK
      rw [hx15] at hK ⊢
      refine (if_pos (by rfl)).mpr ?_
      go_simp
      exact hK.out _ _ (Below.refl _ _) rfl
    case s17 =>
      have hx15 : xv 15 = Value.bool true := hd 15 (by kernel_rfl)
      have hx16 : xv 16 = Value.agg #[.int .i64 1, .string ⟨#[]⟩, .string ⟨#[]⟩, .slice none 0 0] := hd 16 (by kernel_rfl)
      clear hd
      simp only [Act.put, List.setIfInBounds_toArray, List.set_cons_succ, List.set_cons_zero] at hK
      rw [hx15] at hK ⊢
      rw [hx16] at hK ⊢
      refine (if_pos (by rfl)).mpr ?_
      go_simp
      go_at_call 21
      refine (right_any 1 ⟨#[]⟩ ⟨#[]⟩ none 0 0 .nil W (fs_empty _ _) (by decide) (by decide) trivial (HT.out W hW)).mono ?_
      rintro e w' ⟨rfl, hb⟩
      exact hK.out _ _ hb (by rw [r1]; rfl)
    case s18 =>
      have hx15 : xv 15 = Value.bool true := hd 15 (by kernel_rfl)
      have hx17 : xv 17 = Value.bool false := hd 17 (by kernel_rfl)
      clear hd
      simp only [Act.put, List.setIfInBounds_toArray, List.set_cons_succ, List.set_cons_zero] at hK
      rw [hx15] at hK ⊢
      rw [hx17] at hK ⊢
      refine (if_pos (by rfl)).mpr ?_
      go_simp
      exact hK.out _ _ (Below.refl _ _) rfl
    case s19 =>
      have hx15 : xv 15 = Value.bool true := hd 15 (by kernel_rfl)
      have hx18 : xv 18 = Value.bool true := hd 18 (by kernel_rfl)
      clear hd
      simp only [Act.put, List.setIfInBounds_toArray, List.set_cons_succ, List.set_cons_zero] at hK
      rw [hx15] at hK ⊢
      rw [hx18] at hK ⊢
      refine (if_pos (by rfl)).mpr ?_
      go_simp
      exact hK.out _ _ (Below.refl _ _) rfl
    case s20 =>
      have hx19 : xv 19 = Value.bool true := hd 19 (by kernel_rfl)
      clear hd
      simp only [Act.put, List.setIfInBounds_toArray, List.set_cons_succ, List.set_cons_zero] at hK
      rw [hx19] at hK ⊢
      refine (if_pos (by rfl)).mpr ?_
      go_simp
      exact hK.out _ _ (Below.refl _ _) rfl
    case s21 =>
      have hx20 : xv 20 = Value.bool true := hd 20 (by kernel_rfl)
      clear hd
      simp only [Act.put, List.setIfInBounds_toArray, List.set_cons_succ, List.set_cons_zero] at hK
      rw [hx20] at hK ⊢
      refine (if_pos (by rfl)).mpr ?_
      obtain ⟨⟨hq0, hq1, hq2, hq3⟩, _⟩ := HV.out W hW
      go_simp
      exact hK.out _ _ (Below.refl _ _) rfl
    case s22 =>
      have hx20 : xv 20 = Value.bool true := hd 20 (by kernel_rfl)
      have hx21 : xv 21 = Value.agg #[.int .i64 29, .string ⟨#[45]⟩, .string ⟨#[]⟩, .slice Ax nx Cx] := hd 21 (by kernel_rfl)
      clear hd
      simp only [Act.put, List.setIfInBounds_toArray, List.set_cons_succ, List.set_cons_zero] at hK
      rw [hx20] at hK ⊢
      rw [hx21] at hK ⊢
      refine (if_pos (by rfl)).mpr ?_
      go_simp
      go_at_call 23
      refine (lawConst_any ⟨#[97]⟩ 29 ⟨#[45]⟩ Ax nx Cx xF W (HXF.out W hW)).mono ?_
      rintro e w' ⟨hb, v, rfl, hn⟩
      exact hK.out _ _ hb hn
    case s23 =>
      have hx20 : xv 20 = Value.bool true := hd 20 (by kernel_rfl)
      have hx22 : NodeIs W (xv 22) 4 ⟨#[97]⟩ (.cons 29 ⟨#[45]⟩ ⟨#[]⟩ xF .nil) := hd 22 (by kernel_rfl)
      clear hd
      simp only [Act.put, List.setIfInBounds_toArray, List.set_cons_succ, List.set_cons_zero] at hK
      rw [hx20] at hK ⊢
      refine (if_pos (by rfl)).mpr ?_
      obtain ⟨A22, n22, C22, e22, hf22⟩ := hx22
      rw [e22]
      rw [e22] at hK
      have HF22 := Lib.hid hf22
      clear e22 hf22
      go_simp
      exact hK.out _ _ (below1 _ _) ⟨W.heap.size, rfl, by have := fs_one W 4 ⟨#[97]⟩ A22 n22 C22 _ HF22.out; simpa using this⟩
    case s24 =>
      have hx20 : xv 20 = Value.bool true := hd 20 (by kernel_rfl)
      have hx23 : Row1 (.cons 4 ⟨#[97]⟩ ⟨#[]⟩ (.cons 29 ⟨#[45]⟩ ⟨#[]⟩ xF .nil) .nil) (xv 23) W := hd 23 (by kernel_rfl)
      clear hd
      simp only [Act.put, List.setIfInBounds_toArray, List.set_cons_succ, List.set_cons_zero] at hK
      rw [hx20] at hK ⊢
      refine (if_pos (by rfl)).mpr ?_
      obtain ⟨g23, e23, hf23⟩ := hx23
      rw [e23]
      rw [e23] at hK
      have HF23 := Lib.hid hf23
      clear e23 hf23
      go_simp
      go_at_call 22
      refine (lawFile_any g23 1 _ W (by omega) HF23.out).mono ?_
      rintro e w' ⟨hb, v, rfl, hn⟩
      exact hK.out _ _ hb hn
    case s25 =>
      have hx20 : xv 20 = Value.bool true := hd 20 (by kernel_rfl)
      have hx24 : NodeIs W (xv 24) 1 ⟨#[]⟩ (.cons 2 ⟨#[112]⟩ ⟨#[]⟩ .nil (.cons 4 ⟨#[97]⟩ ⟨#[]⟩ (.cons 29 ⟨#[45]⟩ ⟨#[]⟩ xF .nil) .nil)) := hd 24 (by kernel_rfl)
      clear hd
      simp only [Act.put, List.setIfInBounds_toArray, List.set_cons_succ, List.set_cons_zero] at hK
      rw [hx20] at hK ⊢
      refine (if_pos (by rfl)).mpr ?_
      obtain ⟨A24, n24, C24, e24, hf24⟩ := hx24
      rw [e24]
      rw [e24] at hK
      have HF24 := Lib.hid hf24
      clear e24 hf24
      go_simp
      go_at_call 21
      refine (right_any 1 ⟨#[]⟩ ⟨#[]⟩ A24 n24 C24 _ W HF24.out (by decide) (by decide) (HSM.out) (HT.out W hW)).mono ?_
      rintro e w' ⟨rfl, hb⟩
      exact hK.out _ _ hb (by rw [HR.out]; rfl)
    case s26 =>
      have hx20 : xv 20 = Value.bool true := hd 20 (by kernel_rfl)
      have hx25 : xv 25 = Value.bool true := hd 25 (by kernel_rfl)
      clear hd
      simp only [Act.put, List.setIfInBounds_toArray, List.set_cons_succ, List.set_cons_zero] at hK
      rw [hx20] at hK ⊢
      rw [hx25] at hK ⊢
      refine (if_pos (by rfl)).mpr ?_
      go_simp
      exact hK.out _ _ (Below.refl _ _) rfl
    case s27 =>
      have hx26 : xv 26 = Value.bool true := hd 26 (by kernel_rfl)
      clear hd
      simp only [Act.put, List.setIfInBounds_toArray, List.set_cons_succ, List.set_cons_zero] at hK
      rw [hx26] at hK ⊢
      refine (if_pos (by rfl)).mpr ?_
      go_simp
      exact hK.out _ _ (Below.refl _ _) rfl
    case s28 =>
      have hx27 : xv 27 = Value.bool true := hd 27 (by kernel_rfl)
      clear hd
      simp only [Act.put, List.setIfInBounds_toArray, List.set_cons_succ, List.set_cons_zero] at hK
      rw [hx27] at hK ⊢
      refine (if_pos (by rfl)).mpr ?_
      obtain ⟨⟨hq0, hq1, hq2, hq3⟩, _⟩ := HV.out W hW
      go_simp
      exact hK.out _ _ (Below.refl _ _) rfl
    case s29 =>
      have hx27 : xv 27 = Value.bool true := hd 27 (by kernel_rfl)
      have hx28 : xv 28 = Value.agg #[.int .i64 29, .string ⟨#[45]⟩, .string ⟨#[]⟩, .slice Ax nx Cx] := hd 28 (by kernel_rfl)
      clear hd
      simp only [Act.put, List.setIfInBounds_toArray, List.set_cons_succ, List.set_cons_zero] at hK
      rw [hx27] at hK ⊢
      rw [hx28] at hK ⊢
      refine (if_pos (by rfl)).mpr ?_
      go_simp
      go_at_call 10
      refine (HSZ.out W hW).mono ?_
      rintro e w' ⟨rfl, hb⟩
      exact hK.out _ _ hb rfl
    case s30 =>
      have hx27 : xv 27 = Value.bool true := hd 27 (by kernel_rfl)
      have hx29 : xv 29 = Value.int .i64 3 := hd 29 (by kernel_rfl)
      clear hd
      simp only [Act.put, List.setIfInBounds_toArray, List.set_cons_succ, List.set_cons_zero] at hK
      rw [hx27] at hK ⊢
      rw [hx29] at hK ⊢
      refine (if_pos (by rfl)).mpr ?_
      go_simp
      exact hK.out _ _ (Below.refl _ _) rfl
    case s31 =>
      have hx27 : xv 27 = Value.bool true := hd 27 (by kernel_rfl)
      have hx30 : xv 30 = Value.bool true := hd 30 (by kernel_rfl)
      clear hd
      simp only [Act.put, List.setIfInBounds_toArray, List.set_cons_succ, List.set_cons_zero] at hK
      rw [hx27] at hK ⊢
      rw [hx30] at hK ⊢
      refine (if_pos (by rfl)).mpr ?_
      go_simp
      exact hK.out _ _ (Below.refl _ _) rfl
    case s32 =>
      have hx31 : xv 31 = Value.bool true := hd 31 (by kernel_rfl)
      clear hd
      simp only [Act.put, List.setIfInBounds_toArray, List.set_cons_succ, List.set_cons_zero] at hK
      rw [hx31] at hK ⊢
      refine (if_pos (by rfl)).mpr ?_
      go_simp
      exact hK.out _ _ (Below.refl _ _) rfl
    case s33 =>
      have hx32 : xv 32 = Value.bool true := hd 32 (by kernel_rfl)
      clear hd
      simp only [Act.put, List.setIfInBounds_toArray, List.set_cons_succ, List.set_cons_zero] at hK
      rw [hx32] at hK ⊢
      refine (if_pos (by rfl)).mpr ?_
      go_simp
      go_at_call 17
      refine (level_any ⟨#[60, 60]⟩ W).mono ?_
      rintro e w' ⟨rfl, hb⟩
      exact hK.out _ _ (by rw [hb]; exact Below.refl _ _) (by rw [l1]; rfl)
    case s34 =>
      have hx32 : xv 32 = Value.bool true := hd 32 (by kernel_rfl)
      have hx33 : xv 33 = Value.int .i64 5 := hd 33 (by kernel_rfl)
      clear hd
      simp only [Act.put, List.setIfInBounds_toArray, List.set_cons_succ, List.set_cons_zero] at hK
      rw [hx32] at hK ⊢
      rw [hx33] at hK ⊢
      refine (if_pos (by rfl)).mpr ?_
      go_simp
      exact hK.out _ _ (Below.refl _ _) rfl
    case s35 =>
      have hx32 : xv 32 = Value.bool true := hd 32 (by kernel_rfl)
      have hx34 : xv 34 = Value.bool true := hd 34 (by kernel_rfl)
      clear hd
      simp only [Act.put, List.setIfInBounds_toArray, List.set_cons_succ, List.set_cons_zero] at hK
      rw [hx32] at hK ⊢
      rw [hx34] at hK ⊢
      refine (if_pos (by rfl)).mpr ?_
      go_simp
      exact hK.out _ _ (Below.refl _ _) rfl
    case s36 =>
      have hx35 : xv 35 = Value.bool true := hd 35 (by kernel_rfl)
      clear hd
      simp only [Act.put, List.setIfInBounds_toArray, List.set_cons_zero] at hK
      rw [hx35] at hK ⊢
      refine (if_pos (by rfl)).mpr ?_
      go_simp
      exact hK.out _ _ (Below.refl _ _) rfl
  case behind =>
    intro xv W hW hx a ha
    replace hW := undrew hW
    simp only [fillA] at ha
    simp only [List.setIfInBounds_toArray, List.set_cons_succ, List.set_cons_zero, Nat.zero_add, Nat.reduceAdd] at ha
    subst ha
    have h36 : xv 36 = Value.bool true := hx 36 (by decide)
    rw [h36]
    have HE := Lib.hid (HWM.out.trans (hW.mono HWM.out.size))
    clear hx h36 hW
    go_wp2
    go_ret
    exact ⟨rfl, HE.out⟩
end Go.Proofs.YtoecimgmghlfpaaDoor.Tree
