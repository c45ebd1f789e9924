/-
  Layer 5 (tree): the laws' own builders: Name, Bin, Const, File.
-/
import Derived.Test.YtoecimgmghlfpaaDoorTreeFew
import Derived.Test.YtoecimgmghlfpaaDoorTreeSize
import Derived.Test.YtoecimgmghlfpaaDoorTreeRightAll
namespace Go.Proofs.YtoecimgmghlfpaaDoor.Tree
open Go.ChangeShapes Go.WideShapes Go.ChangeAt Go.RowKit Mem
set_option linter.unusedVariables false

def ofL : List Nd → F
  | [] => .nil
  | nd :: l => .cons nd.k nd.x nd.y nd.c (ofL l)
theorem ofL_len : ∀ l : List Nd, (ofL l).len = l.length
  | [] => rfl
  | nd :: l => by simp only [ofL, F.len, ofL_len l, List.length_cons]

/-- A row of nodes in block g reads as trees. -/
theorem fs_row {w : World} {S : Nat → Prop} (g : Nat) (hg : S g) : ∀ (ps : List (Nd × Value)) (off n C : Nat), ps.length = n → n ≤ C → C ≤ 9223372036854775807 → (∀ j u, (ps.flatMap ndC)[j]? = some u → w.cell? ⟨g, off + j, none⟩ = some u) → (∀ p ∈ ps, Fs w S p.2 p.1.c) →
    ∀ A, (n = 0 ∨ A = some ⟨g, off, none⟩) → Fs w S (.slice A n C) (ofL (ps.map (·.1)))
  | [], off, n, C, hl, hC, hm, hc, hf, A, hA => by
    simp only [List.length_nil] at hl
    subst hl
    exact ⟨A, C, rfl, hm⟩
  | p :: ps, off, n, C, hl, hC, hm, hc, hf, A, hA => by
    simp only [List.length_cons] at hl
    subst hl
    obtain ⟨C', rfl⟩ : ∃ C', C = C' + 1 := ⟨C - 1, by omega⟩
    have hA' : A = some ⟨g, off, none⟩ := hA.resolve_left (by omega)
    subst hA'
    have hj : ∀ j u, (ndC p)[j]? = some u → w.cell? ⟨g, off + j, none⟩ = some u := fun j u hu => hc j u (by
      rw [List.flatMap_cons, List.getElem?_append_left (by
        rcases Nat.lt_or_ge j (ndC p).length with h' | h'
        · exact h'
        · rw [List.getElem?_eq_none h'] at hu; cases hu)]
      exact hu)
    refine ⟨g, off, ps.length, C', p.2, rfl, by rw [ofL_len, List.length_map], by omega, hm, hg, hj 0 _ rfl, hj 1 _ rfl, hj 2 _ rfl, hj 3 _ rfl, hf p (List.mem_cons_self ..), fun A' hA' => ?_⟩
    refine fs_row g hg ps (off + 4) ps.length C' rfl (by omega) (by omega) (fun j u hu => ?_) (fun q hq => hf q (List.mem_cons_of_mem _ hq)) A' ?_
    · rw [show off + 4 + j = off + (4 + j) by omega]
      refine hc (4 + j) u ?_
      rw [List.flatMap_cons, List.getElem?_append_right (by rw [ndC_len]; omega), ndC_len, show 4 + j - 4 = j by omega]
      exact hu
    · rcases hA' with h | h
      · left
        have : (ofL (ps.map (·.1))).len = ps.length := by rw [ofL_len, List.length_map]
        rw [h] at this
        exact this.symm
      · exact .inr h

def toL : F → List Nd
  | .nil => []
  | .cons k x y c r => ⟨k, x, y, c⟩ :: toL r
theorem toL_len : ∀ f : F, (toL f).length = f.len
  | .nil => rfl
  | .cons k x y c r => by simp only [toL, List.length_cons, F.len, toL_len r]
theorem ofL_toL : ∀ f : F, ofL (toL f) = f
  | .nil => rfl
  | .cons k x y c r => by simp only [toL, ofL, ofL_toL r]
theorem ofL_append : ∀ (l : List Nd) (f : F), ofL (l ++ toL f) = l.foldr (fun nd g => .cons nd.k nd.x nd.y nd.c g) f
  | [], f => by simp [ofL_toL]
  | nd :: l, f => by simp only [List.cons_append, ofL, ofL_append l f, List.foldr_cons]

/-- The cells of a row of trees. -/
theorem fs_cells {w : World} {S : Nat → Prop} : ∀ {f : F} {b off n C : Nat}, Fs w S (.slice (some ⟨b, off, none⟩) n C) f →
    ∃ ps : List (Nd × Value), ps.map (·.1) = toL f ∧ ps.length = n ∧ (∀ j u, (ps.flatMap ndC)[j]? = some u → w.cell? ⟨b, off + j, none⟩ = some u) ∧ ∀ p ∈ ps, Fs w S p.2 p.1.c
  | .nil, b, off, n, C, ⟨A, C', e, _⟩ => by
    injection e with _ e2 _
    subst e2
    exact ⟨[], rfl, rfl, fun j u hu => by simp at hu, fun p hp => by cases hp⟩
  | .cons k x y c r, b, off, n, C, ⟨b', off', n', C', s, e, h1, h2, h3, hS, c0, c1, c2, c3, hk, hr⟩ => by
    injection e with e1 e2 e3
    injection e1 with e1
    injection e1 with e4 e5
    subst e4; subst e5; subst e2; subst e3
    obtain ⟨ps, p1, p2, p3, p4⟩ := fs_cells (hr (some ⟨b, off + 4, none⟩) (.inr rfl))
    refine ⟨(⟨k, x, y, c⟩, s) :: ps, by rw [List.map_cons, p1]; rfl, by rw [List.length_cons, p2], fun j u hu => ?_, fun p hp => ?_⟩
    · rw [List.flatMap_cons] at hu
      by_cases hj : j < 4
      · rw [List.getElem?_append_left (by rw [ndC_len]; exact hj)] at hu
        match j, hj, hu with
        | 0, _, hu => cases hu; exact c0
        | 1, _, hu => cases hu; exact c1
        | 2, _, hu => cases hu; exact c2
        | 3, _, hu => cases hu; exact c3
      · rw [List.getElem?_append_right (by rw [ndC_len]; omega), ndC_len] at hu
        have := p3 (j - 4) u hu
        rwa [show off + 4 + (j - 4) = off + j by omega] at this
    · rcases List.mem_cons.1 hp with rfl | hp
      · exact hk
      · exact p4 p hp

theorem own_fsS {w : World} {S : Nat → Prop} {B base : Nat} {v : Value} {L : List Nd} (h : OwnN w B base v L) (hB : ∀ b, b < B → S b) (hS : ∀ g, base ≤ g → g < w.heap.size → S g) : Fs w S v (ofL L) := by
  obtain ⟨ps, h1, ho, hf⟩ := h
  rcases ho.2 with ⟨rfl, h0⟩ | ⟨g, cap, cur, rfl, hg0, hg, q1, q2, q3, q4⟩
  · rw [List.eq_nil_of_length_eq_zero h0]
    exact ⟨none, 0, rfl, by omega⟩
  · have e : ofL L = ofL (ps.map (·.1)) := by rw [h1]
    rw [e]
    have hc := ho.cells (g := g) rfl
    have ad : ∀ j, (⟨g, 0, none⟩ : Addr).add j = ⟨g, j, none⟩ := fun j => by unfold Addr.add; split <;> simp_all
    refine fs_row g (hS g hg0 (lt_of_block hg)) ps 0 L.length cap (by rw [← h1]; simp) q1 q2 (fun j u hu => ?_) (fun p hp => (hf p hp).more hB) _ (.inr rfl)
    have := hc j u hu
    rwa [ad, ← Nat.zero_add j] at this
theorem own_fs {w : World} {B base : Nat} {v : Value} {L : List Nd} (h : OwnN w B base v L) (hB : B ≤ w.heap.size) : Fs w (Lo w.heap.size) v (ofL L) :=
  own_fsS h (fun b hb => Nat.lt_of_lt_of_le hb hB) (fun g _ hg => hg)
/-- A variable's four cells written anew: the other blocks are as they were. -/
theorem set4_other (w : World) (g b : Nat) (v0 v1 v2 v3 : Value) (h : b ≠ g) : ((((w.setCell ⟨g, 0, none⟩ v0).setCell ⟨g, 1, none⟩ v1).setCell ⟨g, 2, none⟩ v2).setCell ⟨g, 3, none⟩ v3).heap[b]? = w.heap[b]? := by
  rw [Below.heap_setCell _ _ _ _ h, Below.heap_setCell _ _ _ _ h, Below.heap_setCell _ _ _ _ h, Below.heap_setCell _ _ _ _ h]

/-- append of a row of trees onto a row of the call's own. -/
theorem app_fs (w : World) {ops : Array Oper} {rest : List Oper} {o : Oper} {a : Act} {Q : Exit → Act → World → Prop} (hgd : o.guard = none) (s x : Operand)
    (ho : o.op = .call { callee := .builtin .append, args := #[s, x], argTypes := #[22, 22] }) (B base : Nat) (v : Value) (L1 : List Nd) (f : F) (b off m c : Nat) (hs : a.eval s = v) (hx : a.eval x = .slice (some ⟨b, off, none⟩) m c)
    (h1 : OwnN w B base v L1) (h2 : Fs w (Lo B) (.slice (some ⟨b, off, none⟩) m c) f) (hB : B ≤ base) (hbase : base ≤ w.heap.size) (hlen : L1.length + m ≤ 1000000)
    (h : ∀ v' w', OwnN w' B base v' (L1 ++ toL f) → Below base w w' → wpList Tryd.prog ops Q rest (a.put o.dst v') w') : wpList Tryd.prog ops Q (o :: rest) a w := by
  obtain ⟨i0, hi0, hz0, hz1, hz2⟩ := info_parts node_info
  obtain ⟨ps1, e1, ho1, hf1⟩ := h1
  obtain ⟨ps2, e2, hl2, hc2, hf2⟩ := fs_cells h2
  have ad : ∀ j, (⟨b, off, none⟩ : Addr).add j = ⟨b, off + j, none⟩ := fun j => by unfold Addr.add; split <;> simp_all
  have hlen2 : (toL f).length = m := by rw [← e2, List.length_map, hl2]
  refine wpList_append_own_at (P := Tryd.prog) w hgd s x 22 ho base 24 i0 (.agg #[.int .i64 0, .string ⟨#[]⟩, .string ⟨#[]⟩, .slice none 0 0]) 4 64 Tryd.underlying22 hi0 hz0 hz1 hz2 rfl (by decide) v L1.length _ hs ho1 ⟨b, off, none⟩ m c (ps2.flatMap ndC) hx (by rw [MemT.flat_len ndC_len, hl2]) (fun j u hu => by rw [ad]; exact hc2 j u hu) (ndC_one hf2) (by unfold maxLen; omega) (by omega) hbase fun v' w' r1 r2 _ _ => ?_
  have hbl : Below base w w' := (Below.refl _ _).grown r2 hbase (fun k hk => (ho1.lt k hk).1)
  refine h v' w' ⟨ps1 ++ ps2, by rw [List.map_append, e1, e2], by rw [List.flatMap_append, List.length_append, hlen2]; exact r1, fun p hp => ?_⟩ hbl
  rcases List.mem_append.1 hp with hp | hp
  · exact (hf1 p hp).below hbl hB
  · exact (hf2 p hp).below hbl hB

/-- The value v is a node. -/
def NodeIs (w : World) (v : Value) (k : Int) (x : ByteArray) (c : F) : Prop := ∃ A n C, v = .agg #[.int .i64 k, .string x, .string ⟨#[]⟩, .slice A n C] ∧ Fs w (Lo w.heap.size) (.slice A n C) c
theorem NodeIs.later {w w' : World} {v : Value} {k : Int} {x : ByteArray} {c : F} (h : NodeIs w v k x c) (hb : Below w.heap.size w w') : NodeIs w' v k x c := by
  obtain ⟨A, n, C, e, hf⟩ := h
  exact ⟨A, n, C, e, hf.later hb⟩

theorem hi_node : (Tryd.prog.info? 24).map (·.size) = some 4 := by kernel_rfl
theorem fs_empty (w : World) (S : Nat → Prop) : Fs w S (.slice none 0 0) .nil := ⟨none, 0, rfl, by omega⟩
theorem nodeIs_leaf (w : World) (k : Int) (s : ByteArray) : NodeIs w (.agg #[.int .i64 k, .string s, .string ⟨#[]⟩, .slice none 0 0]) k s .nil := ⟨none, 0, 0, rfl, fs_empty _ _⟩

theorem lawName_any (s : ByteArray) (w : World) : Calls Tryd.prog 20 #[.string s] w fun e w' => Below w.heap.size w w' ∧ ∃ v, e = .returned v ∧ NodeIs w' v 9 s .nil := by
  go_enter Tryd.func20, Tryd.ntmps20
  go_wp2
  refine bodyPost_ret (results_cell_row rfl _ _ w.heap.size 24 #[.int .i64 9, .string s, .string ⟨#[]⟩, .slice none 0 0] (0, 0) _ rfl (heap_alloc_new _ _) Tryd.underlying24 rfl hi_node) rfl ?_
  exact ⟨below1 _ _, _, rfl, nodeIs_leaf _ _ _⟩

theorem blk3 (w : World) (o1 o2 o3 o4 : Obj) : ((((w.alloc o1).alloc o2).alloc o3).alloc o4).heap[w.heap.size + 1 + 1]? = some o3 := by
  have e : w.heap.size + 1 + 1 = ((w.alloc o1).alloc o2).heap.size := by simp
  rw [Below.heap_alloc _ _ _ (by simp), e, heap_alloc_new]
theorem blk2 (w : World) (o1 o2 o3 : Obj) : (((w.alloc o1).alloc o2).alloc o3).heap[w.heap.size + 1]? = some o2 := by
  have e : w.heap.size + 1 = (w.alloc o1).heap.size := by simp
  rw [Below.heap_alloc _ _ _ (by simp), e, heap_alloc_new]
theorem below3 (w : World) (o1 o2 o3 : Obj) : Below w.heap.size w (((w.alloc o1).alloc o2).alloc o3) := (below2 w o1 o2).trans ((below1 _ _).mono (below2 w o1 o2).size)

/-- A row of two nodes, newly laid. -/
theorem fs_two (W : World) (k1 k2 : Int) (x1 x2 : ByteArray) (A1 A2 : Option Addr) (n1 C1 n2 C2 : Nat) (c1 c2 : F) (h1 : Fs W (Lo W.heap.size) (.slice A1 n1 C1) c1) (h2 : Fs W (Lo W.heap.size) (.slice A2 n2 C2) c2) :
    Fs (W.alloc (.cells #[.int .i64 k1, .string x1, .string ⟨#[]⟩, .slice A1 n1 C1, .int .i64 k2, .string x2, .string ⟨#[]⟩, .slice A2 n2 C2] 24)) (Lo (W.heap.size + 1)) (.slice (some ⟨W.heap.size, 0, none⟩) 2 2) (.cons k1 x1 ⟨#[]⟩ c1 (.cons k2 x2 ⟨#[]⟩ c2 .nil)) := by
  have hb := below1 W (.cells #[.int .i64 k1, .string x1, .string ⟨#[]⟩, .slice A1 n1 C1, .int .i64 k2, .string x2, .string ⟨#[]⟩, .slice A2 n2 C2] 24)
  refine fs_row W.heap.size (by show _ < _; omega) [(⟨k1, x1, ⟨#[]⟩, c1⟩, .slice A1 n1 C1), (⟨k2, x2, ⟨#[]⟩, c2⟩, .slice A2 n2 C2)] 0 2 2 rfl (Nat.le_refl _) (by omega) (fun j u hu => ?_) (fun p hp => ?_) _ (.inr rfl)
  · rw [Nat.zero_add, World.cell?_alloc_at _ _ _ _ rfl]; simpa [ndC] using hu
  · simp only [List.mem_cons, List.not_mem_nil, or_false] at hp
    rcases hp with rfl | rfl
    · exact (h1.below hb (Nat.le_refl _)).up (Nat.le_succ _)
    · exact (h2.below hb (Nat.le_refl _)).up (Nat.le_succ _)
theorem fs_one (W : World) (k1 : Int) (x1 : ByteArray) (A1 : Option Addr) (n1 C1 : Nat) (c1 : F) (h1 : Fs W (Lo W.heap.size) (.slice A1 n1 C1) c1) :
    Fs (W.alloc (.cells #[.int .i64 k1, .string x1, .string ⟨#[]⟩, .slice A1 n1 C1] 24)) (Lo (W.heap.size + 1)) (.slice (some ⟨W.heap.size, 0, none⟩) 1 1) (.cons k1 x1 ⟨#[]⟩ c1 .nil) := by
  have hb := below1 W (.cells #[.int .i64 k1, .string x1, .string ⟨#[]⟩, .slice A1 n1 C1] 24)
  refine fs_row W.heap.size (by show _ < _; omega) [(⟨k1, x1, ⟨#[]⟩, c1⟩, .slice A1 n1 C1)] 0 1 1 rfl (Nat.le_refl _) (by omega) (fun j u hu => ?_) (fun p hp => ?_) _ (.inr rfl)
  · rw [Nat.zero_add, World.cell?_alloc_at _ _ _ _ rfl]; simpa [ndC] using hu
  · simp only [List.mem_singleton] at hp
    subst hp
    exact (h1.below hb (Nat.le_refl _)).up (Nat.le_succ _)

set_option maxRecDepth 100000 in
set_option maxHeartbeats 4000000 in
theorem lawBin_any (op : ByteArray) (k1 k2 : Int) (x1 x2 : ByteArray) (A1 A2 : Option Addr) (n1 C1 n2 C2 : Nat) (c1 c2 : F) (w : World) (h1 : Fs w (Lo w.heap.size) (.slice A1 n1 C1) c1) (h2 : Fs w (Lo w.heap.size) (.slice A2 n2 C2) c2) :
    Calls Tryd.prog 19 #[.string op, .agg #[.int .i64 k1, .string x1, .string ⟨#[]⟩, .slice A1 n1 C1], .agg #[.int .i64 k2, .string x2, .string ⟨#[]⟩, .slice A2 n2 C2]] w fun e w' => Below w.heap.size w w' ∧ ∃ v, e = .returned v ∧ NodeIs w' v 29 op (.cons k1 x1 ⟨#[]⟩ c1 (.cons k2 x2 ⟨#[]⟩ c2 .nil)) := by
  go_enter Tryd.func19, Tryd.ntmps19
  go_wp2
  refine bodyPost_ret (results_cell_row rfl _ _ (w.heap.size + 1 + 1) 24 _ (0, 0) _ rfl (blk3 _ _ _ _ _) Tryd.underlying24 rfl hi_node) rfl ?_
  have b3 := below3 w (.cells #[.int .i64 k1, .string x1, .string ⟨#[]⟩, .slice A1 n1 C1] 24) (.cells #[.int .i64 k2, .string x2, .string ⟨#[]⟩, .slice A2 n2 C2] 24) (.cells #[.int .i64 29, .string op, .string ⟨#[]⟩, .slice (some ⟨w.heap.size + 1 + 1 + 1, 0, none⟩) 2 2] 24)
  have hf := fs_two _ k1 k2 x1 x2 A1 A2 n1 C1 n2 C2 c1 c2 (h1.later b3) (h2.later b3)
  refine ⟨b3.trans ((below1 _ _).mono b3.size), _, rfl, some ⟨w.heap.size + 1 + 1 + 1, 0, none⟩, 2, 2, rfl, ?_⟩
  simp only [World.size_alloc] at hf ⊢
  exact hf

set_option maxRecDepth 100000 in
set_option maxHeartbeats 4000000 in
theorem lawConst_any (s : ByteArray) (k1 : Int) (x1 : ByteArray) (A1 : Option Addr) (n1 C1 : Nat) (c1 : F) (w : World) (h1 : Fs w (Lo w.heap.size) (.slice A1 n1 C1) c1) :
    Calls Tryd.prog 23 #[.string s, .agg #[.int .i64 k1, .string x1, .string ⟨#[]⟩, .slice A1 n1 C1]] w fun e w' => Below w.heap.size w w' ∧ ∃ v, e = .returned v ∧ NodeIs w' v 4 s (.cons k1 x1 ⟨#[]⟩ c1 .nil) := by
  go_enter Tryd.func23, Tryd.ntmps23
  go_wp2
  refine bodyPost_ret (results_cell_row rfl _ _ (w.heap.size + 1) 24 _ (0, 0) _ rfl (blk2 _ _ _ _) Tryd.underlying24 rfl hi_node) rfl ?_
  have b2 := below2 w (.cells #[.int .i64 k1, .string x1, .string ⟨#[]⟩, .slice A1 n1 C1] 24) (.cells #[.int .i64 4, .string s, .string ⟨#[]⟩, .slice (some ⟨w.heap.size + 1 + 1, 0, none⟩) 1 1] 24)
  have hf := fs_one _ k1 x1 A1 n1 C1 c1 (h1.later b2)
  refine ⟨b2.trans ((below1 _ _).mono b2.size), _, rfl, some ⟨w.heap.size + 1 + 1, 0, none⟩, 1, 1, rfl, ?_⟩
  simp only [World.size_alloc] at hf ⊢
  exact hf

set_option maxRecDepth 100000 in
set_option maxHeartbeats 4000000 in
theorem lawFile_any (g n : Nat) (c : F) (w : World) (hn : n ≤ 100000) (hf : Fs w (Lo w.heap.size) (.slice (some ⟨g, 0, none⟩) n n) c) :
    Calls Tryd.prog 22 #[.slice (some ⟨g, 0, none⟩) n n] w fun e w' => Below w.heap.size w w' ∧ ∃ v, e = .returned v ∧ NodeIs w' v 1 ⟨#[]⟩ (.cons 2 ⟨#[112]⟩ ⟨#[]⟩ .nil c) := by
  have b1 := below1 w (.cells #[.int .i64 0, .string ⟨#[]⟩, .string ⟨#[]⟩, .slice none 0 0] 24)
  have hown := ownN_new (w.alloc (.cells #[.int .i64 0, .string ⟨#[]⟩, .string ⟨#[]⟩, .slice none 0 0] 24)) w.heap.size ⟨2, ⟨#[112]⟩, ⟨#[]⟩, .nil⟩ (.slice none 0 0) (fs_empty _ _) b1.size
  have b2 := below1 (w.alloc (.cells #[.int .i64 0, .string ⟨#[]⟩, .string ⟨#[]⟩, .slice none 0 0] 24)) (.cells #[.int .i64 2, .string ⟨#[112]⟩, .string ⟨#[]⟩, .slice none 0 0] 24)
  have b12 := b1.trans (b2.mono b1.size)
  have HF2 := Lib.hid (hf.below b12 (Nat.le_refl _))
  have e1 : (w.alloc (.cells #[.int .i64 0, .string ⟨#[]⟩, .string ⟨#[]⟩, .slice none 0 0] 24)).heap.size = w.heap.size + 1 := by simp
  rw [e1] at hown
  have HO := Lib.hid hown
  have HB := Lib.hid b12
  have HBX : Hid (Boxed ((w.alloc (.cells #[.int .i64 0, .string ⟨#[]⟩, .string ⟨#[]⟩, .slice none 0 0] 24)).alloc (.cells #[.int .i64 2, .string ⟨#[112]⟩, .string ⟨#[]⟩, .slice none 0 0] 24)) w.heap.size 0 ⟨#[]⟩ ⟨#[]⟩ (.slice none 0 0)) := (boxed_new w _ _ _ _).below b2 (by simp)
  have HSZ : Hid (w.heap.size + 1 ≤ ((w.alloc (.cells #[.int .i64 0, .string ⟨#[]⟩, .string ⟨#[]⟩, .slice none 0 0] 24)).alloc (.cells #[.int .i64 2, .string ⟨#[112]⟩, .string ⟨#[]⟩, .slice none 0 0] 24)).heap.size) := by show _ ≤ _; simp
  clear hf b1 b2 b12 hown
  go_enter Tryd.func22, Tryd.ntmps22
  go_wp2_with (at_builtin; refine app_fs _ rfl _ _ rfl w.heap.size (w.heap.size + 1) _ [⟨2, ⟨#[112]⟩, ⟨#[]⟩, .nil⟩] c g 0 n n rfl rfl HO.out HF2.out (Nat.le_succ _) HSZ.out ?_ ?_)
  · show 1 + n ≤ _; omega
  intro v3 w3 ho3 hb3
  obtain ⟨a3, c3, rfl, hc3, hc3'⟩ := ho3.slice
  have HFS := Lib.hid (own_fsS (S := fun b => b ≠ w.heap.size ∧ b < w3.heap.size) ho3 (fun b hb => ⟨by omega, by have := HB.out.size; have := hb3.size; omega⟩) (fun g hg hg2 => ⟨by omega, hg2⟩))
  have HB3 := Lib.hid (HBX.out.below hb3 (Nat.lt_succ_self _))
  have HBE := Lib.hid (HB.out.trans (hb3.mono (Nat.le_succ _)))
  obtain ⟨z0, z1, z2, z3⟩ := frz HB3.out
  obtain ⟨y0, y1, y2, y3⟩ := HB3.out.cells
  clear ho3 hb3 hc3 hc3'
  go_wp2
  refine bodyPost_ret (results_cell_row rfl _ _ w.heap.size 24 _ (0, 0) _ rfl (box_new HB3.out) Tryd.underlying24 rfl hi_node) rfl ?_
  have hbb := box_below w3 w.heap.size (.int .i64 1) (.string ⟨#[]⟩) (.string ⟨#[]⟩) (.slice a3 ([⟨2, ⟨#[112]⟩, ⟨#[]⟩, .nil⟩] ++ toL c : List Nd).length c3)
  refine ⟨HBE.out.trans hbb, _, rfl, a3, _, c3, rfl, ?_⟩
  have e : ofL ([⟨2, ⟨#[112]⟩, ⟨#[]⟩, .nil⟩] ++ toL c) = .cons 2 ⟨#[112]⟩ ⟨#[]⟩ .nil c := by rw [ofL_append]; rfl
  rw [← e]
  exact (HFS.out.keep fun b hb => set4_other _ _ _ _ _ _ _ hb.1).more fun b hb => Nat.lt_of_lt_of_le hb.2 hbb.size
end Go.Proofs.YtoecimgmghlfpaaDoor.Tree
