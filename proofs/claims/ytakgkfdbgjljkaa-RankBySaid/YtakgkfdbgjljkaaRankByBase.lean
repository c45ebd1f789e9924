/-
  Layer 3 (rank): the law on things that are alike, which stay as they stood: words and lemmas.
-/
import Derived.Test.YtakgkfdbgjljkaaRankPair
import Derived.Test.YtakgkfdbgjljkaaRankKnown
import Derived.Deep.RegionHeldLaw
import Derived.Deep.DeepCutAuto
import Derived.Deep.CutRange
import Derived.Deep.LoopGhost
import Derived.RegionTactic
import Derived.BigRegion
namespace Go.Proofs.Ytakgkfdbgjljkaa.Rank
open Go.ChangeShapes Go.WideShapes Go.ChangeAt Go.RowKit MemC
set_option linter.unusedVariables false

/-- Bools as they stand in memory. -/
def bvals (l : List Bool) : List Value := l.map Value.bool
theorem bool_info : (Try.prog.info? 4).map (fun i => (i.zero, i.size, i.bytes)) = some (some (.bool false), 1, 1) := by kernel_rfl
theorem make_bools (n : Nat) (hn : n ≤ 1000000) (w : World) : (Instr.makeSlice 36 (.int .i64 (n : Int)) (.int .i64 (n : Int))).run Try.prog w = .ok (.slice (some ⟨w.heap.size, 0, none⟩) n n) (w.alloc (.cells (bvals (List.replicate n false)).toArray 4)) := by
  obtain ⟨i0, hi0, hz0, hz1, hz2⟩ := info_parts bool_info
  have h := run_make (P := Try.prog) w 36 4 i0 (.bool false) Try.underlying36 hi0 hz0 .i64 .i64 n n (by omega) (Int.le_refl _) (by rw [hz2]; omega) (by omega)
  rw [h]
  simp only [Int.toNat_natCast]
  congr 2
  have : madeCells (Value.bool false).cells (n * i0.size) = (bvals (List.replicate n false)).toArray := by
    rw [hz1, Nat.mul_one]
    apply Array.toList_inj.1
    have := toList_madeCells_one (Value.bool false) n
    simp only [Value.cells]
    rw [this]
    simp [bvals]
  rw [this]

theorem mod_7 (a : Int) : ∃ r : Nat, wrap64 ((IntKind.u64.wrap a).tmod 7) = r ∧ r < 7 := by
  have h0 : 0 ≤ IntKind.u64.wrap a := by
    simp only [IntKind.wrap_u64]; omega
  have h1 := Int.emod_nonneg (IntKind.u64.wrap a) (b := 7) (by omega)
  have h2 := Int.emod_lt_of_pos (IntKind.u64.wrap a) (b := 7) (by omega)
  rw [Int.tmod_eq_emod_of_nonneg h0]
  generalize IntKind.u64.wrap a % 7 = r at *
  exact ⟨r.toNat, by unfold wrap64; omega, by omega⟩

/-- The cells of the pairs: each number with its place. -/
def pcs (cs : List Int) : List Value := (List.range cs.length).flatMap fun i => [.int .i64 (cs.getD i 0), .int .i64 (i : Int)]
theorem flat2 (f g : Nat → Value) : ∀ (n i : Nat), i < n → ((List.range n).flatMap fun i => [f i, g i])[i * 2]? = some (f i) ∧ ((List.range n).flatMap fun i => [f i, g i])[i * 2 + 1]? = some (g i)
  | 0, i, h => by omega
  | n + 1, i, h => by
    have hl : ((List.range n).flatMap fun i => [f i, g i]).length = n * 2 := by
      rw [List.length_flatMap]; simp [List.map_const']
    rw [List.range_succ, List.flatMap_append]
    by_cases e : i = n
    · subst e
      rw [List.getElem?_append_right (by omega), List.getElem?_append_right (by omega), hl]
      simp
    · have ih := flat2 f g n i (by omega)
      rw [List.getElem?_append_left (by omega), List.getElem?_append_left (by omega)]
      exact ih
theorem pcs_at (cs : List Int) (i : Nat) (h : i < cs.length) : (pcs cs)[i * 2]? = some (.int .i64 (cs.getD i 0)) := (flat2 (fun i => .int .i64 (cs.getD i 0)) (fun i => .int .i64 (i : Int)) _ i h).1
theorem pcs_at1 (cs : List Int) (i : Nat) (h : i < cs.length) : (pcs cs)[i * 2 + 1]? = some (.int .i64 (i : Int)) := (flat2 (fun i => .int .i64 (cs.getD i 0)) (fun i => .int .i64 (i : Int)) _ i h).2
theorem pcs_snoc (cs : List Int) (c : Int) : pcs (cs ++ [c]) = pcs cs ++ [.int .i64 c, .int .i64 (cs.length : Int)] := by
  unfold pcs
  rw [List.length_append, List.length_cons, List.length_nil, List.range_succ, List.flatMap_append]
  congr 1
  · rw [List.flatMap_def, List.flatMap_def]
    congr 1
    apply List.map_congr_left
    intro i hi
    have hi : i < cs.length := by simpa using hi
    simp [List.getD, List.getElem?_append_left hi]
  · simp [List.getD]
theorem pair_info : (Try.prog.info? 33).map (fun i => (i.zero, i.size, i.bytes)) = some (some (.agg #[.int .i64 0, .int .i64 0]), 2, 16) := by kernel_rfl

/-- append of one pair onto a row of the call's own. -/
theorem app_pair (w : World) {ops : Array Oper} {rest : List Oper} {o : Oper} {a : Act} {Q : Exit → Act → World → Prop} (hgd : o.guard = none) (s x : Operand)
    (ho : o.op = .call { callee := .builtin .append, args := #[s, x], argTypes := #[31, 31] }) (base : Nat) (v : Value) (n : Nat) (vs : List Value) (c i : Int) (hs : a.eval s = v) (hown : w.ownsRow base 33 2 v n vs) (g : Nat) (hg : g = w.heap.size) (hx : a.eval x = .slice (some ⟨g, 0, none⟩) 1 1)
    (h63 : n ≤ 1000000) (hbase : base ≤ w.heap.size)
    (h : ∀ v' w', w'.ownsRow base 33 2 v' (n + 1) (vs ++ [.int .i64 c, .int .i64 i]) → Below base w w' → wpList Try.prog ops Q rest (a.put o.dst v') w') :
    wpList Try.prog ops Q (o :: rest) a (w.alloc (.cells #[.int .i64 c, .int .i64 i] 33)) := by
  obtain ⟨i0, hi0, hz0, hz1, hz2⟩ := info_parts pair_info
  subst hg
  refine wpList_append_own_at (P := Try.prog) _ hgd s x 31 ho base 33 i0 _ 2 16 Try.underlying31 hi0 hz0 hz1 hz2 rfl (by decide) v n vs hs (hown.alloc _) ⟨w.heap.size, 0, none⟩ 1 1 [.int .i64 c, .int .i64 i] hx rfl ?_ ?_ (by unfold maxLen; omega) (by omega) (by simp; omega) fun v' w' h1 h2 _ _ => ?_
  · intro j u hj
    have e : (⟨w.heap.size, 0, none⟩ : Addr).add j = ⟨w.heap.size, j, none⟩ := by unfold Addr.add; split <;> simp_all
    rw [e, World.cell?_alloc_at _ _ _ _ rfl]
    simpa using hj
  · intro u hu
    simp only [List.mem_cons, List.not_mem_nil, or_false] at hu
    rcases hu with rfl | rfl <;> rfl
  · exact h v' w' h1 (((Below.refl base w).alloc hbase _).grown h2 (by simp; omega) (fun q hq => (hown.lt q hq).1))

theorem own_rp {w : World} {base n c : Nat} {A : Option Addr} {cs : List Int} (h : w.ownsRow base 33 2 (.slice A n c) n (pcs cs)) (hn : cs.length = n) : RP w w.heap.size A cs := by
  by_cases hx : cs = []
  · exact .inl hx
  · have hp : 0 < cs.length := List.length_pos_iff.2 hx
    rcases h.2 with ⟨_, h0⟩ | ⟨g, cap, cur, hv, hg0, hg, h1, h2, h3, h4⟩
    · omega
    · injection hv with hA _ _
      have key : ∀ j, j < n * 2 → w.cell? ⟨g, 0 + j, none⟩ = (pcs cs)[j]? := fun j hj => by
        rw [← h4, List.getElem?_take, if_pos hj]
        simp [World.cell?, hg]
      refine .inr ⟨g, 0, hA, lt_of_block hg, fun i hi => ⟨?_, ?_⟩⟩
      · rw [key _ (by omega)]; exact pcs_at cs i hi
      · rw [Nat.add_assoc, key _ (by omega)]; exact pcs_at1 cs i hi

theorem getD_mem {l : List Nat} {i : Nat} (h : i < l.length) : l.getD i 0 ∈ l := by
  simp only [List.getD, List.getElem?_eq_getElem h, Option.getD_some]; exact List.getElem_mem h

/-- What lies between two rounds: what lay below lies as it lay; the row of bools tells of places that were told. -/
structure Seen (w0 W : World) (n i : Nat) (up : List Nat) : Prop where
  below : Below w0.heap.size w0 W
  row : ∃ sb : List Bool, sb.length = n ∧ W.heap[w0.heap.size]? = some (.cells (bvals sb).toArray 4 (0, 0)) ∧ ∀ j, sb.getD j false = true → ∃ k, k < i ∧ up.getD k 0 = j
theorem seen_start (w : World) (n : Nat) (up : List Nat) : Seen w (w.alloc (.cells (bvals (List.replicate n false)).toArray 4)) n 0 up :=
  ⟨(Below.refl _ _).alloc (Nat.le_refl _) _, List.replicate n false, by simp, heap_alloc_new' _ _, fun j h => by simp [List.getD, List.getElem?_replicate] at h; split at h <;> simp at h⟩
section
variable {w0 W W' : World} {n i : Nat} {up : List Nat}
theorem Seen.free (h : Seen w0 W n i up) {lt : Nat → Nat → Bool} {a : Nat} (ha : up.getD i 0 = a) (han : a < n) (ho : IsOrd lt n up) (hi : i < n) : W.cell? ⟨w0.heap.size, a, none⟩ = some (.bool false) := by
  obtain ⟨sb, hl, hr, hs⟩ := h.row
  have hab : a < sb.length := by omega
  have e : W.cell? ⟨w0.heap.size, a, none⟩ = some (.bool (sb.getD a false)) := by
    simp [World.cell?, hr, bvals, List.getD, hab]
  rw [e]
  cases hb : sb.getD a false
  · rfl
  · obtain ⟨k, hk, hk2⟩ := hs a hb
    exfalso
    have hlen := ho.len
    have h1 : up[k]'(by omega) = up[i]'(by omega) := by
      simp only [List.getD, List.getElem?_eq_getElem (show k < up.length by omega), List.getElem?_eq_getElem (show i < up.length by omega), Option.getD_some] at hk2 ha
      rw [hk2, ha]
    exact List.pairwise_iff_getElem.1 ho.nodup k i (by omega) (by omega) hk h1
theorem Seen.frz (h : Seen w0 W n i up) (a : Nat) : W.frozen? ⟨w0.heap.size, a, none⟩ = false := by
  obtain ⟨sb, hl, hr, hs⟩ := h.row
  simp [World.frozen?, hr]
theorem Seen.next (h : Seen w0 W n i up) {a : Nat} (ha : up.getD i 0 = a) (han : a < n) : Seen w0 (W.setCell ⟨w0.heap.size, a, none⟩ (.bool true)) n (i + 1) up := by
  obtain ⟨sb, hl, hr, hs⟩ := h.row
  refine ⟨h.below.setCell (by exact Nat.le_refl _) _, sb.set a true, by simp [hl], ?_, fun j hj => ?_⟩
  · have hlt := lt_of_block hr
    have h' : W.heap[w0.heap.size] = .cells (bvals sb).toArray 4 (0, 0) := by simpa [Array.getElem?_eq_getElem hlt] using hr
    show (W.heap.modify w0.heap.size _)[w0.heap.size]? = _
    rw [Array.getElem?_eq_getElem (by simpa using hlt), Array.getElem_modify_self, h']
    simp [bvals, List.map_set]
  · by_cases e : j = a
    · exact ⟨i, Nat.lt_succ_self _, by rw [ha, e]⟩
    · have : sb.getD j false = true := by
        simpa [List.getD, List.getElem?_set_ne (fun h => e h.symm)] using hj
      obtain ⟨k, hk, hk2⟩ := hs j this
      exact ⟨k, by omega, hk2⟩
theorem Seen.later (h : Seen w0 W n i up) (hb : Below W.heap.size W W') : Seen w0 W' n i up := by
  obtain ⟨sb, hl, hr, hs⟩ := h.row
  exact ⟨h.below.trans (hb.mono h.below.size), sb, hl, (hb.block _ (lt_of_block hr)).trans hr, hs⟩
end

theorem fresh_two (w : World) (a b c d : Int) (T : TypeId) : let W := ((w.alloc (.cells #[.int .i64 a, .int .i64 b] T)).alloc (.cells #[.int .i64 c, .int .i64 d] T)).drew
    Below w.heap.size w W ∧ W.cell? ⟨w.heap.size, 0, none⟩ = some (.int .i64 a) ∧ W.cell? ⟨w.heap.size, 1, none⟩ = some (.int .i64 b) ∧ W.cell? ⟨w.heap.size + 1, 0, none⟩ = some (.int .i64 c) ∧ W.cell? ⟨w.heap.size + 1, 1, none⟩ = some (.int .i64 d) ∧ W.heap.size = w.heap.size + 1 + 1 := by
  have h1 : ((w.alloc (.cells #[.int .i64 a, .int .i64 b] T)).alloc (.cells #[.int .i64 c, .int .i64 d] T)).heap[w.heap.size]? = some (.cells #[.int .i64 a, .int .i64 b] T) :=
    (Below.heap_alloc _ _ _ (by rw [World.size_alloc]; omega)).trans (heap_alloc_new' w _)
  have h2 : ((w.alloc (.cells #[.int .i64 a, .int .i64 b] T)).alloc (.cells #[.int .i64 c, .int .i64 d] T)).heap[w.heap.size + 1]? = some (.cells #[.int .i64 c, .int .i64 d] T) := by
    have := heap_alloc_new' (w.alloc (.cells #[.int .i64 a, .int .i64 b] T)) (.cells #[.int .i64 c, .int .i64 d] T)
    rw [World.size_alloc] at this
    exact this
  refine ⟨(((Below.refl _ _).alloc (Nat.le_refl _) _).alloc (by rw [World.size_alloc]; omega) _).drew, ?_, ?_, ?_, ?_, ?_⟩
  · show World.cell? (World.alloc _ _) _ = _
    simp only [World.cell?, h1]; rfl
  · show World.cell? (World.alloc _ _) _ = _
    simp only [World.cell?, h1]; rfl
  · show World.cell? (World.alloc _ _) _ = _
    simp only [World.cell?, h2]; rfl
  · show World.cell? (World.alloc _ _) _ = _
    simp only [World.cell?, h2]; rfl
  · show (World.alloc _ _).heap.size = _
    rw [World.size_alloc, World.size_alloc]

/-- A pair that a variable of its own holds: made behind w, read in W. -/
structure Pr (w W : World) (g : Nat) (x a : Int) : Prop where
  below : Below w.heap.size w W
  hi : g < W.heap.size
  fst : W.cell? ⟨g, 0, none⟩ = some (.int .i64 x)
  snd : W.cell? ⟨g, 1, none⟩ = some (.int .i64 a)
theorem pr_fst (w : World) (a b c d : Int) (T : TypeId) : Pr w (((w.alloc (.cells #[.int .i64 a, .int .i64 b] T)).alloc (.cells #[.int .i64 c, .int .i64 d] T)).drew) w.heap.size a b := by
  obtain ⟨h1, h2, h3, h4, h5, h6⟩ := fresh_two w a b c d T
  exact ⟨h1, by rw [h6]; omega, h2, h3⟩
theorem pr_snd (w : World) (a b c d : Int) (T : TypeId) : Pr w (((w.alloc (.cells #[.int .i64 a, .int .i64 b] T)).alloc (.cells #[.int .i64 c, .int .i64 d] T)).drew) (w.heap.size + 1) c d := by
  obtain ⟨h1, h2, h3, h4, h5, h6⟩ := fresh_two w a b c d T
  exact ⟨h1, by rw [h6]; omega, h4, h5⟩

theorem bef_up {cs : List Int} {a b i j : Nat} {up : List Nat} (h : Bef (ltI cs) (up.getD i 0) (up.getD j 0)) (ha : up.getD i 0 = a) (hb : up.getD j 0 = b) : cs.getD a 0 < cs.getD b 0 ∨ (cs.getD a 0 = cs.getD b 0 ∧ a < b) := by
  rw [ha, hb] at h
  rcases h with h | ⟨h, h2⟩
  · exact .inl (of_decide_eq_true h)
  · have := of_decide_eq_false h
    omega
theorem bef_down {cs : List Int} {a b i j : Nat} {dn : List Nat} (h : Bef (gtI cs) (dn.getD i 0) (dn.getD j 0)) (ha : dn.getD i 0 = a) (hb : dn.getD j 0 = b) : cs.getD b 0 < cs.getD a 0 ∨ (cs.getD a 0 = cs.getD b 0 ∧ a < b) := by
  rw [ha, hb] at h
  rcases h with h | ⟨h, h2⟩
  · exact .inl (of_decide_eq_true h)
  · have := of_decide_eq_false h
    omega

end Go.Proofs.Ytakgkfdbgjljkaa.Rank
