/-
  Layer 1 (utf): rows of the call's own, append onto them, two rows that are alike, the document's own Signs.
-/
import Derived.Test.YtoecimgmghlfpaaDoorUtfWalk
import Derived.Deep.QuietTactic
import Derived.BigQuiet
namespace Go.Proofs.YtoecimgmghlfpaaDoor.Utf
open Go.ChangeShapes Go.WideShapes Go.ChangeAt Go.RowKit
set_option linter.unusedVariables false
set_option maxRecDepth 100000

section
variable {w w' : World} {base : Nat} {e : TypeId} {size : Nat} {v : Value} {n : Nat} {vs : List Value}
theorem own_below (h : w.ownsRow base e size v n vs) {B : Nat} (hb : Below B w w') (hB : w.heap.size ≤ B) : w'.ownsRow base e size v n vs :=
  ⟨h.1, by
    rcases h.2 with h' | ⟨g, cap, cur, a, b, hg, r⟩
    · exact .inl h'
    · exact .inr ⟨g, cap, cur, a, b, (hb.block g (by have := lt_of_block hg; omega)).trans hg, r⟩⟩
theorem own_drewN (h : w.ownsRow base e size v n vs) (k : Nat) : (w.drewN k).ownsRow base e size v n vs := h
theorem own_apart {e' : TypeId} {base' size' n' : Nat} {v' : Value} {vs' : List Value} (h : w.ownsRow base e size v n vs) (h' : w.ownsRow base' e' size' v' n' vs') (hne : e ≠ e') : v.ownBlock = none ∨ v.ownBlock ≠ v'.ownBlock := by
  rcases h.2 with ⟨rfl, _⟩ | ⟨g, cap, cur, rfl, _, hg, _⟩
  · exact .inl rfl
  · rcases h'.2 with ⟨rfl, _⟩ | ⟨g', cap', cur', rfl, _, hg', _⟩
    · exact .inr (by simp [Value.ownBlock])
    · refine .inr fun hh => ?_
      have hgg : g = g' := by simpa [Value.ownBlock] using hh
      subst hgg
      rw [hg] at hg'
      injection hg' with hg'
      injection hg' with _ he
      exact hne he
end

theorem own_rb {w : World} {base n c : Nat} {A : Option Addr} {xs : List Int} (h : w.ownsRow base 5 1 (.slice A n c) n (xs.map (Value.int .u8))) (hb : Byt xs) : RB w w.heap.size A xs :=
  ⟨hb, by
    by_cases hx : xs = []
    · exact .inl hx
    · have hn : n = xs.length := by have := h.1; simpa using this.symm
      have hp : 0 < xs.length := List.length_pos_iff.2 hx
      rcases h.2 with ⟨_, h0⟩ | ⟨g, cap, cur, hv, hg0, hg, h1, h2, h3, h4⟩
      · omega
      · injection hv with hA _ _
        refine .inr ⟨g, 0, hA, lt_of_block hg, fun i hi => ?_⟩
        have hlt : i < cur.size := by omega
        have e1 : w.cell? ⟨g, 0 + i, none⟩ = cur[i]? := by simp [World.cell?, hg]
        rw [e1]
        have e2 : (xs.map (Value.int .u8))[i]? = cur.toList[i]? := by rw [← h4, List.getElem?_take]; simp; omega
        rw [← Array.getElem?_toList, ← e2]
        simp [List.getD, hi]⟩

theorem app_rb (w : World) {ops : Array Oper} {rest : List Oper} {o : Oper} {a : Act} {Q : Exit → Act → World → Prop} (hgd : o.guard = none) (s x : Operand)
    (ho : o.op = .call { callee := .builtin .append, args := #[s, x], argTypes := #[64, 64] }) (base : Nat) (v : Value) (n : Nat) (vs : List Value) (hs : a.eval s = v)
    (hown : w.ownsRow base 5 1 v n vs) (B : Nat) (A : Option Addr) (m c : Nat) (xs : List Int) (hx : a.eval x = .slice A m c) (hr : RB w B A xs) (hm : xs.length = m)
    (h63 : n + m ≤ 140737488355328) (hbase : base ≤ w.heap.size)
    (h : ∀ v' w', w'.ownsRow base 5 1 v' (n + m) (vs ++ xs.map (Value.int .u8)) → w.grownBy w' v.ownBlock → (v'.ownBlock = v.ownBlock ∨ v'.ownBlock = some w.heap.size) → wpList Tryd.prog ops Q rest (a.put o.dst v') w') :
    wpList Tryd.prog ops Q (o :: rest) a w := by
  obtain ⟨i0, hi0, hz0, hz1, hz2⟩ := info_parts u8_info
  rcases A with _ | ad
  · have hnil : xs = [] := by
      rcases hr.2 with e | ⟨b, off, e, _⟩
      · exact e
      · cases e
    subst hnil
    simp only [List.length_nil] at hm
    subst hm
    have hrun : (Builtin.append_ #[64, 64] o.type #[v, .slice none 0 c]).run Tryd.prog w = .ok v w := by
      rcases hown.2 with ⟨rfl, rfl⟩ | ⟨g, cap, cur, rfl, _, _, hnc, _⟩
      · simp [Builtin.append_, run_underlying Tryd.underlying64, sizeOf, typeInfo, hi0, Builtin.lenOf, Builtin.firstCells]
      · simp [Builtin.append_, run_underlying Tryd.underlying64, sizeOf, typeInfo, hi0, Builtin.lenOf, Builtin.firstCells, hnc, storeCells]
    refine wpList_plain hgd fun K hK => ?_
    unfold Oper.wp execOp
    simp only [ho, resolve, invoke, builtin, Sem.run_bind, Sem.run_pure, Result.andThen_ok, List.map_toArray, List.map_cons, List.map_nil, hs, hx, hrun]
    exact hK _ _ (h v w (by simpa using hown) ⟨rfl, rfl, rfl, Nat.le_refl _, fun _ _ _ => rfl⟩ (.inl rfl))
  · refine wpList_append_own_at (P := Tryd.prog) w hgd s x 64 ho base 5 i0 (.int .u8 0) 1 1 Tryd.underlying64 hi0 hz0 hz1 hz2 rfl (by decide) v n vs hs hown ad m c (xs.map (Value.int .u8)) hx (by simp [hm]) ?_ ?_ (by unfold maxLen; omega) (by omega) hbase fun v' w' h1 h2 _ h4 => h v' w' h1 h2 h4
    · intro j u hj
      rcases hr.2 with e | ⟨b, off, e, _, hc⟩
      · subst e; simp at hj
      · injection e with e
        subst e
        have hj' : j < xs.length := by
          rcases Nat.lt_or_ge j xs.length with h' | h'
          · exact h'
          · rw [List.getElem?_eq_none (by simpa using h')] at hj; cases hj
        have e2 : (⟨b, off, none⟩ : Addr).add j = ⟨b, off + j, none⟩ := by unfold Addr.add; split <;> simp_all
        rw [e2, hc j hj']
        simp [List.getD, hj'] at hj ⊢
        exact hj
    · intro u hu
      obtain ⟨y, _, rfl⟩ := List.mem_map.1 hu
      rfl

/-- The slice at A, of as many integers as xs has, reads as xs; it lies below block B. -/
def RI (w : World) (B : Nat) (A : Option Addr) (xs : List Int) : Prop :=
  xs = [] ∨ ∃ b off, A = some ⟨b, off, none⟩ ∧ b < B ∧ ∀ i, i < xs.length → w.cell? ⟨b, off + i, none⟩ = some (.int .i64 (xs.getD i 0))
theorem RI.below {w w' : World} {B : Nat} {A : Option Addr} {xs : List Int} (h : RI w B A xs) {B0 : Nat} (hb : Below B0 w w') (hB : B ≤ B0) : RI w' B A xs := by
  rcases h with h | ⟨b, off, e, hl, hc⟩
  · exact .inl h
  · exact .inr ⟨b, off, e, hl, fun i hi => (hb.cell (by show b < B0; omega)).trans (hc i hi)⟩
theorem RI.at_ {w : World} {B : Nat} {A : Option Addr} {xs : List Int} (h : RI w B A xs) {i : Nat} (hi : i < xs.length) : ∃ b off, A = some ⟨b, off, none⟩ ∧ b < B ∧ w.cell? ⟨b, off + i, none⟩ = some (.int .i64 (xs.getD i 0)) := by
  rcases h with h | ⟨b, off, e, hl, hc⟩
  · subst h; simp at hi
  · exact ⟨b, off, e, hl, hc i hi⟩
theorem RI.take {w : World} {B : Nat} {A : Option Addr} {xs : List Int} (h : RI w B A xs) (n : Nat) : RI w B A (xs.take n) := by
  rcases h with h | ⟨b, off, e, hl, hc⟩
  · exact .inl (by rw [h]; simp)
  · refine .inr ⟨b, off, e, hl, fun i hi => ?_⟩
    rw [List.length_take] at hi
    rw [hc i (by omega)]
    simp [List.getD, show i < n by omega]

theorem own_ri {w : World} {base n c : Nat} {A : Option Addr} {xs : List Int} (h : w.ownsRow base 3 1 (.slice A n c) n (xs.map (Value.int .i64))) : RI w w.heap.size A xs := by
  by_cases hx : xs = []
  · exact .inl hx
  · have hn : n = xs.length := by have := h.1; simpa using this.symm
    have hp : 0 < xs.length := List.length_pos_iff.2 hx
    rcases h.2 with ⟨_, h0⟩ | ⟨g, cap, cur, hv, hg0, hg, h1, h2, h3, h4⟩
    · omega
    · injection hv with hA _ _
      refine .inr ⟨g, 0, hA, lt_of_block hg, fun i hi => ?_⟩
      have hlt : i < cur.size := by omega
      have e1 : w.cell? ⟨g, 0 + i, none⟩ = cur[i]? := by simp [World.cell?, hg]
      rw [e1]
      have e2 : (xs.map (Value.int .i64))[i]? = cur.toList[i]? := by rw [← h4, List.getElem?_take]; simp; omega
      rw [← Array.getElem?_toList, ← e2]
      simp [List.getD, hi]

/-- append of one integer onto a row of the call's own. -/
theorem app_int (w : World) {ops : Array Oper} {rest : List Oper} {o : Oper} {a : Act} {Q : Exit → Act → World → Prop} (hgd : o.guard = none) (s x : Operand)
    (ho : o.op = .call { callee := .builtin .append, args := #[s, x], argTypes := #[72, 72] }) (base : Nat) (v : Value) (ks : List Int) (k : Int) (hs : a.eval s = v)
    (hown : w.ownsRow base 3 1 v ks.length (ks.map (Value.int .i64))) (g : Nat) (hg : g = w.heap.size) (hx : a.eval x = .slice (some ⟨g, 0, none⟩) 1 1)
    (h63 : ks.length ≤ 1000000) (hbase : base ≤ w.heap.size)
    (h : ∀ v' w', w'.ownsRow base 3 1 v' (ks ++ [k]).length ((ks ++ [k]).map (Value.int .i64)) → Below w.heap.size w w' ∨ (∃ b, v.ownBlock = some b ∧ w.grownBy w' (some b)) → (∀ B, (∀ b, v.ownBlock = some b → B ≤ b) → B ≤ w.heap.size → Below B w w') →
      (v'.ownBlock = v.ownBlock ∨ v'.ownBlock = some (w.heap.size + 1)) → wpList Tryd.prog ops Q rest (a.put o.dst v') w') :
    wpList Tryd.prog ops Q (o :: rest) a (w.alloc (.cells #[.int .i64 k] 3)) := by
  obtain ⟨i0, hi0, hz0, hz1, hz2⟩ := info_parts int_info
  subst hg
  refine wpList_append_own_at (P := Tryd.prog) _ hgd s x 72 ho base 3 i0 (.int .i64 0) 1 8 Tryd.underlying72 hi0 hz0 hz1 hz2 rfl (by decide) v ks.length (ks.map (Value.int .i64)) hs (hown.alloc _) ⟨w.heap.size, 0, none⟩ 1 1 [.int .i64 k] hx rfl (cell_one_new _ _ _) (by simp [Value.oneCell']) (by unfold maxLen; omega) (by omega) (by simp; omega) fun v' w' h1 h2 _ h4 => ?_
  have hB : ∀ B, (∀ b, v.ownBlock = some b → B ≤ b) → B ≤ w.heap.size → Below B w w' := fun B hv hB =>
    ((Below.refl B w).alloc hB _).grown h2 (by simp; omega) hv
  refine h v' w' (by simpa using h1) ?_ hB (by simpa using h4)
  rcases hv : v.ownBlock with _ | b
  · exact .inl (hB _ (by simp [hv]) (Nat.le_refl _))
  · refine .inr ⟨b, rfl, ?_⟩
    rw [hv] at h2
    exact ⟨h2.os, h2.tape, h2.output, by have := h2.size; simp at this; omega, fun i hi hne => (h2.block i (by simp; omega) hne).trans (Below.heap_alloc w _ i hi)⟩

/-- What the document's Signs leaves. -/
def RefPost (xs : List Int) (w : World) (e : Ending) (w' : World) : Prop :=
  Below w.heap.size w w' ∧
  ((bad xs ≠ xs.length ∧ e = .returned (.tuple #[.slice none 0 0, .int .i64 (bad xs)])) ∨
   (bad xs = xs.length ∧ ∃ v, e = .returned (.tuple #[v, .int .i64 (bad xs)]) ∧ w'.ownsRow w.heap.size 3 1 v (sgn xs).length ((sgn xs).map (Value.int .i64))))

end Go.Proofs.YtoecimgmghlfpaaDoor.Utf
