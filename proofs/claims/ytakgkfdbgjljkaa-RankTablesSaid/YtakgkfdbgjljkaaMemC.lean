/-
  Words for memory, of no layer: rows of elements of one cell (integers, strings) as lists, and rows of a call's own.
-/
import Derived.Test.YtakgkfdbgjljkaaChecked
import Derived.WalkKit
import Derived.ProofKit
import Derived.OpenShut
import Derived.Below
import Derived.Lib.Hide
import Derived.Laws.BytesArg
import Derived.Outline
import Derived.WalkMore
import Derived.OneCell
import Derived.OwnWalk
import Derived.Maps.AppendAt
import Derived.Deep.QuietTactic
import Derived.BigQuiet
namespace Go.Proofs.Ytakgkfdbgjljkaa.MemC
open Go.ChangeShapes Go.WideShapes Go.ChangeAt Go.RowKit
set_option linter.unusedVariables false

/-- The slice at A, of as many elements as xs has, reads as xs; it lies below block B. -/
def RC {α : Type} (f : α → Value) (d : α) (w : World) (B : Nat) (A : Option Addr) (xs : List α) : Prop :=
  xs = [] ∨ ∃ b off, A = some ⟨b, off, none⟩ ∧ b < B ∧ ∀ i, i < xs.length → w.cell? ⟨b, off + i, none⟩ = some (f (xs.getD i d))
section
variable {α : Type} {f : α → Value} {d : α} {w w' : World} {B B' : Nat} {A : Option Addr} {xs : List α}
theorem RC.keep (h : RC f d w B A xs) (hk : ∀ p : Addr, p.block < B → w'.cell? p = w.cell? p) : RC f d w' B A xs := by
  rcases h with h | ⟨b, off, e, hl, hc⟩
  · exact .inl h
  · exact .inr ⟨b, off, e, hl, fun i hi => (hk _ hl).trans (hc i hi)⟩
theorem RC.below (h : RC f d w B A xs) {B0 : Nat} (hb : Below B0 w w') (hB : B ≤ B0) : RC f d w' B A xs := h.keep fun _ hp => hb.cell (by omega)
theorem RC.more (h : RC f d w B A xs) (hB : B ≤ B') : RC f d w B' A xs := by
  rcases h with h | ⟨b, off, e, hl, hc⟩
  · exact .inl h
  · exact .inr ⟨b, off, e, by omega, hc⟩
theorem RC.nil (w : World) (B : Nat) (A : Option Addr) : RC f d w B A [] := .inl rfl
theorem RC.at_ (h : RC f d w B A xs) {i : Nat} (hi : i < xs.length) : ∃ b off, A = some ⟨b, off, none⟩ ∧ b < B ∧ w.cell? ⟨b, off + i, none⟩ = some (f (xs.getD i d)) := by
  rcases h with h | ⟨b, off, e, hl, hc⟩
  · subst h; simp at hi
  · exact ⟨b, off, e, hl, hc i hi⟩
theorem RC.cell (h : RC f d w B A xs) (hn : 0 < xs.length) : ∃ b off, A = some ⟨b, off, none⟩ ∧ b < B ∧ ∀ i, i < xs.length → w.cell? ⟨b, off + i, none⟩ = some (f (xs.getD i d)) := by
  rcases h with h | h
  · subst h; simp at hn
  · exact h
theorem RC.take (h : RC f d w B A xs) (n : Nat) : RC f d w B A (xs.take n) := by
  rcases h with h | ⟨b, off, e, hl, hc⟩
  · exact .inl (by rw [h]; simp)
  · refine .inr ⟨b, off, e, hl, fun i hi => ?_⟩
    rw [List.length_take] at hi
    rw [hc i (by omega)]
    simp [List.getD, show i < n by omega]
theorem RC.drop (h : RC f d w B A xs) {k cap : Nat} (hk : k ≤ xs.length) (hc : xs.length ≤ cap) :
    RC f d w B (if cap = k then A else A.map (·.add k)) (xs.drop k) := by
  by_cases hz : xs.length = k
  · exact .inl (by rw [← hz, List.drop_length])
  · rcases h with e | ⟨b, off, e, hb, hcell⟩
    · rw [e] at hz hk; simp at hz hk; omega
    · rw [if_neg (by omega)]
      refine .inr ⟨b, off + k, ?_, hb, fun i hi => ?_⟩
      · rw [e]; simp only [Option.map_some, Addr.add]; split <;> simp_all
      · rw [List.length_drop] at hi
        rw [Nat.add_assoc, hcell (k + i) (by omega)]
        simp [List.getD, List.getElem?_drop]
end

theorem below_drewN {B : Nat} {a w : World} (h : Below B a w) (n : Nat) : Below B a (w.drewN n) := ⟨h.os, h.tape, h.output, h.size, h.block⟩
theorem below_of_grown {w w' : World} (h : w.grownBy w' none) : Below w.heap.size w w' := (Below.refl _ _).grown h (Nat.le_refl _) (fun k e => by cases e)
theorem grown_of_below {w w' : World} (h : Below w.heap.size w w') : w.grownBy w' none := ⟨h.os, h.tape, h.output, h.size, fun k hk _ => h.block k hk⟩

theorem str_toList {a b : ByteArray} (h : a.toList = b.toList) : a = b := by
  rw [ByteArray.toList_eq, ByteArray.toList_eq] at h
  cases a; cases b; simp at h; rw [h]

/-- What the law's frame tells of a slice of integers that came in. -/
def Row (k : IntKind) (w : World) (a : Option Addr) (len cap : Nat) (zs : List Int) : Prop :=
  (a = none ∧ len = 0 ∧ cap = 0 ∧ zs = []) ∨
  ∃ x, a = some x ∧ len ≤ cap ∧ cap ≤ maxLen ∧ zs.length = cap ∧ (∀ i, i < zs.length → w.cell? (x.add i) = some (.int k (zs.getD i 0))) ∧ ∀ n ∈ zs, (Lit.int k n).wf = true

theorem block_lt {w : World} {a : Addr} {v : Value} (h : w.cell? a = some v) : a.block < w.heap.size := by
  rcases Nat.lt_or_ge a.block w.heap.size with h' | h'
  · exact h'
  · simp [World.cell?, Array.getElem?_eq_none h'] at h

theorem int_info : (Try.prog.info? 3).map (fun i => (i.zero, i.size, i.bytes)) = some (some (.int .i64 0), 1, 8) := by kernel_rfl

theorem own_form {w : World} {base : Nat} {e : TypeId} {size : Nat} {v : Value} {n : Nat} {xs : List Value} (h : w.ownsRow base e size v n xs) (hn : 0 < n) : ∃ g cap, v = .slice (some ⟨g, 0, none⟩) n cap := by
  rcases h.2 with ⟨_, h0⟩ | ⟨g, cap, _, hv, _⟩
  · omega
  · exact ⟨g, cap, hv⟩
theorem own_slice {w : World} {base : Nat} {e : TypeId} {size : Nat} {v : Value} {n : Nat} {xs : List Value} (h : w.ownsRow base e size v n xs) : ∃ a cap, v = .slice a n cap ∧ n ≤ cap ∧ cap ≤ maxLen := by
  rcases h.2 with ⟨hv, h0⟩ | ⟨g, cap, _, hv, _, _, h1, h2, _⟩
  · exact ⟨none, 0, by rw [hv, h0], by omega, by unfold maxLen; omega⟩
  · exact ⟨_, cap, hv, h1, h2⟩

theorem own_base {w : World} {base base' : Nat} {e : TypeId} {size : Nat} {v : Value} {n : Nat} {xs : List Value} (h : w.ownsRow base e size v n xs) (hb : base' ≤ base) : w.ownsRow base' e size v n xs :=
  ⟨h.1, by
    rcases h.2 with h' | ⟨g, cap, cur, a, b, c⟩
    · exact .inl h'
    · exact .inr ⟨g, cap, cur, a, by omega, c⟩⟩

section
variable {w w' : World} {base : Nat} {e : TypeId} {size : Nat} {v : Value} {n : Nat} {vs : List Value}
theorem own_below (h : w.ownsRow base e size v n vs) {B : Nat} (hb : Below B w w') (hB : w.heap.size ≤ B) : w'.ownsRow base e size v n vs :=
  ⟨h.1, by
    rcases h.2 with h' | ⟨g, cap, cur, a, b, hg, r⟩
    · exact .inl h'
    · exact .inr ⟨g, cap, cur, a, b, (hb.block g (by have := lt_of_block hg; omega)).trans hg, r⟩⟩
theorem own_drewN (h : w.ownsRow base e size v n vs) (k : Nat) : (w.drewN k).ownsRow base e size v n vs := h
theorem own_apart {e' : TypeId} {base' size' n' : Nat} {v' : Value} {vs' : List Value} (h : w.ownsRow base e size v n vs) (h' : w.ownsRow base' e' size' v' n' vs') (hne : e ≠ e') : v.ownBlock = none ∨ v.ownBlock ≠ v'.ownBlock := by
  rcases h.2 with ⟨rfl, _⟩ | ⟨g, cap, cur, rfl, _, hg, _⟩
  · exact .inl rfl
  · rcases h'.2 with ⟨rfl, _⟩ | ⟨g', cap', cur', rfl, _, hg', _⟩
    · exact .inr (by simp [Value.ownBlock])
    · refine .inr fun hh => ?_
      have hgg : g = g' := by simpa [Value.ownBlock] using hh
      subst hgg
      rw [hg] at hg'
      injection hg' with hg'
      injection hg' with _ he
      exact hne he
end


theorem own_rc {α : Type} {f : α → Value} {d : α} {w : World} {base n c : Nat} {E : TypeId} {A : Option Addr} {xs : List α} (h : w.ownsRow base E 1 (.slice A n c) n (xs.map f)) : RC f d w w.heap.size A xs := by
  by_cases hx : xs = []
  · exact .inl hx
  · have hn : n = xs.length := by have := h.1; simpa using this.symm
    have hp : 0 < xs.length := List.length_pos_iff.2 hx
    rcases h.2 with ⟨_, h0⟩ | ⟨g, cap, cur, hv, hg0, hg, h1, h2, h3, h4⟩
    · omega
    · injection hv with hA _ _
      refine .inr ⟨g, 0, hA, lt_of_block hg, fun i hi => ?_⟩
      have hlt : i < cur.size := by omega
      have e1 : w.cell? ⟨g, 0 + i, none⟩ = cur[i]? := by simp [World.cell?, hg]
      rw [e1]
      have e2 : (xs.map f)[i]? = cur.toList[i]? := by rw [← h4, List.getElem?_take]; simp; omega
      rw [← Array.getElem?_toList, ← e2]
      simp [List.getD, hi]

/-- A block that was made whole: it reads as it was made. -/
theorem rc_new {α : Type} {f : α → Value} {d : α} (w : World) (xs : List α) (T : TypeId) : RC f d (w.alloc (.cells (xs.map f).toArray T)) (w.heap.size + 1) (some ⟨w.heap.size, 0, none⟩) xs :=
  .inr ⟨_, _, rfl, by omega, fun i hi => by
    rw [World.cell?_alloc_at _ _ _ _ rfl]
    simp [List.getD, hi]⟩

section
variable {P : Program} {T E : TypeId} {i0 : TypeInfo} {z : Value} {by_ : Nat}
/-- append of all elements of a slice onto a row of the call's own. -/
theorem app_all {α : Type} (w : World) {ops : Array Oper} {rest : List Oper} {o : Oper} {a : Act} {Q : Exit → Act → World → Prop} (hgd : o.guard = none) (s x : Operand)
    (ho : o.op = .call { callee := .builtin .append, args := #[s, x], argTypes := #[T, T] }) (hT : P.underlying T = some (.slice E)) (hi0 : P.info? E = some i0) (hz0 : i0.zero = some z) (hz1 : i0.size = 1) (hz2 : i0.bytes = by_) (hzc : z.cells.size = 1)
    (base : Nat) (v : Value) (n : Nat) (vs : List Value) (hs : a.eval s = v)
    (hown : w.ownsRow base E 1 v n vs) (f : α → Value) (d : α) (hf : ∀ y, (f y).oneCell' = true) (B : Nat) (A : Option Addr) (m c : Nat) (xs : List α) (hx : a.eval x = .slice A m c) (hr : RC f d w B A xs) (hm : xs.length = m)
    (h63 : n + m ≤ maxLen) (hby : (n + m) * by_ ≤ 140737488355328) (hbase : base ≤ w.heap.size)
    (h : ∀ v' w', w'.ownsRow base E 1 v' (n + m) (vs ++ xs.map f) → w.grownBy w' v.ownBlock → (v'.ownBlock = v.ownBlock ∨ v'.ownBlock = some w.heap.size) → wpList P ops Q rest (a.put o.dst v') w') :
    wpList P ops Q (o :: rest) a w := by
  rcases A with _ | ad
  · have hnil : xs = [] := by
      rcases hr with e | ⟨b, off, e, _⟩
      · exact e
      · cases e
    subst hnil
    simp only [List.length_nil] at hm
    subst hm
    have hrun : (Builtin.append_ #[T, T] o.type #[v, .slice none 0 c]).run P w = .ok v w := by
      rcases hown.2 with ⟨rfl, rfl⟩ | ⟨g, cap, cur, rfl, _, _, hnc, _⟩
      · simp [Builtin.append_, run_underlying hT, sizeOf, typeInfo, hi0, Builtin.lenOf, Builtin.firstCells]
      · simp [Builtin.append_, run_underlying hT, sizeOf, typeInfo, hi0, Builtin.lenOf, Builtin.firstCells, hnc, storeCells]
    refine wpList_plain hgd fun K hK => ?_
    unfold Oper.wp execOp
    simp only [ho, resolve, invoke, builtin, Sem.run_bind, Sem.run_pure, Result.andThen_ok, List.map_toArray, List.map_cons, List.map_nil, hs, hx, hrun]
    exact hK _ _ (h v w (by simpa using hown) ⟨rfl, rfl, rfl, Nat.le_refl _, fun _ _ _ => rfl⟩ (.inl rfl))
  · refine wpList_append_own_at (P := P) w hgd s x T ho base E i0 z 1 by_ hT hi0 hz0 hz1 hz2 hzc (by decide) v n vs hs hown ad m c (xs.map f) hx (by simp [hm]) ?_ ?_ h63 hby hbase fun v' w' h1 h2 _ h4 => h v' w' h1 h2 h4
    · intro j u hj
      rcases hr with e | ⟨b, off, e, _, hc⟩
      · subst e; simp at hj
      · injection e with e
        subst e
        have hj' : j < xs.length := by
          rcases Nat.lt_or_ge j xs.length with h' | h'
          · exact h'
          · rw [List.getElem?_eq_none (by simpa using h')] at hj; cases hj
        have e2 : (⟨b, off, none⟩ : Addr).add j = ⟨b, off + j, none⟩ := by unfold Addr.add; split <;> simp_all
        rw [e2, hc j hj']
        simp [List.getD, hj'] at hj ⊢
        exact hj
    · intro u hu
      obtain ⟨y, _, rfl⟩ := List.mem_map.1 hu
      exact hf y

/-- append of one element onto a row of the call's own. -/
theorem app_one (w : World) {ops : Array Oper} {rest : List Oper} {o : Oper} {a : Act} {Q : Exit → Act → World → Prop} (hgd : o.guard = none) (s x : Operand)
    (ho : o.op = .call { callee := .builtin .append, args := #[s, x], argTypes := #[T, T] }) (hT : P.underlying T = some (.slice E)) (hi0 : P.info? E = some i0) (hz0 : i0.zero = some z) (hz1 : i0.size = 1) (hz2 : i0.bytes = by_) (hzc : z.cells.size = 1)
    (base : Nat) (v : Value) (n : Nat) (vs : List Value) (u : Value) (hs : a.eval s = v) (hown : w.ownsRow base E 1 v n vs) (hu : u.oneCell' = true) (g : Nat) (hg : g = w.heap.size) (hx : a.eval x = .slice (some ⟨g, 0, none⟩) 1 1)
    (h63 : n ≤ 1000000) (hb : by_ ≤ 100) (hbase : base ≤ w.heap.size)
    (h : ∀ v' w', w'.ownsRow base E 1 v' (n + 1) (vs ++ [u]) → (w.alloc (.cells #[u] E)).grownBy w' v.ownBlock → (∀ B, (∀ b, v.ownBlock = some b → B ≤ b) → B ≤ w.heap.size → Below B w w') →
      (v'.ownBlock = v.ownBlock ∨ v'.ownBlock = some (w.heap.size + 1)) → wpList P ops Q rest (a.put o.dst v') w') :
    wpList P ops Q (o :: rest) a (w.alloc (.cells #[u] E)) := by
  subst hg
  have hmul : (n + 1) * by_ ≤ 1000001 * 100 := Nat.mul_le_mul (by omega) hb
  refine wpList_append_own_at (P := P) _ hgd s x T ho base E i0 z 1 by_ hT hi0 hz0 hz1 hz2 hzc (by decide) v n vs hs (hown.alloc _) ⟨w.heap.size, 0, none⟩ 1 1 [u] hx rfl (cell_one_new _ _ _) (by simpa using hu) (by unfold maxLen; omega) (by omega) (by simp; omega) fun v' w' h1 h2 _ h4 => ?_
  exact h v' w' h1 h2 (fun B hv hB => ((Below.refl B w).alloc hB _).grown h2 (by simp; omega) hv) (by simpa using h4)
end

abbrev RI (w : World) (B : Nat) (A : Option Addr) (xs : List Int) : Prop := RC (Value.int .i64) 0 w B A xs
abbrev RS (w : World) (B : Nat) (A : Option Addr) (xs : List ByteArray) : Prop := RC Value.string ⟨#[]⟩ w B A xs

/-- Integers that came in. -/
def IntsIn (l : List Int) : Prop := ∀ k ∈ l, -9223372036854775808 ≤ k ∧ k ≤ 9223372036854775807
theorem IntsIn.take {l : List Int} (h : IntsIn l) (n : Nat) : IntsIn (l.take n) := fun k hk => h k (List.mem_of_mem_take hk)
theorem IntsIn.getD {l : List Int} (h : IntsIn l) (i : Nat) : -9223372036854775808 ≤ l.getD i 0 ∧ l.getD i 0 ≤ 9223372036854775807 := by
  by_cases hi : i < l.length
  · have e : l.getD i 0 = l[i] := by simp [List.getD, hi]
    rw [e]; exact h _ (List.getElem_mem hi)
  · have e : l.getD i 0 = 0 := by simp [List.getD, List.getElem?_eq_none (show l.length ≤ i by omega)]
    rw [e]; omega

theorem row_ri {w : World} {a : Option Addr} {len cap : Nat} {zs : List Int} (h : Row .i64 w a len cap zs) : ∃ xs, xs.length = len ∧ len ≤ cap ∧ cap ≤ maxLen ∧ RI w w.heap.size a xs ∧ IntsIn xs := by
  rcases h with ⟨rfl, rfl, rfl, rfl⟩ | ⟨x, rfl, hl, hm, hz, hc, hw⟩
  · exact ⟨[], rfl, Nat.le_refl _, by simp [maxLen], .inl rfl, fun k hk => by cases hk⟩
  · refine ⟨zs.take len, by rw [List.length_take]; omega, hl, hm, ?_, fun y hy => bounds_i64 (hw y (List.mem_of_mem_take hy))⟩
    by_cases h0 : len = 0
    · subst h0; exact .inl rfl
    · obtain ⟨b, off, spot⟩ := x
      have hspot : spot = none := by simpa [Addr.add] using World.cell?_spot (hc 0 (by omega))
      subst hspot
      refine .inr ⟨b, off, rfl, by simpa [Addr.add] using block_lt (hc 0 (by omega)), fun i hi => ?_⟩
      rw [List.length_take] at hi
      have e : (⟨b, off, none⟩ : Addr).add i = ⟨b, off + i, none⟩ := by unfold Addr.add; split <;> simp_all
      rw [← e, hc i (by omega)]
      simp [List.getD, show i < len by omega]

theorem own_kept {w w' : World} {base n : Nat} {e : TypeId} {size : Nat} {v : Value} {vs : List Value} {row : Option Nat} (h : w.ownsRow base e size v n vs) (hg : w.grownBy w' row) (hne : v.ownBlock = none ∨ v.ownBlock ≠ row) : w'.ownsRow base e size v n vs := h.kept hg hne

theorem ret1 {k : IntKind} {a b : Int} (h : a = b) : Ending.returned (.int k a) = .returned (.int k b) := by rw [h]

theorem bcell {W w1 : World} (hb : Below W.heap.size W w1) : (∀ b o, b < W.heap.size → w1.cell? ⟨b, o, none⟩ = W.cell? ⟨b, o, none⟩) ∧ (∀ b o, b < W.heap.size → w1.frozen? ⟨b, o, none⟩ = W.frozen? ⟨b, o, none⟩) :=
  ⟨fun b o h => hb.cell (p := ⟨b, o, none⟩) h, fun b o h => hb.frozen (p := ⟨b, o, none⟩) h⟩

end Go.Proofs.Ytakgkfdbgjljkaa.MemC
