import Derived.Test.YtmknghhgcecafaaDoorChecked
import Derived.WalkKit
import Derived.ProofKit
import Derived.OpenShut
import Derived.Below
import Derived.Lib.Hide
import Derived.Laws.BytesArg
import Derived.Outline
import Derived.WalkMore
import Derived.OneCell
import Derived.OwnWalk
import Derived.Maps.AppendAt
import Derived.Deep.QuietTactic
import Derived.BigQuiet
import Derived.Test.YtmknghhgcecafaaDoorJxA
import Derived.Laws.OwnMore
import Derived.Maps.Own
import Derived.Deep.RegionHeld3

/-
  Words for memory, of no layer: rows of elements of one cell (integers, strings) as lists, and rows of a call's own.
-/
namespace Go.Proofs.YtmknghhgcecafaaDoor.MemC
open Go.ChangeShapes Go.WideShapes Go.ChangeAt Go.RowKit
set_option linter.unusedVariables false

/-- The slice at A, of as many elements as xs has, reads as xs; it lies below block B. -/
def RC {α : Type} (f : α → Value) (d : α) (w : World) (B : Nat) (A : Option Addr) (xs : List α) : Prop :=
  xs = [] ∨ ∃ b off, A = some ⟨b, off, none⟩ ∧ b < B ∧ ∀ i, i < xs.length → w.cell? ⟨b, off + i, none⟩ = some (f (xs.getD i d))
section
variable {α : Type} {f : α → Value} {d : α} {w w' : World} {B B' : Nat} {A : Option Addr} {xs : List α}
theorem RC.keep (h : RC f d w B A xs) (hk : ∀ p : Addr, p.block < B → w'.cell? p = w.cell? p) : RC f d w' B A xs := by
  rcases h with h | ⟨b, off, e, hl, hc⟩
  · exact .inl h
  · exact .inr ⟨b, off, e, hl, fun i hi => (hk _ hl).trans (hc i hi)⟩
theorem RC.below (h : RC f d w B A xs) {B0 : Nat} (hb : Below B0 w w') (hB : B ≤ B0) : RC f d w' B A xs := h.keep fun _ hp => hb.cell (by omega)
theorem RC.more (h : RC f d w B A xs) (hB : B ≤ B') : RC f d w B' A xs := by
  rcases h with h | ⟨b, off, e, hl, hc⟩
  · exact .inl h
  · exact .inr ⟨b, off, e, by omega, hc⟩
theorem RC.nil (w : World) (B : Nat) (A : Option Addr) : RC f d w B A [] := .inl rfl
theorem RC.at_ (h : RC f d w B A xs) {i : Nat} (hi : i < xs.length) : ∃ b off, A = some ⟨b, off, none⟩ ∧ b < B ∧ w.cell? ⟨b, off + i, none⟩ = some (f (xs.getD i d)) := by
  rcases h with h | ⟨b, off, e, hl, hc⟩
  · subst h; simp at hi
  · exact ⟨b, off, e, hl, hc i hi⟩
theorem RC.cell (h : RC f d w B A xs) (hn : 0 < xs.length) : ∃ b off, A = some ⟨b, off, none⟩ ∧ b < B ∧ ∀ i, i < xs.length → w.cell? ⟨b, off + i, none⟩ = some (f (xs.getD i d)) := by
  rcases h with h | h
  · subst h; simp at hn
  · exact h
theorem RC.take (h : RC f d w B A xs) (n : Nat) : RC f d w B A (xs.take n) := by
  rcases h with h | ⟨b, off, e, hl, hc⟩
  · exact .inl (by rw [h]; simp)
  · refine .inr ⟨b, off, e, hl, fun i hi => ?_⟩
    rw [List.length_take] at hi
    rw [hc i (by omega)]
    simp [List.getD, show i < n by omega]
theorem RC.drop (h : RC f d w B A xs) {k cap : Nat} (hk : k ≤ xs.length) (hc : xs.length ≤ cap) :
    RC f d w B (if cap = k then A else A.map (·.add k)) (xs.drop k) := by
  by_cases hz : xs.length = k
  · exact .inl (by rw [← hz, List.drop_length])
  · rcases h with e | ⟨b, off, e, hb, hcell⟩
    · rw [e] at hz hk; simp at hz hk; omega
    · rw [if_neg (by omega)]
      refine .inr ⟨b, off + k, ?_, hb, fun i hi => ?_⟩
      · rw [e]; simp only [Option.map_some, Addr.add]; split <;> simp_all
      · rw [List.length_drop] at hi
        rw [Nat.add_assoc, hcell (k + i) (by omega)]
        simp [List.getD, List.getElem?_drop]
end

theorem below_drewN {B : Nat} {a w : World} (h : Below B a w) (n : Nat) : Below B a (w.drewN n) := ⟨h.os, h.tape, h.output, h.size, h.block⟩
theorem below_of_grown {w w' : World} (h : w.grownBy w' none) : Below w.heap.size w w' := (Below.refl _ _).grown h (Nat.le_refl _) (fun k e => by cases e)
theorem grown_of_below {w w' : World} (h : Below w.heap.size w w') : w.grownBy w' none := ⟨h.os, h.tape, h.output, h.size, fun k hk _ => h.block k hk⟩

theorem str_toList {a b : ByteArray} (h : a.toList = b.toList) : a = b := by
  rw [ByteArray.toList_eq, ByteArray.toList_eq] at h
  cases a; cases b; simp at h; rw [h]

/-- What the law's frame tells of a slice of integers that came in. -/
def Row (k : IntKind) (w : World) (a : Option Addr) (len cap : Nat) (zs : List Int) : Prop :=
  (a = none ∧ len = 0 ∧ cap = 0 ∧ zs = []) ∨
  ∃ x, a = some x ∧ len ≤ cap ∧ cap ≤ maxLen ∧ zs.length = cap ∧ (∀ i, i < zs.length → w.cell? (x.add i) = some (.int k (zs.getD i 0))) ∧ ∀ n ∈ zs, (Lit.int k n).wf = true

theorem block_lt {w : World} {a : Addr} {v : Value} (h : w.cell? a = some v) : a.block < w.heap.size := by
  rcases Nat.lt_or_ge a.block w.heap.size with h' | h'
  · exact h'
  · simp [World.cell?, Array.getElem?_eq_none h'] at h

theorem int_info : (Tryd.prog.info? 3).map (fun i => (i.zero, i.size, i.bytes)) = some (some (.int .i64 0), 1, 8) := by kernel_rfl

theorem own_form {w : World} {base : Nat} {e : TypeId} {size : Nat} {v : Value} {n : Nat} {xs : List Value} (h : w.ownsRow base e size v n xs) (hn : 0 < n) : ∃ g cap, v = .slice (some ⟨g, 0, none⟩) n cap := by
  rcases h.2 with ⟨_, h0⟩ | ⟨g, cap, _, hv, _⟩
  · omega
  · exact ⟨g, cap, hv⟩
theorem own_slice {w : World} {base : Nat} {e : TypeId} {size : Nat} {v : Value} {n : Nat} {xs : List Value} (h : w.ownsRow base e size v n xs) : ∃ a cap, v = .slice a n cap ∧ n ≤ cap ∧ cap ≤ maxLen := by
  rcases h.2 with ⟨hv, h0⟩ | ⟨g, cap, _, hv, _, _, h1, h2, _⟩
  · exact ⟨none, 0, by rw [hv, h0], by omega, by unfold maxLen; omega⟩
  · exact ⟨_, cap, hv, h1, h2⟩

theorem own_base {w : World} {base base' : Nat} {e : TypeId} {size : Nat} {v : Value} {n : Nat} {xs : List Value} (h : w.ownsRow base e size v n xs) (hb : base' ≤ base) : w.ownsRow base' e size v n xs :=
  ⟨h.1, by
    rcases h.2 with h' | ⟨g, cap, cur, a, b, c⟩
    · exact .inl h'
    · exact .inr ⟨g, cap, cur, a, by omega, c⟩⟩

section
variable {w w' : World} {base : Nat} {e : TypeId} {size : Nat} {v : Value} {n : Nat} {vs : List Value}
theorem own_below (h : w.ownsRow base e size v n vs) {B : Nat} (hb : Below B w w') (hB : w.heap.size ≤ B) : w'.ownsRow base e size v n vs :=
  ⟨h.1, by
    rcases h.2 with h' | ⟨g, cap, cur, a, b, hg, r⟩
    · exact .inl h'
    · exact .inr ⟨g, cap, cur, a, b, (hb.block g (by have := lt_of_block hg; omega)).trans hg, r⟩⟩
theorem own_drewN (h : w.ownsRow base e size v n vs) (k : Nat) : (w.drewN k).ownsRow base e size v n vs := h
theorem own_apart {e' : TypeId} {base' size' n' : Nat} {v' : Value} {vs' : List Value} (h : w.ownsRow base e size v n vs) (h' : w.ownsRow base' e' size' v' n' vs') (hne : e ≠ e') : v.ownBlock = none ∨ v.ownBlock ≠ v'.ownBlock := by
  rcases h.2 with ⟨rfl, _⟩ | ⟨g, cap, cur, rfl, _, hg, _⟩
  · exact .inl rfl
  · rcases h'.2 with ⟨rfl, _⟩ | ⟨g', cap', cur', rfl, _, hg', _⟩
    · exact .inr (by simp [Value.ownBlock])
    · refine .inr fun hh => ?_
      have hgg : g = g' := by simpa [Value.ownBlock] using hh
      subst hgg
      rw [hg] at hg'
      injection hg' with hg'
      injection hg' with _ he
      exact hne he
end


theorem own_rc {α : Type} {f : α → Value} {d : α} {w : World} {base n c : Nat} {E : TypeId} {A : Option Addr} {xs : List α} (h : w.ownsRow base E 1 (.slice A n c) n (xs.map f)) : RC f d w w.heap.size A xs := by
  by_cases hx : xs = []
  · exact .inl hx
  · have hn : n = xs.length := by have := h.1; simpa using this.symm
    have hp : 0 < xs.length := List.length_pos_iff.2 hx
    rcases h.2 with ⟨_, h0⟩ | ⟨g, cap, cur, hv, hg0, hg, h1, h2, h3, h4⟩
    · omega
    · injection hv with hA _ _
      refine .inr ⟨g, 0, hA, lt_of_block hg, fun i hi => ?_⟩
      have hlt : i < cur.size := by omega
      have e1 : w.cell? ⟨g, 0 + i, none⟩ = cur[i]? := by simp [World.cell?, hg]
      rw [e1]
      have e2 : (xs.map f)[i]? = cur.toList[i]? := by rw [← h4, List.getElem?_take]; simp; omega
      rw [← Array.getElem?_toList, ← e2]
      simp [List.getD, hi]

/-- A block that was made whole: it reads as it was made. -/
theorem rc_new {α : Type} {f : α → Value} {d : α} (w : World) (xs : List α) (T : TypeId) : RC f d (w.alloc (.cells (xs.map f).toArray T)) (w.heap.size + 1) (some ⟨w.heap.size, 0, none⟩) xs :=
  .inr ⟨_, _, rfl, by omega, fun i hi => by
    rw [World.cell?_alloc_at _ _ _ _ rfl]
    simp [List.getD, hi]⟩

section
variable {P : Program} {T E : TypeId} {i0 : TypeInfo} {z : Value} {by_ : Nat}
/-- append of all elements of a slice onto a row of the call's own. -/
theorem app_all {α : Type} (w : World) {ops : Array Oper} {rest : List Oper} {o : Oper} {a : Act} {Q : Exit → Act → World → Prop} (hgd : o.guard = none) (s x : Operand)
    (ho : o.op = .call { callee := .builtin .append, args := #[s, x], argTypes := #[T, T] }) (hT : P.underlying T = some (.slice E)) (hi0 : P.info? E = some i0) (hz0 : i0.zero = some z) (hz1 : i0.size = 1) (hz2 : i0.bytes = by_) (hzc : z.cells.size = 1)
    (base : Nat) (v : Value) (n : Nat) (vs : List Value) (hs : a.eval s = v)
    (hown : w.ownsRow base E 1 v n vs) (f : α → Value) (d : α) (hf : ∀ y, (f y).oneCell' = true) (B : Nat) (A : Option Addr) (m c : Nat) (xs : List α) (hx : a.eval x = .slice A m c) (hr : RC f d w B A xs) (hm : xs.length = m)
    (h63 : n + m ≤ maxLen) (hby : (n + m) * by_ ≤ 140737488355328) (hbase : base ≤ w.heap.size)
    (h : ∀ v' w', w'.ownsRow base E 1 v' (n + m) (vs ++ xs.map f) → w.grownBy w' v.ownBlock → (v'.ownBlock = v.ownBlock ∨ v'.ownBlock = some w.heap.size) → wpList P ops Q rest (a.put o.dst v') w') :
    wpList P ops Q (o :: rest) a w := by
  rcases A with _ | ad
  · have hnil : xs = [] := by
      rcases hr with e | ⟨b, off, e, _⟩
      · exact e
      · cases e
    subst hnil
    simp only [List.length_nil] at hm
    subst hm
    have hrun : (Builtin.append_ #[T, T] o.type #[v, .slice none 0 c]).run P w = .ok v w := by
      rcases hown.2 with ⟨rfl, rfl⟩ | ⟨g, cap, cur, rfl, _, _, hnc, _⟩
      · simp [Builtin.append_, run_underlying hT, sizeOf, typeInfo, hi0, Builtin.lenOf, Builtin.firstCells]
      · simp [Builtin.append_, run_underlying hT, sizeOf, typeInfo, hi0, Builtin.lenOf, Builtin.firstCells, hnc, storeCells]
    refine wpList_plain hgd fun K hK => ?_
    unfold Oper.wp execOp
    simp only [ho, resolve, invoke, builtin, Sem.run_bind, Sem.run_pure, Result.andThen_ok, List.map_toArray, List.map_cons, List.map_nil, hs, hx, hrun]
    exact hK _ _ (h v w (by simpa using hown) ⟨rfl, rfl, rfl, Nat.le_refl _, fun _ _ _ => rfl⟩ (.inl rfl))
  · refine wpList_append_own_at (P := P) w hgd s x T ho base E i0 z 1 by_ hT hi0 hz0 hz1 hz2 hzc (by decide) v n vs hs hown ad m c (xs.map f) hx (by simp [hm]) ?_ ?_ h63 hby hbase fun v' w' h1 h2 _ h4 => h v' w' h1 h2 h4
    · intro j u hj
      rcases hr with e | ⟨b, off, e, _, hc⟩
      · subst e; simp at hj
      · injection e with e
        subst e
        have hj' : j < xs.length := by
          rcases Nat.lt_or_ge j xs.length with h' | h'
          · exact h'
          · rw [List.getElem?_eq_none (by simpa using h')] at hj; cases hj
        have e2 : (⟨b, off, none⟩ : Addr).add j = ⟨b, off + j, none⟩ := by unfold Addr.add; split <;> simp_all
        rw [e2, hc j hj']
        simp [List.getD, hj'] at hj ⊢
        exact hj
    · intro u hu
      obtain ⟨y, _, rfl⟩ := List.mem_map.1 hu
      exact hf y

/-- append of one element onto a row of the call's own. -/
theorem app_one (w : World) {ops : Array Oper} {rest : List Oper} {o : Oper} {a : Act} {Q : Exit → Act → World → Prop} (hgd : o.guard = none) (s x : Operand)
    (ho : o.op = .call { callee := .builtin .append, args := #[s, x], argTypes := #[T, T] }) (hT : P.underlying T = some (.slice E)) (hi0 : P.info? E = some i0) (hz0 : i0.zero = some z) (hz1 : i0.size = 1) (hz2 : i0.bytes = by_) (hzc : z.cells.size = 1)
    (base : Nat) (v : Value) (n : Nat) (vs : List Value) (u : Value) (hs : a.eval s = v) (hown : w.ownsRow base E 1 v n vs) (hu : u.oneCell' = true) (g : Nat) (hg : g = w.heap.size) (hx : a.eval x = .slice (some ⟨g, 0, none⟩) 1 1)
    (h63 : n ≤ 1000000) (hb : by_ ≤ 100) (hbase : base ≤ w.heap.size)
    (h : ∀ v' w', w'.ownsRow base E 1 v' (n + 1) (vs ++ [u]) → (w.alloc (.cells #[u] E)).grownBy w' v.ownBlock → (∀ B, (∀ b, v.ownBlock = some b → B ≤ b) → B ≤ w.heap.size → Below B w w') →
      (v'.ownBlock = v.ownBlock ∨ v'.ownBlock = some (w.heap.size + 1)) → wpList P ops Q rest (a.put o.dst v') w') :
    wpList P ops Q (o :: rest) a (w.alloc (.cells #[u] E)) := by
  subst hg
  have hmul : (n + 1) * by_ ≤ 1000001 * 100 := Nat.mul_le_mul (by omega) hb
  refine wpList_append_own_at (P := P) _ hgd s x T ho base E i0 z 1 by_ hT hi0 hz0 hz1 hz2 hzc (by decide) v n vs hs (hown.alloc _) ⟨w.heap.size, 0, none⟩ 1 1 [u] hx rfl (cell_one_new _ _ _) (by simpa using hu) (by unfold maxLen; omega) (by omega) (by simp; omega) fun v' w' h1 h2 _ h4 => ?_
  exact h v' w' h1 h2 (fun B hv hB => ((Below.refl B w).alloc hB _).grown h2 (by simp; omega) hv) (by simpa using h4)
end

abbrev RI (w : World) (B : Nat) (A : Option Addr) (xs : List Int) : Prop := RC (Value.int .i64) 0 w B A xs
abbrev RS (w : World) (B : Nat) (A : Option Addr) (xs : List ByteArray) : Prop := RC Value.string ⟨#[]⟩ w B A xs

/-- Integers that came in. -/
def IntsIn (l : List Int) : Prop := ∀ k ∈ l, -9223372036854775808 ≤ k ∧ k ≤ 9223372036854775807
theorem IntsIn.take {l : List Int} (h : IntsIn l) (n : Nat) : IntsIn (l.take n) := fun k hk => h k (List.mem_of_mem_take hk)
theorem IntsIn.getD {l : List Int} (h : IntsIn l) (i : Nat) : -9223372036854775808 ≤ l.getD i 0 ∧ l.getD i 0 ≤ 9223372036854775807 := by
  by_cases hi : i < l.length
  · have e : l.getD i 0 = l[i] := by simp [List.getD, hi]
    rw [e]; exact h _ (List.getElem_mem hi)
  · have e : l.getD i 0 = 0 := by simp [List.getD, List.getElem?_eq_none (show l.length ≤ i by omega)]
    rw [e]; omega

theorem row_ri {w : World} {a : Option Addr} {len cap : Nat} {zs : List Int} (h : Row .i64 w a len cap zs) : ∃ xs, xs.length = len ∧ len ≤ cap ∧ cap ≤ maxLen ∧ RI w w.heap.size a xs ∧ IntsIn xs := by
  rcases h with ⟨rfl, rfl, rfl, rfl⟩ | ⟨x, rfl, hl, hm, hz, hc, hw⟩
  · exact ⟨[], rfl, Nat.le_refl _, by simp [maxLen], .inl rfl, fun k hk => by cases hk⟩
  · refine ⟨zs.take len, by rw [List.length_take]; omega, hl, hm, ?_, fun y hy => bounds_i64 (hw y (List.mem_of_mem_take hy))⟩
    by_cases h0 : len = 0
    · subst h0; exact .inl rfl
    · obtain ⟨b, off, spot⟩ := x
      have hspot : spot = none := by simpa [Addr.add] using World.cell?_spot (hc 0 (by omega))
      subst hspot
      refine .inr ⟨b, off, rfl, by simpa [Addr.add] using block_lt (hc 0 (by omega)), fun i hi => ?_⟩
      rw [List.length_take] at hi
      have e : (⟨b, off, none⟩ : Addr).add i = ⟨b, off + i, none⟩ := by unfold Addr.add; split <;> simp_all
      rw [← e, hc i (by omega)]
      simp [List.getD, show i < len by omega]

theorem own_kept {w w' : World} {base n : Nat} {e : TypeId} {size : Nat} {v : Value} {vs : List Value} {row : Option Nat} (h : w.ownsRow base e size v n vs) (hg : w.grownBy w' row) (hne : v.ownBlock = none ∨ v.ownBlock ≠ row) : w'.ownsRow base e size v n vs := h.kept hg hne

theorem ret1 {k : IntKind} {a b : Int} (h : a = b) : Ending.returned (.int k a) = .returned (.int k b) := by rw [h]

theorem bcell {W w1 : World} (hb : Below W.heap.size W w1) : (∀ b o, b < W.heap.size → w1.cell? ⟨b, o, none⟩ = W.cell? ⟨b, o, none⟩) ∧ (∀ b o, b < W.heap.size → w1.frozen? ⟨b, o, none⟩ = W.frozen? ⟨b, o, none⟩) :=
  ⟨fun b o h => hb.cell (p := ⟨b, o, none⟩) h, fun b o h => hb.frozen (p := ⟨b, o, none⟩) h⟩

end Go.Proofs.YtmknghhgcecafaaDoor.MemC

/-
  Words of no layer: a region that draws its order, by an invariant: which operations have run, what each left, and the world.
-/
namespace Go.Proofs.YtmknghhgcecafaaDoor.Mem
set_option linter.unusedVariables false

variable {P : Program} {Q : Exit → Act → World → Prop}
def updL (L : Nat → Bool) (i : Nat) : Nat → Bool := fun j => if j = i then true else L j
def lstd (listed : Array Bool) : Nat → Bool := fun j => listed.getD j false
theorem lstd_set {listed : Array Bool} {i : Nat} (h : i < listed.size) : lstd (listed.setIfInBounds i true) = updL (lstd listed) i := by
  funext j
  simp only [lstd, updL]
  by_cases e : j = i
  · subst e; simp [h]
  · rw [if_neg e, getD_set_ne false (Ne.symm e)]
/-- What is asked of operation i. -/
def StepsV (P : Program) (l : List Oper) (Q : Exit → Act → World → Prop) (Inv : (Nat → Bool) → (Nat → Value) → World → Prop) (L : Nat → Bool) (x : Nat → Value) (a : Act) (W : World) : Nat → List Oper → Prop
  | _, [] => True
  | i, o :: os => (L i = false → (∀ j, (o.after.any fun e => Region.binds .any e && e.on == j) = true → L j = true) → ∀ K : Act → World → Prop, Shut (∀ v W', Inv (updL L i) (updX x i v) W' → K (a.put o.dst v) W') → wantOp P l Q o K a W) ∧ StepsV P l Q Inv L x a W (i + 1) os
theorem StepsV.get {l : List Oper} {Inv : (Nat → Bool) → (Nat → Value) → World → Prop} {L : Nat → Bool} {x : Nat → Value} {a : Act} {W : World} : ∀ (os : List Oper) (k i : Nat) (o : Oper), StepsV P l Q Inv L x a W k os → os[i]? = some o →
    (L (k + i) = false → (∀ j, (o.after.any fun e => Region.binds .any e && e.on == j) = true → L j = true) → ∀ K : Act → World → Prop, Shut (∀ v W', Inv (updL L (k + i)) (updX x (k + i) v) W' → K (a.put o.dst v) W') → wantOp P l Q o K a W)
  | [], _, _, _, _, h => by simp at h
  | p :: os, k, 0, o, hs, h => by
    simp only [List.getElem?_cons_zero, Option.some.injEq] at h
    subst h
    exact hs.1
  | p :: os, k, i + 1, o, hs, h => by
    have := StepsV.get os (k + 1) i o hs.2 (by simpa using h)
    rwa [show k + 1 + i = k + (i + 1) by omega] at this

theorem inv_any {l : List Oper} {Inv : (Nat → Bool) → (Nat → Value) → World → Prop} {a0 : Act} (hn : (dsts l).Nodup) (he : edgesBack l = true)
    (hsteps : ∀ L x W, Inv L x W → ∀ a, a = (⟨fillA x 0 l a0.tmps, a0.defers⟩ : Act) → StepsV P l Q Inv L x a W 0 l)
    (hdone : ∀ L x W, Inv L x W → (∀ i, i < l.length → L i = true) → ∀ a, a = (⟨fillA x 0 l a0.tmps, a0.defers⟩ : Act) → Q .normal a W) :
    ∀ (fuel : Nat) (listed : Array Bool) (x : Nat → Value) (a : Act) (W : World), listed.size = l.length → unl listed l.length = fuel → a = ⟨fillA x 0 l a0.tmps, a0.defers⟩ → Inv (lstd listed) x W →
      wpAny P .any l.toArray Q fuel listed a W := by
  have all : ∀ listed : Array Bool, Region.ready .any l.toArray listed = [] → ∀ i, i < l.length → listed.getD i true = true := by
    intro listed hr i
    induction i using Nat.strongRecOn with
    | _ i ih =>
      intro hi
      by_cases hl : listed.getD i true = true
      · exact hl
      · exfalso
        have hm : i ∈ Region.ready .any l.toArray listed := mem_ready.2 ⟨by simpa using hl, l[i], by simp [hi], fun e hm hb => by
          have h1 := List.all_eq_true.1 he i (List.mem_range.2 hi)
          simp only [List.getElem?_eq_getElem hi] at h1
          have h2 := Array.all_eq_true_iff_forall_mem.1 h1 e hm
          simp only [hb, Bool.not_true, Bool.false_or, decide_eq_true_eq] at h2
          have h3 := ih e.on h2 (by omega)
          rcases Nat.lt_or_ge e.on listed.size with h' | h'
          · simpa [h'] using h3
          · exfalso
            have h4 : listed.getD i true = true := by simp [Array.getElem?_eq_none (show listed.size ≤ i by omega)]
            exact hl h4⟩
        rw [hr] at hm
        cases hm
  intro fuel
  induction fuel with
  | zero =>
    intro listed x a W hsz hf ha hT
    have hall := unl_none hf
    refine ⟨?_, hdone _ x W hT (fun i hi => by have := hall i hi; simpa [lstd, hsz, hi] using this) a ha⟩
    cases hr : Region.ready .any l.toArray listed with
    | nil => rfl
    | cons i rs =>
      exfalso
      obtain ⟨h0, o, ho, _⟩ := mem_ready.1 (show i ∈ Region.ready .any l.toArray listed by rw [hr]; exact List.mem_cons_self ..)
      have hi : i < l.length := by
        have := (Array.getElem?_eq_some_iff.1 ho).1
        simpa using this
      rw [hall i hi] at h0
      cases h0
  | succ fuel ih =>
    intro listed x a W hsz hf ha hT
    refine ⟨fun hr => hdone _ x W hT (fun i hi => by have := all listed hr i hi; simpa [lstd, hsz, hi] using this) a ha, fun i hi => ?_⟩
    obtain ⟨h0, o, ho, hdep⟩ := mem_ready.1 hi
    have ho' : l[i]? = some o := by simpa using ho
    have hil : i < l.length := (List.getElem?_eq_some_iff.1 ho').1
    have hst := StepsV.get l 0 i o (hsteps _ x W hT a ha) ho' (by rw [Nat.zero_add]; simpa [lstd, hsz, hil] using h0) (fun j hj => by
      rw [← Array.any_toList, List.any_eq_true] at hj
      obtain ⟨e, hm0, hb⟩ := hj
      have hm : e ∈ o.after := Array.mem_toList_iff.1 hm0
      simp only [Bool.and_eq_true, beq_iff_eq] at hb
      have h1 := hdep e hm hb.1
      rw [hb.2] at h1
      exact h1)
      (fun a' W' => wpAny P .any l.toArray Q fuel (listed.setIfInBounds i true) a' W')
      (by
        intro v W' hv
        rw [Nat.zero_add, ← lstd_set (by omega)] at hv
        refine ih (listed.setIfInBounds i true) (updX x i v) _ W' (by simp [hsz]) (by have := unl_set h0 hil; omega) ?_ hv
        · rw [ha]
          cases hd : o.dst with
          | none =>
            simp only [Act.put]
            congr 1
            have key : ∀ (os : List Oper) (k m : Nat) (t : Array Value), os[m]? = some o → fillA (updX x (k + m) v) k os t = fillA x k os t := by
              intro os
              induction os with
              | nil => intro k m t h; rfl
              | cons p os ihs =>
                intro k m t h
                cases m with
                | zero =>
                  simp only [List.getElem?_cons_zero, Option.some.injEq] at h
                  subst h
                  simp only [fillA, hd]
                  exact fillA_congr os (k + 1) _ fun j hj => by simp only [updX]; rw [if_neg (by omega)]
                | succ m =>
                  simp only [fillA]
                  have e1 : updX x (k + (m + 1)) v k = x k := by simp only [updX]; rw [if_neg (by omega)]
                  rw [e1, show k + (m + 1) = k + 1 + m by omega]
                  exact ihs (k + 1) m _ (by simpa using h)
            have := key l 0 i a0.tmps ho'
            rw [Nat.zero_add] at this
            exact this.symm
          | some d =>
            simp only [Act.put]
            congr 1
            have := fillA_upd (x := x) (v := v) l 0 i o a0.tmps hn ho' hd
            rw [Nat.zero_add] at this
            exact this.symm)
    unfold wantOp at hst
    unfold wpOp
    simp only [ho]
    split
    · rename_i hw
      rw [if_pos hw] at hst
      exact .inl hst
    · rename_i hw
      rw [if_neg hw] at hst
      exact hst

/-- A REGION THAT DRAWS ITS ORDER, BY AN INVARIANT. -/
theorem region_inv {id : Nat} {l : List Oper} {a0 : Act} {w : World} (Inv : (Nat → Bool) → (Nat → Value) → World → Prop) (hm : P.follows .mixedOrders = true) (hn : (dsts l).Nodup) (he : edgesBack l = true)
    (h0 : Inv (fun _ => false) (asIs l a0.tmps) w.drew)
    (hsteps : ∀ L x W, Inv L x W → ∀ a, a = (⟨fillA x 0 l a0.tmps, a0.defers⟩ : Act) → StepsV P l Q Inv L x a W 0 l)
    (hdone : ∀ L x W, Inv L x W → (∀ i, i < l.length → L i = true) → ∀ a, a = (⟨fillA x 0 l a0.tmps, a0.defers⟩ : Act) → Q .normal a W) :
    (Code.region id l.toArray true).wp P Q a0 w := by
  refine wp_region_any hm (inv_any (a0 := a0) hn he hsteps hdone l.toArray.size (Array.replicate l.toArray.size false) (asIs l a0.tmps) a0 w.drew (by simp) ?_ ?_ ?_)
  · simpa using unl_false l.length l.length (Nat.le_refl _)
  · rw [fillA_start]
  · have e : lstd (Array.replicate l.toArray.size false) = fun _ => false := by
      funext j
      simp only [lstd]
      by_cases h : j < l.length
      · simp [h]
      · simp [h]
    rw [e]; exact h0
end Go.Proofs.YtmknghhgcecafaaDoor.Mem

/-
  Words of no layer: a region that draws its order, some of whose operations (the writers) turn the world from phase to phase: G says how the world is, by which operations are done and what they left.
-/
namespace Go.Proofs.YtmknghhgcecafaaDoor.Mem
set_option linter.unusedVariables false

/-- Does operation s wait for operation i? -/
def waitsP (l : List Oper) (s i : Nat) : Bool := ((l[s]?).map fun o => o.after.any fun e => Region.binds .any e && e.on == i).getD false
def setD (d : Nat → Bool) (i : Nat) : Nat → Bool := fun j => if j = i then true else d j
/-- What is asked of operation i. -/
def StepP (P : Program) (l : List Oper) (Q : Exit → Act → World → Prop) (ws : List Nat) (G : (Nat → Bool) → (Nat → Value) → World → Prop) {T : World → World → Prop} (Φ : List (Cd T)) (x : Nat → Value) (a : Act) (W : World) (i : Nat) (o : Oper) : Prop :=
  ∀ d : Nat → Bool, d i = false → (∀ j, waitsP l i j = true → d j = true) → (∀ k j, d k = true → waitsP l k j = true → d j = true) → (∀ j, d j = true → (atC Φ j).p (x j) W) → G d x W →
  ∀ K : Act → World → Prop, Shut (∀ v W', (if ws.contains i = true then T W W' ∧ G (setD d i) (updX x i v) W' else RowKit.Below W.heap.size W W') → (atC Φ i).p v W' → K (a.put o.dst v) W') → wantOp P l Q o K a W
def StepsP (P : Program) (l : List Oper) (Q : Exit → Act → World → Prop) (ws : List Nat) (G : (Nat → Bool) → (Nat → Value) → World → Prop) {T : World → World → Prop} (Φ : List (Cd T)) (x : Nat → Value) (a : Act) (W : World) : Nat → List Oper → Prop
  | _, [] => True
  | i, o :: os => StepP P l Q ws G Φ x a W i o ∧ StepsP P l Q ws G Φ x a W (i + 1) os
variable {P : Program} {Q : Exit → Act → World → Prop}
theorem StepsP.get {l : List Oper} {ws : List Nat} {G : (Nat → Bool) → (Nat → Value) → World → Prop} {T : World → World → Prop} {Φ : List (Cd T)} {x : Nat → Value} {a : Act} {W : World} : ∀ (os : List Oper) (k i : Nat) (o : Oper), StepsP P l Q ws G Φ x a W k os → os[i]? = some o → StepP P l Q ws G Φ x a W (k + i) o
  | [], _, _, _, _, h => by simp at h
  | p :: os, k, 0, o, hs, h => by
    simp only [List.getElem?_cons_zero, Option.some.injEq] at h
    subst h
    exact hs.1
  | p :: os, k, i + 1, o, hs, h => by
    have := StepsP.get os (k + 1) i o hs.2 (by simpa using h)
    rwa [show k + 1 + i = k + (i + 1) by omega] at this

def doneOf (n : Nat) (listed : Array Bool) : Nat → Bool := fun j => decide (j < n) && listed.getD j true
theorem ph_any {l : List Oper} {ws : List Nat} {G : (Nat → Bool) → (Nat → Value) → World → Prop} {T : World → World → Prop} {Φ : List (Cd T)} {a0 : Act} {w1 : World} (hn : (dsts l).Nodup) (he : edgesBack l = true) (htr : ∀ W1 W2 W3, T W1 W2 → T W2 W3 → T W1 W3)
    (hTB : ∀ W W', RowKit.Below W.heap.size W W' → T W W')
    (hG : ∀ d d' x x' W W', (∀ j, ws.contains j = true → d' j = d j ∧ (d j = true → x' j = x j)) → RowKit.Below W.heap.size W W' → G d x W → G d' x' W')
    (hsteps : ∀ x W, T w1 W → ∀ a, a = (⟨fillA x 0 l a0.tmps, a0.defers⟩ : Act) → StepsP P l Q ws G Φ x a W 0 l)
    (hdone : ∀ d x W, T w1 W → (∀ i, i < l.length → d i = true) → (∀ i, i < l.length → (atC Φ i).p (x i) W) → G d x W → ∀ a, a = (⟨fillA x 0 l a0.tmps, a0.defers⟩ : Act) → Q .normal a W) :
    ∀ (fuel : Nat) (listed : Array Bool) (x : Nat → Value) (a : Act) (W : World), unl listed l.length = fuel → a = ⟨fillA x 0 l a0.tmps, a0.defers⟩ → T w1 W → (∀ i, i < l.length → listed.getD i true = true → (atC Φ i).p (x i) W) →
      (∀ k j, doneOf l.length listed k = true → waitsP l k j = true → doneOf l.length listed j = true) → G (doneOf l.length listed) x W →
      wpAny P .any l.toArray Q fuel listed a W := by
  have all : ∀ listed : Array Bool, Region.ready .any l.toArray listed = [] → ∀ i, i < l.length → listed.getD i true = true := by
    intro listed hr i
    induction i using Nat.strongRecOn with
    | _ i ih =>
      intro hi
      by_cases hl : listed.getD i true = true
      · exact hl
      · exfalso
        have hm : i ∈ Region.ready .any l.toArray listed := mem_ready.2 ⟨by simpa using hl, l[i], by simp [hi], fun e hm hb => by
          have h1 := List.all_eq_true.1 he i (List.mem_range.2 hi)
          simp only [List.getElem?_eq_getElem hi] at h1
          have h2 := Array.all_eq_true_iff_forall_mem.1 h1 e hm
          simp only [hb, Bool.not_true, Bool.false_or, decide_eq_true_eq] at h2
          have h3 := ih e.on h2 (by omega)
          rcases Nat.lt_or_ge e.on listed.size with h' | h'
          · simpa [h'] using h3
          · exfalso
            have h4 : listed.getD i true = true := by simp [Array.getElem?_eq_none (show listed.size ≤ i by omega)]
            exact hl h4⟩
        rw [hr] at hm
        cases hm
  intro fuel
  induction fuel with
  | zero =>
    intro listed x a W hf ha hT hx hcl hg
    have hall := unl_none hf
    refine ⟨?_, hdone _ x W hT (fun i hi => by simp only [doneOf, hi, decide_true, Bool.true_and]; exact hall i hi) (fun i hi => hx i hi (hall i hi)) hg a ha⟩
    cases hr : Region.ready .any l.toArray listed with
    | nil => rfl
    | cons i rs =>
      exfalso
      obtain ⟨h0, o, ho, _⟩ := mem_ready.1 (show i ∈ Region.ready .any l.toArray listed by rw [hr]; exact List.mem_cons_self ..)
      have hi : i < l.length := by
        have := (Array.getElem?_eq_some_iff.1 ho).1
        simpa using this
      rw [hall i hi] at h0
      cases h0
  | succ fuel ih =>
    intro listed x a W hf ha hT hx hcl hg
    refine ⟨fun hr => hdone _ x W hT (fun i hi => by simp only [doneOf, hi, decide_true, Bool.true_and]; exact all listed hr i hi) (fun i hi => hx i hi (all listed hr i hi)) hg a ha, fun i hi => ?_⟩
    obtain ⟨h0, o, ho, hdep⟩ := mem_ready.1 hi
    have ho' : l[i]? = some o := by simpa using ho
    have hil : i < l.length := (List.getElem?_eq_some_iff.1 ho').1
    have hdi : doneOf l.length listed i = false := by simp only [doneOf, hil, decide_true, Bool.true_and]; exact h0
    have hwd : ∀ j, waitsP l i j = true → doneOf l.length listed j = true := fun j hj => by
      unfold waitsP at hj
      simp only [ho', Option.map_some, Option.getD_some] at hj
      rw [← Array.any_toList, List.any_eq_true] at hj
      obtain ⟨e, hm0, hb⟩ := hj
      have hm : e ∈ o.after := Array.mem_toList_iff.1 hm0
      simp only [Bool.and_eq_true, beq_iff_eq] at hb
      have h1 := hdep e hm hb.1
      rw [hb.2] at h1
      have hjl : j < listed.size := by
        rcases Nat.lt_or_ge j listed.size with h' | h'
        · exact h'
        · simp [Array.getElem?_eq_none h'] at h1
      have h2 := List.all_eq_true.1 he i (List.mem_range.2 hil)
      simp only [ho'] at h2
      have h3 := Array.all_eq_true_iff_forall_mem.1 h2 e hm
      simp only [hb.1, Bool.not_true, Bool.false_or, decide_eq_true_eq] at h3
      have hj' : j < l.length := by omega
      simp only [doneOf, hj', decide_true, Bool.true_and]
      simpa [hjl] using h1
    have hset : ∀ j, doneOf l.length (listed.setIfInBounds i true) j = setD (doneOf l.length listed) i j := fun j => by
      unfold doneOf setD
      by_cases hji : j = i
      · subst hji
        have hs : j < listed.size := by
          rcases Nat.lt_or_ge j listed.size with h' | h'
          · exact h'
          · simp [Array.getElem?_eq_none h'] at h0
        simp [hil, hs]
      · rw [if_neg hji, getD_set_ne true (Ne.symm hji)]
    have hfill : ∀ v, a.put o.dst v = ⟨fillA (updX x i v) 0 l a0.tmps, a0.defers⟩ := fun v => by
      rw [ha]
      cases hd : o.dst with
      | none =>
        simp only [Act.put]
        congr 1
        have key : ∀ (os : List Oper) (k m : Nat) (t : Array Value), os[m]? = some o → fillA (updX x (k + m) v) k os t = fillA x k os t := by
          intro os
          induction os with
          | nil => intro k m t h; rfl
          | cons p os ihs =>
            intro k m t h
            cases m with
            | zero =>
              simp only [List.getElem?_cons_zero, Option.some.injEq] at h
              subst h
              simp only [fillA, hd]
              exact fillA_congr os (k + 1) _ fun j hj => by simp only [updX]; rw [if_neg (by omega)]
            | succ m =>
              simp only [fillA]
              have e1 : updX x (k + (m + 1)) v k = x k := by simp only [updX]; rw [if_neg (by omega)]
              rw [e1, show k + (m + 1) = k + 1 + m by omega]
              exact ihs (k + 1) m _ (by simpa using h)
        have := key l 0 i a0.tmps ho'
        rw [Nat.zero_add] at this
        exact this.symm
      | some d =>
        simp only [Act.put]
        congr 1
        have := fillA_upd (x := x) (v := v) l 0 i o a0.tmps hn ho' hd
        rw [Nat.zero_add] at this
        exact this.symm
    have hst := StepsP.get l 0 i o (hsteps x W hT a ha) ho' (doneOf l.length listed) (by rw [Nat.zero_add]; exact hdi) (by rw [Nat.zero_add]; exact hwd) hcl
      (fun j hj => by
        simp only [doneOf, Bool.and_eq_true, decide_eq_true_eq] at hj
        exact hx j hj.1 hj.2) hg
      (fun a' W' => wpAny P .any l.toArray Q fuel (listed.setIfInBounds i true) a' W')
      (by
        intro v W' hTW hv
        rw [Nat.zero_add] at hv hTW
        have hTW' : T W W' := by
          split at hTW
          · exact hTW.1
          · exact hTB _ _ hTW
        have hde : doneOf l.length (listed.setIfInBounds i true) = setD (doneOf l.length listed) i := funext hset
        refine ih (listed.setIfInBounds i true) (updX x i v) _ W' (by have := unl_set h0 hil; omega) (hfill v) (htr _ _ _ hT hTW') (fun j hj hl => ?_) (fun k j hk hw => ?_) ?_
        · by_cases hji : j = i
          · subst hji
            simpa [updX] using hv
          · have e1 : updX x i v j = x j := by simp only [updX]; rw [if_neg hji]
            rw [e1]
            rw [getD_set_ne true (Ne.symm hji)] at hl
            exact (atC Φ j).mono _ _ _ hTW' (hx j hj hl)
        · rw [hde] at hk ⊢
          unfold setD at hk ⊢
          by_cases hji : j = i
          · rw [if_pos hji]
          · rw [if_neg hji]
            by_cases hki : k = i
            · subst hki; exact hwd j hw
            · rw [if_neg hki] at hk; exact hcl k j hk hw
        · rw [hde]
          split at hTW
          · exact hTW.2
          · rename_i hns
            refine hG _ _ _ _ _ _ (fun j hj => ?_) hTW hg
            have hji : j ≠ i := fun e => hns (e ▸ hj)
            exact ⟨by unfold setD; rw [if_neg hji], fun _ => by simp only [updX]; rw [if_neg hji]⟩)
    unfold wantOp at hst
    unfold wpOp
    simp only [ho]
    split
    · rename_i hw
      rw [if_pos hw] at hst
      exact .inl hst
    · rename_i hw
      rw [if_neg hw] at hst
      exact hst

/-- A REGION THAT DRAWS ITS ORDER, BY PHASES. -/
theorem region_ph {id : Nat} {l : List Oper} {a0 : Act} {w : World} (ws : List Nat) (G : (Nat → Bool) → (Nat → Value) → World → Prop) (T : World → World → Prop) (Φ : List (Cd T)) (hm : P.follows .mixedOrders = true) (hn : (dsts l).Nodup) (he : edgesBack l = true)
    (hrf : T w.drew w.drew) (htr : ∀ W1 W2 W3, T W1 W2 → T W2 W3 → T W1 W3)
    (hTB : ∀ W W', RowKit.Below W.heap.size W W' → T W W')
    (hG : ∀ d d' x x' W W', (∀ j, ws.contains j = true → d' j = d j ∧ (d j = true → x' j = x j)) → RowKit.Below W.heap.size W W' → G d x W → G d' x' W')
    (hG0 : ∀ x, G (fun _ => false) x w.drew)
    (hsteps : ∀ x W, T w.drew W → ∀ a, a = (⟨fillA x 0 l a0.tmps, a0.defers⟩ : Act) → StepsP P l Q ws G Φ x a W 0 l)
    (hdone : ∀ d x W, T w.drew W → (∀ i, i < l.length → d i = true) → (∀ i, i < l.length → (atC Φ i).p (x i) W) → G d x W → ∀ a, a = (⟨fillA x 0 l a0.tmps, a0.defers⟩ : Act) → Q .normal a W) :
    (Code.region id l.toArray true).wp P Q a0 w := by
  have hdf : doneOf l.length (Array.replicate l.toArray.size false) = fun _ => false := by
    funext j
    unfold doneOf
    by_cases hj : j < l.length
    · simp [hj]
    · simp [hj]
  refine wp_region_any hm (ph_any (a0 := a0) (w1 := w.drew) (Φ := Φ) hn he htr hTB hG hsteps hdone l.toArray.size (Array.replicate l.toArray.size false) (asIs l a0.tmps) a0 w.drew ?_ ?_ hrf ?_ ?_ ?_)
  · simpa using unl_false l.length l.length (Nat.le_refl _)
  · rw [fillA_start]
  · intro i hi h
    exfalso
    simp [hi] at h
  · intro k j hk
    rw [hdf] at hk
    cases hk
  · rw [hdf]
    exact hG0 _
end Go.Proofs.YtmknghhgcecafaaDoor.Mem

/-
  Words of no layer: several things of one's own (rows, variables, maps), no two of them in one block.
-/
namespace Go.Proofs.YtmknghhgcecafaaDoor.Mem
open Go.RowKit
set_option linter.unusedVariables false

/-- A thing of one's own: its block, what holds of it; it goes on holding while its block is left alone. -/
structure Thing where
  b : Option Nat
  H : World → Prop
  lt : ∀ w k, H w → b = some k → k < w.heap.size
  kept : ∀ w w' row, H w → w.grownBy w' row → (b = none ∨ b ≠ row) → H w'

/-- A row of elements of type e, sz cells each. -/
def rowT (e : TypeId) (sz : Nat) (v : Value) (n : Nat) (xs : List Value) : Thing :=
  ⟨v.ownBlock, fun w => w.ownsRow 0 e sz v n xs, fun _ k h hk => (h.lt k hk).2, fun _ _ _ h hg hne => h.kept hg hne⟩
/-- A variable of type e at block g. -/
def boxT (e : TypeId) (g : Nat) (xs : List Value) : Thing := rowT e xs.length (.slice (some ⟨g, 0, none⟩) 1 1) 1 xs

/-- Things of one's own, all from block B on, no two in one block. -/
structure Fam (w : World) (B : Nat) (R : List Thing) : Prop where
  h : ∀ t ∈ R, t.H w
  ge : ∀ t ∈ R, ∀ k, t.b = some k → B ≤ k
  ap : R.Pairwise fun s t => s.b = none ∨ s.b ≠ t.b
  B : B ≤ w.heap.size

section
variable {w w' : World} {B : Nat} {R : List Thing} {t t' : Thing} {i j : Nat}
theorem Fam.get (h : Fam w B R) (hi : R[i]? = some t) : t.H w := h.h t (List.mem_of_getElem? hi)
theorem Fam.lt (h : Fam w B R) (ht : t ∈ R) {k : Nat} (hk : t.b = some k) : B ≤ k ∧ k < w.heap.size := ⟨h.ge t ht k hk, t.lt w k (h.h t ht) hk⟩
theorem apart_symm {s t : Thing} (h : s.b = none ∨ s.b ≠ t.b) : t.b = none ∨ t.b ≠ s.b := by
  rcases h with h | h
  · cases ht : t.b with
    | none => exact .inl rfl
    | some k => exact .inr (by rw [h]; simp)
  · exact .inr fun e => h e.symm
theorem Fam.ne (h : Fam w B R) {s : Thing} (hi : R[i]? = some s) (hj : R[j]? = some t) (hij : i ≠ j) : s.b = none ∨ s.b ≠ t.b := by
  obtain ⟨hi', ei⟩ := List.getElem?_eq_some_iff.1 hi
  obtain ⟨hj', ej⟩ := List.getElem?_eq_some_iff.1 hj
  rcases Nat.lt_or_gt_of_ne hij with hlt | hlt
  · have := List.pairwise_iff_getElem.1 h.ap i j hi' hj' hlt
    rwa [ei, ej] at this
  · have := List.pairwise_iff_getElem.1 h.ap j i hj' hi' hlt
    rw [ei, ej] at this
    exact apart_symm this
theorem Fam.keptAll (h : Fam w B R) (hg : w.grownBy w' none) : Fam w' B R :=
  ⟨fun t ht => t.kept w w' none (h.h t ht) hg (by cases hb : t.b with | none => exact .inl rfl | some k => exact .inr (by simp)), h.ge, h.ap, Nat.le_trans h.B hg.size⟩
theorem grown_none {w w' : World} (h : Below w.heap.size w w') : w.grownBy w' none := ⟨h.os, h.tape, h.output, h.size, fun k hk _ => h.block k hk⟩
theorem Fam.later (h : Fam w B R) (hb : Below w.heap.size w w') : Fam w' B R := h.keptAll (grown_none hb)
/-- One of them is turned: its own block alone changes, or a new one is laid. -/
theorem Fam.set (h : Fam w B R) (hi : R[i]? = some t) (hg : w.grownBy w' t.b) (ht : t'.H w') (hb : t'.b = t.b ∨ t'.b = none ∨ ∃ k, t'.b = some k ∧ w.heap.size ≤ k) : Fam w' B (R.set i t') := by
  obtain ⟨hi', ei⟩ := List.getElem?_eq_some_iff.1 hi
  have hmem : t ∈ R := List.mem_of_getElem? hi
  refine ⟨fun s hs => ?_, fun s hs k hk => ?_, ?_, Nat.le_trans h.B hg.size⟩
  · obtain ⟨j, hj, e⟩ := List.getElem_of_mem hs
    rw [List.getElem_set] at e
    by_cases hji : i = j
    · rw [if_pos hji] at e; subst e; exact ht
    · rw [if_neg hji] at e
      have hj' : j < R.length := by simpa using hj
      have hjs : R[j]? = some s := by rw [List.getElem?_eq_getElem hj', e]
      exact s.kept w w' _ (h.get hjs) hg (h.ne hjs hi (fun e => hji e.symm))
  · rcases List.mem_or_eq_of_mem_set hs with hs | rfl
    · exact h.ge s hs k hk
    · rcases hb with hb | hb | ⟨k', hb, hk'⟩
      · exact h.ge t hmem k (hb ▸ hk)
      · rw [hb] at hk; cases hk
      · rw [hb] at hk; injection hk with hk; subst hk; exact Nat.le_trans h.B hk'
  · have new : ∀ s, s ∈ R → (∀ j, R[j]? = some s → j ≠ i → True) → ∀ j, R[j]? = some s → j ≠ i → (s.b = none ∨ s.b ≠ t'.b) := fun s hs _ j hj hji => by
      rcases hb with hb | hb | ⟨k', hb, hk'⟩
      · rw [hb]; exact h.ne hj hi hji
      · cases hsb : s.b with
        | none => exact .inl rfl
        | some k => exact .inr (by rw [hb]; simp)
      · cases hsb : s.b with
        | none => exact .inl rfl
        | some k =>
          have := s.lt w k (h.h s hs) hsb
          exact .inr (by rw [hb]; intro e; injection e with e; omega)
    rw [List.pairwise_iff_getElem]
    intro a c ha hc hac
    have ha' : a < R.length := by simpa using ha
    have hc' : c < R.length := by simpa using hc
    rw [List.getElem_set, List.getElem_set]
    by_cases hia : i = a
    · rw [if_pos hia, if_neg (by omega)]
      exact apart_symm (new _ (List.getElem_mem hc') (fun _ _ _ => trivial) c (List.getElem?_eq_getElem hc') (by omega))
    · rw [if_neg hia]
      by_cases hic : i = c
      · rw [if_pos hic]
        exact new _ (List.getElem_mem ha') (fun _ _ _ => trivial) a (List.getElem?_eq_getElem ha') (by omega)
      · rw [if_neg hic]
        exact List.pairwise_iff_getElem.1 h.ap a c ha' hc' hac
/-- One more, in a new block. -/
theorem Fam.snoc (h : Fam w B R) (hb : w.grownBy w' none) (ht : t.H w') (hn : ∀ k, t.b = some k → w.heap.size ≤ k) : Fam w' B (R ++ [t]) := by
  refine ⟨fun s hs => ?_, fun s hs k hk => ?_, ?_, Nat.le_trans h.B hb.size⟩
  · rcases List.mem_append.1 hs with hs | hs
    · exact (h.keptAll hb).h s hs
    · obtain rfl := List.mem_singleton.1 hs; exact ht
  · rcases List.mem_append.1 hs with hs | hs
    · exact h.ge s hs k hk
    · obtain rfl := List.mem_singleton.1 hs; exact Nat.le_trans h.B (hn k hk)
  · rw [List.pairwise_append]
    refine ⟨h.ap, List.pairwise_singleton _ _, fun s hs u hu => ?_⟩
    obtain rfl := List.mem_singleton.1 hu
    cases hsb : s.b with
    | none => exact .inl rfl
    | some k =>
      have := s.lt w k (h.h s hs) hsb
      refine .inr fun e => ?_
      have := hn k e.symm
      omega
/-- One more, ahead. -/
theorem Fam.cons (h : Fam w B R) (hb : w.grownBy w' none) (ht : t.H w') (hn : ∀ k, t.b = some k → w.heap.size ≤ k) : Fam w' B (t :: R) := by
  refine ⟨fun s hs => ?_, fun s hs k hk => ?_, ?_, Nat.le_trans h.B hb.size⟩
  · rcases List.mem_cons.1 hs with rfl | hs
    · exact ht
    · exact (h.keptAll hb).h s hs
  · rcases List.mem_cons.1 hs with rfl | hs
    · exact Nat.le_trans h.B (hn k hk)
    · exact h.ge s hs k hk
  · rw [List.pairwise_cons]
    refine ⟨fun s hs => ?_, h.ap⟩
    cases htb : t.b with
    | none => exact .inl rfl
    | some k =>
      cases hsb : s.b with
      | none => exact .inr (by simp)
      | some j =>
        have h1 := s.lt w j (h.h s hs) hsb
        have h2 := hn k htb
        exact .inr (by intro e; injection e with e; omega)
theorem Fam.perm {R' : List Thing} (h : Fam w B R) (hp : R.Perm R') : Fam w B R' :=
  ⟨fun t ht => h.h t (hp.symm.subset ht), fun t ht => h.ge t (hp.symm.subset ht), (hp.pairwise_iff (fun {a b} hab => apart_symm hab)).1 h.ap, h.B⟩
theorem Fam.sub {R' : List Thing} (h : Fam w B R) (hs : R'.Sublist R) : Fam w B R' := ⟨fun t ht => h.h t (hs.subset ht), fun t ht => h.ge t (hs.subset ht), h.ap.sublist hs, h.B⟩
theorem Fam.nil (w : World) : Fam w w.heap.size [] := ⟨fun t h => (by cases h), fun t h => (by cases h), List.Pairwise.nil, Nat.le_refl _⟩
theorem Fam.less {B' : Nat} (h : Fam w B R) (hB : B' ≤ B) : Fam w B' R := ⟨h.h, fun t ht k hk => Nat.le_trans hB (h.ge t ht k hk), h.ap, Nat.le_trans hB h.B⟩
theorem Fam.bel (h : Fam w B R) (hi : R[i]? = some t) (hg : w.grownBy w' t.b) : Below B w w' :=
  ⟨hg.os, hg.tape, hg.output, hg.size, fun k hk => hg.block k (Nat.lt_of_lt_of_le hk h.B) fun e => by have := h.ge t (List.mem_of_getElem? hi) k e.symm; omega⟩
/-- What is written below B. -/
theorem Fam.setLow (h : Fam w B R) {g : Nat} (hg : g < B) (j : Nat) (u : Value) : Fam (w.setCell ⟨g, j, none⟩ u) B R :=
  have hG : w.grownBy (w.setCell ⟨g, j, none⟩ u) (some g) := ⟨rfl, rfl, rfl, by simp, fun k _ hk => heap_setCell_other w ⟨g, j, none⟩ k u (fun e => hk (by simp [e]))⟩
  ⟨fun t ht => t.kept w _ (some g) (h.h t ht) hG (by cases hb : t.b with | none => exact .inl rfl | some k => exact .inr (by have := h.ge t ht k hb; intro e; injection e with e; omega)), h.ge, h.ap, Nat.le_trans h.B hG.size⟩
theorem set_here {w : World} {g : Nat} {cs : Array Value} {T : TypeId} (h : w.heap[g]? = some (.cells cs T (0, 0))) (i : Nat) (v : Value) : (w.setCell ⟨g, i, none⟩ v).heap[g]? = some (.cells (cs.setIfInBounds i v) T (0, 0)) :=
  heap_setCell_same w g i cs T v h
theorem Fam.drewN (h : Fam w B R) (n : Nat) : Fam (w.drewN n) B R := h.keptAll ⟨rfl, rfl, rfl, Nat.le_refl _, fun _ _ _ => rfl⟩
end

section
variable {w w' : World} {B : Nat} {R : List Thing} {i : Nat} {e : TypeId} {sz n c g : Nat} {v : Value} {xs : List Value}
/-- A row's cells. -/
theorem Fam.cell (h : Fam w B R) (hi : R[i]? = some (rowT e sz (.slice (some ⟨g, 0, none⟩) n c) n xs)) {j : Nat} {u : Value} (hj : xs[j]? = some u) : w.cell? ⟨g, j, none⟩ = some u := by
  have ho : w.ownsRow 0 e sz (.slice (some ⟨g, 0, none⟩) n c) n xs := h.get hi
  rw [ho.cellAt j (by rw [← ho.1]; exact (List.getElem?_eq_some_iff.1 hj).1), hj]
theorem Fam.frz (h : Fam w B R) (hi : R[i]? = some (rowT e sz (.slice (some ⟨g, 0, none⟩) n c) n xs)) (j : Nat) : w.frozen? ⟨g, j, none⟩ = false :=
  (show w.ownsRow 0 e sz (.slice (some ⟨g, 0, none⟩) n c) n xs from h.get hi).frozenAt j
theorem Fam.slice (h : Fam w B R) (hi : R[i]? = some (rowT e sz v n xs)) : ∃ a c, v = .slice a n c ∧ n ≤ c ∧ c ≤ maxLen := by
  have ho : w.ownsRow 0 e sz v n xs := h.get hi
  rcases ho.2 with ⟨rfl, rfl⟩ | ⟨g, cap, cur, rfl, _, _, h1, h2, _⟩
  · exact ⟨none, 0, rfl, Nat.le_refl _, by unfold maxLen; omega⟩
  · exact ⟨_, cap, rfl, h1, h2⟩
theorem Fam.sliceAt (h : Fam w B R) (hi : R[i]? = some (rowT e sz v n xs)) (hn : 0 < n) : ∃ g c, v = .slice (some ⟨g, 0, none⟩) n c ∧ n ≤ c ∧ c ≤ maxLen := by
  have ho : w.ownsRow 0 e sz v n xs := h.get hi
  rcases ho.2 with ⟨rfl, rfl⟩ | ⟨g, cap, cur, rfl, _, _, h1, h2, _⟩
  · exact absurd hn (Nat.lt_irrefl _)
  · exact ⟨g, cap, rfl, h1, h2⟩
theorem Fam.len (h : Fam w B R) (hi : R[i]? = some (rowT e sz v n xs)) : xs.length = n * sz := (show w.ownsRow 0 e sz v n xs from h.get hi).1
/-- A store into a row. -/
theorem Fam.store (h : Fam w B R) (hi : R[i]? = some (rowT e sz (.slice (some ⟨g, 0, none⟩) n c) n xs)) (j : Nat) (u : Value) :
    Fam (w.setCell ⟨g, j, none⟩ u) B (R.set i (rowT e sz (.slice (some ⟨g, 0, none⟩) n c) n (xs.set j u))) ∧ Below B w (w.setCell ⟨g, j, none⟩ u) := by
  have ho : w.ownsRow 0 e sz (.slice (some ⟨g, 0, none⟩) n c) n xs := h.get hi
  obtain ⟨h1, h2⟩ := ho.stored j u
  exact ⟨h.set hi h2 h1 (.inl rfl), h.bel hi h2⟩
/-- A new variable, a new row whose elements are laid. -/
theorem Fam.box (h : Fam w B R) (cs : Array Value) (n : Nat) (hm : n ≤ maxLen) (hs : cs.size = n * sz) : Fam (w.alloc (.cells cs e)) B (R ++ [rowT e sz (.slice (some ⟨w.heap.size, 0, none⟩) n n) n cs.toList]) :=
  h.snoc (World.grownBy_alloc w _ none) (World.ownsRow_lit w cs n (Nat.zero_le _) hm hs) fun k hk => by
    have hk : some w.heap.size = some k := hk
    injection hk with hk; omega
theorem Fam.nilRow (h : Fam w B R) : Fam w B (R ++ [rowT e sz (.slice none 0 0) 0 []]) :=
  h.snoc (World.grownBy.refl w none) (World.ownsRow_nil w 0 e sz) fun k hk => by cases hk
end

section
variable {P : Program} {T E : TypeId} {i0 : TypeInfo} {z : Value} {sz by_ : Nat}
/-- append of m elements, whose cells are told, onto one of them. -/
theorem Fam.run_app {w : World} {B : Nat} {R : List Thing} {i n m c : Nat} {v : Value} {xs news : List Value} {ad : Addr} (h : Fam w B R) (hi : R[i]? = some (rowT E sz v n xs)) (ty : TypeId)
    (hT : P.underlying T = some (.slice E)) (hi0 : P.info? E = some i0) (hz0 : i0.zero = some z) (hz1 : i0.size = sz) (hz2 : i0.bytes = by_) (hzc : z.cells.size = sz) (hsz : 0 < sz) (hby : by_ ≤ 1000)
    (hl : news.length = m * sz) (hnews : ∀ j u, news[j]? = some u → w.cell? (ad.add j) = some u) (h1 : ∀ u ∈ news, u.oneCell' = true) (hn : n + m ≤ 100000000) :
    ∃ v' w', (Builtin.append_ #[T, T] ty #[v, .slice (some ad) m c]).run P w = .ok v' w' ∧ Fam w' B (R.set i (rowT E sz v' (n + m) (xs ++ news))) ∧ Below B w w' ∧ w.grownBy w' v.ownBlock ∧ (v'.ownBlock = v.ownBlock ∨ v'.ownBlock = some w.heap.size) := by
  have ho : w.ownsRow 0 E sz v n xs := h.get hi
  have hmul : (n + m) * by_ ≤ 100000000 * 1000 := Nat.mul_le_mul hn hby
  obtain ⟨v', w', hr, h2, h3, _, h5⟩ := run_append_own_at (P := P) w 0 T ty E i0 z sz by_ hT hi0 hz0 hz1 hz2 hzc hsz v n xs ho ad m c news hl hnews h1 (by unfold maxLen; omega) (by omega) (Nat.zero_le _)
  refine ⟨v', w', hr, h.set hi h3 h2 ?_, h.bel hi h3, h3, h5⟩
  rcases h5 with h5 | h5
  · exact .inl h5
  · exact .inr (.inr ⟨_, h5, Nat.le_refl _⟩)
/-- The same, of one element that has just been laid in block g. -/
theorem Fam.run_app1 {w : World} {B : Nat} {R : List Thing} {i n g c : Nat} {v : Value} {xs cs : List Value} (h : Fam w B R) (hi : R[i]? = some (rowT E sz v n xs)) (ty : TypeId)
    (hT : P.underlying T = some (.slice E)) (hi0 : P.info? E = some i0) (hz0 : i0.zero = some z) (hz1 : i0.size = sz) (hz2 : i0.bytes = by_) (hzc : z.cells.size = sz) (hsz : 0 < sz) (hby : by_ ≤ 1000)
    (hl : cs.length = sz) (hc : ∀ j u, cs[j]? = some u → w.cell? ⟨g, j, none⟩ = some u) (h1 : ∀ u ∈ cs, u.oneCell' = true) (hn : n ≤ 10000000) :
    ∃ v' w', (Builtin.append_ #[T, T] ty #[v, .slice (some ⟨g, 0, none⟩) 1 c]).run P w = .ok v' w' ∧ Fam w' B (R.set i (rowT E sz v' (n + 1) (xs ++ cs))) ∧ Below B w w' ∧ w.grownBy w' v.ownBlock ∧ (v'.ownBlock = v.ownBlock ∨ v'.ownBlock = some w.heap.size) :=
  h.run_app (m := 1) hi ty hT hi0 hz0 hz1 hz2 hzc hsz hby (by omega) (fun j u hj => by
    have ad : (⟨g, 0, none⟩ : Addr).add j = ⟨g, j, none⟩ := by unfold Addr.add; split <;> simp_all
    rw [ad]; exact hc j u hj) h1 (by omega)
end
theorem op_append {P : Program} {o : Oper} {a : Act} {W W' : World} {K : Act → World → Prop} {Q : Exit → Act → World → Prop} {s x : Operand} {t1 t2 : TypeId} {vs vx v' : Value} (ho : o.op = .call { callee := .builtin .append, args := #[s, x], argTypes := #[t1, t2] })
    (hs : a.eval s = vs) (hx : a.eval x = vx) (hrun : (Builtin.append_ #[t1, t2] o.type #[vs, vx]).run P W = .ok v' W') (h : K (a.put o.dst v') W') : o.wp P a W K Q := by
  unfold Oper.wp execOp
  simp only [ho, resolve, invoke, builtin, Sem.run_bind, Sem.run_pure, Result.andThen_ok, List.map_toArray, List.map_cons, List.map_nil, hs, hx, hrun]
  exact h
theorem list_append {P : Program} {ops : Array Oper} {rest : List Oper} {o : Oper} {a : Act} {W : World} {Q : Exit → Act → World → Prop} (hgd : o.guard = none) (s x : Operand) {t1 t2 : TypeId} {vs vx v' : Value} {W' : World} (ho : o.op = .call { callee := .builtin .append, args := #[s, x], argTypes := #[t1, t2] })
    (hs : a.eval s = vs) (hx : a.eval x = vx) (hrun : (Builtin.append_ #[t1, t2] o.type #[vs, vx]).run P W = .ok v' W') (h : wpList P ops Q rest (a.put o.dst v') W') : wpList P ops Q (o :: rest) a W := by
  refine wpList_plain hgd fun K hK => ?_
  exact op_append ho hs hx hrun (hK _ _ h)
end Go.Proofs.YtmknghhgcecafaaDoor.Mem

/-
  Words of no layer: the region 'x.f = append(x.f, e)' (its operations in any order), with what the call owns before, between and behind.
-/
namespace Go.Proofs.YtmknghhgcecafaaDoor.Mem
open Go.RowKit
set_option linter.unusedVariables false

section
variable {P : Program} {Q : Exit → Act → World → Prop}
theorem stepsV_closed {l : List Oper} {Inv : (Nat → Bool) → (Nat → Value) → World → Prop} {L : Nat → Bool} {x : Nat → Value} {a : Act} {W : World} (hcl : ∀ k j, L k = true → waitsP l k j = true → L j = true) :
    ∀ (os : List Oper) (i : Nat), (∀ j, os[j]? = l[i + j]?) → StepsV P l Q Inv L x a W i os → StepsV P l Q (fun L x W => Inv L x W ∧ ∀ k j, L k = true → waitsP l k j = true → L j = true) L x a W i os
  | [], _, _, _ => trivial
  | o :: os, i, ho, ⟨h1, h2⟩ => by
    refine ⟨fun hi hd K hK => h1 hi hd K (show Shut _ from fun v W' hv => hK.out v W' ⟨hv, fun k j hk hw => ?_⟩), stepsV_closed hcl os (i + 1) (fun j => by have := ho (j + 1); simpa [Nat.add_assoc, Nat.add_comm 1 j] using this) h2⟩
    unfold updL at hk ⊢
    by_cases hki : k = i
    · subst hki
      have h0 := ho 0
      simp only [List.getElem?_cons_zero, Nat.add_zero] at h0
      have : L j = true := hd j (by unfold waitsP at hw; rw [← h0] at hw; simpa using hw)
      split
      · rfl
      · exact this
    · rw [if_neg hki] at hk
      split
      · rfl
      · exact hcl k j hk hw
/-- A region that draws its order, by an invariant; what runs has all that it waits for behind it. -/
theorem region_inv2 {id : Nat} {l : List Oper} {a0 : Act} {w : World} (Inv : (Nat → Bool) → (Nat → Value) → World → Prop) (hm : P.follows .mixedOrders = true) (hn : (dsts l).Nodup) (he : edgesBack l = true)
    (h0 : ∀ x, Inv (fun _ => false) x w.drew)
    (hsteps : ∀ L x W, Inv L x W → (∀ k j, L k = true → waitsP l k j = true → L j = true) → ∀ a, a = (⟨fillA x 0 l a0.tmps, a0.defers⟩ : Act) → StepsV P l Q Inv L x a W 0 l)
    (hdone : ∀ L x W, Inv L x W → (∀ i, i < l.length → L i = true) → ∀ a, a = (⟨fillA x 0 l a0.tmps, a0.defers⟩ : Act) → Q .normal a W) :
    (Code.region id l.toArray true).wp P Q a0 w :=
  region_inv (fun L x W => Inv L x W ∧ ∀ k j, L k = true → waitsP l k j = true → L j = true) hm hn he ⟨h0 _, fun _ _ h => by cases h⟩
    (fun L x W hI a ha => stepsV_closed hI.2 l 0 (fun j => by rw [Nat.zero_add]) (hsteps L x W hI.1 hI.2 a ha)) fun L x W hI hall a ha => hdone L x W hI.1 hall a ha
theorem notRun {l : List Oper} {dn : Nat → Bool} {i r : Nat} (hcl : ∀ k j, dn k = true → waitsP l k j = true → dn j = true) (hd : dn i = false) (hw : waitsP l r i = true) : dn r = false := by
  cases h : dn r with
  | false => rfl
  | true => rw [hcl r i h hw] at hd; cases hd
theorem updL_ne {L : Nat → Bool} {i j : Nat} (h : j ≠ i) : updL L i j = L j := by unfold updL; rw [if_neg h]
theorem updX_ne {x : Nat → Value} {v : Value} {i j : Nat} (h : j ≠ i) : updX x i v j = x j := by unfold updX; rw [if_neg h]
theorem updL_eq {L : Nat → Bool} {i : Nat} : updL L i i = true := by unfold updL; rw [if_pos rfl]
theorem updX_eq {x : Nat → Value} {v : Value} {i : Nat} : updX x i v i = v := by unfold updX; rw [if_pos rfl]
end

theorem bel1 (w : World) (o : Obj) : Below w.heap.size w (w.alloc o) := (Below.refl _ _).alloc (Nat.le_refl _) _
theorem new_cells (w : World) (cs : List Value) (T : TypeId) : ∀ (j : Nat) (u : Value), cs[j]? = some u → (w.alloc (.cells cs.toArray T)).cell? ⟨w.heap.size, j, none⟩ = some u := fun j u h => by
  rw [World.cell?_alloc_at _ _ _ _ rfl]
  simpa using h
/-- What each operation of 'x.f = append(x.f, e)' leaves. iB: e is laid as a row of one; iA: append; iS: the store. C: what the others leave; R: what the call owns ahead; R1, R2: behind append, behind the store (by what append gives). -/
structure AG (w0 : World) (B : Nat) (C : Nat → Option Value) (iB iA iS : Nat) (R : List Thing) (cs : List Value) (R1 R2 : Value → List Thing) (L : Nat → Bool) (x : Nat → Value) (W : World) : Prop where
  bel : Below B w0 W
  kc : ∀ i v, C i = some v → L i = true → x i = v
  f0 : L iA = false → Fam W B R
  fb : L iB = true → L iA = false → ∃ g c, x iB = .slice (some ⟨g, 0, none⟩) 1 c ∧ ∀ j u, cs[j]? = some u → W.cell? ⟨g, j, none⟩ = some u
  f1 : L iA = true → L iS = false → Fam W B (R1 (x iA))
  f2 : L iS = true → Fam W B (R2 (x iA))
  dS : L iS = true → L iA = true
section
variable {w0 W W' : World} {B : Nat} {C : Nat → Option Value} {iB iA iS : Nat} {R : List Thing} {cs : List Value} {R1 R2 : Value → List Thing} {L : Nat → Bool} {x : Nat → Value} {v : Value}
theorem AG.start (h : Fam W B R) : AG W B C iB iA iS R cs R1 R2 (fun _ => false) x W.drew :=
  ⟨⟨rfl, rfl, rfl, Nat.le_refl _, fun _ _ => rfl⟩, fun _ _ _ h => (by cases h), fun _ => h.keptAll ⟨rfl, rfl, rfl, Nat.le_refl _, fun _ _ _ => rfl⟩, fun h => (by cases h), fun h => (by cases h), fun h => (by cases h), fun h => (by cases h)⟩
theorem AG.kcs (h : AG w0 B C iB iA iS R cs R1 R2 L x W) {i : Nat} (hi : C i = none ∨ C i = some v) : ∀ j u, C j = some u → updL L i j = true → updX x i v j = u := fun j u hj hl => by
  by_cases e : j = i
  · subst e
    rw [updX_eq]
    rcases hi with hi | hi
    · rw [hi] at hj; cases hj
    · exact Option.some.inj (hi.symm.trans hj)
  · rw [updX_ne e]; rw [updL_ne e] at hl; exact h.kc j u hj hl
/-- One that leaves all that there is alone. -/
theorem AG.quiet (h : AG w0 B C iB iA iS R cs R1 R2 L x W) (hW : B ≤ W.heap.size) (hb : Below W.heap.size W W') {i : Nat} (hi : C i = some v) (h1 : iB ≠ i) (h2 : iA ≠ i) (h3 : iS ≠ i) : AG w0 B C iB iA iS R cs R1 R2 (updL L i) (updX x i v) W' := by
  refine ⟨h.bel.trans (hb.mono hW), h.kcs (.inr hi), ?_, ?_, ?_, ?_, ?_⟩
  all_goals simp only [updL_ne h1, updL_ne h2, updL_ne h3, updX_ne h1, updX_ne h2]
  · exact fun a => (h.f0 a).later hb
  · intro a b
    obtain ⟨g, c, e, hc⟩ := h.fb a b
    exact ⟨g, c, e, fun j u hj => (hb.cell (p := ⟨g, j, none⟩) (World.block_lt_of_cell? W _ (hc j u hj))).trans (hc j u hj)⟩
  · exact fun a b => (h.f1 a b).later hb
  · exact fun a => (h.f2 a).later hb
  · exact h.dS
theorem AG.build (h : AG w0 B C iB iA iS R cs R1 R2 L x W) (hW : B ≤ W.heap.size) (hb : Below W.heap.size W W') (hC : C iB = none) (hA : iA ≠ iB) (hS : iS ≠ iB) {g c : Nat} (hv : v = .slice (some ⟨g, 0, none⟩) 1 c) (hc : ∀ j u, cs[j]? = some u → W'.cell? ⟨g, j, none⟩ = some u) :
    AG w0 B C iB iA iS R cs R1 R2 (updL L iB) (updX x iB v) W' := by
  refine ⟨h.bel.trans (hb.mono hW), h.kcs (.inl hC), ?_, fun _ _ => ⟨g, c, by rw [updX_eq, hv], hc⟩, ?_, ?_, ?_⟩
  all_goals simp only [updL_ne hA, updL_ne hS, updX_ne hA]
  · exact fun a => (h.f0 a).later hb
  · exact fun a b => (h.f1 a b).later hb
  · exact fun a => (h.f2 a).later hb
  · exact h.dS
theorem AG.app (h : AG w0 B C iB iA iS R cs R1 R2 L x W) (hC : C iA = none) (hS : iS ≠ iA) (hL : L iA = false) (hb : Below B W W') (hf : Fam W' B (R1 v)) : AG w0 B C iB iA iS R cs R1 R2 (updL L iA) (updX x iA v) W' := by
  have s0 : L iS = false := by cases e : L iS with | false => rfl | true => rw [h.dS e] at hL; cases hL
  refine ⟨h.bel.trans hb, h.kcs (.inl hC), fun a => (by rw [updL_eq] at a; cases a), fun _ a => (by rw [updL_eq] at a; cases a), fun _ _ => by rw [updX_eq]; exact hf, ?_, ?_⟩
  all_goals simp only [updL_ne hS, s0]
  all_goals intro q; cases q
theorem AG.store (h : AG w0 B C iB iA iS R cs R1 R2 L x W) (hC : C iS = none) (hA : iA ≠ iS) (hL : L iA = true) (hb : Below B W W') (hf : Fam W' B (R2 (x iA))) : AG w0 B C iB iA iS R cs R1 R2 (updL L iS) (updX x iS v) W' := by
  refine ⟨h.bel.trans hb, h.kcs (.inl hC), fun a => ?_, fun _ a => ?_, fun _ a => (by rw [updL_eq] at a; cases a), fun _ => by rw [updX_ne hA]; exact hf, fun _ => by rw [updL_ne hA]; exact hL⟩
  all_goals rw [updL_ne hA, hL] at a; cases a
end
/-- append of one value, just laid in a block of its own, in a row of operations. -/
theorem list_app1 {P : Program} {T E : TypeId} {i0 : TypeInfo} {z : Value} {by_ : Nat} {ops : Array Oper} {rest : List Oper} {o : Oper} {a : Act} {Q : Exit → Act → World → Prop} {W : World} {B : Nat} {R : List Thing} {i n : Nat} {v u : Value} {xs : List Value} (h : Fam W B R) (hi : R[i]? = some (rowT E 1 v n xs)) (hgd : o.guard = none) (s x : Operand)
    (ho : o.op = .call { callee := .builtin .append, args := #[s, x], argTypes := #[T, T] }) (hT : P.underlying T = some (.slice E)) (hi0 : P.info? E = some i0) (hz0 : i0.zero = some z) (hz1 : i0.size = 1) (hz2 : i0.bytes = by_) (hzc : z.cells.size = 1) (hby : by_ ≤ 1000)
    (hs : a.eval s = v) (g c : Nat) (hg : g = W.heap.size) (hx : a.eval x = .slice (some ⟨g, 0, none⟩) 1 c) (h1 : u.oneCell' = true) (hn : n ≤ 10000000)
    (k : ∀ v' w', Fam w' B (R.set i (rowT E 1 v' (n + 1) (xs ++ [u]))) → Below B W w' → wpList P ops Q rest (a.put o.dst v') w') : wpList P ops Q (o :: rest) a (W.alloc (.cells #[u] E)) := by
  subst hg
  have hb := bel1 W (.cells #[u] E)
  obtain ⟨v', w', hr, hf, hb', _, _⟩ := (h.later hb).run_app1 (P := P) (T := T) (g := W.heap.size) (c := c) (cs := [u]) hi o.type hT hi0 hz0 hz1 hz2 hzc (by decide) hby rfl (new_cells W [u] E) (fun q hq => by rw [List.mem_singleton.1 hq]; exact h1) hn
  exact list_append hgd s x ho hs hx hr (k v' w' hf ((hb.mono h.B).trans hb'))
/-- append of one element of four cells, just laid in a block of its own, in a row of operations. -/
theorem list_app4 {P : Program} {T E : TypeId} {i0 : TypeInfo} {z : Value} {by_ : Nat} {ops : Array Oper} {rest : List Oper} {o : Oper} {a : Act} {Q : Exit → Act → World → Prop} {W : World} {B : Nat} {R : List Thing} {i n : Nat} {v u0 u1 u2 u3 : Value} {xs : List Value} (h : Fam W B R) (hi : R[i]? = some (rowT E 4 v n xs)) (hgd : o.guard = none) (s x : Operand)
    (ho : o.op = .call { callee := .builtin .append, args := #[s, x], argTypes := #[T, T] }) (hT : P.underlying T = some (.slice E)) (hi0 : P.info? E = some i0) (hz0 : i0.zero = some z) (hz1 : i0.size = 4) (hz2 : i0.bytes = by_) (hzc : z.cells.size = 4) (hby : by_ ≤ 1000)
    (hs : a.eval s = v) (g c : Nat) (hg : g = W.heap.size) (hx : a.eval x = .slice (some ⟨g, 0, none⟩) 1 c) (h0 : u0.oneCell' = true) (h1 : u1.oneCell' = true) (h2 : u2.oneCell' = true) (h3 : u3.oneCell' = true) (hn : n ≤ 10000000)
    (k : ∀ v' w', Fam w' B (R.set i (rowT E 4 v' (n + 1) (xs ++ [u0, u1, u2, u3]))) → Below B W w' → wpList P ops Q rest (a.put o.dst v') w') : wpList P ops Q (o :: rest) a (W.alloc (.cells #[u0, u1, u2, u3] E)) := by
  subst hg
  have hb := bel1 W (.cells #[u0, u1, u2, u3] E)
  obtain ⟨v', w', hr, hf, hb', _, _⟩ := (h.later hb).run_app1 (P := P) (T := T) (g := W.heap.size) (c := c) (cs := [u0, u1, u2, u3]) hi o.type hT hi0 hz0 hz1 hz2 hzc (by decide) hby rfl (new_cells W [u0, u1, u2, u3] E) (fun q hq => by simp only [List.mem_cons, List.not_mem_nil, or_false] at hq; rcases hq with rfl | rfl | rfl | rfl <;> assumption) hn
  exact list_append hgd s x ho hs hx hr (k v' w' hf ((hb.mono h.B).trans hb'))
end Go.Proofs.YtmknghhgcecafaaDoor.Mem

/-
  Words of no layer: the region 'x.f = append(x.f, e)' once more: with a row made on the way (iM), with an element that is stored behind append (iE), with operations whose value hangs on what append gave (D).
-/
namespace Go.Proofs.YtmknghhgcecafaaDoor.Mem
open Go.RowKit
set_option linter.unusedVariables false

/-- The place of cell i of a slice's row. -/
def adr (v : Value) (i : Nat) : Value := match v with
  | .slice (some ⟨g, _, _⟩) _ _ => .pointer (some ⟨g, i, none⟩)
  | _ => undef
structure AG2 (w0 : World) (B : Nat) (C : Nat → Option Value) (D : Nat → Option (Value → Value)) (iM iB iA iE iS : Nat) (R0 : Bool → Value → List Thing) (cs : Value → List Value) (RR : Bool → Bool → Value → Value → List Thing) (L : Nat → Bool) (x : Nat → Value) (W : World) : Prop where
  bel : Below B w0 W
  kc : ∀ i v, C i = some v → L i = true → x i = v
  kd : ∀ i f, D i = some f → L i = true → x i = f (x iA) ∧ L iA = true
  f0 : L iA = false → Fam W B (R0 (L iM) (x iM))
  fb : L iB = true → L iA = false → ∃ g c, x iB = .slice (some ⟨g, 0, none⟩) 1 c ∧ ∀ j u, (cs (x iM))[j]? = some u → W.cell? ⟨g, j, none⟩ = some u
  f1 : L iA = true → Fam W B (RR (L iE) (L iS) (x iM) (x iA))
  dS : L iS = true → L iA = true
  dE : L iE = true → L iA = true
section
variable {w0 W W' : World} {B : Nat} {C : Nat → Option Value} {D : Nat → Option (Value → Value)} {iM iB iA iE iS : Nat} {R : List Thing} {R0 : Bool → Value → List Thing} {cs : Value → List Value} {RR : Bool → Bool → Value → Value → List Thing} {L : Nat → Bool} {x : Nat → Value} {v : Value}
theorem AG2.start (h : Fam W B R) (hR : ∀ v, R0 false v = R) : AG2 W B C D iM iB iA iE iS R0 cs RR (fun _ => false) x W.drew :=
  ⟨⟨rfl, rfl, rfl, Nat.le_refl _, fun _ _ => rfl⟩, fun _ _ _ h => (by cases h), fun _ _ _ h => (by cases h), fun _ => by rw [hR]; exact h.keptAll ⟨rfl, rfl, rfl, Nat.le_refl _, fun _ _ _ => rfl⟩, fun h => (by cases h), fun h => (by cases h), fun h => (by cases h), fun h => (by cases h)⟩
theorem AG2.kcs (h : AG2 w0 B C D iM iB iA iE iS R0 cs RR L x W) {i : Nat} (hi : C i = none ∨ C i = some v) : ∀ j u, C j = some u → updL L i j = true → updX x i v j = u := fun j u hj hl => by
  by_cases e : j = i
  · subst e
    rw [updX_eq]
    rcases hi with hi | hi
    · rw [hi] at hj; cases hj
    · exact Option.some.inj (hi.symm.trans hj)
  · rw [updX_ne e]; rw [updL_ne e] at hl; exact h.kc j u hj hl
theorem AG2.kds (h : AG2 w0 B C D iM iB iA iE iS R0 cs RR L x W) {i : Nat} (hA : iA ≠ i) (hi : D i = none ∨ ∃ f, D i = some f ∧ v = f (x iA) ∧ L iA = true) : ∀ j f, D j = some f → updL L i j = true → updX x i v j = f (updX x i v iA) ∧ updL L i iA = true := fun j f hj hl => by
  rw [updX_ne hA, updL_ne hA]
  by_cases e : j = i
  · subst e
    rw [updX_eq]
    rcases hi with hi | ⟨f', hf', e1, e2⟩
    · rw [hi] at hj; cases hj
    · rw [hj] at hf'; injection hf' with hf'; subst hf'; exact ⟨e1, e2⟩
  · rw [updX_ne e]; rw [updL_ne e] at hl; exact h.kd j f hj hl
/-- One that leaves all that there is alone. -/
theorem AG2.quiet (h : AG2 w0 B C D iM iB iA iE iS R0 cs RR L x W) (hW : B ≤ W.heap.size) (hb : Below W.heap.size W W') {i : Nat} (hi : C i = none ∨ C i = some v) (hd : D i = none ∨ ∃ f, D i = some f ∧ v = f (x iA) ∧ L iA = true) (h0 : iM ≠ i) (h1 : iB ≠ i) (h2 : iA ≠ i) (h3 : iE ≠ i) (h4 : iS ≠ i) :
    AG2 w0 B C D iM iB iA iE iS R0 cs RR (updL L i) (updX x i v) W' := by
  refine ⟨h.bel.trans (hb.mono hW), h.kcs hi, h.kds h2 hd, ?_, ?_, ?_, ?_, ?_⟩
  all_goals simp only [updL_ne h0, updL_ne h1, updL_ne h2, updL_ne h3, updL_ne h4, updX_ne h0, updX_ne h1, updX_ne h2]
  · exact fun a => (h.f0 a).later hb
  · intro a b
    obtain ⟨g, c, e, hc⟩ := h.fb a b
    exact ⟨g, c, e, fun j u hj => (hb.cell (p := ⟨g, j, none⟩) (World.block_lt_of_cell? W _ (hc j u hj))).trans (hc j u hj)⟩
  · exact fun a => (h.f1 a).later hb
  · exact h.dS
  · exact h.dE
/-- A row is made. -/
theorem AG2.make (h : AG2 w0 B C D iM iB iA iE iS R0 cs RR L x W) (hC : C iM = none) (hD : D iM = none) (h1 : iB ≠ iM) (h2 : iA ≠ iM) (h3 : iE ≠ iM) (h4 : iS ≠ iM) (hB : L iB = false) (hA : L iA = false) (hb : Below B W W') (hf : Fam W' B (R0 true v)) :
    AG2 w0 B C D iM iB iA iE iS R0 cs RR (updL L iM) (updX x iM v) W' := by
  refine ⟨h.bel.trans hb, h.kcs (.inl hC), h.kds h2 (.inl hD), ?_, ?_, ?_, ?_, ?_⟩
  all_goals simp only [updL_ne h1, updL_ne h2, updL_ne h3, updL_ne h4, updX_ne h1, updX_ne h2, updL_eq, updX_eq]
  · exact fun _ => hf
  · intro a; rw [hB] at a; cases a
  · intro a; rw [hA] at a; cases a
  · exact h.dS
  · exact h.dE
theorem AG2.build (h : AG2 w0 B C D iM iB iA iE iS R0 cs RR L x W) (hW : B ≤ W.heap.size) (hb : Below W.heap.size W W') (hC : C iB = none) (hD : D iB = none) (hM : iM ≠ iB) (hA : iA ≠ iB) (hE : iE ≠ iB) (hS : iS ≠ iB) {g c : Nat} (hv : v = .slice (some ⟨g, 0, none⟩) 1 c) (hc : ∀ j u, (cs (x iM))[j]? = some u → W'.cell? ⟨g, j, none⟩ = some u) :
    AG2 w0 B C D iM iB iA iE iS R0 cs RR (updL L iB) (updX x iB v) W' := by
  refine ⟨h.bel.trans (hb.mono hW), h.kcs (.inl hC), h.kds hA (.inl hD), ?_, ?_, ?_, ?_, ?_⟩
  all_goals simp only [updL_ne hM, updL_ne hA, updL_ne hE, updL_ne hS, updX_ne hA, updX_ne hM, updX_eq]
  · exact fun a => (h.f0 a).later hb
  · exact fun _ _ => ⟨g, c, hv, hc⟩
  · exact fun a => (h.f1 a).later hb
  · exact h.dS
  · exact h.dE
theorem AG2.app (h : AG2 w0 B C D iM iB iA iE iS R0 cs RR L x W) (hC : C iA = none) (hD : D iA = none) (hM : iM ≠ iA) (hE : iE ≠ iA) (hS : iS ≠ iA) (hL : L iA = false) (hb : Below B W W') (hf : Fam W' B (RR false false (x iM) v)) : AG2 w0 B C D iM iB iA iE iS R0 cs RR (updL L iA) (updX x iA v) W' := by
  have s0 : L iS = false := by cases e : L iS with | false => rfl | true => rw [h.dS e] at hL; cases hL
  have e0 : L iE = false := by cases e : L iE with | false => rfl | true => rw [h.dE e] at hL; cases hL
  refine ⟨h.bel.trans hb, h.kcs (.inl hC), fun j f hj hl => ?_, fun a => (by rw [updL_eq] at a; cases a), fun _ a => (by rw [updL_eq] at a; cases a), fun _ => ?_, fun _ => updL_eq, fun _ => updL_eq⟩
  · by_cases e : j = iA
    · subst e; rw [hD] at hj; cases hj
    · rw [updL_ne e] at hl
      have := (h.kd j f hj hl).2
      rw [hL] at this; cases this
  · rw [updL_ne hE, updL_ne hS, updX_ne hM, updX_eq, s0, e0]; exact hf
/-- The element's store. -/
theorem AG2.put (h : AG2 w0 B C D iM iB iA iE iS R0 cs RR L x W) (hC : C iE = none) (hD : D iE = none) (hM : iM ≠ iE) (hA : iA ≠ iE) (hS : iS ≠ iE) (hL : L iA = true) (hb : Below B W W') (hf : Fam W' B (RR true (L iS) (x iM) (x iA))) : AG2 w0 B C D iM iB iA iE iS R0 cs RR (updL L iE) (updX x iE v) W' := by
  refine ⟨h.bel.trans hb, h.kcs (.inl hC), h.kds hA (.inl hD), fun a => ?_, fun _ a => ?_, fun _ => ?_, fun _ => by rw [updL_ne hA]; exact hL, fun _ => by rw [updL_ne hA]; exact hL⟩
  · rw [updL_ne hA, hL] at a; cases a
  · rw [updL_ne hA, hL] at a; cases a
  · rw [updL_eq, updL_ne hS, updX_ne hM, updX_ne hA]; exact hf
/-- The row's own store. -/
theorem AG2.store (h : AG2 w0 B C D iM iB iA iE iS R0 cs RR L x W) (hC : C iS = none) (hD : D iS = none) (hM : iM ≠ iS) (hA : iA ≠ iS) (hE : iE ≠ iS) (hL : L iA = true) (hb : Below B W W') (hf : Fam W' B (RR (L iE) true (x iM) (x iA))) : AG2 w0 B C D iM iB iA iE iS R0 cs RR (updL L iS) (updX x iS v) W' := by
  refine ⟨h.bel.trans hb, h.kcs (.inl hC), h.kds hA (.inl hD), fun a => ?_, fun _ a => ?_, fun _ => ?_, fun _ => by rw [updL_ne hA]; exact hL, fun _ => by rw [updL_ne hA]; exact hL⟩
  · rw [updL_ne hA, hL] at a; cases a
  · rw [updL_ne hA, hL] at a; cases a
  · rw [updL_eq, updL_ne hE, updX_ne hM, updX_ne hA]; exact hf
end
end Go.Proofs.YtmknghhgcecafaaDoor.Mem

/-
  Words of no layer: rows that are only read: what stands in them, and in which blocks (of a set S) they lie.
-/
namespace Go.Proofs.YtmknghhgcecafaaDoor.Mem
open Go.RowKit
set_option linter.unusedVariables false

/-- The row at A holds the values xs, each in one cell. -/
def RowAt (w : World) (S : Nat → Prop) (A : Option Addr) (xs : List Value) : Prop :=
  xs = [] ∨ ∃ b off, A = some ⟨b, off, none⟩ ∧ S b ∧ ∀ i u, xs[i]? = some u → w.cell? ⟨b, off + i, none⟩ = some u
/-- The slice v holds the values xs. -/
def SlAt (w : World) (S : Nat → Prop) (v : Value) (xs : List Value) : Prop := ∃ A c, v = .slice A xs.length c ∧ xs.length ≤ c ∧ c ≤ maxLen ∧ RowAt w S A xs
/-- The slice v holds rows of integers. -/
def RowsAt (w : World) (S : Nat → Prop) (v : Value) (K : List (List Int)) : Prop := ∃ us : List Value, us.length = K.length ∧ SlAt w S v us ∧ ∀ (i : Nat) (u : Value) (l : List Int), us[i]? = some u → K[i]? = some l → SlAt w S u (l.map (Value.int .i64))
/-- The blocks from s to t. -/
def In (s t : Nat) : Nat → Prop := fun b => s ≤ b ∧ b < t
section
variable {w w' : World} {S S' : Nat → Prop} {A : Option Addr} {xs : List Value} {v : Value} {K : List (List Int)}
theorem RowAt.keep (h : RowAt w S A xs) (hb : ∀ b, S b → w'.heap[b]? = w.heap[b]?) : RowAt w' S A xs := by
  rcases h with h | ⟨b, off, e, hS, hc⟩
  · exact .inl h
  · exact .inr ⟨b, off, e, hS, fun i u hi => (World.cell?_of_block (w := w) (hb b hS)).trans (hc i u hi)⟩
theorem RowAt.more (h : RowAt w S A xs) (hs : ∀ b, S b → S' b) : RowAt w S' A xs := by
  rcases h with h | ⟨b, off, e, hS, hc⟩
  · exact .inl h
  · exact .inr ⟨b, off, e, hs b hS, hc⟩
theorem RowAt.at_ (h : RowAt w S A xs) {i : Nat} {u : Value} (hi : xs[i]? = some u) : ∃ b off, A = some ⟨b, off, none⟩ ∧ S b ∧ w.cell? ⟨b, off + i, none⟩ = some u := by
  rcases h with h | ⟨b, off, e, hS, hc⟩
  · rw [h] at hi; simp at hi
  · exact ⟨b, off, e, hS, hc i u hi⟩
theorem SlAt.keep (h : SlAt w S v xs) (hb : ∀ b, S b → w'.heap[b]? = w.heap[b]?) : SlAt w' S v xs := by
  obtain ⟨A, c, e, h1, h2, h3⟩ := h
  exact ⟨A, c, e, h1, h2, h3.keep hb⟩
theorem SlAt.more (h : SlAt w S v xs) (hs : ∀ b, S b → S' b) : SlAt w S' v xs := by
  obtain ⟨A, c, e, h1, h2, h3⟩ := h
  exact ⟨A, c, e, h1, h2, h3.more hs⟩
theorem RowsAt.keep (h : RowsAt w S v K) (hb : ∀ b, S b → w'.heap[b]? = w.heap[b]?) : RowsAt w' S v K := by
  obtain ⟨us, h1, h2, h3⟩ := h
  exact ⟨us, h1, h2.keep hb, fun i u l hu hl => (h3 i u l hu hl).keep hb⟩
theorem RowsAt.more (h : RowsAt w S v K) (hs : ∀ b, S b → S' b) : RowsAt w S' v K := by
  obtain ⟨us, h1, h2, h3⟩ := h
  exact ⟨us, h1, h2.more hs, fun i u l hu hl => (h3 i u l hu hl).more hs⟩
/-- A row of one's own, read. -/
theorem Fam.slAt {B : Nat} {R : List Thing} {i n : Nat} {e : TypeId} (h : Fam w B R) (hi : R[i]? = some (rowT e 1 v n xs)) : SlAt w (In B w.heap.size) v xs := by
  have ho : w.ownsRow 0 e 1 v n xs := h.get hi
  have hl : xs.length = n := by rw [ho.1, Nat.mul_one]
  rcases ho.2 with ⟨rfl, rfl⟩ | ⟨g, cap, cur, rfl, _, hg, h1, h2, _⟩
  · exact ⟨none, 0, by rw [hl], by omega, by unfold maxLen; omega, .inl (List.eq_nil_of_length_eq_zero hl)⟩
  · refine ⟨some ⟨g, 0, none⟩, cap, by rw [hl], by omega, h2, .inr ⟨g, 0, rfl, ?_, fun j u hj => ?_⟩⟩
    · exact h.lt (List.mem_of_getElem? hi) (t := rowT e 1 (.slice (some ⟨g, 0, none⟩) n cap) n xs) rfl
    · rw [Nat.zero_add]; exact h.cell hi hj
end
end Go.Proofs.YtmknghhgcecafaaDoor.Mem
