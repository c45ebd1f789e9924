/-
  Layer 3 (rank): a Table's methods, at integers and at strings.
-/
import Derived.Test.YtakgkfdbgjljkaaRankKnown
import Derived.WalkSpells
import Derived.Deep.Cut
namespace Go.Proofs.Ytakgkfdbgjljkaa.Rank
open Go.ChangeShapes Go.WideShapes Go.ChangeAt Go.RowKit MemC
set_option linter.unusedVariables false

/-- Below block B nothing has changed but block g. -/
structure KeepT (B g : Nat) (w w' : World) : Prop where
  os : w'.os = w.os
  tape : w'.tape = w.tape
  output : w'.output = w.output
  size : w.heap.size ≤ w'.heap.size
  block : ∀ k, k < B → k ≠ g → w'.heap[k]? = w.heap[k]?
theorem KeepT.refl (B g : Nat) (w : World) : KeepT B g w w := ⟨rfl, rfl, rfl, Nat.le_refl _, fun _ _ _ => rfl⟩
theorem KeepT.trans {B g : Nat} {a b c : World} (h : KeepT B g a b) (k : KeepT B g b c) : KeepT B g a c :=
  ⟨k.os.trans h.os, k.tape.trans h.tape, k.output.trans h.output, Nat.le_trans h.size k.size, fun i hi hne => (k.block i hi hne).trans (h.block i hi hne)⟩
theorem KeepT.setCell {B g : Nat} {a b : World} (h : KeepT B g a b) (i : Nat) (v : Value) : KeepT B g a (b.setCell ⟨g, i, none⟩ v) :=
  ⟨h.os, h.tape, h.output, by have := h.size; simpa [World.setCell] using this, fun k hk hne => (Below.heap_setCell _ _ _ _ hne).trans (h.block k hk hne)⟩
theorem KeepT.setHigh {B g : Nat} {a b : World} (h : KeepT B g a b) (q i : Nat) (hq : B ≤ q) (v : Value) : KeepT B g a (b.setCell ⟨q, i, none⟩ v) :=
  ⟨h.os, h.tape, h.output, by have := h.size; simpa [World.setCell] using this, fun k hk hne => (Below.heap_setCell _ _ _ _ (by show k ≠ q; omega)).trans (h.block k hk hne)⟩
theorem KeepT.alloc {B g : Nat} {a b : World} (h : KeepT B g a b) (hB : B ≤ b.heap.size) (o : Obj) : KeepT B g a (b.alloc o) :=
  ⟨h.os, h.tape, h.output, by have := h.size; rw [World.size_alloc]; omega, fun k hk hne => (Below.heap_alloc _ _ _ (by omega)).trans (h.block k hk hne)⟩
theorem KeepT.below {B g : Nat} {a b c : World} (h : KeepT B g a b) (k : Below B b c) : KeepT B g a c :=
  h.trans ⟨k.os, k.tape, k.output, k.size, fun i hi _ => k.block i hi⟩

theorem two_set0 {w : World} {g : Nat} {u v : Value} {T : TypeId} (h : w.heap[g]? = some (.cells #[u, v] T (0, 0))) (u' : Value) : (w.setCell ⟨g, 0, none⟩ u').heap[g]? = some (.cells #[u', v] T (0, 0)) := by
  have hlt := lt_of_block h
  have h' : w.heap[g] = .cells #[u, v] T (0, 0) := by simpa [Array.getElem?_eq_getElem hlt] using h
  show (w.heap.modify g _)[g]? = _
  rw [Array.getElem?_eq_getElem (by simpa using hlt), Array.getElem_modify_self, h']
  rfl
theorem two_set1 {w : World} {g : Nat} {u v : Value} {T : TypeId} (h : w.heap[g]? = some (.cells #[u, v] T (0, 0))) (v' : Value) : (w.setCell ⟨g, 1, none⟩ v').heap[g]? = some (.cells #[u, v'] T (0, 0)) := by
  have hlt := lt_of_block h
  have h' : w.heap[g] = .cells #[u, v] T (0, 0) := by simpa [Array.getElem?_eq_getElem hlt] using h
  show (w.heap.modify g _)[g]? = _
  rw [Array.getElem?_eq_getElem (by simpa using hlt), Array.getElem_modify_self, h']
  rfl
theorem two_set {w : World} {g : Nat} {u v : Value} {T : TypeId} (h : w.heap[g]? = some (.cells #[u, v] T (0, 0))) (u' v' : Value) : ((w.setCell ⟨g, 0, none⟩ u').setCell ⟨g, 1, none⟩ v').heap[g]? = some (.cells #[u', v'] T (0, 0)) :=
  two_set1 (two_set0 h u') v'
theorem flag_new (w : World) (p q : Addr) (u v : Value) : (((w.setCell p u).setCell q v).alloc (.cells #[.int .i64 0] 3)).heap[w.heap.size]? = some (.cells #[.int .i64 0] 3 (0, 0)) := by
  have := heap_alloc_new' ((w.setCell p u).setCell q v) (.cells #[.int .i64 0] 3)
  have e : ((w.setCell p u).setCell q v).heap.size = w.heap.size := by simp [World.setCell]
  rw [e] at this; exact this

theorem tab_cells {w : World} {g gf : Nat} {u : Value} {m : Int} {T : TypeId} (h : w.heap[g]? = some (.cells #[u, .pointer (some ⟨gf, 0, none⟩)] T (0, 0))) (h2 : w.heap[gf]? = some (.cells #[.int .i64 m] 3 (0, 0))) :
    w.cell? ⟨g, 0, none⟩ = some u ∧ w.cell? ⟨g, 1, none⟩ = some (.pointer (some ⟨gf, 0, none⟩)) ∧ w.cell? ⟨gf, 0, none⟩ = some (.int .i64 m) ∧ w.frozen? ⟨g, 0, none⟩ = false ∧ w.frozen? ⟨g, 1, none⟩ = false ∧ w.frozen? ⟨gf, 0, none⟩ = false :=
  ⟨by simp [World.cell?, h], by simp [World.cell?, h], by simp [World.cell?, h2], by simp [World.frozen?, h], by simp [World.frozen?, h], by simp [World.frozen?, h2]⟩

section
variable {w1 w2 : World} {B g gf n : Nat} {E : TypeId} {v v' u : Value} {vs : List Value} {o : Obj}
theorem tab_row (hgB : g < B) (hB1 : B ≤ w1.heap.size) (h : w1.heap[g]? = some o) (ho : w1.ownsRow B E 1 v n vs) (hb : ∀ B, (∀ b, v.ownBlock = some b → B ≤ b) → B ≤ w1.heap.size → Below B w1 w2) : w2.heap[g]? = some o :=
  ((hb B (fun b hv => (ho.lt b hv).1) hB1).block g hgB).trans h
theorem tab_flag (h : w1.heap[gf]? = some o) (hne : ∀ b, v.ownBlock = some b → b ≠ gf) (hg : (w1.alloc (.cells #[u] E)).grownBy w2 v.ownBlock) : w2.heap[gf]? = some o := by
  have hlt := lt_of_block h
  rw [hg.block gf (by rw [World.size_alloc]; omega) (fun e => hne gf e.symm rfl), Below.heap_alloc _ _ _ hlt]
  exact h
theorem tab_ne (h : w1.heap[gf]? = some o) (hne : ∀ b, v.ownBlock = some b → b ≠ gf) (hat : v'.ownBlock = v.ownBlock ∨ v'.ownBlock = some (w1.heap.size + 1)) : ∀ b, v'.ownBlock = some b → b ≠ gf := by
  have hlt := lt_of_block h
  intro b hb
  rcases hat with e | e
  · exact hne b (e ▸ hb)
  · rw [e] at hb; injection hb with hb; omega
end
theorem string_info' : (Try.prog.info? 9).map (fun i => (i.zero, i.size, i.bytes)) = some (some (.string ByteArray.empty), 1, 16) := by kernel_rfl

/-! ### At ints -/
theorem rowI_nil (w : World) : Calls Try.prog 38 #[.pointer none] w fun e w' => e = .returned (.slice none 0 0) ∧ w = w' := by
  go_enter Try.func38, Try.ntmps38
  go_wp2
  go_ret
  exact ⟨rfl, rfl⟩
theorem rowI_any (g : Nat) (A : Option Addr) (n c : Nat) (w : World) (h : w.cell? ⟨g, 0, none⟩ = some (.slice A n c)) : Calls Try.prog 38 #[.pointer (some ⟨g, 0, none⟩)] w fun e w' => e = .returned (.slice A n c) ∧ w = w' := by
  go_enter Try.func38, Try.ntmps38
  go_wp2
  go_ret
  exact ⟨rfl, rfl⟩
theorem lenI_any (g : Nat) (A : Option Addr) (n c : Nat) (w : World) (h : w.cell? ⟨g, 0, none⟩ = some (.slice A n c)) : Calls Try.prog 20 #[.pointer (some ⟨g, 0, none⟩)] w fun e w' => e = .returned (.int .i64 (n : Int)) ∧ w = w' := by
  go_enter Try.func20, Try.ntmps20
  go_wp2_with (go_at_call 38; ((with_reducible refine (rowI_any g A n c _ h).mono ?_); rintro e w' ⟨rfl, rfl⟩))
  go_ret
  exact ⟨rfl, rfl⟩
theorem atI_yes (g : Nat) (A : Option Addr) (n c i : Nat) (v : Int) (w : World) (h : w.cell? ⟨g, 0, none⟩ = some (.slice A n c)) (b off : Nat) (hA : A = some ⟨b, off, none⟩) (hv : w.cell? ⟨b, off + i, none⟩ = some (.int .i64 v)) (hi : i < n) :
    Calls Try.prog 25 #[.pointer (some ⟨g, 0, none⟩), .int .i64 (i : Int)] w fun e w' => e = .returned (.tuple #[.int .i64 v, .bool true]) ∧ w = w' := by
  subst hA
  have h1 : decide ((i : Int) < 0) = false := by rw [decide_eq_false_iff_not]; omega
  have h2 : decide (n ≤ i) = false := by rw [decide_eq_false_iff_not]; omega
  have h3 : (i : Int) < (n : Int) := by omega
  go_enter Try.func25, Try.ntmps25
  go_wp2_with (go_at_call 38; ((with_reducible refine (rowI_any g _ n c _ h).mono ?_); rintro e w' ⟨rfl, rfl⟩))
  go_ret2
  exact ⟨rfl, rfl⟩
theorem atI_behind (g : Nat) (A : Option Addr) (n c : Nat) (w : World) (h : w.cell? ⟨g, 0, none⟩ = some (.slice A n c)) :
    Calls Try.prog 25 #[.pointer (some ⟨g, 0, none⟩), .int .i64 (n : Int)] w fun e w' => e = .returned (.tuple #[.int .i64 0, .bool false]) ∧ w = w' := by
  have h1 : decide ((n : Int) < 0) = false := by rw [decide_eq_false_iff_not]; omega
  go_enter Try.func25, Try.ntmps25
  go_wp2_with (go_at_call 38; ((with_reducible refine (rowI_any g _ n c _ h).mono ?_); rintro e w' ⟨rfl, rfl⟩))
  go_ret2
  exact ⟨rfl, rfl⟩
theorem atI_ahead (g : Nat) (A : Option Addr) (n c : Nat) (w : World) (h : w.cell? ⟨g, 0, none⟩ = some (.slice A n c)) :
    Calls Try.prog 25 #[.pointer (some ⟨g, 0, none⟩), .int .i64 (-1)] w fun e w' => e = .returned (.tuple #[.int .i64 0, .bool false]) ∧ w = w' := by
  go_enter Try.func25, Try.ntmps25
  go_wp2_with (go_at_call 38; ((with_reducible refine (rowI_any g _ n c _ h).mono ?_); rintro e w' ⟨rfl, rfl⟩))
  go_ret2
  exact ⟨rfl, rfl⟩
theorem atI_none (w : World) :
    Calls Try.prog 25 #[.pointer none, .int .i64 0] w fun e w' => e = .returned (.tuple #[.int .i64 0, .bool false]) ∧ w = w' := by
  go_enter Try.func25, Try.ntmps25
  go_wp2_with (go_at_call 38; ((with_reducible refine (rowI_nil _).mono ?_); rintro e w' ⟨rfl, rfl⟩))
  go_ret2
  exact ⟨rfl, rfl⟩
theorem lenI_none (w : World) : Calls Try.prog 20 #[.pointer none] w fun e w' => e = .returned (.int .i64 0) ∧ w = w' := by
  go_enter Try.func20, Try.ntmps20
  go_wp2_with (go_at_call 38; ((with_reducible refine (rowI_nil _).mono ?_); rintro e w' ⟨rfl, rfl⟩))
  go_ret
  exact ⟨rfl, rfl⟩
theorem addI_none (v : Int) (w : World) : Calls Try.prog 21 #[.pointer none, .int .i64 v] w fun e w' => e = .returned (.int .i64 (-1)) ∧ w = w' := by
  go_enter Try.func21, Try.ntmps21
  go_wp2
  go_ret
  exact ⟨rfl, rfl⟩
theorem cloneI_nil (w : World) : Calls Try.prog 39 #[.slice none 0 0] w fun e w' => e = .returned (.slice none 0 0) ∧ w = w' := by
  have hq := fun w : World => Lib.run_eql_slice_nil (P := Try.prog) w 22 3 none 0 0 0 0 Try.underlying22
  go_enter Try.func39, Try.ntmps39
  go_wp2
  go_ret
  exact ⟨rfl, rfl⟩

/-- A Table at block g that holds xs; what it owns lies from block B on. -/
def TabI (w : World) (B g : Nat) (xs : List Int) : Prop :=
  (xs = [] ∧ w.heap[g]? = some (.cells #[.slice none 0 0, .pointer none] 41 (0, 0))) ∨
  ∃ (va : Option Addr) (c gf : Nat), w.heap[g]? = some (.cells #[.slice va xs.length c, .pointer (some ⟨gf, 0, none⟩)] 41 (0, 0)) ∧ w.heap[gf]? = some (.cells #[.int .i64 (xs.length : Int)] 3 (0, 0)) ∧ B ≤ gf ∧ (∀ b, Value.ownBlock (.slice va xs.length c) = some b → b ≠ gf) ∧ w.ownsRow B 3 1 (.slice va xs.length c) xs.length (xs.map (Value.int .i64))

theorem TabI.kept {w w' : World} {B g : Nat} {xs : List Int} (h : TabI w B g xs) (hk : ∀ k, k < w.heap.size → w'.heap[k]? = w.heap[k]?) : TabI w' B g xs := by
  rcases h with ⟨h1, h2⟩ | ⟨va, c, gf, h1, h2, h3, h4, h5⟩
  · exact .inl ⟨h1, (hk _ (lt_of_block h2)).trans h2⟩
  · refine .inr ⟨va, c, gf, (hk _ (lt_of_block h1)).trans h1, (hk _ (lt_of_block h2)).trans h2, h3, h4, h5.1, ?_⟩
    rcases h5.2 with h6 | ⟨q, cap, cur, a1, a2, a3, a4⟩
    · exact .inl h6
    · exact .inr ⟨q, cap, cur, a1, a2, (hk _ (lt_of_block a3)).trans a3, a4⟩
theorem TabI.kept2 {w w' : World} {B g q : Nat} {xs : List Int} (h : TabI w B g xs) (hk : ∀ k, k < w.heap.size → k ≠ q → w'.heap[k]? = w.heap[k]?) (hq : q < B) (hqg : g ≠ q) : TabI w' B g xs := by
  rcases h with ⟨h1, h2⟩ | ⟨va, c, gf, h1, h2, h3, h4, h5⟩
  · exact .inl ⟨h1, (hk _ (lt_of_block h2) hqg).trans h2⟩
  · refine .inr ⟨va, c, gf, (hk _ (lt_of_block h1) hqg).trans h1, (hk _ (lt_of_block h2) (by omega)).trans h2, h3, h4, h5.1, ?_⟩
    rcases h5.2 with h6 | ⟨p, cap, cur, a1, a2, a3, a4⟩
    · exact .inl h6
    · exact .inr ⟨p, cap, cur, a1, a2, (hk _ (lt_of_block a3) (by omega)).trans a3, a4⟩
theorem TabI.head {w : World} {B g : Nat} {xs : List Int} (h : TabI w B g xs) : ∃ A c, w.cell? ⟨g, 0, none⟩ = some (.slice A xs.length c) ∧ xs.length ≤ c ∧ c ≤ maxLen ∧ RI w w.heap.size A xs ∧ g < w.heap.size := by
  rcases h with ⟨h1, h2⟩ | ⟨va, c, gf, h1, h2, h3, h4, h5⟩
  · subst h1
    exact ⟨none, 0, by simp [World.cell?, h2], Nat.le_refl _, Nat.zero_le _, .inl rfl, lt_of_block h2⟩
  · obtain ⟨a, c', hv, h6, h7⟩ := own_slice h5
    injection hv with e1 _ e2
    subst e1; subst e2
    exact ⟨va, c, by simp [World.cell?, h1], h6, h7, own_rc h5, lt_of_block h1⟩

/-- What Add leaves. -/
def AddPostI (B g : Nat) (xs : List Int) (x : Int) (w : World) (e : Ending) (w' : World) : Prop :=
  e = .returned (.int .i64 (xs.length : Int)) ∧ TabI w' B g (xs ++ [x]) ∧ KeepT B g w w'

theorem tab_doneI {w w1 w2 : World} {B g gf n : Nat} {xs : List Int} {x : Int} {u : Value} {m : Int} {a2 : Option Addr} {p2 : Nat} (hk : KeepT B g w w1) (hgB : g < B) (hfB : B ≤ gf)
    (h1 : w2.heap[g]? = some (.cells #[u, .pointer (some ⟨gf, 0, none⟩)] 41 (0, 0))) (h2 : w2.heap[gf]? = some (.cells #[.int .i64 m] 3 (0, 0))) (hne : ∀ b, Value.ownBlock (.slice a2 (n + 1) p2) = some b → b ≠ gf)
    (ho : w2.ownsRow B 3 1 (.slice a2 (n + 1) p2) (n + 1) (xs.map (Value.int .i64) ++ [.int .i64 x])) (hb : Below B w1 w2) (hn : xs.length = n) :
    AddPostI B g xs x w (.returned (.int .i64 (n : Int))) ((w2.setCell ⟨g, 0, none⟩ (.slice a2 (n + 1) p2)).setCell ⟨gf, 0, none⟩ (.int .i64 ((n : Int) + 1))) := by
  subst hn
  have hgf : g ≠ gf := by omega
  have hl : (xs ++ [x]).length = xs.length + 1 := by simp
  refine ⟨rfl, .inr ⟨a2, p2, gf, ?_, ?_, hfB, ?_, ?_⟩, ((hk.below hb).setCell _ _).setHigh _ _ hfB _⟩
  · rw [Below.heap_setCell _ _ _ _ hgf, hl]
    exact two_set0 h1 _
  · rw [hl]
    have := one_setCell (u := .int .i64 ((xs.length : Int) + 1)) ((Below.heap_setCell w2 ⟨g, 0, none⟩ (.slice a2 (xs.length + 1) p2) gf (fun e => hgf e.symm)).trans h2)
    exact this
  · rw [hl]; exact hne
  · rw [hl, List.map_append]
    refine ownsRow_setCell_other (a := ⟨gf, 0, none⟩) (ownsRow_setCell_below (a := ⟨g, 0, none⟩) ho hgB _) ?_ _
    intro e
    exact hne gf e rfl

set_option maxRecDepth 100000 in
set_option maxHeartbeats 2000000 in
theorem addI_any (B g : Nat) (xs : List Int) (x : Int) (w : World) (h : TabI w B g xs) (hgB : g < B) (hB : B ≤ w.heap.size) (hn : xs.length ≤ 1000) :
    Calls Try.prog 21 #[.pointer (some ⟨g, 0, none⟩), .int .i64 x] w (AddPostI B g xs x w) := by
  obtain ⟨i0, hi0, hz0, hz1, hz2⟩ := info_parts int_info
  rcases h with ⟨rfl, h1⟩ | ⟨va, c, gf, h1, h2, h3, h4, h5⟩
  · have c1 : w.cell? ⟨g, 0, none⟩ = some (.slice none 0 0) := by simp [World.cell?, h1]
    have c2 : w.cell? ⟨g, 1, none⟩ = some (.pointer none) := by simp [World.cell?, h1]
    have c3 : ∀ i, w.frozen? ⟨g, i, none⟩ = false := fun i => by simp [World.frozen?, h1]
    have c30 := c3 0
    have c31 := c3 1
    have hgs : g < w.heap.size := lt_of_block h1
    have H1 := Lib.hid h1
    clear h1 c3
    go_enter Try.func21, Try.ntmps21
    go_upto_region 6 with (go_at_call 39; ((with_reducible refine (cloneI_nil _).mono ?_); rintro e w' ⟨rfl, rfl⟩))
    have R1 : Hid ((((w.setCell ⟨g, 0, none⟩ (.slice none 0 0)).setCell ⟨g, 1, none⟩ (.pointer (some ⟨w.heap.size, 0, none⟩))).alloc (.cells #[.int .i64 0] 3)).heap[g]? = some (.cells #[.slice none 0 0, .pointer (some ⟨w.heap.size, 0, none⟩)] 41 (0, 0))) := by
      show _ = _
      rw [Below.heap_alloc _ _ _ (by simpa [World.setCell] using hgs)]
      exact two_set H1.out _ _
    have F1 : Hid ((((w.setCell ⟨g, 0, none⟩ (.slice none 0 0)).setCell ⟨g, 1, none⟩ (.pointer (some ⟨w.heap.size, 0, none⟩))).alloc (.cells #[.int .i64 0] 3)).heap[w.heap.size]? = some (.cells #[.int .i64 0] 3 (0, 0))) := flag_new w _ _ _ _
    have K1 : Hid (KeepT B g w (((w.setCell ⟨g, 0, none⟩ (.slice none 0 0)).setCell ⟨g, 1, none⟩ (.pointer (some ⟨w.heap.size, 0, none⟩))).alloc (.cells #[.int .i64 0] 3))) := (((KeepT.refl B g w).setCell _ _).setCell _ _).alloc (by simpa [World.setCell] using hB) _
    have HO : Hid ((((w.setCell ⟨g, 0, none⟩ (.slice none 0 0)).setCell ⟨g, 1, none⟩ (.pointer (some ⟨w.heap.size, 0, none⟩))).alloc (.cells #[.int .i64 0] 3)).ownsRow B 3 1 (.slice none 0 0) 0 []) := World.ownsRow_nil _ _ _ _
    have NE : Hid (∀ b, Value.ownBlock (.slice none 0 0) = some b → b ≠ w.heap.size) := fun b hb => by simp [Value.ownBlock] at hb
    generalize (((w.setCell ⟨g, 0, none⟩ (.slice none 0 0)).setCell ⟨g, 1, none⟩ (.pointer (some ⟨w.heap.size, 0, none⟩))).alloc (.cells #[.int .i64 0] 3)) = w1 at *
    have hB1 : B ≤ w1.heap.size := Nat.le_trans hB K1.out.size
    have hfB : Hid (B ≤ w.heap.size) := hB
    clear H1 c1 c2 c30 c31
    obtain ⟨e1, e2, e3, e4, e5, e6⟩ := tab_cells R1.out F1.out
    have hgf : g ≠ w.heap.size := by omega
    generalize w.heap.size = gf at *
    go_wp2_with (at_builtin; refine app_one w1 rfl (.tmp 44) (.tmp 46) rfl Try.underlying22 hi0 hz0 hz1 hz2 rfl B _ 0 _ (.int .i64 x) rfl HO.out rfl _ rfl rfl (by omega) (by omega) hB1 ?_; intro v2 w2 hown2 hg2 hb2 hat2; obtain ⟨a2, p2, rfl, _, _⟩ := own_slice hown2; obtain ⟨e1, e2, e3, e4, e5, e6⟩ := tab_cells (tab_row hgB hB1 R1.out HO.out hb2) (tab_flag F1.out NE.out hg2); have D7 := Lib.hid (tab_ne F1.out NE.out hat2); have D1 := Lib.hid (tab_row hgB hB1 R1.out HO.out hb2); have D2 := Lib.hid (tab_flag F1.out NE.out hg2); have HO2 := Lib.hid hown2; have HB2 := Lib.hid (hb2 B (fun b hb => (HO.out.lt b hb).1) hB1); clear hown2 hg2 hb2 hat2)
    go_ret
    exact tab_doneI K1.out hgB hfB.out D1.out D2.out D7.out HO2.out HB2.out rfl
  · have R1 := Lib.hid h1
    have F1 := Lib.hid h2
    have HO := Lib.hid h5
    have NE := Lib.hid h4
    obtain ⟨e1, e2, e3, e4, e5, e6⟩ := tab_cells h1 h2
    have hB1 := hB
    have hgf : g ≠ gf := by omega
    have K1 := Lib.hid (KeepT.refl B g w)
    have hfB := Lib.hid h3
    clear h1 h2 h4 h5 h3
    obtain ⟨n, HN⟩ : ∃ n, Hid (xs.length = n) := ⟨_, rfl⟩
    rw [HN.out] at R1 F1 HO NE e1 e3 hn
    have hne : ((n : Int) != (n : Int)) = false := by simp
    obtain ⟨w1, rfl⟩ : ∃ w1 : World, w1 = w := ⟨_, rfl⟩
    go_enter Try.func21, Try.ntmps21
    go_wp2_with (at_builtin; refine app_one w1 rfl (.tmp 44) (.tmp 46) rfl Try.underlying22 hi0 hz0 hz1 hz2 rfl B _ n _ (.int .i64 x) rfl HO.out rfl _ rfl rfl (by omega) (by omega) hB1 ?_; intro v2 w2 hown2 hg2 hb2 hat2; obtain ⟨a2, p2, rfl, _, _⟩ := own_slice hown2; obtain ⟨e1, e2, e3, e4, e5, e6⟩ := tab_cells (tab_row hgB hB1 R1.out HO.out hb2) (tab_flag F1.out NE.out hg2); have D7 := Lib.hid (tab_ne F1.out NE.out hat2); have D1 := Lib.hid (tab_row hgB hB1 R1.out HO.out hb2); have D2 := Lib.hid (tab_flag F1.out NE.out hg2); have HO2 := Lib.hid hown2; have HB2 := Lib.hid (hb2 B (fun b hb => (HO.out.lt b hb).1) hB1); clear hown2 hg2 hb2 hat2)
    go_ret
    exact tab_doneI K1.out hgB hfB.out D1.out D2.out D7.out HO2.out HB2.out HN.out

/-! ### At strings -/
theorem rowS_nil (w : World) : Calls Try.prog 42 #[.pointer none] w fun e w' => e = .returned (.slice none 0 0) ∧ w = w' := by
  go_enter Try.func42, Try.ntmps42
  go_wp2
  go_ret
  exact ⟨rfl, rfl⟩
theorem rowS_any (g : Nat) (A : Option Addr) (n c : Nat) (w : World) (h : w.cell? ⟨g, 0, none⟩ = some (.slice A n c)) : Calls Try.prog 42 #[.pointer (some ⟨g, 0, none⟩)] w fun e w' => e = .returned (.slice A n c) ∧ w = w' := by
  go_enter Try.func42, Try.ntmps42
  go_wp2
  go_ret
  exact ⟨rfl, rfl⟩
theorem lenS_any (g : Nat) (A : Option Addr) (n c : Nat) (w : World) (h : w.cell? ⟨g, 0, none⟩ = some (.slice A n c)) : Calls Try.prog 26 #[.pointer (some ⟨g, 0, none⟩)] w fun e w' => e = .returned (.int .i64 (n : Int)) ∧ w = w' := by
  go_enter Try.func26, Try.ntmps26
  go_wp2_with (go_at_call 42; ((with_reducible refine (rowS_any g A n c _ h).mono ?_); rintro e w' ⟨rfl, rfl⟩))
  go_ret
  exact ⟨rfl, rfl⟩
theorem atS_yes (g : Nat) (A : Option Addr) (n c i : Nat) (v : ByteArray) (w : World) (h : w.cell? ⟨g, 0, none⟩ = some (.slice A n c)) (b off : Nat) (hA : A = some ⟨b, off, none⟩) (hv : w.cell? ⟨b, off + i, none⟩ = some (.string v)) (hi : i < n) :
    Calls Try.prog 24 #[.pointer (some ⟨g, 0, none⟩), .int .i64 (i : Int)] w fun e w' => e = .returned (.tuple #[.string v, .bool true]) ∧ w = w' := by
  subst hA
  have h1 : decide ((i : Int) < 0) = false := by rw [decide_eq_false_iff_not]; omega
  have h2 : decide (n ≤ i) = false := by rw [decide_eq_false_iff_not]; omega
  have h3 : (i : Int) < (n : Int) := by omega
  go_enter Try.func24, Try.ntmps24
  go_wp2_with (go_at_call 42; ((with_reducible refine (rowS_any g _ n c _ h).mono ?_); rintro e w' ⟨rfl, rfl⟩))
  go_ret2
  exact ⟨rfl, rfl⟩
theorem atS_behind (g : Nat) (A : Option Addr) (n c : Nat) (w : World) (h : w.cell? ⟨g, 0, none⟩ = some (.slice A n c)) :
    Calls Try.prog 24 #[.pointer (some ⟨g, 0, none⟩), .int .i64 (n : Int)] w fun e w' => e = .returned (.tuple #[.string ⟨#[]⟩, .bool false]) ∧ w = w' := by
  have h1 : decide ((n : Int) < 0) = false := by rw [decide_eq_false_iff_not]; omega
  go_enter Try.func24, Try.ntmps24
  go_wp2_with (go_at_call 42; ((with_reducible refine (rowS_any g _ n c _ h).mono ?_); rintro e w' ⟨rfl, rfl⟩))
  go_ret2
  exact ⟨rfl, rfl⟩
theorem atS_ahead (g : Nat) (A : Option Addr) (n c : Nat) (w : World) (h : w.cell? ⟨g, 0, none⟩ = some (.slice A n c)) :
    Calls Try.prog 24 #[.pointer (some ⟨g, 0, none⟩), .int .i64 (-1)] w fun e w' => e = .returned (.tuple #[.string ⟨#[]⟩, .bool false]) ∧ w = w' := by
  go_enter Try.func24, Try.ntmps24
  go_wp2_with (go_at_call 42; ((with_reducible refine (rowS_any g _ n c _ h).mono ?_); rintro e w' ⟨rfl, rfl⟩))
  go_ret2
  exact ⟨rfl, rfl⟩
theorem atS_none (w : World) :
    Calls Try.prog 24 #[.pointer none, .int .i64 0] w fun e w' => e = .returned (.tuple #[.string ⟨#[]⟩, .bool false]) ∧ w = w' := by
  go_enter Try.func24, Try.ntmps24
  go_wp2_with (go_at_call 42; ((with_reducible refine (rowS_nil _).mono ?_); rintro e w' ⟨rfl, rfl⟩))
  go_ret2
  exact ⟨rfl, rfl⟩
theorem lenS_none (w : World) : Calls Try.prog 26 #[.pointer none] w fun e w' => e = .returned (.int .i64 0) ∧ w = w' := by
  go_enter Try.func26, Try.ntmps26
  go_wp2_with (go_at_call 42; ((with_reducible refine (rowS_nil _).mono ?_); rintro e w' ⟨rfl, rfl⟩))
  go_ret
  exact ⟨rfl, rfl⟩
theorem addS_none (v : ByteArray) (w : World) : Calls Try.prog 22 #[.pointer none, .string v] w fun e w' => e = .returned (.int .i64 (-1)) ∧ w = w' := by
  go_enter Try.func22, Try.ntmps22
  go_wp2
  go_ret
  exact ⟨rfl, rfl⟩
theorem cloneS_nil (w : World) : Calls Try.prog 40 #[.slice none 0 0] w fun e w' => e = .returned (.slice none 0 0) ∧ w = w' := by
  have hq := fun w : World => Lib.run_eql_slice_nil (P := Try.prog) w 27 9 none 0 0 0 0 Try.underlying27
  go_enter Try.func40, Try.ntmps40
  go_wp2
  go_ret
  exact ⟨rfl, rfl⟩

/-- A Table at block g that holds xs; what it owns lies from block B on. -/
def TabS (w : World) (B g : Nat) (xs : List ByteArray) : Prop :=
  (xs = [] ∧ w.heap[g]? = some (.cells #[.slice none 0 0, .pointer none] 43 (0, 0))) ∨
  ∃ (va : Option Addr) (c gf : Nat), w.heap[g]? = some (.cells #[.slice va xs.length c, .pointer (some ⟨gf, 0, none⟩)] 43 (0, 0)) ∧ w.heap[gf]? = some (.cells #[.int .i64 (xs.length : Int)] 3 (0, 0)) ∧ B ≤ gf ∧ (∀ b, Value.ownBlock (.slice va xs.length c) = some b → b ≠ gf) ∧ w.ownsRow B 9 1 (.slice va xs.length c) xs.length (xs.map Value.string)

theorem TabS.kept {w w' : World} {B g : Nat} {xs : List ByteArray} (h : TabS w B g xs) (hk : ∀ k, k < w.heap.size → w'.heap[k]? = w.heap[k]?) : TabS w' B g xs := by
  rcases h with ⟨h1, h2⟩ | ⟨va, c, gf, h1, h2, h3, h4, h5⟩
  · exact .inl ⟨h1, (hk _ (lt_of_block h2)).trans h2⟩
  · refine .inr ⟨va, c, gf, (hk _ (lt_of_block h1)).trans h1, (hk _ (lt_of_block h2)).trans h2, h3, h4, h5.1, ?_⟩
    rcases h5.2 with h6 | ⟨q, cap, cur, a1, a2, a3, a4⟩
    · exact .inl h6
    · exact .inr ⟨q, cap, cur, a1, a2, (hk _ (lt_of_block a3)).trans a3, a4⟩
theorem TabS.kept2 {w w' : World} {B g q : Nat} {xs : List ByteArray} (h : TabS w B g xs) (hk : ∀ k, k < w.heap.size → k ≠ q → w'.heap[k]? = w.heap[k]?) (hq : q < B) (hqg : g ≠ q) : TabS w' B g xs := by
  rcases h with ⟨h1, h2⟩ | ⟨va, c, gf, h1, h2, h3, h4, h5⟩
  · exact .inl ⟨h1, (hk _ (lt_of_block h2) hqg).trans h2⟩
  · refine .inr ⟨va, c, gf, (hk _ (lt_of_block h1) hqg).trans h1, (hk _ (lt_of_block h2) (by omega)).trans h2, h3, h4, h5.1, ?_⟩
    rcases h5.2 with h6 | ⟨p, cap, cur, a1, a2, a3, a4⟩
    · exact .inl h6
    · exact .inr ⟨p, cap, cur, a1, a2, (hk _ (lt_of_block a3) (by omega)).trans a3, a4⟩
theorem TabS.head {w : World} {B g : Nat} {xs : List ByteArray} (h : TabS w B g xs) : ∃ A c, w.cell? ⟨g, 0, none⟩ = some (.slice A xs.length c) ∧ xs.length ≤ c ∧ c ≤ maxLen ∧ RS w w.heap.size A xs ∧ g < w.heap.size := by
  rcases h with ⟨h1, h2⟩ | ⟨va, c, gf, h1, h2, h3, h4, h5⟩
  · subst h1
    exact ⟨none, 0, by simp [World.cell?, h2], Nat.le_refl _, Nat.zero_le _, .inl rfl, lt_of_block h2⟩
  · obtain ⟨a, c', hv, h6, h7⟩ := own_slice h5
    injection hv with e1 _ e2
    subst e1; subst e2
    exact ⟨va, c, by simp [World.cell?, h1], h6, h7, own_rc h5, lt_of_block h1⟩

/-- What Add leaves. -/
def AddPostS (B g : Nat) (xs : List ByteArray) (x : ByteArray) (w : World) (e : Ending) (w' : World) : Prop :=
  e = .returned (.int .i64 (xs.length : Int)) ∧ TabS w' B g (xs ++ [x]) ∧ KeepT B g w w'

theorem tab_doneS {w w1 w2 : World} {B g gf n : Nat} {xs : List ByteArray} {x : ByteArray} {u : Value} {m : Int} {a2 : Option Addr} {p2 : Nat} (hk : KeepT B g w w1) (hgB : g < B) (hfB : B ≤ gf)
    (h1 : w2.heap[g]? = some (.cells #[u, .pointer (some ⟨gf, 0, none⟩)] 43 (0, 0))) (h2 : w2.heap[gf]? = some (.cells #[.int .i64 m] 3 (0, 0))) (hne : ∀ b, Value.ownBlock (.slice a2 (n + 1) p2) = some b → b ≠ gf)
    (ho : w2.ownsRow B 9 1 (.slice a2 (n + 1) p2) (n + 1) (xs.map Value.string ++ [.string x])) (hb : Below B w1 w2) (hn : xs.length = n) :
    AddPostS B g xs x w (.returned (.int .i64 (n : Int))) ((w2.setCell ⟨g, 0, none⟩ (.slice a2 (n + 1) p2)).setCell ⟨gf, 0, none⟩ (.int .i64 ((n : Int) + 1))) := by
  subst hn
  have hgf : g ≠ gf := by omega
  have hl : (xs ++ [x]).length = xs.length + 1 := by simp
  refine ⟨rfl, .inr ⟨a2, p2, gf, ?_, ?_, hfB, ?_, ?_⟩, ((hk.below hb).setCell _ _).setHigh _ _ hfB _⟩
  · rw [Below.heap_setCell _ _ _ _ hgf, hl]
    exact two_set0 h1 _
  · rw [hl]
    have := one_setCell (u := .int .i64 ((xs.length : Int) + 1)) ((Below.heap_setCell w2 ⟨g, 0, none⟩ (.slice a2 (xs.length + 1) p2) gf (fun e => hgf e.symm)).trans h2)
    exact this
  · rw [hl]; exact hne
  · rw [hl, List.map_append]
    refine ownsRow_setCell_other (a := ⟨gf, 0, none⟩) (ownsRow_setCell_below (a := ⟨g, 0, none⟩) ho hgB _) ?_ _
    intro e
    exact hne gf e rfl

set_option maxRecDepth 100000 in
set_option maxHeartbeats 2000000 in
theorem addS_any (B g : Nat) (xs : List ByteArray) (x : ByteArray) (w : World) (h : TabS w B g xs) (hgB : g < B) (hB : B ≤ w.heap.size) (hn : xs.length ≤ 1000) :
    Calls Try.prog 22 #[.pointer (some ⟨g, 0, none⟩), .string x] w (AddPostS B g xs x w) := by
  obtain ⟨i0, hi0, hz0, hz1, hz2⟩ := info_parts string_info'
  rcases h with ⟨rfl, h1⟩ | ⟨va, c, gf, h1, h2, h3, h4, h5⟩
  · have c1 : w.cell? ⟨g, 0, none⟩ = some (.slice none 0 0) := by simp [World.cell?, h1]
    have c2 : w.cell? ⟨g, 1, none⟩ = some (.pointer none) := by simp [World.cell?, h1]
    have c3 : ∀ i, w.frozen? ⟨g, i, none⟩ = false := fun i => by simp [World.frozen?, h1]
    have c30 := c3 0
    have c31 := c3 1
    have hgs : g < w.heap.size := lt_of_block h1
    have H1 := Lib.hid h1
    clear h1 c3
    go_enter Try.func22, Try.ntmps22
    go_upto_region 6 with (go_at_call 40; ((with_reducible refine (cloneS_nil _).mono ?_); rintro e w' ⟨rfl, rfl⟩))
    have R1 : Hid ((((w.setCell ⟨g, 0, none⟩ (.slice none 0 0)).setCell ⟨g, 1, none⟩ (.pointer (some ⟨w.heap.size, 0, none⟩))).alloc (.cells #[.int .i64 0] 3)).heap[g]? = some (.cells #[.slice none 0 0, .pointer (some ⟨w.heap.size, 0, none⟩)] 43 (0, 0))) := by
      show _ = _
      rw [Below.heap_alloc _ _ _ (by simpa [World.setCell] using hgs)]
      exact two_set H1.out _ _
    have F1 : Hid ((((w.setCell ⟨g, 0, none⟩ (.slice none 0 0)).setCell ⟨g, 1, none⟩ (.pointer (some ⟨w.heap.size, 0, none⟩))).alloc (.cells #[.int .i64 0] 3)).heap[w.heap.size]? = some (.cells #[.int .i64 0] 3 (0, 0))) := flag_new w _ _ _ _
    have K1 : Hid (KeepT B g w (((w.setCell ⟨g, 0, none⟩ (.slice none 0 0)).setCell ⟨g, 1, none⟩ (.pointer (some ⟨w.heap.size, 0, none⟩))).alloc (.cells #[.int .i64 0] 3))) := (((KeepT.refl B g w).setCell _ _).setCell _ _).alloc (by simpa [World.setCell] using hB) _
    have HO : Hid ((((w.setCell ⟨g, 0, none⟩ (.slice none 0 0)).setCell ⟨g, 1, none⟩ (.pointer (some ⟨w.heap.size, 0, none⟩))).alloc (.cells #[.int .i64 0] 3)).ownsRow B 9 1 (.slice none 0 0) 0 []) := World.ownsRow_nil _ _ _ _
    have NE : Hid (∀ b, Value.ownBlock (.slice none 0 0) = some b → b ≠ w.heap.size) := fun b hb => by simp [Value.ownBlock] at hb
    generalize (((w.setCell ⟨g, 0, none⟩ (.slice none 0 0)).setCell ⟨g, 1, none⟩ (.pointer (some ⟨w.heap.size, 0, none⟩))).alloc (.cells #[.int .i64 0] 3)) = w1 at *
    have hB1 : B ≤ w1.heap.size := Nat.le_trans hB K1.out.size
    have hfB : Hid (B ≤ w.heap.size) := hB
    clear H1 c1 c2 c30 c31
    obtain ⟨e1, e2, e3, e4, e5, e6⟩ := tab_cells R1.out F1.out
    have hgf : g ≠ w.heap.size := by omega
    generalize w.heap.size = gf at *
    go_wp2_with (at_builtin; refine app_one w1 rfl (.tmp 44) (.tmp 46) rfl Try.underlying27 hi0 hz0 hz1 hz2 rfl B _ 0 _ (.string x) rfl HO.out rfl _ rfl rfl (by omega) (by omega) hB1 ?_; intro v2 w2 hown2 hg2 hb2 hat2; obtain ⟨a2, p2, rfl, _, _⟩ := own_slice hown2; obtain ⟨e1, e2, e3, e4, e5, e6⟩ := tab_cells (tab_row hgB hB1 R1.out HO.out hb2) (tab_flag F1.out NE.out hg2); have D7 := Lib.hid (tab_ne F1.out NE.out hat2); have D1 := Lib.hid (tab_row hgB hB1 R1.out HO.out hb2); have D2 := Lib.hid (tab_flag F1.out NE.out hg2); have HO2 := Lib.hid hown2; have HB2 := Lib.hid (hb2 B (fun b hb => (HO.out.lt b hb).1) hB1); clear hown2 hg2 hb2 hat2)
    go_ret
    exact tab_doneS K1.out hgB hfB.out D1.out D2.out D7.out HO2.out HB2.out rfl
  · have R1 := Lib.hid h1
    have F1 := Lib.hid h2
    have HO := Lib.hid h5
    have NE := Lib.hid h4
    obtain ⟨e1, e2, e3, e4, e5, e6⟩ := tab_cells h1 h2
    have hB1 := hB
    have hgf : g ≠ gf := by omega
    have K1 := Lib.hid (KeepT.refl B g w)
    have hfB := Lib.hid h3
    clear h1 h2 h4 h5 h3
    obtain ⟨n, HN⟩ : ∃ n, Hid (xs.length = n) := ⟨_, rfl⟩
    rw [HN.out] at R1 F1 HO NE e1 e3 hn
    have hne : ((n : Int) != (n : Int)) = false := by simp
    obtain ⟨w1, rfl⟩ : ∃ w1 : World, w1 = w := ⟨_, rfl⟩
    go_enter Try.func22, Try.ntmps22
    go_wp2_with (at_builtin; refine app_one w1 rfl (.tmp 44) (.tmp 46) rfl Try.underlying27 hi0 hz0 hz1 hz2 rfl B _ n _ (.string x) rfl HO.out rfl _ rfl rfl (by omega) (by omega) hB1 ?_; intro v2 w2 hown2 hg2 hb2 hat2; obtain ⟨a2, p2, rfl, _, _⟩ := own_slice hown2; obtain ⟨e1, e2, e3, e4, e5, e6⟩ := tab_cells (tab_row hgB hB1 R1.out HO.out hb2) (tab_flag F1.out NE.out hg2); have D7 := Lib.hid (tab_ne F1.out NE.out hat2); have D1 := Lib.hid (tab_row hgB hB1 R1.out HO.out hb2); have D2 := Lib.hid (tab_flag F1.out NE.out hg2); have HO2 := Lib.hid hown2; have HB2 := Lib.hid (hb2 B (fun b hb => (HO.out.lt b hb).1) hB1); clear hown2 hg2 hb2 hat2)
    go_ret
    exact tab_doneS K1.out hgB hfB.out D1.out D2.out D7.out HO2.out HB2.out HN.out
end Go.Proofs.Ytakgkfdbgjljkaa.Rank
