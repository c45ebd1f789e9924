/-
  Layer 3 (rank): By at integers and at strings, which defers a closure that recovers; Ints, Texts.
-/
import Derived.Test.YtakgkfdbgjljkaaRankSorted
import Derived.Defers
import Derived.Recover
namespace Go.Proofs.Ytakgkfdbgjljkaa.Rank
open Go.ChangeShapes Go.WideShapes Go.ChangeAt Go.RowKit MemC
set_option linter.unusedVariables false

theorem nanI (x : Int) (w : World) : Calls Try.prog 45 #[.int .i64 x] w fun e w' => e = .returned (.bool false) ∧ w = w' := by
  have hx : (x != x) = false := by simp
  go_enter Try.func45, Try.ntmps45
  go_wp2
  go_ret
  exact ⟨rfl, rfl⟩
theorem lessI (x y : Int) (w : World) : Calls Try.prog 28 #[.int .i64 x, .int .i64 y] w fun e w' => e = .returned (.bool (decide (x < y))) ∧ w = w' := by
  go_enter Try.func28, Try.ntmps28
  go_wp2_with (go_at_call 45; ((with_reducible refine (nanI _ _).mono ?_); rintro e w' ⟨rfl, rfl⟩))
  go_ret
  exact ⟨rfl, rfl⟩

theorem nanS (x : ByteArray) (w : World) : Calls Try.prog 48 #[.string x] w fun e w' => e = .returned (.bool false) ∧ w = w' := by
  have hx : (x.toList == x.toList) = true := by simp
  go_enter Try.func48, Try.ntmps48
  go_wp2
  go_ret
  exact ⟨by simp, rfl⟩
theorem lessS (x y : ByteArray) (w : World) : Calls Try.prog 31 #[.string x, .string y] w fun e w' => e = .returned (.bool (Op.bytesLess x.toList y.toList)) ∧ w = w' := by
  go_enter Try.func31, Try.ntmps31
  go_wp2_with (go_at_call 48; ((with_reducible refine (nanS _ _).mono ?_); rintro e w' ⟨rfl, rfl⟩))
  go_ret
  exact ⟨rfl, rfl⟩

/-! ### Orders of texts -/
theorem bl_asym : ∀ x y, Op.bytesLess x y = true → Op.bytesLess y x = false
  | _, [], h => by simp [Op.bytesLess] at h
  | [], _ :: _, _ => by simp [Op.bytesLess]
  | a :: x, b :: y, h => by
    have ih := bl_asym x y
    simp only [Op.bytesLess, Bool.or_eq_true, decide_eq_true_eq, Bool.and_eq_true, beq_iff_eq, UInt8.lt_iff_toNat_lt, Bool.or_eq_false_iff, decide_eq_false_iff_not, Bool.and_eq_false_iff, beq_eq_false_iff_ne] at h ⊢
    rcases h with h | ⟨rfl, h⟩
    · exact ⟨by omega, .inl (fun e => by rw [e] at h; omega)⟩
    · exact ⟨by omega, .inr (ih h)⟩
theorem bl_ntr : ∀ x y z, Op.bytesLess x y = false → Op.bytesLess y z = false → Op.bytesLess x z = false
  | _, _, [], _, _ => by simp [Op.bytesLess]
  | _, [], _ :: _, _, h => by simp [Op.bytesLess] at h
  | [], _ :: _, _ :: _, h, _ => by simp [Op.bytesLess] at h
  | a :: x, b :: y, c :: z, h1, h2 => by
    have ih := bl_ntr x y z
    simp only [Op.bytesLess, UInt8.lt_iff_toNat_lt, Bool.or_eq_false_iff, decide_eq_false_iff_not, Bool.and_eq_false_iff, beq_eq_false_iff_ne] at h1 h2 ⊢
    refine ⟨by omega, ?_⟩
    by_cases e : a = c
    · subst e
      have e2 : a = b := UInt8.toNat_inj.1 (by omega)
      subst e2
      exact .inr (ih (h1.2.resolve_left (fun h => h rfl)) (h2.2.resolve_left (fun h => h rfl)))
    · exact .inl e

def ltS (ss : List ByteArray) (i j : Nat) : Bool := Op.bytesLess (ss.getD i ⟨#[]⟩).toList (ss.getD j ⟨#[]⟩).toList
theorem ltS_wo (ss : List ByteArray) : WO (ltS ss) := ⟨fun i j h => bl_asym _ _ h, fun i j k h1 h2 => bl_ntr _ _ _ h1 h2⟩
/-- The order of texts. -/
def oS (ss : List ByteArray) : List Nat := ordN (ltS ss) ss.length
theorem oS_is (ss : List ByteArray) : IsOrd (ltS ss) ss.length (oS ss) := ordN_is (ltS_wo ss) _
theorem oS_len (ss : List ByteArray) : (oS ss).length = ss.length := (oS_is ss).len

/-! ### The closures -/
set_option maxHeartbeats 1000000 in
theorem closI (c1 c2 : Nat) (A : Option Addr) (n cap : Nat) (xs : List Int) (W : World) (B : Nat) (h1 : W.cell? ⟨c1, 0, none⟩ = some (.func (.func 28) #[] #[])) (h2 : W.cell? ⟨c2, 0, none⟩ = some (.slice A n cap)) (hr : RI W B A xs) (hx : xs.length = n) (i j : Nat) (hi : i < n) (hj : j < n) :
    Calls Try.prog 44 #[.int .i64 (i : Int), .int .i64 (j : Int), .pointer (some ⟨c1, 0, none⟩), .pointer (some ⟨c2, 0, none⟩)] W fun e W' => e = .returned (.bool (ltI xs i j)) ∧ W.grownBy W' none := by
  obtain ⟨b, off, rfl, _, hc⟩ := hr.cell (by omega)
  have hci := hc i (by omega)
  have hcj := hc j (by omega)
  have hi' : (i : Int) < (n : Int) := by omega
  have hj' : (j : Int) < (n : Int) := by omega
  have he : decide (xs.getD i 0 < xs.getD j 0) = ltI xs i j := rfl
  have HE := Lib.hid he
  clear hc hr hx he
  generalize xs.getD i 0 = x at *
  generalize xs.getD j 0 = y at *
  go_enter Try.func44, Try.ntmps44
  go_wp2
  go_quiet ((go_at_call 28; exact Calls.quiet_of_same ((lessI _ _ _).mono fun e w' h => ⟨h.1, h.2.symm⟩)))
  go_wp2
  go_ret
  exact ⟨by rw [← HE.out]; rfl, ⟨rfl, rfl, rfl, Nat.le_refl _, fun _ _ _ => rfl⟩⟩

set_option maxHeartbeats 1000000 in
theorem closS (c1 c2 : Nat) (A : Option Addr) (n cap : Nat) (ss : List ByteArray) (W : World) (B : Nat) (h1 : W.cell? ⟨c1, 0, none⟩ = some (.func (.func 31) #[] #[])) (h2 : W.cell? ⟨c2, 0, none⟩ = some (.slice A n cap)) (hr : RS W B A ss) (hx : ss.length = n) (i j : Nat) (hi : i < n) (hj : j < n) :
    Calls Try.prog 47 #[.int .i64 (i : Int), .int .i64 (j : Int), .pointer (some ⟨c1, 0, none⟩), .pointer (some ⟨c2, 0, none⟩)] W fun e W' => e = .returned (.bool (ltS ss i j)) ∧ W.grownBy W' none := by
  obtain ⟨b, off, rfl, _, hc⟩ := hr.cell (by omega)
  have hci := hc i (by omega)
  have hcj := hc j (by omega)
  have hi' : (i : Int) < (n : Int) := by omega
  have hj' : (j : Int) < (n : Int) := by omega
  have he : Op.bytesLess (ss.getD i ⟨#[]⟩).toList (ss.getD j ⟨#[]⟩).toList = ltS ss i j := rfl
  have HE := Lib.hid he
  clear hc hr hx he
  generalize ss.getD i ⟨#[]⟩ = x at *
  generalize ss.getD j ⟨#[]⟩ = y at *
  go_enter Try.func47, Try.ntmps47
  go_wp2
  go_quiet ((go_at_call 31; exact Calls.quiet_of_same ((lessS _ _ _).mono fun e w' h => ⟨h.1, h.2.symm⟩)))
  go_wp2
  go_ret
  exact ⟨by rw [← HE.out]; rfl, ⟨rfl, rfl, rfl, Nat.le_refl _, fun _ _ _ => rfl⟩⟩

/-! ### The closures that recover, where nothing has panicked -/
theorem idleI (p q : Addr) (w : World) : CallsD Try.prog 43 #[.pointer (some p), .pointer (some q)] .returning w fun e u' w' => e = .returned (.tuple #[]) ∧ u' = .returning ∧ w' = w := by
  refine callsD_of_wpS Try.func43 rfl fun c₀ cs hu => ?_
  apply wpS_seq
  apply wpS_region
  simp [wpOpsS, go_sem, recoverD, hu, Try.ntmps43, Exit.thenS]
  refine wpS_cond (t := false) (by simp [Act.eval, Array.replicate]) ?_
  simp only [Bool.false_eq_true, if_false]
  refine wpS_of_wp (wp_skip ?_)
  cases c₀
  simp_all [bodyPostS, results, Try.results43]

/-- What By, Ints and Texts leave. -/
def ByPost (lt : Nat → Nat → Bool) (n : Nat) (w : World) (e : Ending) (w' : World) : Prop :=
  ∃ v, e = .returned v ∧ Below w.heap.size w w' ∧ w'.ownsRow w.heap.size 3 1 v n (vals (ordN lt n))

theorem by_end {lt : Nat → Nat → Bool} (hw : WO lt) {n : Nat} {w W0 W : World} {v : Value} {xs : List Nat} (h0 : Below w.heap.size w W0) (hz : W0.heap.size = w.heap.size + 1 + 1 + 1) (hb : Below W0.heap.size W0 W) (ho : W.ownsRow W0.heap.size 3 1 v n (vals xs)) (hd : IsOrd lt n xs) :
    ByPost lt n w (.returned v) (W.setCell ⟨w.heap.size + 1 + 1, 0, none⟩ v) := by
  refine ⟨v, rfl, (h0.trans (hb.mono h0.size)).setCell (by show w.heap.size ≤ w.heap.size + 1 + 1; omega) _, ?_⟩
  rw [← hd.uniq hw (ordN_is hw n)]
  exact own_base (ownsRow_setCell_below ho (by show w.heap.size + 1 + 1 < W0.heap.size; omega) _) h0.size

theorem cell_set {w : World} {p : Addr} {u v : Value} (h : w.cell? p = some u) : (w.setCell p v).cell? p = some v := by
  simp [go_sem, h]

theorem idleS (p q : Addr) (w : World) : CallsD Try.prog 46 #[.pointer (some p), .pointer (some q)] .returning w fun e u' w' => e = .returned (.tuple #[]) ∧ u' = .returning ∧ w' = w := by
  refine callsD_of_wpS Try.func46 rfl fun c₀ cs hu => ?_
  apply wpS_seq
  apply wpS_region
  simp [wpOpsS, go_sem, recoverD, hu, Try.ntmps46, Exit.thenS]
  refine wpS_cond (t := false) (by simp [Act.eval, Array.replicate]) ?_
  simp only [Bool.false_eq_true, if_false]
  refine wpS_of_wp (wp_skip ?_)
  cases c₀
  simp_all [bodyPostS, results, Try.results46]

set_option maxRecDepth 100000 in
set_option maxHeartbeats 2000000 in
theorem byI (A : Option Addr) (n cap : Nat) (xs : List Int) (w : World) (hr : RI w w.heap.size A xs) (hx : xs.length = n) (hn : n ≤ 1000000) :
    Calls Try.prog 27 #[.slice A n cap, .func (.func 28) #[] #[]] w (ByPost (ltI xs) n w) := by
  have hmf : ∀ (fn : Fn) (first cap : Array Value) (w : World), (Instr.makeFunc fn first cap).run Try.prog w = .ok (.func fn first cap) w := fun _ _ _ _ => rfl
  have hb3 : Below w.heap.size w (((w.alloc (.cells #[.slice A n cap] 22)).alloc (.cells #[.func (.func 28) #[] #[]] 57)).alloc (.cells #[.slice none 0 0] 22)) := (((Below.refl _ _).alloc (Nat.le_refl _) _).alloc (by simp) _).alloc (by simp; omega) _
  have hz3 : (((w.alloc (.cells #[.slice A n cap] 22)).alloc (.cells #[.func (.func 28) #[] #[]] 57)).alloc (.cells #[.slice none 0 0] 22)).heap.size = w.heap.size + 1 + 1 + 1 := by simp
  have hsort := Lib.hid (sorted_any 44 (w.heap.size + 1) w.heap.size (fun args w => by simp [go_sem]) (ltI xs) (ltI_wo xs) n hn (((w.alloc (.cells #[.slice A n cap] 22)).alloc (.cells #[.func (.func 28) #[] #[]] 57)).alloc (.cells #[.slice none 0 0] 22))
    (fun W i j hi hj hW => closI _ _ A n cap xs W w.heap.size ((hW.cell (by simp)).trans (by simp [go_sem])) ((hW.cell (by simp; omega)).trans (by simp [go_sem])) (hr.below (hb3.trans (hW.mono (by simp; omega))) (Nat.le_refl _)) hx i j hi hj))
  have HB3 := Lib.hid hb3
  have HZ3 := Lib.hid hz3
  clear hr hx hb3 hz3
  go_enter_defers Try.func27, Try.ntmps27
  go_wp2_with (go_at_call 35; ((with_reducible refine hsort.out.mono ?_); rintro e W ⟨v, xs', rfl, hord, hb, hown⟩); obtain ⟨va, vc, rfl, _, _⟩ := own_slice hown; have hrc : W.cell? ⟨w.heap.size + 1 + 1, 0, none⟩ = some (.slice none 0 0) := (hb.cell (by simp)).trans (by simp [go_sem]); have hrf : W.frozen? ⟨w.heap.size + 1 + 1, 0, none⟩ = false := (hb.frozen (by simp)).trans (by simp [go_sem]); have HB := Lib.hid hb; have HO := Lib.hid hown; have HD := Lib.hid hord; clear hb hown hord)
  refine leaves_cons (f := 43) (args := #[.pointer (some ⟨w.heap.size, 0, none⟩), .pointer (some ⟨w.heap.size + 1 + 1, 0, none⟩)]) (by simp) (by simp [go_sem]) ?_
  refine (idleI _ _ _).mono ?_
  rintro e u' w'' ⟨rfl, rfl, rfl⟩
  have hld := cell_set (v := .slice va n vc) hrc
  exact ⟨_, by simp [results, Try.results27, go_sem, hld], by_end (ltI_wo xs) HB3.out HZ3.out HB.out HO.out HD.out⟩

set_option maxRecDepth 100000 in
set_option maxHeartbeats 2000000 in
theorem byS (A : Option Addr) (n cap : Nat) (xs : List ByteArray) (w : World) (hr : RS w w.heap.size A xs) (hx : xs.length = n) (hn : n ≤ 1000000) :
    Calls Try.prog 30 #[.slice A n cap, .func (.func 31) #[] #[]] w (ByPost (ltS xs) n w) := by
  have hmf : ∀ (fn : Fn) (first cap : Array Value) (w : World), (Instr.makeFunc fn first cap).run Try.prog w = .ok (.func fn first cap) w := fun _ _ _ _ => rfl
  have hb3 : Below w.heap.size w (((w.alloc (.cells #[.slice A n cap] 27)).alloc (.cells #[.func (.func 31) #[] #[]] 60)).alloc (.cells #[.slice none 0 0] 22)) := (((Below.refl _ _).alloc (Nat.le_refl _) _).alloc (by simp) _).alloc (by simp; omega) _
  have hz3 : (((w.alloc (.cells #[.slice A n cap] 27)).alloc (.cells #[.func (.func 31) #[] #[]] 60)).alloc (.cells #[.slice none 0 0] 22)).heap.size = w.heap.size + 1 + 1 + 1 := by simp
  have hsort := Lib.hid (sorted_any 47 (w.heap.size + 1) w.heap.size (fun args w => by simp [go_sem]) (ltS xs) (ltS_wo xs) n hn (((w.alloc (.cells #[.slice A n cap] 27)).alloc (.cells #[.func (.func 31) #[] #[]] 60)).alloc (.cells #[.slice none 0 0] 22))
    (fun W i j hi hj hW => closS _ _ A n cap xs W w.heap.size ((hW.cell (by simp)).trans (by simp [go_sem])) ((hW.cell (by simp; omega)).trans (by simp [go_sem])) (hr.below (hb3.trans (hW.mono (by simp; omega))) (Nat.le_refl _)) hx i j hi hj))
  have HB3 := Lib.hid hb3
  have HZ3 := Lib.hid hz3
  clear hr hx hb3 hz3
  go_enter_defers Try.func30, Try.ntmps30
  go_wp2_with (go_at_call 35; ((with_reducible refine hsort.out.mono ?_); rintro e W ⟨v, xs', rfl, hord, hb, hown⟩); obtain ⟨va, vc, rfl, _, _⟩ := own_slice hown; have hrc : W.cell? ⟨w.heap.size + 1 + 1, 0, none⟩ = some (.slice none 0 0) := (hb.cell (by simp)).trans (by simp [go_sem]); have hrf : W.frozen? ⟨w.heap.size + 1 + 1, 0, none⟩ = false := (hb.frozen (by simp)).trans (by simp [go_sem]); have HB := Lib.hid hb; have HO := Lib.hid hown; have HD := Lib.hid hord; clear hb hown hord)
  refine leaves_cons (f := 46) (args := #[.pointer (some ⟨w.heap.size, 0, none⟩), .pointer (some ⟨w.heap.size + 1 + 1, 0, none⟩)]) (by simp) (by simp [go_sem]) ?_
  refine (idleS _ _ _).mono ?_
  rintro e u' w'' ⟨rfl, rfl, rfl⟩
  have hld := cell_set (v := .slice va n vc) hrc
  exact ⟨_, by simp [results, Try.results30, go_sem, hld], by_end (ltS_wo xs) HB3.out HZ3.out HB.out HO.out HD.out⟩

theorem ints_any (A : Option Addr) (n cap : Nat) (xs : List Int) (w : World) (hr : RI w w.heap.size A xs) (hx : xs.length = n) (hn : n ≤ 1000000) :
    Calls Try.prog 11 #[.slice A n cap] w (ByPost (ltI xs) n w) := by
  have hby := Lib.hid (byI A n cap xs w hr hx hn)
  clear hr hx
  go_enter Try.func11, Try.ntmps11
  go_wp2_with (go_at_call 27; ((with_reducible refine hby.out.mono ?_); rintro e W ⟨v, rfl, hb, hown⟩); have HB := Lib.hid hb; have HO := Lib.hid hown; clear hb hown)
  go_ret
  exact ⟨_, rfl, HB.out, HO.out⟩
theorem texts_any (A : Option Addr) (n cap : Nat) (xs : List ByteArray) (w : World) (hr : RS w w.heap.size A xs) (hx : xs.length = n) (hn : n ≤ 1000000) :
    Calls Try.prog 13 #[.slice A n cap] w (ByPost (ltS xs) n w) := by
  have hby := Lib.hid (byS A n cap xs w hr hx hn)
  clear hr hx
  go_enter Try.func13, Try.ntmps13
  go_wp2_with (go_at_call 30; ((with_reducible refine hby.out.mono ?_); rintro e W ⟨v, rfl, hb, hown⟩); have HB := Lib.hid hb; have HO := Lib.hid hown; clear hb hown)
  go_ret
  exact ⟨_, rfl, HB.out, HO.out⟩
end Go.Proofs.Ytakgkfdbgjljkaa.Rank
