/-
  Layer 3 (rank): By at pairs of numbers, by a function that tells two pairs' first numbers apart.
-/
import Derived.Test.YtakgkfdbgjljkaaRankBy
namespace Go.Proofs.Ytakgkfdbgjljkaa.Rank
open Go.ChangeShapes Go.WideShapes Go.ChangeAt Go.RowKit MemC
set_option linter.unusedVariables false

/-- The slice at A, of as many pairs as cs has numbers, reads as these numbers with their places. -/
def RP (w : World) (B : Nat) (A : Option Addr) (cs : List Int) : Prop :=
  cs = [] ∨ ∃ b off, A = some ⟨b, off, none⟩ ∧ b < B ∧ ∀ i, i < cs.length → w.cell? ⟨b, off + i * 2, none⟩ = some (.int .i64 (cs.getD i 0)) ∧ w.cell? ⟨b, off + i * 2 + 1, none⟩ = some (.int .i64 (i : Int))
theorem RP.below {w w' : World} {B B0 : Nat} {A : Option Addr} {cs : List Int} (h : RP w B A cs) (hb : Below B0 w w') (hB : B ≤ B0) : RP w' B A cs := by
  rcases h with h | ⟨b, off, e, hl, hc⟩
  · exact .inl h
  · exact .inr ⟨b, off, e, hl, fun i hi => ⟨(hb.cell (by show b < B0; omega)).trans (hc i hi).1, (hb.cell (by show b < B0; omega)).trans (hc i hi).2⟩⟩
theorem RP.more {w : World} {B B' : Nat} {A : Option Addr} {cs : List Int} (h : RP w B A cs) (hB : B ≤ B') : RP w B' A cs := by
  rcases h with h | ⟨b, off, e, hl, hc⟩
  · exact .inl h
  · exact .inr ⟨b, off, e, by omega, hc⟩
theorem RP.cell {w : World} {B : Nat} {A : Option Addr} {cs : List Int} (h : RP w B A cs) (hn : 0 < cs.length) : ∃ b off, A = some ⟨b, off, none⟩ ∧ b < B ∧ ∀ i, i < cs.length → w.cell? ⟨b, off + i * 2, none⟩ = some (.int .i64 (cs.getD i 0)) ∧ w.cell? ⟨b, off + i * 2 + 1, none⟩ = some (.int .i64 (i : Int)) := by
  rcases h with h | h
  · subst h; simp at hn
  · exact h

/-- Function kf tells whether one pair is less than another by lt. -/
def IsLess (kf : Nat) (lt : List Int → Nat → Nat → Bool) : Prop :=
  (∀ args w, (callFunc kf args).run Try.prog w = .ok (.enter kf args) w) ∧
  ∀ (cs : List Int) (i j : Nat) (W : World), Calls Try.prog kf #[.agg #[.int .i64 (cs.getD i 0), .int .i64 (i : Int)], .agg #[.int .i64 (cs.getD j 0), .int .i64 (j : Int)]] W fun e W' => e = .returned (.bool (lt cs i j)) ∧ Below W.heap.size W W'

theorem less1_any (a i b j : Int) (w : World) : Calls Try.prog 16 #[.agg #[.int .i64 a, .int .i64 i], .agg #[.int .i64 b, .int .i64 j]] w fun e w' => e = .returned (.bool (decide (a < b))) ∧ Below w.heap.size w w' := by
  go_enter Try.func16, Try.ntmps16
  go_wp2
  go_ret
  exact ⟨rfl, ((Below.refl _ _).alloc (Nat.le_refl _) _).alloc (by simp) _⟩
theorem less2_any (a i b j : Int) (w : World) : Calls Try.prog 17 #[.agg #[.int .i64 a, .int .i64 i], .agg #[.int .i64 b, .int .i64 j]] w fun e w' => e = .returned (.bool (decide (b < a))) ∧ Below w.heap.size w w' := by
  go_enter Try.func17, Try.ntmps17
  go_wp2
  go_ret
  exact ⟨rfl, ((Below.refl _ _).alloc (Nat.le_refl _) _).alloc (by simp) _⟩
theorem isLess1 : IsLess 16 ltI := ⟨fun args w => by simp [go_sem], fun cs i j W => less1_any _ _ _ _ W⟩
theorem isLess2 : IsLess 17 gtI := ⟨fun args w => by simp [go_sem], fun cs i j W => less2_any _ _ _ _ W⟩

set_option maxHeartbeats 1000000 in
theorem closP (kf : Nat) (lt : List Int → Nat → Nat → Bool) (hk : IsLess kf lt) (c1 c2 : Nat) (A : Option Addr) (n cap : Nat) (xs : List Int) (W : World) (B : Nat) (h1 : W.cell? ⟨c1, 0, none⟩ = some (.func (.func kf) #[] #[])) (h2 : W.cell? ⟨c2, 0, none⟩ = some (.slice A n cap)) (hr : RP W B A xs) (hx : xs.length = n) (i j : Nat) (hi : i < n) (hj : j < n) :
    Calls Try.prog 36 #[.int .i64 (i : Int), .int .i64 (j : Int), .pointer (some ⟨c1, 0, none⟩), .pointer (some ⟨c2, 0, none⟩)] W fun e W' => e = .returned (.bool (lt xs i j)) ∧ W.grownBy W' none := by
  obtain ⟨b, off, rfl, _, hc⟩ := hr.cell (by omega)
  obtain ⟨hci, hci2⟩ := hc i (by omega)
  obtain ⟨hcj, hcj2⟩ := hc j (by omega)
  have hi' : (i : Int) < (n : Int) := by omega
  have hj' : (j : Int) < (n : Int) := by omega
  have HL := Lib.hid (hk.2 xs i j W.drew)
  have eg := hk.1
  clear hc hr hx hk
  generalize xs.getD i 0 = x at *
  generalize xs.getD j 0 = y at *
  go_enter Try.func36, Try.ntmps36
  go_wp2
  go_still_tail 9, (by kernel_rfl)
  change wpList _ _ _ _ _ W.drew
  go_wp2_with (go_at_fn kf; ((with_reducible refine HL.out.mono ?_); rintro e W' ⟨rfl, hb⟩))
  go_ret
  exact ⟨rfl, ⟨hb.os, hb.tape, hb.output, hb.size, fun k hk _ => hb.block k hk⟩⟩

theorem idleP (p q : Addr) (w : World) : CallsD Try.prog 33 #[.pointer (some p), .pointer (some q)] .returning w fun e u' w' => e = .returned (.tuple #[]) ∧ u' = .returning ∧ w' = w := by
  refine callsD_of_wpS Try.func33 rfl fun c₀ cs hu => ?_
  apply wpS_seq
  apply wpS_region
  simp [wpOpsS, go_sem, recoverD, hu, Try.ntmps33, Exit.thenS]
  refine wpS_cond (t := false) (by simp [Act.eval, Array.replicate]) ?_
  simp only [Bool.false_eq_true, if_false]
  refine wpS_of_wp (wp_skip ?_)
  cases c₀
  simp_all [bodyPostS, results, Try.results33]

set_option maxRecDepth 100000 in
set_option maxHeartbeats 2000000 in
theorem byP (kf : Nat) (lt : List Int → Nat → Nat → Bool) (wo : ∀ cs, WO (lt cs)) (hk : IsLess kf lt) (A : Option Addr) (n cap : Nat) (xs : List Int) (w : World) (hr : RP w w.heap.size A xs) (hx : xs.length = n) (hn : n ≤ 1000000) :
    Calls Try.prog 15 #[.slice A n cap, .func (.func kf) #[] #[]] w (ByPost (lt xs) n w) := by
  have hmf : ∀ (fn : Fn) (first cap : Array Value) (w : World), (Instr.makeFunc fn first cap).run Try.prog w = .ok (.func fn first cap) w := fun _ _ _ _ => rfl
  have hb3 : Below w.heap.size w (((w.alloc (.cells #[.slice A n cap] 31)).alloc (.cells #[.func (.func kf) #[] #[]] 35)).alloc (.cells #[.slice none 0 0] 22)) := (((Below.refl _ _).alloc (Nat.le_refl _) _).alloc (by simp) _).alloc (by simp; omega) _
  have hz3 : (((w.alloc (.cells #[.slice A n cap] 31)).alloc (.cells #[.func (.func kf) #[] #[]] 35)).alloc (.cells #[.slice none 0 0] 22)).heap.size = w.heap.size + 1 + 1 + 1 := by simp
  have hsort := Lib.hid (sorted_any 36 (w.heap.size + 1) w.heap.size (fun args w => by simp [go_sem]) (lt xs) (wo xs) n hn (((w.alloc (.cells #[.slice A n cap] 31)).alloc (.cells #[.func (.func kf) #[] #[]] 35)).alloc (.cells #[.slice none 0 0] 22))
    (fun W i j hi hj hW => closP kf lt hk _ _ A n cap xs W w.heap.size ((hW.cell (by simp)).trans (by simp [go_sem])) ((hW.cell (by simp; omega)).trans (by simp [go_sem])) (hr.below (hb3.trans (hW.mono (by simp; omega))) (Nat.le_refl _)) hx i j hi hj))
  have HB3 := Lib.hid hb3
  have HZ3 := Lib.hid hz3
  clear hr hx hb3 hz3
  go_enter_defers Try.func15, Try.ntmps15
  go_wp2_with (go_at_call 35; ((with_reducible refine hsort.out.mono ?_); rintro e W ⟨v, xs', rfl, hord, hb, hown⟩); obtain ⟨va, vc, rfl, _, _⟩ := own_slice hown; have hrc : W.cell? ⟨w.heap.size + 1 + 1, 0, none⟩ = some (.slice none 0 0) := (hb.cell (by simp)).trans (by simp [go_sem]); have hrf : W.frozen? ⟨w.heap.size + 1 + 1, 0, none⟩ = false := (hb.frozen (by simp)).trans (by simp [go_sem]); have HB := Lib.hid hb; have HO := Lib.hid hown; have HD := Lib.hid hord; clear hb hown hord)
  refine leaves_cons (f := 33) (args := #[.pointer (some ⟨w.heap.size, 0, none⟩), .pointer (some ⟨w.heap.size + 1 + 1, 0, none⟩)]) (by simp) (by simp [go_sem]) ?_
  refine (idleP _ _ _).mono ?_
  rintro e u' w'' ⟨rfl, rfl, rfl⟩
  have hld := cell_set (v := .slice va n vc) hrc
  exact ⟨_, by simp [results, Try.results15, go_sem, hld], by_end (wo xs) HB3.out HZ3.out HB.out HO.out HD.out⟩

end Go.Proofs.Ytakgkfdbgjljkaa.Rank
