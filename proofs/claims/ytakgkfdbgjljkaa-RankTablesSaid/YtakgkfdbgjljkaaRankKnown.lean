/-
  Layer 3 (rank): the chapter's examples.
-/
import Derived.Test.YtakgkfdbgjljkaaRankIns
namespace Go.Proofs.Ytakgkfdbgjljkaa.Rank
open Go.ChangeShapes Go.WideShapes Go.ChangeAt Go.RowKit MemC
set_option linter.unusedVariables false

theorem ex_ints : ordN (ltI [3, 1, 2, 1]) 4 = [1, 3, 2, 0] := by decide
theorem ex_texts : ordN (ltS [⟨#[98]⟩, ⟨#[]⟩, ⟨#[97, 98]⟩, ⟨#[97]⟩]) 4 = [1, 3, 2, 0] := by
  refine IsOrd.uniq (ltS_wo _) (ordN_is (ltS_wo _) 4) ⟨by decide, ?_⟩
  have h : ∀ i j, Bef (fun i j => Op.bytesLess (([[98], [], [97, 98], [97]] : List (List UInt8)).getD i []) (([[98], [], [97, 98], [97]] : List (List UInt8)).getD j [])) i j → Bef (ltS [⟨#[98]⟩, ⟨#[]⟩, ⟨#[97, 98]⟩, ⟨#[97]⟩]) i j := by
    intro i j h
    have e : ∀ i, (([⟨#[98]⟩, ⟨#[]⟩, ⟨#[97, 98]⟩, ⟨#[97]⟩] : List ByteArray).getD i ⟨#[]⟩).toList = ([[98], [], [97, 98], [97]] : List (List UInt8)).getD i [] := by
      intro i
      rw [ByteArray.toList_eq]
      match i with
      | 0 => rfl
      | 1 => rfl
      | 2 => rfl
      | 3 => rfl
      | _ + 4 => rfl
    unfold Bef ltS at *
    simp only [e]
    exact h
  refine List.Pairwise.imp (fun {i j} => h i j) ?_
  unfold Bef
  decide
theorem ex_spot3 {k : Nat} (h : Spot [1, 3, 3, 5] 3 k) : k = 1 := by
  have := spot_cnt (xs := [1, 3, 3, 5]) (by intro i hi; match i, hi with | 0, _ => decide | 1, _ => decide | 2, _ => decide | _ + 3, hi => simp at hi; omega) h
  rw [← this]; rfl
theorem ex_spot6 {k : Nat} (h : Spot [1, 3, 3, 5] 6 k) : k = 4 := by
  have := spot_cnt (xs := [1, 3, 3, 5]) (by intro i hi; match i, hi with | 0, _ => decide | 1, _ => decide | 2, _ => decide | _ + 3, hi => simp at hi; omega) h
  rw [← this]; rfl

theorem by_reads {lt : Nat → Nat → Bool} {n : Nat} {w W : World} {a : Option Addr} {c : Nat} {o : List Nat} (ho : ordN lt n = o) (h : W.ownsRow w.heap.size 3 1 (.slice a n c) n (vals (ordN lt n))) : RI W W.heap.size a (ints o) := by
  subst ho; exact own_rc h

def True1 (w : World) (e : Ending) (w' : World) : Prop := e = .returned (.bool true) ∧ Below w.heap.size w w'

theorem same_b (A A' : Option Addr) (n c c' : Nat) (xs : List Int) (w : World) (B B' : Nat) (h : RI w B A xs) (h' : RI w B' A' xs) (hn : xs.length = n) (hs : n ≤ 1000000) :
    Calls Try.prog 10 #[.slice A n c, .slice A' n c'] w (True1 w) :=
  (same_any A A' n c c' xs w B B' h h' hn hs).mono fun e w' ⟨he, q, hq⟩ => ⟨he, by rw [hq]; exact below_drewN (Below.refl _ _) q⟩

theorem below_next {w W W' : World} (hb : Below w.heap.size w W) (hc : Below W.heap.size W W') : Below w.heap.size w W' := hb.trans (hc.mono hb.size)
theorem below_alloc {w W : World} (hb : Below w.heap.size w W) (o : Obj) : Below w.heap.size w (W.alloc o) := hb.alloc hb.size o

set_option maxRecDepth 100000 in
set_option maxHeartbeats 2000000 in
theorem known_any (w : World) : Calls Try.prog 9 #[] w (True1 w) := by
  have B0 := Lib.hid (Below.refl w.heap.size w)
  have t1 : (1 : Int) == 1 := rfl
  have t4 : (4 : Int) == 4 := rfl
  go_enter Try.func9, Try.ntmps9
  go_wp2_with fail
  refine (ints_any _ 4 4 [3, 1, 2, 1] _ ((rc_new (f := Value.int .i64) w [3, 1, 2, 1] 3).more (by simp)) rfl (by omega)).mono ?_
  rintro e W1 ⟨v1, rfl, hb1, ho1⟩
  obtain ⟨a1, c1, rfl, _, _⟩ := own_slice ho1
  have R1 := Lib.hid (by_reads ex_ints ho1)
  have B1 := Lib.hid (below_next (below_alloc B0.out _) hb1)
  clear hb1 ho1
  go_wp2_with fail
  refine (same_b _ _ 4 _ 4 [1, 3, 2, 0] _ W1.heap.size (W1.heap.size + 1) (R1.out.below ((Below.refl _ _).alloc (Nat.le_refl _) _) (Nat.le_refl _)) (rc_new (f := Value.int .i64) W1 [1, 3, 2, 0] 3) rfl (by omega)).mono ?_
  rintro e W2 ⟨rfl, hb2⟩
  have B2 := Lib.hid (below_next (below_alloc B1.out _) hb2)
  clear hb2 R1
  go_wp2_with fail
  refine (texts_any _ 4 4 [⟨#[98]⟩, ⟨#[]⟩, ⟨#[97, 98]⟩, ⟨#[97]⟩] _ ((rc_new (f := Value.string) W2 [⟨#[98]⟩, ⟨#[]⟩, ⟨#[97, 98]⟩, ⟨#[97]⟩] 9).more (by simp)) rfl (by omega)).mono ?_
  rintro e W3 ⟨v3, rfl, hb3, ho3⟩
  obtain ⟨a3, c3, rfl, _, _⟩ := own_slice ho3
  have R3 := Lib.hid (by_reads ex_texts ho3)
  have B3 := Lib.hid (below_next (below_alloc B2.out _) hb3)
  clear hb3 ho3
  go_wp2_with fail
  refine (same_b _ _ 4 _ 4 [1, 3, 2, 0] _ W3.heap.size (W3.heap.size + 1) (R3.out.below ((Below.refl _ _).alloc (Nat.le_refl _) _) (Nat.le_refl _)) (rc_new (f := Value.int .i64) W3 [1, 3, 2, 0] 3) rfl (by omega)).mono ?_
  rintro e W4 ⟨rfl, hb4⟩
  have B4 := Lib.hid (below_next (below_alloc B3.out _) hb4)
  clear hb4 R3
  go_wp2_with fail
  refine (place_any _ 4 4 [1, 3, 3, 5] 3 _ ((rc_new (f := Value.int .i64) W4 [1, 3, 3, 5] 3).more (by simp)) rfl (by omega)).mono ?_
  rintro e W5 ⟨k5, rfl, hs5, hb5⟩
  obtain rfl := ex_spot3 hs5
  have B5 := Lib.hid (below_next (below_alloc B4.out _) hb5)
  clear hb5 hs5
  go_wp2_with fail
  refine (place_any _ 4 4 [1, 3, 3, 5] 6 _ ((rc_new (f := Value.int .i64) W5 [1, 3, 3, 5] 3).more (by simp)) rfl (by omega)).mono ?_
  rintro e W6 ⟨k6, rfl, hs6, hb6⟩
  obtain rfl := ex_spot6 hs6
  have B6 := Lib.hid (below_next (below_alloc B5.out _) hb6)
  clear hb6 hs6
  go_wp2_with fail
  go_ret
  exact ⟨rfl, B6.out⟩
end Go.Proofs.Ytakgkfdbgjljkaa.Rank
