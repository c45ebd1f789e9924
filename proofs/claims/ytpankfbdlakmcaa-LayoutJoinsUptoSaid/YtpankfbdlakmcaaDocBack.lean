/-
  Layer 7 (doc): slices.Backward over pointers: its contract as a function that is ranged over.
-/
import Derived.Test.YtpankfbdlakmcaaDocKeep
import Derived.Test.YtpankfbdlakmcaaRangeReads
import Derived.TacticsInMore
import Derived.LoopNIn
import Derived.LoopIn
namespace Go.Proofs.Ytpankfbdlakmcaa.Doc
open Go.ChangeShapes Go.WideShapes Go.ChangeAt Go.RowKit Mem
set_option linter.unusedVariables false

/-- The first j places of m, from the last on. -/
def dn (m j : Nat) : List Nat := (List.range j).map fun i => m - 1 - i
theorem dn_len (m j : Nat) : (dn m j).length = j := by simp [dn]
theorem dn_succ (m j : Nat) : dn m (j + 1) = dn m j ++ [m - 1 - j] := by simp [dn, List.range_succ]
theorem dn_last {m j : Nat} {pre : List Nat} {x : Nat} (h : pre ++ [x] = dn m j) : j = pre.length + 1 ∧ pre = dn m pre.length ∧ x = m - 1 - pre.length := by
  have h1 := congrArg List.length h
  rw [dn_len, List.length_append, List.length_singleton] at h1
  subst h1
  rw [dn_succ] at h
  obtain ⟨e1, e2⟩ := List.append_inj' h rfl
  exact ⟨rfl, e1, by simpa using e2⟩
def ptrV (a : Addr) : Value := .pointer (some a)
def encB (ps : List Addr) (i : Nat) : Array Value := #[.int .i64 (i : Int), ptrV (ps.getD i ⟨0, 0, none⟩)]
/-- What a round must keep: the variable of the slice, and its row. -/
structure KpB (g : Nat) (v : Value) (W W' : World) : Prop where
  box : W'.heap[g]? = W.heap[g]?
  row : ∀ a, v.ownBlock = some a → W'.heap[a]? = W.heap[a]?
theorem KpB.refl (g : Nat) (v : Value) (W : World) : KpB g v W W := ⟨rfl, fun _ _ => rfl⟩
theorem KpB.trans {g : Nat} {v : Value} {X Y Z : World} (h : KpB g v X Y) (k : KpB g v Y Z) : KpB g v X Z := ⟨k.box.trans h.box, fun a ha => (k.row a ha).trans (h.row a ha)⟩
theorem KpB.own {g base m : Nat} {v : Value} {vs : List Value} {E : TypeId} {W W' : World} (h : KpB g v W W') (ho : W.ownsRow base E 1 v m vs) : W'.ownsRow base E 1 v m vs := by
  refine ⟨ho.1, ?_⟩
  rcases ho.2 with hn | ⟨b, cap, cur, rfl, h1, h2, h3⟩
  · exact .inl hn
  · exact .inr ⟨b, cap, cur, rfl, h1, (h.row b rfl).trans h2, h3⟩
theorem own_at {W : World} {base m : Nat} {v : Value} {ps : List Addr} {E : TypeId} (ho : W.ownsRow base E 1 v m (ps.map ptrV)) {i : Nat} (hi : i < m) : ∃ b c, v = .slice (some ⟨b, 0, none⟩) m c ∧ m ≤ c ∧ c ≤ maxLen ∧ W.cell? ⟨b, i, none⟩ = some (ptrV (ps.getD i ⟨0, 0, none⟩)) := by
  have hl : ps.length = m := by have := ho.1; simpa using this
  rcases ho.2 with ⟨_, h0⟩ | ⟨b, cap, cur, rfl, h1, h2, h3, h4, h5, h6⟩
  · omega
  · refine ⟨b, cap, rfl, h3, h4, ?_⟩
    have e : (ps.map ptrV)[i]? = some (ptrV (ps.getD i ⟨0, 0, none⟩)) := by
      rw [List.getElem?_map, List.getElem?_eq_getElem (by omega)]
      simp [List.getD, hl, hi]
    rw [← h6, Nat.mul_one, List.getElem?_take_of_lt hi] at e
    simpa [World.cell?, h2] using e

set_option maxRecDepth 100000 in
set_option maxHeartbeats 2000000 in
theorem back1_in (n : Nat) (hn : 1 ≤ n) (l g : Nat) (base m : Nat) (v : Value) (ps : List Addr) (hm : m ≤ 1000000000) (J Jx : List Nat → World → Prop) (W : World)
    (hY : ∀ pre x W1, J pre W1 → True → (∃ j, j ≤ m ∧ pre ++ [x] = dn m j) → pre.length < m → YieldAt Fence.wide (n - 1) Try.prog l (encB ps x) W1 fun e W' =>
      (e = .returned (.bool true) ∧ J (pre ++ [x]) W' ∧ KpB g v W1 W') ∨ (e = .returned (.bool false) ∧ Jx (pre ++ [x]) W'))
    (hb : W.heap[g]? = some (Obj.cells #[v] 89 (0, 0))) (ho : W.ownsRow base 88 1 v m (ps.map ptrV)) (h0 : J [] W) :
    CallsIn Fence.wide n Try.prog 52 #[.func (.yield l) #[] #[], .pointer (some ⟨g, 0, none⟩)] W fun e W' => (∃ v, e = .returned v) ∧
      ((∃ ys, ys = dn m m ∧ J ys W') ∨ (∃ pre, (∃ j, j ≤ m ∧ pre = dn m j) ∧ Jx pre W')) := by
  obtain ⟨A, C, hv, hmC, hC⟩ : ∃ A C, v = .slice A m C ∧ m ≤ C ∧ C ≤ maxLen := by
    rcases ho.2 with ⟨rfl, rfl⟩ | ⟨b, cap, cur, rfl, h1, h2, h3, h4, _⟩
    · exact ⟨none, 0, rfl, Nat.le_refl _, by unfold maxLen; omega⟩
    · exact ⟨_, _, rfl, h3, h4⟩
  have HO := Lib.hid ho
  have HB := Lib.hid hb
  have hc0 : W.cell? ⟨g, 0, none⟩ = some (.slice A m C) := by rw [← hv]; simp [World.cell?, hb]
  have hY := Lib.hid hY
  have hw : IntKind.i64.wrap ((m : Int) - 1) = (m : Int) - 1 := by rw [IntKind.wrap_i64]; omega
  clear ho hb
  refine callsIn_of_wp Try.func52 rfl trivial ?_ rfl
  simp only [Try.ntmps52, List.size_toArray, List.length_cons, List.length_nil, Nat.reduceAdd, Nat.reduceSub, Array.replicate_succ, Array.replicate_zero, List.push_toArray, List.append_toArray, List.nil_append, List.cons_append]
  gi_wp2
  gi_loopw [3] (fun i wr => ∃ (j : Nat) (z : Int), j ≤ m ∧ i = .int .i64 z ∧ Hid (z = (m : Int) - 1 - (j : Int)) ∧ Hid (J (dn m j) wr) ∧ Hid (KpB g v W wr))
    (fun i _ => (intOf i + 1).toNat)
  case atStart => exact ⟨0, _, Nat.zero_le _, rfl, by show _ = _; omega, h0, KpB.refl _ _ _⟩
  case round =>
    obtain ⟨j, z, hj, rfl, hz, hJs, hkp⟩ := hrel
    by_cases hlt : j < m
    · obtain ⟨q, rfl⟩ : ∃ q : Nat, z = (q : Int) := ⟨m - 1 - j, by rw [hz.out]; omega⟩
      have hq : q = m - 1 - j := by have := hz.out; omega
      have hq0 : (0 : Int) ≤ (q : Int) := by omega
      have hqm : (q : Int) < (m : Int) := by omega
      obtain ⟨b, c, hvb, _, _, hcq⟩ := own_at (hkp.out.own HO.out) (i := q) (by omega)
      rw [hv] at hvb
      injection hvb with hA _ hCc
      subst hA; subst hCc
      have hbx : wr.cell? ⟨g, 0, none⟩ = some (.slice (some ⟨b, 0, none⟩) m C) := (World.cell?_of_block (a := ⟨g, 0, none⟩) hkp.out.box).trans hc0
      have hpre : dn m j ++ [q] = dn m (j + 1) := by rw [dn_succ, hq]
      obtain ⟨fn, tmps, assign, body, hy, hRd⟩ := hY.out (dn m j) q wr hJs.out trivial ⟨j + 1, by omega, hpre⟩ (by rw [dn_len]; exact hlt)
      rw [hpre] at hRd
      unfold encB at hy
      unfold ptrV at hcq hy
      generalize ps.getD q ⟨0, 0, none⟩ = pa at hcq hy
      have hw2 : IntKind.i64.wrap ((q : Int) - 1) = (q : Int) - 1 := by rw [IntKind.wrap_i64]; omega
      have HR := Lib.hid hRd
      have HQ := Lib.hid hq
      clear hRd hpre hz hq hv hw HB hc0
      gi_wp2
      refine HR.out.mono ?_
      rintro e W5 (⟨rfl, hJ3, hk3⟩ | ⟨rfl, hJx3⟩)
      · have hkeep3 := Lib.hid (hkp.out.trans hk3)
        have hJ3 := Lib.hid hJ3
        clear hk3
        gi_wp2
        go_roundw
        case rel => exact ⟨j + 1, _, by omega, rfl, by show _ = _; have := HQ.out; omega, hJ3.out, hkeep3.out⟩
        case measure => simp [intOf]
      · have hJx3 := Lib.hid hJx3
        gi_wp2
        refine bodyPost_ret (results_none rfl _ _ _) rfl ?_
        exact ⟨⟨_, rfl⟩, .inr ⟨_, ⟨j + 1, by omega, rfl⟩, hJx3.out⟩⟩
    · obtain rfl : j = m := by omega
      obtain rfl : z = -1 := by rw [hz.out]; omega
      clear hz hw
      gi_wp2
      go_end0
      exact ⟨⟨_, rfl⟩, .inl ⟨_, rfl, hJs.out⟩⟩

theorem back_stops (n : Nat) (hn : 1 ≤ n) (g base m : Nat) (v : Value) (ps : List Addr) (hm : m ≤ 1000000000) (w : World)
    (hb : w.heap[g]? = some (Obj.cells #[v] 89 (0, 0))) (ho : w.ownsRow base 88 1 v m (ps.map ptrV)) :
    SeqStopsR n Try.prog 52 #[.pointer (some ⟨g, 0, none⟩)] (encB ps) (fun _ _ => True) (KpB g v) (fun ys => ys = dn m m) (fun pre => ∃ j, j ≤ m ∧ pre = dn m j) m w := fun l J Jx W hW hJ _ hY h0 => by
  have hb' : W.heap[g]? = some (Obj.cells #[v] 89 (0, 0)) := (hW.block g (lt_of hb)).trans hb
  have ho' : W.ownsRow base 88 1 v m (ps.map ptrV) := by
    refine ⟨ho.1, ?_⟩
    rcases ho.2 with hn | ⟨b, cap, cur, e, h1, h2, h3⟩
    · exact .inl hn
    · exact .inr ⟨b, cap, cur, e, h1, (hW.block b (lt_of h2)).trans h2, h3⟩
  exact back1_in n hn l g base m v ps hm J Jx W hY hb' ho' h0
theorem back_any (A : Option Addr) (m C : Nat) (w : World) :
    Calls Try.prog 48 #[.slice A m C] w fun e w' => e = .returned (.func (.func 52) #[] #[.pointer (some ⟨w.heap.size, 0, none⟩)]) ∧ w.alloc (.cells #[.slice A m C] 89) = w' := by
  go_enter Try.func48, Try.ntmps48
  go_wp2
  go_ret
  exact ⟨rfl, rfl⟩
end Go.Proofs.Ytpankfbdlakmcaa.Doc
