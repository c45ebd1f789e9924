/-
  Layer 8 (layout): slices.Backward over pieces: its contract as a function that is ranged over.
-/
import Derived.Test.YtpankfbdlakmcaaDocBack
import Derived.Test.YtpankfbdlakmcaaDocFew
import Derived.Test.YtpankfbdlakmcaaLayMath
namespace Go.Proofs.Ytpankfbdlakmcaa.Doc
open Go.ChangeShapes Go.WideShapes Go.ChangeAt Go.RowKit Mem
set_option linter.unusedVariables false

/-- Piece i, as it is handed over. -/
def pcAt (l : List Pc) (i : Nat) : Pc := l.getD i (0, emp)
def pcV (p : Pc) : Value := .agg #[.int .i64 p.1, .string p.2]
def encP (l : List Pc) (i : Nat) : Array Value := #[.int .i64 (i : Int), pcV (pcAt l i)]
theorem pcAt_of {l : List Pc} {i : Nat} {p : Pc} (h : l[i]? = some p) : pcAt l i = p := by unfold pcAt; simp [List.getD, h]
theorem RdP.kp {g : Nat} {a : Option Addr} {n C : Nat} {l : List Pc} {W W' : World} (h : RdP W a l) (hk : KpB g (.slice a n C) W W') : RdP W' a l := by
  rcases h with rfl | ⟨b, off, rfl, hlt, hc⟩
  · exact .inl rfl
  · have e : W'.heap[b]? = W.heap[b]? := hk.row b rfl
    refine .inr ⟨b, off, rfl, ?_, fun i p hp => ?_⟩
    · have h1 : W.heap[b]? = some W.heap[b] := Array.getElem?_eq_getElem hlt
      exact lt_of (e.trans h1)
    · obtain ⟨q0, q1⟩ := hc i p hp
      exact ⟨(World.cell?_of_block (a := ⟨b, _, none⟩) e).trans q0, (World.cell?_of_block (a := ⟨b, _, none⟩) e).trans q1⟩

set_option maxRecDepth 100000 in
set_option maxHeartbeats 2000000 in
theorem backP1_in (n : Nat) (hn : 1 ≤ n) (lo g : Nat) (m C : Nat) (a : Option Addr) (l : List Pc) (hlm : l.length = m) (hm : m ≤ 1000000000) (hmC : m ≤ C) (J Jx : List Nat → World → Prop) (W : World)
    (hY : ∀ pre x W1, J pre W1 → True → (∃ j, j ≤ m ∧ pre ++ [x] = dn m j) → pre.length < m → YieldAt Fence.wide (n - 1) Try.prog lo (encP l x) W1 fun e W' =>
      (e = .returned (.bool true) ∧ J (pre ++ [x]) W' ∧ KpB g (.slice a m C) W1 W') ∨ (e = .returned (.bool false) ∧ Jx (pre ++ [x]) W'))
    (hb : W.heap[g]? = some (Obj.cells #[.slice a m C] 42 (0, 0))) (ho : RdP W a l) (h0 : J [] W) :
    CallsIn Fence.wide n Try.prog 51 #[.func (.yield lo) #[] #[], .pointer (some ⟨g, 0, none⟩)] W fun e W' => (∃ v, e = .returned v) ∧
      ((∃ ys, ys = dn m m ∧ J ys W') ∨ (∃ pre, (∃ j, j ≤ m ∧ pre = dn m j) ∧ Jx pre W')) := by
  have HO := Lib.hid ho
  have HB := Lib.hid hb
  have hc0 : W.cell? ⟨g, 0, none⟩ = some (.slice a m C) := by simp [World.cell?, hb]
  have hY := Lib.hid hY
  have HLM := Lib.hid hlm
  have hw : IntKind.i64.wrap ((m : Int) - 1) = (m : Int) - 1 := by rw [IntKind.wrap_i64]; omega
  clear ho hb hlm
  refine callsIn_of_wp Try.func51 rfl trivial ?_ rfl
  simp only [Try.ntmps51, List.size_toArray, List.length_cons, List.length_nil, Nat.reduceAdd, Nat.reduceSub, Array.replicate_succ, Array.replicate_zero, List.push_toArray, List.append_toArray, List.nil_append, List.cons_append]
  gi_wp2
  gi_loopw [3] (fun i wr => ∃ (j : Nat) (z : Int), j ≤ m ∧ i = .int .i64 z ∧ Hid (z = (m : Int) - 1 - (j : Int)) ∧ Hid (J (dn m j) wr) ∧ Hid (KpB g (.slice a m C) W wr))
    (fun i _ => (intOf i + 1).toNat)
  case atStart => exact ⟨0, _, Nat.zero_le _, rfl, by show _ = _; omega, h0, KpB.refl _ _ _⟩
  case round =>
    obtain ⟨j, z, hj, rfl, hz, hJs, hkp⟩ := hrel
    by_cases hlt : j < m
    · obtain ⟨q, rfl⟩ : ∃ q : Nat, z = (q : Int) := ⟨m - 1 - j, by rw [hz.out]; omega⟩
      have hq : q = m - 1 - j := by have := hz.out; omega
      have hq0 : (0 : Int) ≤ (q : Int) := by omega
      have hqm : (q : Int) < (m : Int) := by omega
      obtain ⟨b, off, p, rfl, hp, u0, u1⟩ := (HO.out.kp hkp.out).at_ (i := q) (by rw [HLM.out]; omega)
      have hbx : wr.cell? ⟨g, 0, none⟩ = some (.slice (some ⟨b, off, none⟩) m C) := (World.cell?_of_block (a := ⟨g, 0, none⟩) hkp.out.box).trans hc0
      have hpre : dn m j ++ [q] = dn m (j + 1) := by rw [dn_succ, hq]
      obtain ⟨fn, tmps, assign, body, hy, hRd⟩ := hY.out (dn m j) q wr hJs.out trivial ⟨j + 1, by omega, hpre⟩ (by rw [dn_len]; exact hlt)
      rw [hpre] at hRd
      unfold encP pcV at hy
      rw [pcAt_of hp] at hy
      obtain ⟨k, x⟩ := p
      dsimp only at u0 u1 hy
      have hw2 : IntKind.i64.wrap ((q : Int) - 1) = (q : Int) - 1 := by rw [IntKind.wrap_i64]; omega
      have HR := Lib.hid hRd
      have HQ := Lib.hid hq
      clear hRd hpre hz hq hw HB hc0 hp
      gi_wp2
      refine HR.out.mono ?_
      rintro e W5 (⟨rfl, hJ3, hk3⟩ | ⟨rfl, hJx3⟩)
      · have hkeep3 := Lib.hid (hkp.out.trans hk3)
        have hJ3 := Lib.hid hJ3
        clear hk3
        gi_wp2
        go_roundw
        case rel => exact ⟨j + 1, _, by omega, rfl, by show _ = _; have := HQ.out; omega, hJ3.out, hkeep3.out⟩
        case measure => simp [intOf]
      · have hJx3 := Lib.hid hJx3
        gi_wp2
        refine bodyPost_ret (results_none rfl _ _ _) rfl ?_
        exact ⟨⟨_, rfl⟩, .inr ⟨_, ⟨j + 1, by omega, rfl⟩, hJx3.out⟩⟩
    · obtain rfl : j = m := by omega
      obtain rfl : z = -1 := by rw [hz.out]; omega
      clear hz hw
      gi_wp2
      go_end0
      exact ⟨⟨_, rfl⟩, .inl ⟨_, rfl, hJs.out⟩⟩

theorem backP_stops (n : Nat) (hn : 1 ≤ n) (g m C : Nat) (a : Option Addr) (l : List Pc) (hlm : l.length = m) (hm : m ≤ 1000000000) (hmC : m ≤ C) (w : World)
    (hb : w.heap[g]? = some (Obj.cells #[.slice a m C] 42 (0, 0))) (ho : RdP w a l) :
    SeqStopsR n Try.prog 51 #[.pointer (some ⟨g, 0, none⟩)] (encP l) (fun _ _ => True) (KpB g (.slice a m C)) (fun ys => ys = dn m m) (fun pre => ∃ j, j ≤ m ∧ pre = dn m j) m w := fun lo J Jx W hW hJ _ hY h0 =>
  backP1_in n hn lo g m C a l hlm hm hmC J Jx W hY ((hW.block g (lt_of hb)).trans hb) (ho.below hW) h0
theorem backP_any (A : Option Addr) (m C : Nat) (w : World) :
    Calls Try.prog 42 #[.slice A m C] w fun e w' => e = .returned (.func (.func 51) #[] #[.pointer (some ⟨w.heap.size, 0, none⟩)]) ∧ w.alloc (.cells #[.slice A m C] 42) = w' := by
  go_enter Try.func42, Try.ntmps42
  go_wp2
  go_ret
  exact ⟨rfl, rfl⟩
end Go.Proofs.Ytpankfbdlakmcaa.Doc
