/-
  Layer 3 (rank): All: a Table's things, told by a function that is ranged over: its contract.
-/
import Derived.Test.YtakgkfdbgjljkaaRankTable
import Derived.RangeFuncBox
import Derived.RangeFuncLeaves
import Derived.RangeFuncWrites
import Derived.OwnWalkIn
import Derived.TacticsInMore
import Derived.LoopNIn
import Derived.LoopIn
import Derived.Shelf.Abstract
namespace Go.Proofs.Ytakgkfdbgjljkaa.Rank
open Go.ChangeShapes Go.WideShapes Go.ChangeAt Go.RowKit Go.Shelf MemC
set_option linter.unusedVariables false

attribute [local go_sem] Oper.semAt_some

/-- The places of pre, as numbers. -/
def raw {N : Nat} (pre : List (Fin N)) : List Nat := pre.map Fin.val
theorem raw_len {N : Nat} (pre : List (Fin N)) : (raw pre).length = pre.length := by simp [raw]
theorem raw_snoc {N : Nat} (pre : List (Fin N)) (x : Fin N) : raw (pre ++ [x]) = raw pre ++ [x.1] := by simp [raw]
def encA (xs : List Int) (x : Fin xs.length) : Array Value := #[.int .i64 (x.1 : Int), .int .i64 (xs.getD x.1 0)]

/-- What a round must keep: whatever lay below block B, and block g. -/
structure KeepL (B g : Nat) (W W' : World) : Prop where
  low : ∀ k, k < B → W'.heap[k]? = W.heap[k]?
  box : W'.heap[g]? = W.heap[g]?
theorem KeepL.refl (B g : Nat) (W : World) : KeepL B g W W := ⟨fun _ _ => rfl, rfl⟩
theorem KeepL.trans {B g : Nat} {X Y Z : World} (h : KeepL B g X Y) (k : KeepL B g Y Z) : KeepL B g X Z := ⟨fun i hi => (k.low i hi).trans (h.low i hi), k.box.trans h.box⟩
theorem KeepL.put {B g : Nat} {w : World} (hB : B ≤ w.heap.size) (hg : g < w.heap.size) (W : World) (l : Nat) (o o' : Obj) (hl : w.heap.size ≤ l) (h : W.heap[l]? = some o) (_ : o.isCells = false) (_ : o.isWalk = false) : KeepL B g W (W.putObj l o') :=
  ⟨fun k hk => World.putObj_heap_other (by omega), World.putObj_heap_other (by omega)⟩
theorem KeepL.cell {B g : Nat} {W W' : World} (h : KeepL B g W W') {p : Addr} (hp : p.block < B) : W'.cell? p = W.cell? p := World.cell?_of_block (h.low _ hp)
theorem KeepL.boxCell {B g : Nat} {W W' : World} (h : KeepL B g W W') : W'.cell? ⟨g, 0, none⟩ = W.cell? ⟨g, 0, none⟩ := World.cell?_of_block h.box

set_option maxRecDepth 100000 in
set_option maxHeartbeats 2000000 in
/-- The function that is ranged over, for every body that keeps the row. -/
theorem all1_in (n : Nat) (hn : 1 ≤ n) (l Bs B : Nat) (A : Option Addr) (len cap : Nat) (xs : List Int) (hx : xs.length = len) (hs : len ≤ 1000000) (J Jx : List (Fin xs.length) → World → Prop)
    (hY : ∀ pre x W1, J pre W1 → pre.length < xs.length → YieldAt Fence.wide (n - 1) Try.prog l (encA xs x) W1 fun e W' =>
      (e = .returned (.bool true) ∧ J (pre ++ [x]) W' ∧ KeepL B Bs W1 W') ∨ (e = .returned (.bool false) ∧ Jx (pre ++ [x]) W'))
    (W : World) (hBs : W.cell? ⟨Bs, 0, none⟩ = some (.slice A len cap)) (hR : RI W B A xs) (h0 : J [] W) :
    CallsIn Fence.wide n Try.prog 52 #[.func (.yield l) #[] #[], .pointer (some ⟨Bs, 0, none⟩)] W fun e W' => (∃ v, e = .returned v) ∧
      ((∃ ys, raw ys = List.range xs.length ∧ J ys W') ∨ (∃ pre, raw pre = List.range pre.length ∧ Jx pre W')) := by
  have Hx := Lib.hid hx
  have HR := Lib.hid hR; clear hR
  have hY := Lib.hid hY
  refine callsIn_of_wp Try.func52 rfl trivial ?_ rfl
  simp only [Try.ntmps52, List.size_toArray, List.length_cons, List.length_nil, Nat.reduceAdd, Nat.reduceSub, Array.replicate_succ, Array.replicate_zero, List.push_toArray, List.append_toArray, List.nil_append, List.cons_append]
  gi_wp2
  gi_loopw [3, 4, 7] (fun _ _ i wr => ∃ (k : Nat) (pre : List (Fin xs.length)), k ≤ len ∧ i = .int .i64 k ∧ Hid (raw pre = List.range k) ∧ Hid (J pre wr) ∧ Hid (KeepL B Bs W wr))
    (fun _ _ i _ => len - (intOf i).toNat)
  case atStart => exact ⟨0, [], Nat.zero_le _, rfl, rfl, h0, KeepL.refl _ _ _⟩
  case round =>
    obtain ⟨k, pre, hk, rfl, hpre, hJs, hkeep⟩ := hrel
    by_cases hlt : k < len
    · have hRr : RI wr B A xs := HR.out.keep fun p hp => hkeep.out.cell hp
      obtain ⟨b, off, rfl, hbB, hc⟩ := hRr.at_ (i := k) (by rw [Hx.out]; exact hlt)
      have hpl : pre.length = k := by have := congrArg List.length hpre.out; simpa [raw_len] using this
      obtain ⟨fn, tmps, assign, body, hy, hRd⟩ := hY.out pre ⟨k, by rw [Hx.out]; exact hlt⟩ wr hJs.out (by rw [hpl, Hx.out]; exact hlt)
      dsimp only [encA] at hy hRd
      have hpre3 : Hid (raw (pre ++ [(⟨k, by rw [Hx.out]; exact hlt⟩ : Fin xs.length)]) = List.range (k + 1)) := by
        show _ = _
        rw [raw_snoc, hpre.out, List.range_succ]
      generalize xs.getD k 0 = y at *
      have hlt' : (k : Int) < (len : Int) := by omega
      clear hpl
      gi_wp2
      refine hRd.mono ?_
      rintro e W3 (⟨rfl, hJ3, hk3⟩ | ⟨rfl, hJx3⟩)
      · have hkeep3 : Hid (KeepL B Bs W W3) := hkeep.out.trans hk3
        have hJ3 := Lib.hid hJ3
        gi_wp2
        go_roundw
        case rel => exact ⟨k + 1, _, by omega, by go_num, hpre3.out, hJ3.out, hkeep3.out⟩
        case measure => simp [intOf]; omega
      · have hJx3 := Lib.hid hJx3
        gi_wp2
        refine bodyPost_ret (results_none rfl _ _ _) rfl ?_
        refine ⟨⟨_, rfl⟩, .inr ⟨_, ?_, hJx3.out⟩⟩
        rw [hpre3.out]
        have := congrArg List.length hpre3.out
        rw [raw_len, List.length_range] at this
        rw [this]
    · obtain rfl : k = len := by omega
      have hge : ¬ (k : Int) < (k : Int) := by omega
      gi_wp2
      go_end0
      exact ⟨⟨_, rfl⟩, .inl ⟨_, hpre.out, hJs.out⟩⟩

theorem all_stops (n : Nat) (hn : 1 ≤ n) (Bs B : Nat) (A : Option Addr) (len cap : Nat) (xs : List Int) (hx : xs.length = len) (hs : len ≤ 1000000) (w : World) (hBl : Bs < w.heap.size) (hB : B ≤ w.heap.size)
    (hBs : w.cell? ⟨Bs, 0, none⟩ = some (.slice A len cap)) (hR : RI w B A xs) :
    SeqStopsK Fence.wide n Try.prog 52 #[.pointer (some ⟨Bs, 0, none⟩)] (encA xs) (KeepL B Bs) (fun ys => raw ys = List.range xs.length) (fun pre => raw pre = List.range pre.length) xs.length w := fun l J Jx W hW _ _ hY h0 =>
  all1_in n hn l Bs B A len cap xs hx hs J Jx hY W ((hW.cell (p := ⟨Bs, 0, none⟩) hBl).trans hBs) (hR.below hW hB) h0

theorem slicesAll_any (A : Option Addr) (n cap : Nat) (w : World) :
    Calls Try.prog 41 #[.slice A n cap] w fun e w' => e = .returned (.func (.func 52) #[] #[.pointer (some ⟨w.heap.size, 0, none⟩)]) ∧ w.alloc (.cells #[.slice A n cap] 22) = w' := by
  have hmf : ∀ (fn : Fn) (first cap : Array Value) (w : World), (Instr.makeFunc fn first cap).run Try.prog w = .ok (.func fn first cap) w := fun _ _ _ _ => rfl
  go_enter Try.func41, Try.ntmps41
  go_wp2
  go_ret
  exact ⟨rfl, rfl⟩
theorem tabAll_any (g : Nat) (A : Option Addr) (n cap : Nat) (w : World) (h : w.cell? ⟨g, 0, none⟩ = some (.slice A n cap)) :
    Calls Try.prog 23 #[.pointer (some ⟨g, 0, none⟩)] w fun e w' => e = .returned (.func (.func 52) #[] #[.pointer (some ⟨w.heap.size, 0, none⟩)]) ∧ w.alloc (.cells #[.slice A n cap] 22) = w' := by
  go_enter Try.func23, Try.ntmps23
  go_wp2_with (first | (go_at_call 38; ((with_reducible refine (rowI_any g A n cap _ h).mono ?_); rintro e w' ⟨rfl, rfl⟩)) | (go_at_call 41; ((with_reducible refine (slicesAll_any A n cap _).mono ?_); rintro e w' ⟨rfl, rfl⟩)))
  go_ret
  exact ⟨rfl, rfl⟩
end Go.Proofs.Ytakgkfdbgjljkaa.Rank
