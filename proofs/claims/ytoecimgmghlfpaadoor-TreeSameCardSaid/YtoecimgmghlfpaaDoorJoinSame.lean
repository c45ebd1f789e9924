import Derived.Test.YtoecimgmghlfpaaDoorTreeNodes
import Derived.Test.YtoecimgmghlfpaaDoorProg
import Derived.RangeFuncWrites
import Derived.RangeFuncBox
import Derived.RangeFuncLeaves
import Derived.OwnWalkIn
import Derived.TacticsInMore
import Derived.LoopNIn
import Derived.LoopIn
import Derived.Test.YtoecimgmghlfpaaDoorJoinRows
import Derived.Test.YtoecimgmghlfpaaDoorTreeRefSame
import Derived.Test.YtoecimgmghlfpaaDoorMemRel
import Derived.OrdersIn
import Derived.TacticsIn
import Derived.Test.YtoecimgmghlfpaaDoorJoinKnown

/-
  Layer 5 (tree): the program's nodes, and the iterator that All answers.
-/
namespace Go.Proofs.YtoecimgmghlfpaaDoor.Tree
open Go.ChangeShapes Go.WideShapes Go.ChangeAt Go.RowKit Mem
set_option linter.unusedVariables false

theorem add_any (N : Nat) : AddSpec N := by
  induction N using Nat.strongRecOn with
  | _ N ih => exact add_step N ih

def NodesPost (B0 : Nat) (w : World) (L : List Nd) (e : Ending) (w' : World) : Prop := Below w.heap.size w w' ∧ ∃ (av : Option Addr) (ln Cv : Nat), e = .returned (.slice av ln Cv) ∧ OwnS w' (Mi B0 w.heap.size) (.slice av ln Cv) L ∧ ∀ g, (Value.slice av ln Cv).ownBlock = some g → w.heap.size ≤ g

set_option maxRecDepth 100000 in
set_option maxHeartbeats 8000000 in
theorem tnodes_any (B0 : Nat) (k : Int) (x y : ByteArray) (A : Option Addr) (n C : Nat) (c : F) (w : World) (hbig : c.size ≤ 100000) (hf : Fs w (Mi B0 w.heap.size) (.slice A n C) c) :
    Calls Tryd.prog 28 #[.agg #[.int .i64 k, .string x, .string y, .slice A n C]] w fun e w' => NodesPost B0 w (⟨k, x, y, c⟩ :: nodes c) e w' := by
  have b3 := below3 w (.cells #[.int .i64 k, .string x, .string y, .slice A n C] 24) (.cells #[.slice none 0 0] 22) (.cells #[.func (.func 34) #[] #[.pointer (some ⟨w.heap.size + 1, 0, none⟩), .pointer (some ⟨w.heap.size + 1 + 1, 0, none⟩)]] 50)
  have HBX := (boxed_new w k x y (.slice A n C)).below ((below2 (w.alloc (.cells #[.int .i64 k, .string x, .string y, .slice A n C] 24)) (.cells #[.slice none 0 0] 22) (.cells #[.func (.func 34) #[] #[.pointer (some ⟨w.heap.size + 1, 0, none⟩), .pointer (some ⟨w.heap.size + 1 + 1, 0, none⟩)]] 50))) (by simp)
  obtain ⟨p0, p1, p2, p3⟩ := HBX.cells
  have hL : LAt (((w.alloc (.cells #[.int .i64 k, .string x, .string y, .slice A n C] 24)).alloc (.cells #[.slice none 0 0] 22)).alloc (.cells #[.func (.func 34) #[] #[.pointer (some ⟨w.heap.size + 1, 0, none⟩), .pointer (some ⟨w.heap.size + 1 + 1, 0, none⟩)]] 50)) B0 w.heap.size (w.heap.size + 1) (w.heap.size + 1 + 1) (.slice none 0 0) [] := by
    refine ⟨?_, OwnS.nil _ _, fun g e => (by cases e), ?_, ⟨by omega, by omega, by omega, b3.size⟩, by simp⟩
    · have e : w.heap.size + 1 = (w.alloc (.cells #[.int .i64 k, .string x, .string y, .slice A n C] 24)).heap.size := by simp
      rw [e]
      exact (Below.heap_alloc _ _ _ (by simp)).trans (heap_alloc_new _ _)
    · rw [World.cell?_alloc_at _ _ _ _ (by simp)]; rfl
  have HC := Lib.hid (add_any c.size k x y A n C c _ (w.heap.size + 1) (w.heap.size + 1 + 1) none 0 0 [] B0 w.heap.size (Nat.le_refl _) (by simp only [List.length_nil]; omega) (hf.belowM b3 (Nat.le_refl _)) hL)
  have hfn := hL.fn
  have HB := Lib.hid b3
  clear hL b3 HBX hf
  go_enter Tryd.func28, Tryd.ntmps28
  go_wp2_with fail
  refine HC.out.mono ?_
  rintro e w4 ⟨rfl, av, ln, Cv, hadd⟩
  rw [List.nil_append] at hadd
  have hbc := hadd.at_.box.cell
  have HE : Hid (Below w.heap.size w w4) := ⟨hadd.fr.os.trans HB.out.os, hadd.fr.tape.trans HB.out.tape, hadd.fr.output.trans HB.out.output, Nat.le_trans HB.out.size hadd.fr.size, fun b hb => (hadd.fr.block b (Nat.lt_of_lt_of_le hb HB.out.size) (by omega) (fun e => by cases e)).trans (HB.out.block b hb)⟩
  have HO := Lib.hid hadd.at_.own
  have HD : Hid (∀ g, (Value.slice av ln Cv).ownBlock = some g → w.heap.size ≤ g) := fun g e => (hadd.at_.d g e).1
  clear hadd HC hfn p0 p1 p2 p3
  go_wp2
  go_ret
  exact ⟨HE.out, av, ln, Cv, rfl, HO.out, HD.out⟩

/-- All: the iterator, which holds a copy. -/
def AllPost (w : World) (k : Int) (x y : ByteArray) (c : F) (e : Ending) (w' : World) : Prop := Below w.heap.size w w' ∧ ∃ (g : Nat) (A : Option Addr) (n C : Nat), e = .returned (.func (.func 27) #[] #[.pointer (some ⟨g, 0, none⟩)]) ∧ w.heap.size ≤ g ∧ Boxed w' g k x y (.slice A n C) ∧ Fs w' (Rng w.heap.size w') (.slice A n C) c

set_option maxRecDepth 100000 in
set_option maxHeartbeats 8000000 in
theorem all_any (k : Int) (x y : ByteArray) (A : Option Addr) (n C : Nat) (c : F) (w : World) (hbig : c.size ≤ 100000) (hf : Fs w (Lo w.heap.size) (.slice A n C) c) :
    Calls Tryd.prog 13 #[.agg #[.int .i64 k, .string x, .string y, .slice A n C]] w fun e w' => AllPost w k x y c e w' := by
  have b1 := below1 w (.cells #[.int .i64 k, .string x, .string y, .slice A n C] 24)
  have HC := Lib.hid (tcopy_any c.size k x y A n C c _ (Nat.le_refl _) hbig (hf.later b1))
  have HB := Lib.hid b1
  clear b1 hf
  go_enter Tryd.func13, Tryd.ntmps13
  go_wp2_with fail
  refine HC.out.mono ?_
  rintro e w2 ⟨hb, Ar, nr, Cr, rfl, hfr⟩
  have b3 := below1 w2 (.cells #[.int .i64 k, .string x, .string y, .slice Ar nr Cr] 24)
  have HB2 := Lib.hid (HB.out.trans (hb.mono HB.out.size))
  have HB3 := Lib.hid (HB2.out.trans (b3.mono HB2.out.size))
  have HF := Lib.hid (rng_later hfr b3)
  have HX := Lib.hid (boxed_new w2 k x y (.slice Ar nr Cr))
  clear hb b3 hfr HC
  go_wp2
  go_ret
  exact ⟨HB3.out, w2.heap.size, Ar, nr, Cr, rfl, HB2.out.size, HX.out, HF.out.more fun b hb => ⟨Nat.le_trans HB.out.size hb.1, hb.2⟩⟩
end Go.Proofs.YtoecimgmghlfpaaDoor.Tree

/-
  Words of no layer: a range over a function whose things lie in memory that the function itself has laid: the body of a round may read what the function promises of each thing (R).
-/
namespace Go.Proofs.YtoecimgmghlfpaaDoor.Mem
open Go.RowKit
set_option linter.unusedVariables false
variable {P : Program} {n : Nat}

/-- The contract of a function that is ranged over: as SeqStopsK's, but each thing x is handed over in a world W1 where R x W1 holds. -/
def SeqStopsR {α : Type} (n : Nat) (P : Program) (g : Nat) (lb : Array Value) (encs : α → Array Value) (R : α → World → Prop) (Kp : World → World → Prop) (S Sp : List α → Prop) (N : Nat) (w : World) : Prop :=
  ∀ (l : Nat) (J Jx : List α → World → Prop) (W : World), Below w.heap.size w W → AbidesFrom W.heap.size J → AbidesFrom W.heap.size Jx →
    (∀ pre x W1, J pre W1 → R x W1 → Sp (pre ++ [x]) → pre.length < N → YieldAt Fence.wide (n - 1) P l (encs x) W1 fun e W' =>
      (e = .returned (.bool true) ∧ J (pre ++ [x]) W' ∧ Kp W1 W') ∨ (e = .returned (.bool false) ∧ Jx (pre ++ [x]) W')) →
    J [] W →
    CallsIn Fence.wide n P g (#[.func (.yield l) #[] #[]] ++ lb) W fun e W' => (∃ v, e = .returned v) ∧ ((∃ xs, S xs ∧ J xs W') ∨ (∃ pre, Sp pre ∧ Jx pre W'))

/-- The loop's own record at block l, with its state and what is still to be done behind it. -/
def recAt (fn : FuncId) (a : Act) (ps : Array Tmp) (assign body : Code) (D : Nat) (st : LoopState) (pe : Option Code) : Loop := { state := st, pending := pe, fn, tmps := a.tmps, params := ps, assign, body, defers := D }

theorem range_reads {α : Type} {g : Operand} {ps : Array Tmp} {assign body : Code} {Q : Exit → Act → World → Prop} {a : Act} {w : World}
    (h1 : 1 ≤ n) {gf : Nat} {lb : Array Value} (hg : a.eval g = .func (.func gf) #[] lb) (eg : ∀ args w, (callFunc gf args).run P w = .ok (.enter gf args) w)
    {encs : α → Array Value} {R : α → World → Prop} {Kp : World → World → Prop} {S Sp : List α → Prop} {N : Nat} (hseq : SeqStopsR (n - 1) P gf lb encs R Kp S Sp N w)
    (hKt : ∀ {A B C : World}, Kp A B → Kp B C → Kp A C) (hKb : ∀ (W : World) (l : Nat) (o o' : Obj), w.heap.size ≤ l → W.heap[l]? = some o → o.isCells = false → o.isWalk = false → Kp W (W.putObj l o')) (hps : ∀ x, (encs x).size = ps.size)
    (I : List α → World → Prop) (Ix : Code → List α → World → Prop) (hI : OwnFrom w.heap.size I) (hIx : ∀ c, OwnFrom w.heap.size (Ix c)) (h0 : I [] w) (Ax : α → Act → World → Prop) (hAx : ∀ x a', OwnFrom w.heap.size (fun (_ : Unit) W => Ax x a' W))
    (hassign : ∀ (l : Nat) (pre : List α) (x : α) (W : World) (K : Act → World → Prop), I pre W → R x W → Sp (pre ++ [x]) → pre.length < N → (∀ a' W', KeepsFrom w.heap.size W W' → Kp W W' → I pre W' → Ax x a' W' → K a' W') →
      assign.wpIn (Fence.wide.inRound l) (n - 1 - 1) P (Exit.then K (fun _ _ _ => False)) { tmps := (ps.zip (encs x)).foldl (fun t (p, v) => t.setIfInBounds p v) a.tmps, defers := [] } W)
    (hbody : ∀ (l : Nat) (pre : List α) (x : α) (a' : Act) (W : World), I pre W → Ax x a' W → Sp (pre ++ [x]) → pre.length < N → body.wpIn (Fence.wide.inRound l) (n - 1 - 1) P (ownPostG w.heap.size Kp I Ix (pre ++ [x]) W) a' W)
    (hdone : ∀ (D : Nat) (xs : List α) (W : World), w.heap.size ≤ D → S xs → I xs W → W.heap[D]? = some (.deferred (some [])) → Q .normal { a with defers := { target := .collected D, args := #[] } :: a.defers } W)
    (hstop : ∀ (D : Nat) (c : Code) (pre : List α) (W : World), w.heap.size ≤ D → Sp pre → Ix c pre W → W.heap[D]? = some (.deferred (some [])) → c.wpIn Fence.wide n P Q { a with defers := { target := .collected D, args := #[] } :: a.defers } W) :
    (Code.rangeFunc g ps assign body).wpIn Fence.wide n P Q a w := by
  refine wpIn_rangeFunc fun fn hfn => ?_
  generalize hB : w.heap.size = B at *
  have szA : (w.alloc (.deferred (some []))).heap.size = B + 1 := by rw [World.size_alloc, hB]
  -- the block for the rounds' deferred calls (B) and the loop's record (B + 1)
  have own : ∀ {st : LoopState} {pe : Option Code} {W : World}, W.heap[B + 1]? = some (.loop (recAt fn a ps assign body B st pe)) → B + 1 < W.heap.size := fun h => (Array.getElem?_eq_some_iff.1 h).1
  have start : ∃ W1, (w.alloc (.deferred (some []))).alloc (.loop (recAt fn a ps assign body B .ready none)) = W1 ∧ Below B w W1 ∧ W1.heap.size = B + 2 ∧
      W1.heap[B + 1]? = some (.loop (recAt fn a ps assign body B .ready none)) ∧ W1.heap[B]? = some (.deferred (some [])) ∧ I [] W1 := by
    refine ⟨_, rfl, ((Below.refl B w).alloc (Nat.le_of_eq hB.symm) _).alloc (by rw [szA]; omega) _, by rw [World.size_alloc, szA], ?_, ?_, hI.alloc _ (hI.alloc _ h0)⟩
    · have := World.alloc_heap_new (w.alloc (.deferred (some []))) (.loop (recAt fn a ps assign body B .ready none))
      rwa [szA] at this
    · have := World.alloc_heap_new w (.deferred (some []))
      rw [hB] at this
      exact (Below.heap_alloc _ _ _ (by rw [szA]; omega)).trans this
  obtain ⟨W1, hW1, hbW, hsz, hrec, hdef, hI1⟩ := start
  have abid : ∀ {β : Type} {J : β → World → Prop}, OwnFrom B J → ∀ (s : β) (X Y : World) (row : Option Nat), J s X → X.grownBy Y row → (∀ r, row = some r → W1.heap.size ≤ r ∧ ∃ o : Obj, X.heap[r]? = some o ∧ o.isWalk = true) → J s Y := fun hJ s X Y row hs hgr hr =>
    hJ s X Y row hs hgr fun r e => by
      obtain ⟨q1, o, q2, q3⟩ := hr r e
      exact ⟨by omega, o, q2, Obj.not_cells_of_walk q3⟩
  have still : ∀ {X Y : World} {row : Option Nat} {k : Nat} {o : Obj}, X.grownBy Y row → (∀ r, row = some r → W1.heap.size ≤ r ∧ ∃ o : Obj, X.heap[r]? = some o ∧ o.isWalk = true) → X.heap[k]? = some o → o.isWalk = false → Y.heap[k]? = some o := fun hgr hr hk hw =>
    (grownBy_keeps hgr (fun r e => (hr r e).2) hk hw).trans hk
  rw [show Fence.wide.round = none from rfl]
  refine ⟨B + 1, [{ target := .collected B, args := #[] }], W1, { target := .fn (.func gf) lb, args := #[.func (.yield (B + 1)) #[] #[]] }, W1, gf, #[.func (.yield (B + 1)) #[] #[]] ++ lb, W1, ?_, ?_, fun f' _ => trivial, ?_, fun _ => h1, ?_⟩
  · have := run_enterLoop_outer (P := P) (w := w) fn a.tmps ps assign body
    rw [← hW1]
    rw [hB] at this
    exact this
  · simp only [resolve, hg]
    simp [go_sem]
  · simp [invoke, go_sem, eg]
  refine (hseq (B + 1)
    (fun pre W => I pre W ∧ W.heap[B + 1]? = some (.loop (recAt fn a ps assign body B .ready none)) ∧ W.heap[B]? = some (.deferred (some [])))
    (fun pre W => ∃ c, Ix c pre W ∧ W.heap[B + 1]? = some (.loop (recAt fn a ps assign body B .done (some c))) ∧ W.heap[B]? = some (.deferred (some [])))
    W1 (hB ▸ hbW)
    (fun s X Y row hs hgr hr => ⟨abid hI s X Y row hs.1 hgr hr, still hgr hr hs.2.1 rfl, still hgr hr hs.2.2 rfl⟩)
    (fun s X Y row hs hgr hr => by
      obtain ⟨c, q1, q2, q3⟩ := hs
      exact ⟨c, abid (hIx c) s X Y row q1 hgr hr, still hgr hr q2 rfl, still hgr hr q3 rfl⟩)
    ?round ⟨hI1, hrec, hdef⟩).mono ?rest
  case round =>
    rintro pre x W ⟨hi, hl, hk⟩ hR hsp hlen
    refine ⟨fn, _, assign, body, run_yield (P := P) (args := encs x) hl (hps x), roundIn_of_wpIn hfn (hassign _ pre x W _ hi hR hsp hlen ?_)⟩
    intro a' Wa hkfa hkpa hia hax
    replace hl := hkfa.same _ _ (by omega) hl rfl
    replace hk := hkfa.same _ _ (Nat.le_refl _) hk rfl
    replace hi := hia
    clear hia hR
    revert hkpa hkfa
    generalize W = Wb
    intro hkfa hkpa
    obtain ⟨W, rfl⟩ : ∃ W, W = Wa := ⟨_, rfl⟩
    refine ⟨_, run_beginRound hl rfl, ?_⟩
    have hlt := own hl
    have hl2 : (W.putObj (B + 1) (.loop (recAt fn a ps assign body B .busy none))).heap[B + 1]? = some (.loop (recAt fn a ps assign body B .busy none)) := World.putObj_heap_same hlt
    have hk2 : (W.putObj (B + 1) (.loop (recAt fn a ps assign body B .busy none))).heap[B]? = some (.deferred (some [])) := (World.putObj_heap_other (by omega)).trans hk
    refine wpIn_mono (hbody _ pre x a' _ (hI.putObj _ hi (by omega) hl rfl) ((hAx x a').putObj (s := ()) _ hax (by omega) hl rfl) hsp hlen) fun e a3 W3 hp => ?_
    have ended : ∀ (jump : Option Code), KeepsFrom B (W.putObj (B + 1) (.loop (recAt fn a ps assign body B .busy none))) W3 →
        (Instr.endRound (B + 1) jump).run P W3 = .ok (.bool jump.isNone) (W3.putObj (B + 1) (.loop (recAt fn a ps assign body B (if jump.isNone then .ready else .done) jump))) ∧
        W3.heap[B + 1]? = some (.loop (recAt fn a ps assign body B .busy none)) ∧
        (W3.putObj (B + 1) (.loop (recAt fn a ps assign body B (if jump.isNone then .ready else .done) jump))).heap[B + 1]? = some (.loop (recAt fn a ps assign body B (if jump.isNone then .ready else .done) jump)) ∧
        (W3.putObj (B + 1) (.loop (recAt fn a ps assign body B (if jump.isNone then .ready else .done) jump))).heap[B]? = some (.deferred (some [])) := fun jump hk3 => by
      have hl3 := hk3.same _ _ (by omega) hl2 rfl
      exact ⟨run_endRound (P := P) jump hl3, hl3, World.putObj_heap_same (own hl3), (World.putObj_heap_other (by omega)).trans (hk3.same _ _ (Nat.le_refl _) hk2 rfl)⟩
    have left : ∀ c : Code, KeepsFrom B (W.putObj (B + 1) (.loop (recAt fn a ps assign body B .busy none))) W3 → Ix c (pre ++ [x]) W3 →
        ∃ v W4, (Instr.endRound (B + 1) (some c)).run P W3 = .ok v W4 ∧
          ((Ending.returned v = .returned (.bool true) ∧ (I (pre ++ [x]) W4 ∧ W4.heap[B + 1]? = some (.loop (recAt fn a ps assign body B .ready none)) ∧ W4.heap[B]? = some (.deferred (some []))) ∧ Kp Wb W4) ∨
           (Ending.returned v = .returned (.bool false) ∧ ∃ c, Ix c (pre ++ [x]) W4 ∧ W4.heap[B + 1]? = some (.loop (recAt fn a ps assign body B .done (some c))) ∧ W4.heap[B]? = some (.deferred (some [])))) := fun c hk3 hi3 => by
      obtain ⟨q1, q2, q3, q4⟩ := ended (some c) hk3
      exact ⟨_, _, q1, .inr ⟨rfl, c, (hIx _).putObj _ hi3 (by omega) q2 rfl, q3, q4⟩⟩
    cases e with
    | normal =>
      obtain ⟨hk3, hkp, hi3⟩ := hp
      obtain ⟨q1, q2, q3, q4⟩ := ended none hk3
      exact ⟨_, _, q1, .inl ⟨rfl, ⟨hI.putObj _ hi3 (by omega) q2 rfl, q3, q4⟩, hKt (hKt (hKt hkpa (hKb _ _ _ _ (by omega) hl rfl rfl)) hkp) (hKb _ _ _ _ (by omega) q2 rfl rfl)⟩⟩
    | ret => exact left .ret hp.1 hp.2
    | exit id => exact left (.exit id) hp.1 hp.2
    | goto t => exact left (.goto t) hp.1 hp.2
    | panic ch => exact hp.elim
    | outgrown => exact hp.elim
  case rest =>
    rintro e W2 ⟨⟨v, rfl⟩, (⟨xs, hS, hi, hl, hk⟩ | ⟨pre, hSp, c, hi, hl, hk⟩)⟩
    · exact ⟨none, _, run_endLoop (P := P) hl (by simp [recAt]), hdone _ xs _ (Nat.le_refl _) hS (hI.putObj _ hi (by omega) hl rfl) ((World.putObj_heap_other (by omega)).trans hk)⟩
    · exact ⟨some c, _, run_endLoop (P := P) hl (by simp [recAt]), hstop _ c pre _ (Nat.le_refl _) hSp ((hIx c).putObj _ hi (by omega) hl rfl) ((World.putObj_heap_other (by omega)).trans hk)⟩

/-- The same where the assign code lays one block, with one rest for both ways out. -/
theorem range_told {α : Type} {g : Operand} {ps : Array Tmp} {assign body : Code} {Q : Exit → Act → World → Prop} {a : Act} {w : World}
    (h1 : 1 ≤ n) {gf : Nat} {lb : Array Value} (hg : a.eval g = .func (.func gf) #[] lb) (eg : ∀ args w, (callFunc gf args).run P w = .ok (.enter gf args) w)
    {encs : α → Array Value} {R : α → World → Prop} {Kp : World → World → Prop} {S Sp : List α → Prop} {N : Nat} (hseq : SeqStopsR (n - 1) P gf lb encs R Kp S Sp N w)
    (hKt : ∀ {A B C : World}, Kp A B → Kp B C → Kp A C) (hKb : ∀ (W : World) (l : Nat) (o o' : Obj), w.heap.size ≤ l → W.heap[l]? = some o → o.isCells = false → o.isWalk = false → Kp W (W.putObj l o')) (hps : ∀ x, (encs x).size = ps.size)
    (I : List α → World → Prop) (Ix : Code → List α → World → Prop) (J : World → Prop) (hI : OwnFrom w.heap.size I) (hIx : ∀ c, OwnFrom w.heap.size (Ix c)) (h0 : I [] w) (Ax : α → Nat → World → Prop) (hAx : ∀ x b, OwnFrom w.heap.size (fun (_ : Unit) W => Ax x b W))
    (hd : ∀ ys W, S ys → I ys W → J W)
    (hs : ∀ c pre W, Sp pre → Ix c pre W → J W ∧ ∀ a', Q .normal a' W → c.wpIn Fence.wide n P Q a' W)
    (hround : ∀ (x : α) (b : Nat), ∃ a₁ : Act, (∀ (l : Nat) (pre : List α) (W : World) (K : Act → World → Prop), W.heap.size = b → I pre W → R x W → Sp (pre ++ [x]) → pre.length < N → (∀ W', KeepsFrom w.heap.size W W' → Kp W W' → I pre W' → Ax x b W' → K a₁ W') →
      assign.wpIn (Fence.wide.inRound l) (n - 1 - 1) P (Exit.then K (fun _ _ _ => False)) { tmps := (ps.zip (encs x)).foldl (fun t (p, v) => t.setIfInBounds p v) a.tmps, defers := [] } W) ∧
      (∀ (l : Nat) (pre : List α) (W : World), I pre W → Ax x b W → Sp (pre ++ [x]) → pre.length < N → body.wpIn (Fence.wide.inRound l) (n - 1 - 1) P (ownPostG w.heap.size Kp I Ix (pre ++ [x]) W) a₁ W))
    (hrest : ∀ (D : Nat) (W : World), w.heap.size ≤ D → J W → W.heap[D]? = some (.deferred (some [])) → Q .normal { a with defers := { target := .collected D, args := #[] } :: a.defers } W) :
    (Code.rangeFunc g ps assign body).wpIn Fence.wide n P Q a w :=
  range_reads h1 hg eg hseq hKt hKb hps I Ix hI hIx h0 (fun x a' W => ∃ b, a' = (hround x b).choose ∧ Ax x b W)
    (fun x a' s X Y row hs hg hr => by obtain ⟨b, e, h⟩ := hs; exact ⟨b, e, hAx x b () X Y row h hg hr⟩)
    (fun l pre x W K hi hR hsp hlt hK => (hround x W.heap.size).choose_spec.1 l pre W K rfl hi hR hsp hlt fun W' q1 q2 q3 q4 => hK _ W' q1 q2 q3 ⟨_, rfl, q4⟩)
    (fun l pre x a' W hi hax hsp hlt => by obtain ⟨b, rfl, h⟩ := hax; exact (hround x b).choose_spec.2 l pre W hi h hsp hlt)
    (fun D ys W hD hS hi hK => hrest D W hD (hd ys W hS hi) hK) (fun D c pre W hD hS hi hK => (hs c pre W hS hi).2 _ (hrest D W hD (hs c pre W hS hi).1 hK))
end Go.Proofs.YtoecimgmghlfpaaDoor.Mem

/-
  Layer 5 (tree): the iterator that All answers: its contract as a function that is ranged over.
-/
namespace Go.Proofs.YtoecimgmghlfpaaDoor.Tree
open Go.ChangeShapes Go.WideShapes Go.ChangeAt Go.RowKit Mem
set_option linter.unusedVariables false

/-- The blocks of variables from B on. -/
def Cel (B : Nat) (W : World) : Nat → Prop := fun b => B ≤ b ∧ ∃ o : Obj, W.heap[b]? = some o ∧ o.isCells = true
theorem Fs.cel {w : World} {S : Nat → Prop} {B : Nat} : ∀ {f : F} {v : Value}, Fs w S v f → (∀ b, S b → B ≤ b) → Fs w (Cel B w) v f
  | .nil, v, h, _ => h
  | .cons k x y c r, v, ⟨b, off, n, C, s, e, h1, h2, h3, hS, c0, c1, c2, c3, hk, hr⟩, hh =>
    ⟨b, off, n, C, s, e, h1, h2, h3, ⟨hh b hS, by obtain ⟨o, q1, q2⟩ := cells_of_cell c0; exact ⟨o, q1, q2⟩⟩, c0, c1, c2, c3, hk.cel hh, fun A' hA => (hr A' hA).cel hh⟩
/-- The variables from block B on are as they were. -/
def KpC (B : Nat) (W W' : World) : Prop := ∀ b, Cel B W b → W'.heap[b]? = W.heap[b]?
section
variable {B : Nat} {X Y Z W W' : World}
theorem KpC.refl (B : Nat) (W : World) : KpC B W W := fun _ _ => rfl
theorem KpC.cel (h : KpC B X Y) {b : Nat} (hb : Cel B X b) : Cel B Y b := ⟨hb.1, by obtain ⟨o, q1, q2⟩ := hb.2; exact ⟨o, (h b hb).trans q1, q2⟩⟩
theorem KpC.trans (h : KpC B X Y) (k : KpC B Y Z) : KpC B X Z := fun b hb => (k b (h.cel hb)).trans (h b hb)
theorem KpC.below (h : Below W.heap.size W W') : KpC B W W' := fun b hb => h.block b (by obtain ⟨o, q1, _⟩ := hb.2; exact lt_of_block q1)
theorem KpC.put (W : World) (l : Nat) (o o' : Obj) (_ : B ≤ l) (h : W.heap[l]? = some o) (hc : o.isCells = false) (_ : o.isWalk = false) : KpC B W (W.putObj l o') := fun b hb => World.putObj_heap_other (fun e => by
  obtain ⟨o2, q1, q2⟩ := hb.2
  subst e
  rw [h] at q1
  cases q1
  rw [hc] at q2
  cases q2)
theorem KpC.grown {row : Option Nat} (hg : X.grownBy Y row) (hr : ∀ r, row = some r → ∃ o : Obj, X.heap[r]? = some o ∧ o.isCells = false) : KpC B X Y := fun b hb => by
  obtain ⟨o, q1, q2⟩ := hb.2
  exact grownBy_keeps_cells hg hr q1 q2
theorem KpC.fs (h : KpC B X Y) {v : Value} {f : F} (hf : Fs X (Cel B X) v f) : Fs Y (Cel B Y) v f := (hf.keep h).more fun b hb => h.cel hb
/-- A step that turns cells of a block below B. -/
theorem KpC.low {row : Option Nat} (hg : X.grownBy Y row) (hr : ∀ r, row = some r → r < B) : KpC B X Y := fun b hb => hg.block b (by obtain ⟨o, q1, _⟩ := hb.2; exact lt_of_block q1) (fun e => by have := hr b e.symm; have := hb.1; omega)
end

/-- What is told: the place, and the node. -/
structure Told where
  i : Nat
  k : Int
  x : ByteArray
  y : ByteArray
  A : Option Addr
  n : Nat
  C : Nat
def encT (t : Told) : Array Value := #[.int .i64 (t.i : Int), .agg #[.int .i64 t.k, .string t.x, .string t.y, .slice t.A t.n t.C]]
/-- The node that is told is the row's, and its Kids read so. -/
def ToldR (B : Nat) (L : List Nd) (t : Told) (W : World) : Prop := ∃ nd, L[t.i]? = some nd ∧ nd.k = t.k ∧ nd.x = t.x ∧ nd.y = t.y ∧ Fs W (Cel B W) (.slice t.A t.n t.C) nd.c

set_option maxRecDepth 100000 in
set_option maxHeartbeats 2000000 in
theorem all1_in (n : Nat) (hn : 1 ≤ n) (l g B : Nat) (k : Int) (x y : ByteArray) (A : Option Addr) (nA C : Nat) (c : F) (hbig : c.size ≤ 100000) (J Jx : List Told → World → Prop) (W : World) (hBW : B ≤ W.heap.size)
    (hJ : AbidesFrom W.heap.size J)
    (hY : ∀ pre t W1, J pre W1 → ToldR B (⟨k, x, y, c⟩ :: nodes c) t W1 → (pre ++ [t]).map Told.i = List.range (pre ++ [t]).length → pre.length < (⟨k, x, y, c⟩ :: nodes c : List Nd).length → YieldAt Fence.wide (n - 1) Tryd.prog l (encT t) W1 fun e W' =>
      (e = .returned (.bool true) ∧ J (pre ++ [t]) W' ∧ KpC B W1 W') ∨ (e = .returned (.bool false) ∧ Jx (pre ++ [t]) W'))
    (hbx : Boxed W g k x y (.slice A nA C)) (hf : Fs W (Lo W.heap.size) (.slice A nA C) c) (h0 : J [] W) :
    CallsIn Fence.wide n Tryd.prog 27 #[.func (.yield l) #[] #[], .pointer (some ⟨g, 0, none⟩)] W fun e W' => (∃ v, e = .returned v) ∧
      ((∃ ys, ys.map Told.i = List.range (⟨k, x, y, c⟩ :: nodes c : List Nd).length ∧ J ys W') ∨ (∃ pre, pre.map Told.i = List.range pre.length ∧ Jx pre W')) := by
  obtain ⟨p0, p1, p2, p3⟩ := hbx.cells
  obtain ⟨L, hL⟩ : ∃ L, (⟨k, x, y, c⟩ :: nodes c : List Nd) = L := ⟨_, rfl⟩
  have HL := Lib.hid hL
  have hY := Lib.hid hY
  have HJ := Lib.hid hJ
  have H0 := Lib.hid h0
  have HC := Lib.hid (callsIn_wide.2 (tcopy_any c.size k x y A nA C c W (Nat.le_refl _) hbig hf) : CallsIn Fence.wide (n - 1) _ _ _ _ _)
  clear hbx hf hJ h0
  refine callsIn_of_wp Tryd.func27 rfl trivial ?_ rfl
  simp only [Tryd.ntmps27, List.size_toArray, List.length_cons, List.length_nil, Nat.reduceAdd, Nat.reduceSub, Array.replicate_succ, Array.replicate_zero, List.push_toArray, List.append_toArray, List.nil_append, List.cons_append]
  gi_wp2
  refine ⟨trivial, HC.out.mono ?_⟩
  rintro e W1 ⟨hb1, A1, n1, C1, rfl, hf1⟩
  have HB1 := Lib.hid hb1
  have HC2 := Lib.hid (callsIn_wide.2 (tnodes_any W.heap.size k x y A1 n1 C1 c W1 hbig (hf1.more fun b hb => hb)) : CallsIn Fence.wide (n - 1) _ _ _ _ _)
  clear hb1 hf1 HC
  gi_wp2
  refine ⟨trivial, HC2.out.mono ?_⟩
  rintro e W2 ⟨hb2, av, ln, Cv, rfl, ho2, hg2⟩
  rw [HL.out] at ho2
  have hlen : L.length = ln := by
    obtain ⟨a, c', e, _, _⟩ := ho2.slice
    injection e with _ e2 _
    exact e2.symm
  have Hlen := Lib.hid hlen
  have HB2 := Lib.hid (HB1.out.trans (hb2.mono HB1.out.size))
  have HO := Lib.hid ho2
  have H02 := Lib.hid (HJ.out [] W W2 none H0.out (grown_below HB2.out none) (fun r e => by cases e))
  have hlnb : ln ≤ 100001 := by
    have := nodes_len c
    rw [← hlen, ← hL, List.length_cons]
    omega
  have HLL : Hid ((nodes c).length + 1 = ln) := by
    show _ = _
    rw [← hlen, ← hL, List.length_cons]
  have HG : Hid (∀ g2, av = some ⟨g2, 0, none⟩ → B ≤ g2) := fun g2 e => by
    subst e
    have := hg2 g2 rfl
    have := HB1.out.size
    omega
  have HS := Lib.hid hBW
  clear hb2 ho2 hg2 HC2 H0 hlen hL hBW
  gi_wp2
  gi_loopw [3, 4, 9] (fun _ _ i wr => ∃ (j : Nat) (pre : List Told), j ≤ ln ∧ i = .int .i64 j ∧ Hid (pre.map Told.i = List.range j) ∧ Hid (J pre wr) ∧ Hid (KpC B W2 wr))
    (fun _ _ i _ => ln - (intOf i).toNat)
  case atStart => exact ⟨0, [], Nat.zero_le _, rfl, rfl, H02.out, KpC.refl _ _⟩
  case round =>
    rename World => W3
    obtain ⟨j, pre, hj, rfl, hpre, hJs, hkp⟩ := hrel
    by_cases hlt : j < ln
    · obtain ⟨nd, hnd⟩ : ∃ nd, L[j]? = some nd := ⟨_, List.getElem?_eq_getElem (by rw [Hlen.out]; exact hlt)⟩
      obtain ⟨g2, s, rfl, hg2, c0, c1, c2, c3, hfs⟩ := HO.out.at_ hnd
      have hcel : Cel B W2 g2 := ⟨HG.out g2 rfl, by obtain ⟨o, q1, q2⟩ := cells_of_cell c0; exact ⟨o, q1, q2⟩⟩
      have hbk := hkp.out g2 hcel
      have d0 := (World.cell?_of_block (a := ⟨g2, j * 4, none⟩) hbk).trans c0
      have d1 := (World.cell?_of_block (a := ⟨g2, j * 4 + 1, none⟩) hbk).trans c1
      have d2 := (World.cell?_of_block (a := ⟨g2, j * 4 + 2, none⟩) hbk).trans c2
      have d3 := (World.cell?_of_block (a := ⟨g2, j * 4 + 3, none⟩) hbk).trans c3
      have hf3 : Fs W3 (Cel B W3) s nd.c := hkp.out.fs (hfs.cel fun b hb => by have := HS.out; have := hb.1; omega)
      obtain ⟨kk, xx, yy, cc⟩ := nd
      obtain ⟨sa, sC, rfl, _, _⟩ := hfs.slice
      generalize hm : (Nd.mk kk xx yy cc).c.len = m at *
      clear hm
      have b4 := below1 W3 (.cells #[.int .i64 kk, .string xx, .string yy, .slice sa m sC] 24)
      have hf4 := (KpC.below (B := B) b4).fs hf3
      have hJ4 := HJ.out pre W3 _ none hJs.out (grown_below b4 none) (fun r e => by cases e)
      have hpl : pre.length = j := by have := congrArg List.length hpre.out; simpa using this
      have hpre3 : Hid ((pre ++ [(⟨j, kk, xx, yy, sa, m, sC⟩ : Told)]).map Told.i = List.range (j + 1)) := by
        show _ = _
        rw [List.map_append, hpre.out, List.range_succ]
        rfl
      obtain ⟨fn, tmps, assign, body, hy, hRd⟩ := hY.out pre ⟨j, kk, xx, yy, sa, m, sC⟩ _ hJ4 ⟨_, by rw [HL.out]; exact hnd, rfl, rfl, rfl, hf4⟩ (by rw [hpre3.out, List.length_append, hpl, List.length_singleton]) (by rw [hpl, HL.out, Hlen.out]; exact hlt)
      dsimp only [encT] at hy hRd
      have HK4 := Lib.hid (hkp.out.trans (KpC.below (B := B) b4))
      have HR := Lib.hid hRd
      have hlt' : (j : Int) < (ln : Int) := by omega
      clear hpl b4 hf4 hJ4 hf3 hbk hcel c0 c1 c2 c3 hfs hnd hRd
      gi_wp2
      refine HR.out.mono ?_
      rintro e W5 (⟨rfl, hJ3, hk3⟩ | ⟨rfl, hJx3⟩)
      · have hkeep3 := Lib.hid (HK4.out.trans hk3)
        have hJ3 := Lib.hid hJ3
        clear hk3
        gi_wp2
        go_roundw
        case rel => exact ⟨j + 1, _, by omega, by go_num, hpre3.out, hJ3.out, hkeep3.out⟩
        case measure => simp [intOf]; omega
      · have hJx3 := Lib.hid hJx3
        gi_wp2
        refine bodyPost_ret (results_none rfl _ _ _) rfl ?_
        refine ⟨⟨_, rfl⟩, .inr ⟨_, ?_, hJx3.out⟩⟩
        rw [hpre3.out]
        have := congrArg List.length hpre3.out
        rw [List.length_map, List.length_range] at this
        rw [this]
    · obtain rfl : j = ln := by omega
      have hge : ¬ (j : Int) < (j : Int) := by omega
      gi_wp2
      go_end0
      exact ⟨⟨_, rfl⟩, .inl ⟨_, by rw [← List.range_succ, Nat.succ_eq_add_one, show (nodes c).length + 1 = j from HLL.out]; exact hpre.out, hJs.out⟩⟩

theorem all_stops (n : Nat) (hn : 1 ≤ n) (g : Nat) (k : Int) (x y : ByteArray) (A : Option Addr) (nA C : Nat) (c : F) (hbig : c.size ≤ 100000) (w : World)
    (hbx : Boxed w g k x y (.slice A nA C)) (hf : Fs w (Lo w.heap.size) (.slice A nA C) c) :
    SeqStopsR n Tryd.prog 27 #[.pointer (some ⟨g, 0, none⟩)] encT (ToldR w.heap.size (⟨k, x, y, c⟩ :: nodes c)) (KpC w.heap.size) (fun ys => ys.map Told.i = List.range (c.size + 1)) (fun pre => pre.map Told.i = List.range pre.length) (c.size + 1) w := fun l J Jx W hW hJ _ hY h0 => by
  have hl : (⟨k, x, y, c⟩ :: nodes c : List Nd).length = c.size + 1 := by rw [List.length_cons, nodes_len]
  have := all1_in n hn l g w.heap.size k x y A nA C c hbig J Jx W hW.size hJ (by rw [hl]; exact hY) (hbx.below hW hbx.lt) (hf.later hW) h0
  rwa [hl] at this
end Go.Proofs.YtoecimgmghlfpaaDoor.Tree

/-
  Layer 5 (tree): the document's Size, as the tests have it; and that a tree is the same as itself.
-/
namespace Go.Proofs.YtoecimgmghlfpaaDoor.Tree
open Go.ChangeShapes Go.WideShapes Go.ChangeAt Go.RowKit Mem
set_option linter.unusedVariables false

set_option maxRecDepth 100000 in
set_option maxHeartbeats 4000000 in
theorem refSize_any (k : Int) (x y : ByteArray) (A : Option Addr) (n C : Nat) (c : F) (m : Nat) (w : World) (hf : Fs w (Lo w.heap.size) (.slice A n C) c) (hm1 : 1 ≤ m) (hm2 : m ≤ 100000) :
    Calls Tryd.prog 11 #[.agg #[.int .i64 k, .string x, .string y, .slice A n C], .int .i64 (m : Int)] w fun e w' => e = .returned (.int .i64 ((min (c.size + 1) m : Nat) : Int)) ∧ Below w.heap.size w w' := by
  have b1 := below1 w (.cells #[.int .i64 k, .string x, .string y, .slice A n C] 24)
  have HC := Lib.hid (nodes_any c.size k x y A n C c m w.heap.size (w.alloc (.cells #[.int .i64 k, .string x, .string y, .slice A n C] 24)) (Nat.le_refl _) (hf.below b1 (Nat.le_refl _)) b1.size hm1 hm2)
  have HB1 := Lib.hid b1
  have HL : Hid (((⟨k, x, y, c⟩ :: nodes c : List Nd).take m).length = min (c.size + 1) m) := by show _ = _; rw [List.length_take, List.length_cons, nodes_len, Nat.min_comm]
  generalize ((⟨k, x, y, c⟩ :: nodes c : List Nd).take m) = T at *
  generalize min (c.size + 1) m = s at *
  clear hf hm1 hm2 b1
  go_enter Tryd.func11, Tryd.ntmps11
  go_wp2_with fail
  refine HC.out.mono ?_
  rintro e w1 ⟨⟨v1, rfl, ho1⟩, hb1⟩
  obtain ⟨a1, c1, rfl, hc1, hc1'⟩ := ho1.slice
  have HB := Lib.hid (HB1.out.trans (hb1.mono HB1.out.size))
  rw [HL.out] at hc1 ⊢
  clear ho1 hb1 HC HL hc1'
  go_wp2
  go_ret
  exact ⟨rfl, HB.out⟩


theorem sameT_refl (k : Int) (x y : ByteArray) (c : F) : sameT k x y c k x y c = true := by
  unfold sameT
  rw [same_refl]
  simp
end Go.Proofs.YtoecimgmghlfpaaDoor.Tree

/-
  Words of no layer: a region that draws its order, in the round of a range over a function: by the conditions of MemRel.
-/
namespace Go.Proofs.YtoecimgmghlfpaaDoor.Mem
set_option linter.unusedVariables false
variable {P : Program} {Q : Exit → Act → World → Prop} {n r : Nat}

def noDefer (o : Oper) : Bool := match o.op with
  | .defer _ => false
  | _ => true
theorem noDefer_op {o : Oper} (h : noDefer o = true) (c : _) : o.op ≠ .defer c := fun e => by
  unfold noDefer at h
  rw [e] at h
  cases h
theorem op_in {o : Oper} {a : Act} {w : World} {K : Act → World → Prop} (hd : noDefer o = true) (h : o.wp P a w K Q) : o.wpIn (Fence.wide.inRound r) n P a w K Q := by
  refine ⟨fun f _ => trivial, ?_⟩
  rw [Oper.semAt_eq _ _ _ (noDefer_op hd)]
  unfold Oper.wp at h
  generalize (execOp a.eval o).run P w = res at *
  cases res with
  | ok x w' =>
    cases x <;> simp only [Oper.upon, Oper.uponIn] at h ⊢ <;> first
      | exact h
      | exact ⟨fun h' => by simp [Fence.wide] at h', (callsIn_wide.2 h : CallsIn Fence.wide _ _ _ _ _ _)⟩
      | exact ⟨fun h' => by simp [Fence.wide] at h', fun c cs _ => by obtain ⟨v, w2, q, s⟩ := h c cs; exact ⟨v, w2, q, stepsIn_wide.2 s⟩⟩
  | halt x w' => cases x <;> simp only [Oper.upon, Oper.uponIn] at h ⊢ <;> exact h
theorem any_in {md : Region.Mode} {ops : Array Oper} (hd : ∀ (i : Nat) (o : Oper), ops[i]? = some o → noDefer o = true) (hQ : ¬ LetsOut Q) : ∀ (fuel : Nat) (listed : Array Bool) (a : Act) (w : World), wpAny P md ops Q fuel listed a w → wpAnyIn (Fence.wide.inRound r) n P md ops Q fuel listed a w
  | 0, _, _, _, h => h
  | fuel + 1, listed, a, w, h => ⟨h.1, fun i hi => by
    have h2 := h.2 i hi
    refine wpOpIn_mono (fun a w => any_in hd hQ fuel _ a w) ?_
    unfold wpOp at h2
    unfold wpOpIn
    cases ho : ops[i]? with
    | none => rw [ho] at h2; exact h2
    | some o =>
      rw [ho] at h2
      simp only at h2 ⊢
      by_cases hw : Region.wanted o (yielded ops a.tmps) = true
      · rw [if_pos hw] at h2 ⊢
        rcases h2 with h2 | h2
        · exact op_in (hd i o ho) h2
        · exact absurd h2.2 hQ
      · rw [if_neg hw] at h2 ⊢
        exact ⟨fun f _ => trivial, h2⟩⟩

/-- A REGION THAT DRAWS ITS ORDER, BY CONDITIONS, IN A ROUND. -/
theorem region_relIn {id : Nat} {l : List Oper} {a0 : Act} {w : World} (T : World → World → Prop) (Φ : List (Cd T)) (hm : P.follows .mixedOrders = true) (hn : (dsts l).Nodup) (he : edgesBack l = true) (hd : l.all noDefer = true) (hQ : ¬ LetsOut Q)
    (hrf : T w.drew w.drew) (htr : ∀ W1 W2 W3, T W1 W2 → T W2 W3 → T W1 W3)
    (hsteps : ∀ x W, T w.drew W → ∀ a, a = (⟨fillA x 0 l a0.tmps, a0.defers⟩ : Act) → Steps P l Q Φ x a W 0 l)
    (hdone : ∀ x W, T w.drew W → (∀ i, i < l.length → (atC Φ i).p (x i) W) → ∀ a, a = (⟨fillA x 0 l a0.tmps, a0.defers⟩ : Act) → Q .normal a W) :
    (Code.region id l.toArray true).wpIn (Fence.wide.inRound r) n P Q a0 w := by
  refine wpIn_region_any hm (any_in (fun i o ho => List.all_eq_true.1 hd o (List.mem_of_getElem? (by simpa using ho))) hQ _ _ _ _ (rel_any (a0 := a0) (w1 := w.drew) (Φ := Φ) hn he htr hsteps hdone l.toArray.size (Array.replicate l.toArray.size false) (asIs l a0.tmps) a0 w.drew ?_ ?_ hrf ?_))
  · simpa using unl_false l.length l.length (Nat.le_refl _)
  · rw [fillA_start]
  · intro i hi h
    exfalso
    simp [hi] at h
end Go.Proofs.YtoecimgmghlfpaaDoor.Mem

/-
  Layer 5 (tree): the variables of TreeSame, and what its range keeps.
-/
namespace Go.Proofs.YtoecimgmghlfpaaDoor.Tree
open Go.ChangeShapes Go.WideShapes Go.ChangeAt Go.RowKit Mem
set_option linter.unusedVariables false

/-- The variables a, b, stop and the result. -/
structure Four (w W : World) (k : Int) (x y : ByteArray) (v : Value) (k' : Int) (x' y' : ByteArray) (v' : Value) (stop : Int) : Prop where
  a : Boxed W w.heap.size k x y v
  b : Boxed W (w.heap.size + 1) k' x' y' v'
  i : W.heap[w.heap.size + 2]? = some (.cells #[.int .i64 stop] 3 (0, 0))
  r : W.heap[w.heap.size + 3]? = some (.cells #[.bool false] 4 (0, 0))
  bel : Below w.heap.size w W
/-- The world behind them. -/
def w4 (w : World) (k : Int) (x y : ByteArray) (v : Value) (k' : Int) (x' y' : ByteArray) (v' : Value) (stop : Int) : World :=
  (((w.alloc (.cells #[.int .i64 k, .string x, .string y, v] 24)).alloc (.cells #[.int .i64 k', .string x', .string y', v'] 24)).alloc (.cells #[.int .i64 stop] 3)).alloc (.cells #[.bool false] 4)
section
variable {w W W' : World} {k : Int} {x y : ByteArray} {v : Value} {k' : Int} {x' y' : ByteArray} {v' : Value} {stop : Int}
theorem four_new (w : World) (k : Int) (x y : ByteArray) (v : Value) (k' : Int) (x' y' : ByteArray) (v' : Value) (stop : Int) : Four w (w4 w k x y v k' x' y' v' stop) k x y v k' x' y' v' stop := by
  have s1 : (w.alloc (.cells #[.int .i64 k, .string x, .string y, v] 24)).heap.size = w.heap.size + 1 := World.size_alloc _ _
  have s2 : ((w.alloc (.cells #[.int .i64 k, .string x, .string y, v] 24)).alloc (.cells #[.int .i64 k', .string x', .string y', v'] 24)).heap.size = w.heap.size + 2 := by rw [World.size_alloc, s1]
  have s3 : (((w.alloc (.cells #[.int .i64 k, .string x, .string y, v] 24)).alloc (.cells #[.int .i64 k', .string x', .string y', v'] 24)).alloc (.cells #[.int .i64 stop] 3)).heap.size = w.heap.size + 3 := by rw [World.size_alloc, s2]
  refine ⟨?_, ?_, ?_, ?_, ?_⟩
  · exact ((boxed_new w k x y v).below (below3 _ _ _ _) (by rw [s1]; omega))
  · have := (boxed_new (w.alloc (.cells #[.int .i64 k, .string x, .string y, v] 24)) k' x' y' v').below (below2 _ (.cells #[.int .i64 stop] 3) (.cells #[.bool false] 4)) (by rw [s1, s2]; omega)
    rwa [s1] at this
  · refine (Below.heap_alloc _ _ _ (by rw [s3]; omega)).trans ?_
    have := heap_alloc_new ((w.alloc (.cells #[.int .i64 k, .string x, .string y, v] 24)).alloc (.cells #[.int .i64 k', .string x', .string y', v'] 24)) (.cells #[.int .i64 stop] 3)
    rwa [s2] at this
  · have := heap_alloc_new (((w.alloc (.cells #[.int .i64 k, .string x, .string y, v] 24)).alloc (.cells #[.int .i64 k', .string x', .string y', v'] 24)).alloc (.cells #[.int .i64 stop] 3)) (.cells #[.bool false] 4)
    rwa [s3] at this
  · exact (below3 w _ _ _).trans ((below1 _ _).mono (below3 w _ _ _).size)
theorem Four.sz (h : Four w W k x y v k' x' y' v' stop) : w.heap.size + 3 < W.heap.size := lt_of_block h.r
theorem Four.later (h : Four w W k x y v k' x' y' v' stop) {B : Nat} (hb : Below B W W') (hB : w.heap.size + 4 ≤ B) : Four w W' k x y v k' x' y' v' stop :=
  ⟨h.a.below hb (by omega), h.b.below hb (by omega), (hb.block _ (by omega)).trans h.i, (hb.block _ (by omega)).trans h.r, h.bel.trans (hb.mono (by omega))⟩
theorem Four.below (h : Four w W k x y v k' x' y' v' stop) (hb : Below W.heap.size W W') : Four w W' k x y v k' x' y' v' stop := h.later hb h.sz
theorem Four.stopCell (h : Four w W k x y v k' x' y' v' stop) : W.cell? ⟨w.heap.size + 2, 0, none⟩ = some (.int .i64 stop) := by have := h.i; simp [World.cell?, this]
end

/-- The counter's box, and what lies below it. -/
structure Cnt (N k : Nat) (W9 W : World) : Prop where
  box : W.heap[N]? = some (.cells #[.int .i64 (k : Int)] 3 (0, 0))
  below : Below N W9 W
theorem Cnt.own {N k S : Nat} {W9 X Y : World} {row : Option Nat} (h : Cnt N k W9 X) (hN : N ≤ S) (hg : X.grownBy Y row) (hr : ∀ r, row = some r → S ≤ r ∧ ∃ o : Obj, X.heap[r]? = some o ∧ o.isCells = false) : Cnt N k W9 Y := by
  refine ⟨(hg.block N (lt_of_block h.box) (fun e => ?_)).trans h.box, h.below.grown hg (Nat.le_of_lt (lt_of_block h.box)) (fun k e => by have := (hr k e).1; omega)⟩
  · obtain ⟨o, ho1, ho2⟩ := (hr N e.symm).2
    rw [h.box] at ho1; cases ho1; cases ho2
theorem Cnt.put {N k : Nat} {W9 W : World} (h : Cnt N k W9 W) : Cnt N (k + 1) W9 (W.setCell ⟨N, 0, none⟩ (.int .i64 ((k : Int) + 1))) :=
  ⟨by
    have := set_at h.box 0 (.int .i64 ((k : Int) + 1))
    simpa using this, h.below.setCell (by exact Nat.le_refl _) _⟩
theorem Cnt.later {N k : Nat} {W9 W W' : World} (h : Cnt N k W9 W) (hb : Below W.heap.size W W') : Cnt N k W9 W' :=
  ⟨(hb.block N (lt_of_block h.box)).trans h.box, h.below.trans (hb.mono (Nat.le_of_lt (lt_of_block h.box)))⟩
theorem Cnt.cell {N k : Nat} {W9 W : World} (h : Cnt N k W9 W) : W.cell? ⟨N, 0, none⟩ = some (.int .i64 (k : Int)) := by have := h.box; simp [World.cell?, this]
theorem Cnt.frz {N k : Nat} {W9 W : World} (h : Cnt N k W9 W) : W.frozen? ⟨N, 0, none⟩ = false := by have := h.box; simp [World.frozen?, this]

/-- What is known of the node that has been told, in the body. -/
def InBody (B : Nat) (L : List Nd) (t : Told) (g : Nat) (W : World) : Prop := ToldR B L t W ∧ Boxed W g t.k t.x t.y (.slice t.A t.n t.C)
theorem inBody_own (B : Nat) (L : List Nd) (t : Told) (g : Nat) : OwnFrom B (fun (_ : Unit) W => InBody B L t g W) := fun s X Y row h hg hr => by
  obtain ⟨⟨nd, q1, q2, q3, q4, q5⟩, hb⟩ := h
  have hk : KpC B X Y := KpC.grown hg (fun r e => (hr r e).2)
  exact ⟨⟨nd, q1, q2, q3, q4, hk.fs q5⟩, (grownBy_keeps_cells hg (fun r e => (hr r e).2) hb rfl).trans hb⟩
theorem place_is {pre : List Told} {t : Told} (h : (pre ++ [t]).map Told.i = List.range (pre ++ [t]).length) : pre.length = t.i := by
  rw [List.map_append, List.length_append, List.length_singleton, List.range_succ] at h
  have := (List.append_inj' h rfl).2
  simp at this
  exact this.symm
theorem Fs.cel_lo {W : World} {B : Nat} {v : Value} {f : F} (h : Fs W (Cel B W) v f) : Fs W (Lo W.heap.size) v f := h.more fun b hb => by obtain ⟨o, q1, _⟩ := hb.2; exact lt_of_block q1
end Go.Proofs.YtoecimgmghlfpaaDoor.Tree
