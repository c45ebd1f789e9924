/-
  Words of no layer: a range over a function whose things lie in memory that the function itself has laid: the body of a round may read what the function promises of each thing (R).
-/
import Derived.Test.YtpankfbdlakmcaaProg
import Derived.RangeFuncWrites
import Derived.RangeFuncBox
import Derived.RangeFuncLeaves
namespace Go.Proofs.Ytpankfbdlakmcaa.Mem
open Go.RowKit
set_option linter.unusedVariables false
variable {P : Program} {n : Nat}

/-- The contract of a function that is ranged over: as SeqStopsK's, but each thing x is handed over in a world W1 where R x W1 holds. -/
def SeqStopsR {α : Type} (n : Nat) (P : Program) (g : Nat) (lb : Array Value) (encs : α → Array Value) (R : α → World → Prop) (Kp : World → World → Prop) (S Sp : List α → Prop) (N : Nat) (w : World) : Prop :=
  ∀ (l : Nat) (J Jx : List α → World → Prop) (W : World), Below w.heap.size w W → AbidesFrom W.heap.size J → AbidesFrom W.heap.size Jx →
    (∀ pre x W1, J pre W1 → R x W1 → Sp (pre ++ [x]) → pre.length < N → YieldAt Fence.wide (n - 1) P l (encs x) W1 fun e W' =>
      (e = .returned (.bool true) ∧ J (pre ++ [x]) W' ∧ Kp W1 W') ∨ (e = .returned (.bool false) ∧ Jx (pre ++ [x]) W')) →
    J [] W →
    CallsIn Fence.wide n P g (#[.func (.yield l) #[] #[]] ++ lb) W fun e W' => (∃ v, e = .returned v) ∧ ((∃ xs, S xs ∧ J xs W') ∨ (∃ pre, Sp pre ∧ Jx pre W'))

/-- The loop's own record at block l, with its state and what is still to be done behind it. -/
def recAt (fn : FuncId) (a : Act) (ps : Array Tmp) (assign body : Code) (D : Nat) (st : LoopState) (pe : Option Code) : Loop := { state := st, pending := pe, fn, tmps := a.tmps, params := ps, assign, body, defers := D }

theorem range_reads {α : Type} {g : Operand} {ps : Array Tmp} {assign body : Code} {Q : Exit → Act → World → Prop} {a : Act} {w : World}
    (h1 : 1 ≤ n) {gf : Nat} {lb : Array Value} (hg : a.eval g = .func (.func gf) #[] lb) (eg : ∀ args w, (callFunc gf args).run P w = .ok (.enter gf args) w)
    {encs : α → Array Value} {R : α → World → Prop} {Kp : World → World → Prop} {S Sp : List α → Prop} {N : Nat} (hseq : SeqStopsR (n - 1) P gf lb encs R Kp S Sp N w)
    (hKt : ∀ {A B C : World}, Kp A B → Kp B C → Kp A C) (hKb : ∀ (W : World) (l : Nat) (o o' : Obj), w.heap.size ≤ l → W.heap[l]? = some o → o.isCells = false → o.isWalk = false → Kp W (W.putObj l o')) (hps : ∀ x, (encs x).size = ps.size)
    (I : List α → World → Prop) (Ix : Code → List α → World → Prop) (hI : OwnFrom w.heap.size I) (hIx : ∀ c, OwnFrom w.heap.size (Ix c)) (h0 : I [] w) (Ax : α → Act → World → Prop) (hAx : ∀ x a', OwnFrom w.heap.size (fun (_ : Unit) W => Ax x a' W))
    (hassign : ∀ (l : Nat) (pre : List α) (x : α) (W : World) (K : Act → World → Prop), I pre W → R x W → Sp (pre ++ [x]) → pre.length < N → (∀ a' W', KeepsFrom w.heap.size W W' → Kp W W' → I pre W' → Ax x a' W' → K a' W') →
      assign.wpIn (Fence.wide.inRound l) (n - 1 - 1) P (Exit.then K (fun _ _ _ => False)) { tmps := (ps.zip (encs x)).foldl (fun t (p, v) => t.setIfInBounds p v) a.tmps, defers := [] } W)
    (hbody : ∀ (l : Nat) (pre : List α) (x : α) (a' : Act) (W : World), I pre W → Ax x a' W → Sp (pre ++ [x]) → pre.length < N → body.wpIn (Fence.wide.inRound l) (n - 1 - 1) P (ownPostG w.heap.size Kp I Ix (pre ++ [x]) W) a' W)
    (hdone : ∀ (D : Nat) (xs : List α) (W : World), w.heap.size ≤ D → S xs → I xs W → W.heap[D]? = some (.deferred (some [])) → Q .normal { a with defers := { target := .collected D, args := #[] } :: a.defers } W)
    (hstop : ∀ (D : Nat) (c : Code) (pre : List α) (W : World), w.heap.size ≤ D → Sp pre → Ix c pre W → W.heap[D]? = some (.deferred (some [])) → c.wpIn Fence.wide n P Q { a with defers := { target := .collected D, args := #[] } :: a.defers } W) :
    (Code.rangeFunc g ps assign body).wpIn Fence.wide n P Q a w := by
  refine wpIn_rangeFunc fun fn hfn => ?_
  generalize hB : w.heap.size = B at *
  have szA : (w.alloc (.deferred (some []))).heap.size = B + 1 := by rw [World.size_alloc, hB]
  -- the block for the rounds' deferred calls (B) and the loop's record (B + 1)
  have own : ∀ {st : LoopState} {pe : Option Code} {W : World}, W.heap[B + 1]? = some (.loop (recAt fn a ps assign body B st pe)) → B + 1 < W.heap.size := fun h => (Array.getElem?_eq_some_iff.1 h).1
  have start : ∃ W1, (w.alloc (.deferred (some []))).alloc (.loop (recAt fn a ps assign body B .ready none)) = W1 ∧ Below B w W1 ∧ W1.heap.size = B + 2 ∧
      W1.heap[B + 1]? = some (.loop (recAt fn a ps assign body B .ready none)) ∧ W1.heap[B]? = some (.deferred (some [])) ∧ I [] W1 := by
    refine ⟨_, rfl, ((Below.refl B w).alloc (Nat.le_of_eq hB.symm) _).alloc (by rw [szA]; omega) _, by rw [World.size_alloc, szA], ?_, ?_, hI.alloc _ (hI.alloc _ h0)⟩
    · have := World.alloc_heap_new (w.alloc (.deferred (some []))) (.loop (recAt fn a ps assign body B .ready none))
      rwa [szA] at this
    · have := World.alloc_heap_new w (.deferred (some []))
      rw [hB] at this
      exact (Below.heap_alloc _ _ _ (by rw [szA]; omega)).trans this
  obtain ⟨W1, hW1, hbW, hsz, hrec, hdef, hI1⟩ := start
  have abid : ∀ {β : Type} {J : β → World → Prop}, OwnFrom B J → ∀ (s : β) (X Y : World) (row : Option Nat), J s X → X.grownBy Y row → (∀ r, row = some r → W1.heap.size ≤ r ∧ ∃ o : Obj, X.heap[r]? = some o ∧ o.isWalk = true) → J s Y := fun hJ s X Y row hs hgr hr =>
    hJ s X Y row hs hgr fun r e => by
      obtain ⟨q1, o, q2, q3⟩ := hr r e
      exact ⟨by omega, o, q2, Obj.not_cells_of_walk q3⟩
  have still : ∀ {X Y : World} {row : Option Nat} {k : Nat} {o : Obj}, X.grownBy Y row → (∀ r, row = some r → W1.heap.size ≤ r ∧ ∃ o : Obj, X.heap[r]? = some o ∧ o.isWalk = true) → X.heap[k]? = some o → o.isWalk = false → Y.heap[k]? = some o := fun hgr hr hk hw =>
    (grownBy_keeps hgr (fun r e => (hr r e).2) hk hw).trans hk
  rw [show Fence.wide.round = none from rfl]
  refine ⟨B + 1, [{ target := .collected B, args := #[] }], W1, { target := .fn (.func gf) lb, args := #[.func (.yield (B + 1)) #[] #[]] }, W1, gf, #[.func (.yield (B + 1)) #[] #[]] ++ lb, W1, ?_, ?_, fun f' _ => trivial, ?_, fun _ => h1, ?_⟩
  · have := run_enterLoop_outer (P := P) (w := w) fn a.tmps ps assign body
    rw [← hW1]
    rw [hB] at this
    exact this
  · simp only [resolve, hg]
    simp [go_sem]
  · simp [invoke, go_sem, eg]
  refine (hseq (B + 1)
    (fun pre W => I pre W ∧ W.heap[B + 1]? = some (.loop (recAt fn a ps assign body B .ready none)) ∧ W.heap[B]? = some (.deferred (some [])))
    (fun pre W => ∃ c, Ix c pre W ∧ W.heap[B + 1]? = some (.loop (recAt fn a ps assign body B .done (some c))) ∧ W.heap[B]? = some (.deferred (some [])))
    W1 (hB ▸ hbW)
    (fun s X Y row hs hgr hr => ⟨abid hI s X Y row hs.1 hgr hr, still hgr hr hs.2.1 rfl, still hgr hr hs.2.2 rfl⟩)
    (fun s X Y row hs hgr hr => by
      obtain ⟨c, q1, q2, q3⟩ := hs
      exact ⟨c, abid (hIx c) s X Y row q1 hgr hr, still hgr hr q2 rfl, still hgr hr q3 rfl⟩)
    ?round ⟨hI1, hrec, hdef⟩).mono ?rest
  case round =>
    rintro pre x W ⟨hi, hl, hk⟩ hR hsp hlen
    refine ⟨fn, _, assign, body, run_yield (P := P) (args := encs x) hl (hps x), roundIn_of_wpIn hfn (hassign _ pre x W _ hi hR hsp hlen ?_)⟩
    intro a' Wa hkfa hkpa hia hax
    replace hl := hkfa.same _ _ (by omega) hl rfl
    replace hk := hkfa.same _ _ (Nat.le_refl _) hk rfl
    replace hi := hia
    clear hia hR
    revert hkpa hkfa
    generalize W = Wb
    intro hkfa hkpa
    obtain ⟨W, rfl⟩ : ∃ W, W = Wa := ⟨_, rfl⟩
    refine ⟨_, run_beginRound hl rfl, ?_⟩
    have hlt := own hl
    have hl2 : (W.putObj (B + 1) (.loop (recAt fn a ps assign body B .busy none))).heap[B + 1]? = some (.loop (recAt fn a ps assign body B .busy none)) := World.putObj_heap_same hlt
    have hk2 : (W.putObj (B + 1) (.loop (recAt fn a ps assign body B .busy none))).heap[B]? = some (.deferred (some [])) := (World.putObj_heap_other (by omega)).trans hk
    refine wpIn_mono (hbody _ pre x a' _ (hI.putObj _ hi (by omega) hl rfl) ((hAx x a').putObj (s := ()) _ hax (by omega) hl rfl) hsp hlen) fun e a3 W3 hp => ?_
    have ended : ∀ (jump : Option Code), KeepsFrom B (W.putObj (B + 1) (.loop (recAt fn a ps assign body B .busy none))) W3 →
        (Instr.endRound (B + 1) jump).run P W3 = .ok (.bool jump.isNone) (W3.putObj (B + 1) (.loop (recAt fn a ps assign body B (if jump.isNone then .ready else .done) jump))) ∧
        W3.heap[B + 1]? = some (.loop (recAt fn a ps assign body B .busy none)) ∧
        (W3.putObj (B + 1) (.loop (recAt fn a ps assign body B (if jump.isNone then .ready else .done) jump))).heap[B + 1]? = some (.loop (recAt fn a ps assign body B (if jump.isNone then .ready else .done) jump)) ∧
        (W3.putObj (B + 1) (.loop (recAt fn a ps assign body B (if jump.isNone then .ready else .done) jump))).heap[B]? = some (.deferred (some [])) := fun jump hk3 => by
      have hl3 := hk3.same _ _ (by omega) hl2 rfl
      exact ⟨run_endRound (P := P) jump hl3, hl3, World.putObj_heap_same (own hl3), (World.putObj_heap_other (by omega)).trans (hk3.same _ _ (Nat.le_refl _) hk2 rfl)⟩
    have left : ∀ c : Code, KeepsFrom B (W.putObj (B + 1) (.loop (recAt fn a ps assign body B .busy none))) W3 → Ix c (pre ++ [x]) W3 →
        ∃ v W4, (Instr.endRound (B + 1) (some c)).run P W3 = .ok v W4 ∧
          ((Ending.returned v = .returned (.bool true) ∧ (I (pre ++ [x]) W4 ∧ W4.heap[B + 1]? = some (.loop (recAt fn a ps assign body B .ready none)) ∧ W4.heap[B]? = some (.deferred (some []))) ∧ Kp Wb W4) ∨
           (Ending.returned v = .returned (.bool false) ∧ ∃ c, Ix c (pre ++ [x]) W4 ∧ W4.heap[B + 1]? = some (.loop (recAt fn a ps assign body B .done (some c))) ∧ W4.heap[B]? = some (.deferred (some [])))) := fun c hk3 hi3 => by
      obtain ⟨q1, q2, q3, q4⟩ := ended (some c) hk3
      exact ⟨_, _, q1, .inr ⟨rfl, c, (hIx _).putObj _ hi3 (by omega) q2 rfl, q3, q4⟩⟩
    cases e with
    | normal =>
      obtain ⟨hk3, hkp, hi3⟩ := hp
      obtain ⟨q1, q2, q3, q4⟩ := ended none hk3
      exact ⟨_, _, q1, .inl ⟨rfl, ⟨hI.putObj _ hi3 (by omega) q2 rfl, q3, q4⟩, hKt (hKt (hKt hkpa (hKb _ _ _ _ (by omega) hl rfl rfl)) hkp) (hKb _ _ _ _ (by omega) q2 rfl rfl)⟩⟩
    | ret => exact left .ret hp.1 hp.2
    | exit id => exact left (.exit id) hp.1 hp.2
    | goto t => exact left (.goto t) hp.1 hp.2
    | panic ch => exact hp.elim
    | outgrown => exact hp.elim
  case rest =>
    rintro e W2 ⟨⟨v, rfl⟩, (⟨xs, hS, hi, hl, hk⟩ | ⟨pre, hSp, c, hi, hl, hk⟩)⟩
    · exact ⟨none, _, run_endLoop (P := P) hl (by simp [recAt]), hdone _ xs _ (Nat.le_refl _) hS (hI.putObj _ hi (by omega) hl rfl) ((World.putObj_heap_other (by omega)).trans hk)⟩
    · exact ⟨some c, _, run_endLoop (P := P) hl (by simp [recAt]), hstop _ c pre _ (Nat.le_refl _) hSp ((hIx c).putObj _ hi (by omega) hl rfl) ((World.putObj_heap_other (by omega)).trans hk)⟩

/-- The same where the assign code lays one block, with one rest for both ways out. -/
theorem range_told {α : Type} {g : Operand} {ps : Array Tmp} {assign body : Code} {Q : Exit → Act → World → Prop} {a : Act} {w : World}
    (h1 : 1 ≤ n) {gf : Nat} {lb : Array Value} (hg : a.eval g = .func (.func gf) #[] lb) (eg : ∀ args w, (callFunc gf args).run P w = .ok (.enter gf args) w)
    {encs : α → Array Value} {R : α → World → Prop} {Kp : World → World → Prop} {S Sp : List α → Prop} {N : Nat} (hseq : SeqStopsR (n - 1) P gf lb encs R Kp S Sp N w)
    (hKt : ∀ {A B C : World}, Kp A B → Kp B C → Kp A C) (hKb : ∀ (W : World) (l : Nat) (o o' : Obj), w.heap.size ≤ l → W.heap[l]? = some o → o.isCells = false → o.isWalk = false → Kp W (W.putObj l o')) (hps : ∀ x, (encs x).size = ps.size)
    (I : List α → World → Prop) (Ix : Code → List α → World → Prop) (J : World → Prop) (hI : OwnFrom w.heap.size I) (hIx : ∀ c, OwnFrom w.heap.size (Ix c)) (h0 : I [] w) (Ax : α → Nat → World → Prop) (hAx : ∀ x b, OwnFrom w.heap.size (fun (_ : Unit) W => Ax x b W))
    (hd : ∀ ys W, S ys → I ys W → J W)
    (hs : ∀ c pre W, Sp pre → Ix c pre W → J W ∧ ∀ a', Q .normal a' W → c.wpIn Fence.wide n P Q a' W)
    (hround : ∀ (x : α) (b : Nat), ∃ a₁ : Act, (∀ (l : Nat) (pre : List α) (W : World) (K : Act → World → Prop), W.heap.size = b → I pre W → R x W → Sp (pre ++ [x]) → pre.length < N → (∀ W', KeepsFrom w.heap.size W W' → Kp W W' → I pre W' → Ax x b W' → K a₁ W') →
      assign.wpIn (Fence.wide.inRound l) (n - 1 - 1) P (Exit.then K (fun _ _ _ => False)) { tmps := (ps.zip (encs x)).foldl (fun t (p, v) => t.setIfInBounds p v) a.tmps, defers := [] } W) ∧
      (∀ (l : Nat) (pre : List α) (W : World), I pre W → Ax x b W → Sp (pre ++ [x]) → pre.length < N → body.wpIn (Fence.wide.inRound l) (n - 1 - 1) P (ownPostG w.heap.size Kp I Ix (pre ++ [x]) W) a₁ W))
    (hrest : ∀ (D : Nat) (W : World), w.heap.size ≤ D → J W → W.heap[D]? = some (.deferred (some [])) → Q .normal { a with defers := { target := .collected D, args := #[] } :: a.defers } W) :
    (Code.rangeFunc g ps assign body).wpIn Fence.wide n P Q a w :=
  range_reads h1 hg eg hseq hKt hKb hps I Ix hI hIx h0 (fun x a' W => ∃ b, a' = (hround x b).choose ∧ Ax x b W)
    (fun x a' s X Y row hs hg hr => by obtain ⟨b, e, h⟩ := hs; exact ⟨b, e, hAx x b () X Y row h hg hr⟩)
    (fun l pre x W K hi hR hsp hlt hK => (hround x W.heap.size).choose_spec.1 l pre W K rfl hi hR hsp hlt fun W' q1 q2 q3 q4 => hK _ W' q1 q2 q3 ⟨_, rfl, q4⟩)
    (fun l pre x a' W hi hax hsp hlt => by obtain ⟨b, rfl, h⟩ := hax; exact (hround x b).choose_spec.2 l pre W hi h hsp hlt)
    (fun D ys W hD hS hi hK => hrest D W hD (hd ys W hS hi) hK) (fun D c pre W hD hS hi hK => (hs c pre W hS hi).2 _ (hrest D W hD (hs c pre W hS hi).1 hK))
end Go.Proofs.Ytpankfbdlakmcaa.Mem
