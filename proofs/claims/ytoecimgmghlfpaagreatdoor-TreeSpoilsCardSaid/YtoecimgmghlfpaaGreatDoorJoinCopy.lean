import Derived.Test.YtoecimgmghlfpaaGreatDoorJoinKnown
import Derived.Test.YtoecimgmghlfpaaGreatDoorMemRel2
import Derived.Laws.OwnMore

/-
  Layer 5 (tree): a row of nodes of one's own, whose Kids lie in blocks of a set S, none of them the row's own.
-/
namespace Go.Proofs.YtoecimgmghlfpaaGreatDoor.Tree
open Go.ChangeShapes Go.WideShapes Go.ChangeAt Go.RowKit Mem
set_option linter.unusedVariables false

def OwnS (w : World) (S : Nat → Prop) (v : Value) (L : List Nd) : Prop :=
  ∃ ps : List (Nd × Value), ps.map (·.1) = L ∧ w.ownsRow 0 24 4 v L.length (ps.flatMap ndC) ∧ ∀ p ∈ ps, Fs w S p.2 p.1.c
theorem OwnS.nil (w : World) (S : Nat → Prop) : OwnS w S (.slice none 0 0) [] := ⟨[], rfl, World.ownsRow_nil _ _ _ _, fun p hp => by cases hp⟩
theorem OwnS.slice {w : World} {S : Nat → Prop} {v : Value} {L : List Nd} (h : OwnS w S v L) : ∃ a c, v = .slice a L.length c ∧ L.length ≤ c ∧ c ≤ maxLen := by
  obtain ⟨ps, _, ho, _⟩ := h
  exact own_slice' ho
theorem OwnS.lt {w : World} {S : Nat → Prop} {v : Value} {L : List Nd} (h : OwnS w S v L) {g : Nat} (hg : v.ownBlock = some g) : g < w.heap.size := by
  obtain ⟨ps, _, ho, _⟩ := h
  exact (ho.lt g hg).2
theorem OwnS.grown {w w' : World} {S : Nat → Prop} {v : Value} {L : List Nd} {row : Option Nat} (h : OwnS w S v L) (hg : w.grownBy w' row) (hne : v.ownBlock = none ∨ v.ownBlock ≠ row) (hS : ∀ b, S b → b < w.heap.size ∧ some b ≠ row) : OwnS w' S v L := by
  obtain ⟨ps, e, ho, hf⟩ := h
  exact ⟨ps, e, ho.kept hg hne, fun p hp => (hf p hp).keep fun b hb => hg.block b (hS b hb).1 (hS b hb).2⟩
theorem OwnS.more {w : World} {S S' : Nat → Prop} {v : Value} {L : List Nd} (h : OwnS w S v L) (hS : ∀ b, S b → S' b) : OwnS w S' v L := by
  obtain ⟨ps, e, ho, hf⟩ := h
  exact ⟨ps, e, ho, fun p hp => (hf p hp).more hS⟩
theorem grown_below {w w' : World} (h : Below w.heap.size w w') (row : Option Nat) : w.grownBy w' row := ⟨h.os, h.tape, h.output, h.size, fun k hk _ => h.block k hk⟩
theorem below_grown {w w' : World} {B : Nat} {row : Option Nat} (h : w.grownBy w' row) (hB : B ≤ w.heap.size) (hr : ∀ k, row = some k → B ≤ k) : Below B w w' :=
  ⟨h.os, h.tape, h.output, h.size, fun k hk => h.block k (Nat.lt_of_lt_of_le hk hB) (fun e => by have := hr k e.symm; omega)⟩
theorem OwnS.later {w w' : World} {S : Nat → Prop} {v : Value} {L : List Nd} (h : OwnS w S v L) (hb : Below w.heap.size w w') (hS : ∀ b, S b → b < w.heap.size) : OwnS w' S v L := by
  cases hv : v.ownBlock with
  | none => exact h.grown (grown_below hb none) (.inl hv) (fun b hbS => ⟨hS b hbS, by simp⟩)
  | some g => exact h.grown (grown_below hb none) (.inr (by simp [hv])) (fun b hbS => ⟨hS b hbS, by simp⟩)
/-- The row as a row of trees. -/
theorem OwnS.fs {w : World} {S S' : Nat → Prop} {v : Value} {L : List Nd} (h : OwnS w S v L) (hS : ∀ b, S b → S' b) (hg : ∀ g, v.ownBlock = some g → S' g) : Fs w S' v (ofL L) := by
  obtain ⟨ps, h1, ho, hf⟩ := h
  rcases ho.2 with ⟨rfl, h0⟩ | ⟨g, cap, cur, rfl, hg0, hg2, q1, q2, q3, q4⟩
  · rw [List.eq_nil_of_length_eq_zero h0]
    exact ⟨none, 0, rfl, by omega⟩
  · have e : ofL L = ofL (ps.map (·.1)) := by rw [h1]
    rw [e]
    have hc := ho.cells (g := g) rfl
    have ad : ∀ j, (⟨g, 0, none⟩ : Addr).add j = ⟨g, j, none⟩ := fun j => by unfold Addr.add; split <;> simp_all
    refine fs_row g (hg g rfl) ps 0 L.length cap (by rw [← h1]; simp) q1 q2 (fun j u hu => ?_) (fun p hp => (hf p hp).more hS) _ (.inr rfl)
    have := hc j u hu
    rwa [ad, ← Nat.zero_add j] at this

/-- append of one node, that has just been laid, onto a row of one's own: the row's block alone may change, or a new one is laid. -/
theorem run_app_own (w : World) (ty : TypeId) (S : Nat → Prop) (v : Value) (L : List Nd) (b c : Nat) (nd : Nd) (s : Value)
    (hc : w.cell? ⟨b, 0, none⟩ = some (.int .i64 nd.k) ∧ w.cell? ⟨b, 1, none⟩ = some (.string nd.x) ∧ w.cell? ⟨b, 2, none⟩ = some (.string nd.y) ∧ w.cell? ⟨b, 3, none⟩ = some s) (h1 : OwnS w S v L) (h2 : Fs w S s nd.c)
    (hS : ∀ b, S b → b < w.heap.size ∧ some b ≠ v.ownBlock) (hlen : L.length ≤ 1000000) :
    ∃ v' w', (Builtin.append_ #[22, 22] ty #[v, .slice (some ⟨b, 0, none⟩) 1 c]).run Tryz.prog w = .ok v' w' ∧ OwnS w' S v' (L ++ [nd]) ∧ w.grownBy w' v.ownBlock ∧ (v'.ownBlock = v.ownBlock ∨ v'.ownBlock = some w.heap.size) := by
  obtain ⟨i0, hi0, hz0, hz1, hz2⟩ := info_parts node_info
  obtain ⟨ps, e1, ho, hf⟩ := h1
  obtain ⟨A2, C2, e2, _, _⟩ := h2.slice
  have hmul : (L.length + 1) * 64 ≤ 1000001 * 64 := Nat.mul_le_mul (by omega) (Nat.le_refl _)
  obtain ⟨v', w', hrun, r1, r2, _, r3⟩ := run_append_own_at (P := Tryz.prog) w 0 22 ty 24 i0 _ 4 64 Tryz.underlying22 hi0 hz0 hz1 hz2 rfl (by decide) v L.length _ ho ⟨b, 0, none⟩ 1 c (ndC (nd, s)) rfl (fun j u hj => by
    have ad : (⟨b, 0, none⟩ : Addr).add j = ⟨b, j, none⟩ := by unfold Addr.add; split <;> simp_all
    rw [ad]
    match j, hj with
    | 0, hj => simp [ndC] at hj; rw [← hj]; exact hc.1
    | 1, hj => simp [ndC] at hj; rw [← hj]; exact hc.2.1
    | 2, hj => simp [ndC] at hj; rw [← hj]; exact hc.2.2.1
    | 3, hj => simp [ndC] at hj; rw [← hj]; exact hc.2.2.2
    | j + 4, hj => simp [ndC] at hj) (by intro u hu; simp [ndC] at hu; rcases hu with rfl | rfl | rfl | rfl <;> first | rfl | (rw [e2]; rfl)) (by unfold maxLen; omega) (by omega) (Nat.zero_le _)
  refine ⟨v', w', hrun, ⟨ps ++ [(nd, s)], by rw [List.map_append, e1]; rfl, by rw [List.length_append, List.flatMap_append]; simpa using r1, fun p hp => ?_⟩, r2, r3⟩
  rcases List.mem_append.1 hp with hp | hp
  · exact (hf p hp).keep fun b hb => r2.block b (hS b hb).1 (hS b hb).2
  · simp only [List.mem_singleton] at hp
    subst hp
    exact h2.keep fun b hb => r2.block b (hS b hb).1 (hS b hb).2
theorem wp_app_own {o : Oper} {a : Act} {w : World} {K : Act → World → Prop} {Q : Exit → Act → World → Prop} (s x : Operand)
    (ho : o.op = .call { callee := .builtin .append, args := #[s, x], argTypes := #[22, 22] }) (S : Nat → Prop) (v : Value) (L : List Nd) (b c : Nat) (nd : Nd) (sv : Value) (hs : a.eval s = v) (hx : a.eval x = .slice (some ⟨b, 0, none⟩) 1 c)
    (hc : w.cell? ⟨b, 0, none⟩ = some (.int .i64 nd.k) ∧ w.cell? ⟨b, 1, none⟩ = some (.string nd.x) ∧ w.cell? ⟨b, 2, none⟩ = some (.string nd.y) ∧ w.cell? ⟨b, 3, none⟩ = some sv) (h1 : OwnS w S v L) (h2 : Fs w S sv nd.c)
    (hS : ∀ b, S b → b < w.heap.size ∧ some b ≠ v.ownBlock) (hlen : L.length ≤ 1000000)
    (hK : ∀ v' w', OwnS w' S v' (L ++ [nd]) → w.grownBy w' v.ownBlock → (v'.ownBlock = v.ownBlock ∨ v'.ownBlock = some w.heap.size) → K (a.put o.dst v') w') : Oper.wp Tryz.prog o a w K Q := by
  obtain ⟨v', w', hrun, r1, r2, r3⟩ := run_app_own w o.type S v L b c nd sv hc h1 h2 hS hlen
  unfold Oper.wp
  simp [execOp, ho, resolve, invoke, builtin, hs, hx, hrun, Result.andThen]
  exact hK v' w' r1 r2 r3
theorem wpList_app_own {ops : Array Oper} {rest : List Oper} {o : Oper} {a : Act} {w : World} {Q : Exit → Act → World → Prop} (hgd : o.guard = none) (s x : Operand)
    (ho : o.op = .call { callee := .builtin .append, args := #[s, x], argTypes := #[22, 22] }) (S : Nat → Prop) (v : Value) (L : List Nd) (b c : Nat) (nd : Nd) (sv : Value) (hs : a.eval s = v) (hx : a.eval x = .slice (some ⟨b, 0, none⟩) 1 c)
    (hc : w.cell? ⟨b, 0, none⟩ = some (.int .i64 nd.k) ∧ w.cell? ⟨b, 1, none⟩ = some (.string nd.x) ∧ w.cell? ⟨b, 2, none⟩ = some (.string nd.y) ∧ w.cell? ⟨b, 3, none⟩ = some sv) (h1 : OwnS w S v L) (h2 : Fs w S sv nd.c)
    (hS : ∀ b, S b → b < w.heap.size ∧ some b ≠ v.ownBlock) (hlen : L.length ≤ 1000000)
    (h : ∀ v' w', OwnS w' S v' (L ++ [nd]) → w.grownBy w' v.ownBlock → (v'.ownBlock = v.ownBlock ∨ v'.ownBlock = some w.heap.size) → wpList Tryz.prog ops Q rest (a.put o.dst v') w') : wpList Tryz.prog ops Q (o :: rest) a w := by
  refine wpList_plain hgd fun K hK => ?_
  exact wp_app_own s x ho S v L b c nd sv hs hx hc h1 h2 hS hlen fun v' w' r1 r2 r3 => hK _ _ (h v' w' r1 r2 r3)
end Go.Proofs.YtoecimgmghlfpaaGreatDoor.Tree

/-
  Words of no layer: a region that draws its order and holds two operations that turn the world (an append, and the store of what it gives), walked once for all orders, by phases.
-/
namespace Go.Proofs.YtoecimgmghlfpaaGreatDoor.Mem
set_option linter.unusedVariables false
variable {P : Program} {Q : Exit → Act → World → Prop}

/-- The operations of pre lie ahead of s1: each is waited for by s1, or by a later one of pre. -/
def preOK (l : List Oper) (s1 : Nat) (pre : List Nat) : Bool := pre.all fun i => i == s1 || pre.any fun j => decide (i < j) && waits l j i
theorem pre_not {l : List Oper} {s1 : Nat} {pre : List Nat} {listed : Array Bool} (h : preOK l s1 pre = true) (hno : ∀ j i, waits l j i = true → listed.getD i true = false → listed.getD j true = false) (hlen : ∀ j i, waits l j i = true → j < l.length) :
    ∀ (m i : Nat), l.length - i ≤ m → pre.contains i = true → listed.getD i true = false → listed.getD s1 true = false := by
  intro m
  induction m with
  | zero =>
    intro i hm hi h0
    have h1 := List.all_eq_true.1 h i (List.contains_iff_mem.1 hi)
    rw [Bool.or_eq_true] at h1
    rcases h1 with h1 | h1
    · rw [beq_iff_eq] at h1; subst h1; exact h0
    · obtain ⟨j, hj, hb⟩ := List.any_eq_true.1 h1
      rw [Bool.and_eq_true, decide_eq_true_eq] at hb
      have := hlen j i hb.2
      omega
  | succ m ih =>
    intro i hm hi h0
    have h1 := List.all_eq_true.1 h i (List.contains_iff_mem.1 hi)
    rw [Bool.or_eq_true] at h1
    rcases h1 with h1 | h1
    · rw [beq_iff_eq] at h1; subst h1; exact h0
    · obtain ⟨j, hj, hb⟩ := List.any_eq_true.1 h1
      rw [Bool.and_eq_true, decide_eq_true_eq] at hb
      have := hlen j i hb.2
      exact ih j (by omega) (List.contains_iff_mem.2 hj) (hno j i hb.2 h0)

def atA (A : List (Value → Prop)) (i : Nat) : Value → Prop := A.getD i fun _ => True
/-- What is asked of operation i: ahead of s1 the world is as S1 says, between s1 and s2 as S2 says of what s1 gave, behind s2 as S3 says. -/
def Step3 (P : Program) (l : List Oper) (t0 : Array Value) (Q : Exit → Act → World → Prop) (pre : List Nat) (s1 s2 : Nat) (U : World → World → Prop) (S1 : World → Prop) (S2 S3 : Value → World → Prop) (E : List (Cd U)) (A : List (Value → Prop)) (x : Nat → Value) (a : Act) (W : World) (i : Nat) (o : Oper) : Prop :=
  (∀ j, waits l j i = true → x j = asIs l t0 j) → (pre.contains i = true ∨ i = s1 → S1 W) → (i = s2 → S2 (x s1) W) → (∀ j, (o.after.any fun e => Region.binds .any e && e.on == j) = true → atA A j (x j)) →
  ((pre.contains i = true ∨ i = s1) → ∀ j, (o.after.any fun e => Region.binds .any e && e.on == j) = true → (atC E j).p (x j) W) →
  ∀ K : Act → World → Prop, Shut (∀ v W', (i ≠ s1 → i ≠ s2 → U W W' ∧ (atC E i).p v W') → (i = s1 → S2 v W') → (i = s2 → S3 (x s1) W') → atA A i v → K (a.put o.dst v) W') → wantOp P l Q o K a W
def Steps3 (P : Program) (l : List Oper) (t0 : Array Value) (Q : Exit → Act → World → Prop) (pre : List Nat) (s1 s2 : Nat) (U : World → World → Prop) (S1 : World → Prop) (S2 S3 : Value → World → Prop) (E : List (Cd U)) (A : List (Value → Prop)) (x : Nat → Value) (a : Act) (W : World) : Nat → List Oper → Prop
  | _, [] => True
  | i, o :: os => Step3 P l t0 Q pre s1 s2 U S1 S2 S3 E A x a W i o ∧ Steps3 P l t0 Q pre s1 s2 U S1 S2 S3 E A x a W (i + 1) os
theorem Steps3.get {l : List Oper} {t0 : Array Value} {pre : List Nat} {s1 s2 : Nat} {U : World → World → Prop} {S1 : World → Prop} {S2 S3 : Value → World → Prop} {E : List (Cd U)} {A : List (Value → Prop)} {x : Nat → Value} {a : Act} {W : World} : ∀ (os : List Oper) (k i : Nat) (o : Oper), Steps3 P l t0 Q pre s1 s2 U S1 S2 S3 E A x a W k os → os[i]? = some o → Step3 P l t0 Q pre s1 s2 U S1 S2 S3 E A x a W (k + i) o
  | [], _, _, _, _, h => by simp at h
  | p :: os, k, 0, o, hs, h => by
    simp only [List.getElem?_cons_zero, Option.some.injEq] at h
    subst h
    exact hs.1
  | p :: os, k, i + 1, o, hs, h => by
    have := Steps3.get os (k + 1) i o hs.2 (by simpa using h)
    rwa [show k + 1 + i = k + (i + 1) by omega] at this

theorem rel3_any {l : List Oper} {pre : List Nat} {s1 s2 : Nat} {U : World → World → Prop} {S1 : World → Prop} {S2 S3 : Value → World → Prop} {E : List (Cd U)} {A : List (Value → Prop)} {a0 : Act} (hn : (dsts l).Nodup) (he : edgesBack l = true) (hpre : preOK l s1 pre = true) (h12 : waits l s2 s1 = true) (hne : s1 ≠ s2) (hl2 : s2 < l.length)
    (hU1 : ∀ W W', U W W' → S1 W → S1 W') (hU2 : ∀ v W W', U W W' → S2 v W → S2 v W') (hU3 : ∀ v W W', U W W' → S3 v W → S3 v W')
    (hsteps : ∀ x W, ∀ a, a = (⟨fillA x 0 l a0.tmps, a0.defers⟩ : Act) → Steps3 P l a0.tmps Q pre s1 s2 U S1 S2 S3 E A x a W 0 l)
    (hdone : ∀ x W, S3 (x s1) W → (∀ i, i < l.length → atA A i (x i)) → ∀ a, a = (⟨fillA x 0 l a0.tmps, a0.defers⟩ : Act) → Q .normal a W) :
    ∀ (fuel : Nat) (listed : Array Bool) (x : Nat → Value) (a : Act) (W : World), unl listed l.length = fuel → a = ⟨fillA x 0 l a0.tmps, a0.defers⟩ → (∀ i, i < l.length → listed.getD i true = true → atA A i (x i)) →
      (listed.getD s1 true = false → S1 W ∧ ∀ i, i < l.length → listed.getD i true = true → (atC E i).p (x i) W) → (listed.getD s1 true = true → listed.getD s2 true = false → S2 (x s1) W) → (listed.getD s2 true = true → S3 (x s1) W) → (∀ j, j < l.length → listed.getD j true = true → ∀ i, waits l j i = true → listed.getD i true = true) → (l.length ≤ listed.size) → (∀ j, j < l.length → listed.getD j true = false → x j = asIs l a0.tmps j) →
      wpAny P .any l.toArray Q fuel listed a W := by
  have all : ∀ listed : Array Bool, Region.ready .any l.toArray listed = [] → ∀ i, i < l.length → listed.getD i true = true := by
    intro listed hr i
    induction i using Nat.strongRecOn with
    | _ i ih =>
      intro hi
      by_cases hl : listed.getD i true = true
      · exact hl
      · exfalso
        have hm : i ∈ Region.ready .any l.toArray listed := mem_ready.2 ⟨by simpa using hl, l[i], by simp [hi], fun e hm hb => by
          have h1 := List.all_eq_true.1 he i (List.mem_range.2 hi)
          simp only [List.getElem?_eq_getElem hi] at h1
          have h2 := Array.all_eq_true_iff_forall_mem.1 h1 e hm
          simp only [hb, Bool.not_true, Bool.false_or, decide_eq_true_eq] at h2
          have h3 := ih e.on h2 (by omega)
          rcases Nat.lt_or_ge e.on listed.size with h' | h'
          · simpa [h'] using h3
          · exfalso
            have h4 : listed.getD i true = true := by simp [Array.getElem?_eq_none (show listed.size ≤ i by omega)]
            exact hl h4⟩
        rw [hr] at hm
        cases hm
  intro fuel
  induction fuel with
  | zero =>
    intro listed x a W hf ha hA _ _ h3 _ _ _
    have hall := unl_none hf
    refine ⟨?_, hdone x W (h3 (hall s2 hl2)) (fun i hi => hA i hi (hall i hi)) a ha⟩
    cases hr : Region.ready .any l.toArray listed with
    | nil => rfl
    | cons i rs =>
      exfalso
      obtain ⟨h0, o, ho, _⟩ := mem_ready.1 (show i ∈ Region.ready .any l.toArray listed by rw [hr]; exact List.mem_cons_self ..)
      have hi : i < l.length := by
        have := (Array.getElem?_eq_some_iff.1 ho).1
        simpa using this
      rw [hall i hi] at h0
      cases h0
  | succ fuel ih =>
    intro listed x a W hf ha hA h1 h2 h3 hws hsz hin
    refine ⟨fun hr => hdone x W (h3 (all listed hr s2 hl2)) (fun i hi => hA i hi (all listed hr i hi)) a ha, fun i hi => ?_⟩
    obtain ⟨h0, o, ho, hdep⟩ := mem_ready.1 hi
    have ho' : l[i]? = some o := by simpa using ho
    have hil : i < l.length := (List.getElem?_eq_some_iff.1 ho').1
    have hdep' : ∀ j, (o.after.any fun e => Region.binds .any e && e.on == j) = true → listed.getD j true = true ∧ j < i := fun j hj => by
      rw [← Array.any_toList, List.any_eq_true] at hj
      obtain ⟨e, hm0, hb⟩ := hj
      have hm : e ∈ o.after := Array.mem_toList_iff.1 hm0
      simp only [Bool.and_eq_true, beq_iff_eq] at hb
      have h1 := hdep e hm hb.1
      rw [hb.2] at h1
      have hjl : j < listed.size := by
        rcases Nat.lt_or_ge j listed.size with h' | h'
        · exact h'
        · simp [Array.getElem?_eq_none h'] at h1
      have h2 := List.all_eq_true.1 he i (List.mem_range.2 hil)
      simp only [ho'] at h2
      have h3 := Array.all_eq_true_iff_forall_mem.1 h2 e hm
      simp only [hb.1, Bool.not_true, Bool.false_or, decide_eq_true_eq] at h3
      exact ⟨by simpa [hjl] using h1, by omega⟩
    have hlen : ∀ j q, waits l j q = true → j < l.length := fun j q hw => by
      unfold waits at hw
      rcases Nat.lt_or_ge j l.length with h' | h'
      · exact h'
      · rw [List.getElem?_eq_none h'] at hw; cases hw
    have hnot : ∀ j, waits l j i = true → listed.getD j true = false := fun j hw => by
      by_cases hl : listed.getD j true = true
      · exfalso
        rw [hws j (hlen j i hw) hl i hw] at h0
        cases h0
      · simpa using hl
    have hs1 : pre.contains i = true ∨ i = s1 → listed.getD s1 true = false := fun hw => by
      rcases hw with hw | hw
      · refine pre_not hpre (fun j q hq h0q => ?_) hlen _ i (Nat.le_refl _) hw h0
        by_cases hl : listed.getD j true = true
        · exfalso
          rw [hws j (hlen j q hq) hl q hq] at h0q
          cases h0q
        · simpa using hl
      · subst hw; exact h0
    have hst := Steps3.get l 0 i o (hsteps x W a ha) ho' (fun j hw => by
        rw [Nat.zero_add] at hw
        exact hin j (hlen j i hw) (hnot j hw)) (fun hw => by
        rw [Nat.zero_add] at hw
        exact (h1 (hs1 hw)).1) (fun hw => by
        rw [Nat.zero_add] at hw
        subst hw
        refine h2 ?_ h0
        unfold waits at h12
        rw [ho'] at h12
        exact (hdep' s1 (by simpa using h12)).1)
      (fun j hj => hA j (by have := (hdep' j hj).2; omega) (hdep' j hj).1)
      (fun hw j hj => by
        rw [Nat.zero_add] at hw
        exact (h1 (hs1 hw)).2 j (by have := (hdep' j hj).2; omega) (hdep' j hj).1)
      (fun a' W' => wpAny P .any l.toArray Q fuel (listed.setIfInBounds i true) a' W')
      (by
        intro v W' hord hi1 hi2 hv
        rw [Nat.zero_add] at hv hord hi1 hi2
        have hset : (listed.setIfInBounds i true).getD i true = true := by simp [show i < listed.size by omega]
        have xne : ∀ j, j ≠ i → updX x i v j = x j := fun j hj => by simp only [updX]; rw [if_neg hj]
        refine ih (listed.setIfInBounds i true) (updX x i v) _ W' (by have := unl_set h0 hil; omega) ?_ (fun j hj hl => ?_) (fun hl => ?_) (fun hl hl' => ?_) (fun hl => ?_) (fun q hql hl j hw => ?_) (by simpa using hsz) (fun j hjl hl => ?_)
        · rw [ha]
          cases hd : o.dst with
          | none =>
            simp only [Act.put]
            congr 1
            have key : ∀ (os : List Oper) (k m : Nat) (t : Array Value), os[m]? = some o → fillA (updX x (k + m) v) k os t = fillA x k os t := by
              intro os
              induction os with
              | nil => intro k m t h; rfl
              | cons p os ihs =>
                intro k m t h
                cases m with
                | zero =>
                  simp only [List.getElem?_cons_zero, Option.some.injEq] at h
                  subst h
                  simp only [fillA, hd]
                  exact fillA_congr os (k + 1) _ fun j hj => by simp only [updX]; rw [if_neg (by omega)]
                | succ m =>
                  simp only [fillA]
                  have e1 : updX x (k + (m + 1)) v k = x k := by simp only [updX]; rw [if_neg (by omega)]
                  rw [e1, show k + (m + 1) = k + 1 + m by omega]
                  exact ihs (k + 1) m _ (by simpa using h)
            have := key l 0 i a0.tmps ho'
            rw [Nat.zero_add] at this
            exact this.symm
          | some d =>
            simp only [Act.put]
            congr 1
            have := fillA_upd (x := x) (v := v) l 0 i o a0.tmps hn ho' hd
            rw [Nat.zero_add] at this
            exact this.symm
        · by_cases hji : j = i
          · subst hji
            simpa [updX] using hv
          · rw [xne j hji]
            rw [getD_set_ne true (Ne.symm hji)] at hl
            exact hA j hj hl
        · by_cases his : i = s1
          · subst his
            rw [hset] at hl
            cases hl
          · rw [getD_set_ne true his] at hl
            obtain ⟨g1, g2⟩ := h1 hl
            have his2 : i ≠ s2 := fun e => by
              subst e
              unfold waits at h12
              rw [ho'] at h12
              rw [(hdep' s1 (by simpa using h12)).1] at hl
              cases hl
            obtain ⟨hU, hE⟩ := hord his his2
            refine ⟨hU1 _ _ hU g1, fun j hj hl' => ?_⟩
            by_cases hji : j = i
            · subst hji
              simpa [updX] using hE
            · rw [xne j hji]
              rw [getD_set_ne true (Ne.symm hji)] at hl'
              exact (atC E j).mono _ _ _ hU (g2 j hj hl')
        · by_cases his : i = s1
          · subst his
            simpa [updX] using hi1 rfl
          · rw [getD_set_ne true his] at hl
            by_cases his2 : i = s2
            · subst his2
              rw [hset] at hl'
              cases hl'
            · rw [getD_set_ne true his2] at hl'
              rw [xne s1 (Ne.symm his)]
              exact hU2 _ _ _ (hord his his2).1 (h2 hl hl')
        · by_cases his2 : i = s2
          · subst his2
            rw [xne s1 hne]
            exact hi2 rfl
          · rw [getD_set_ne true his2] at hl
            by_cases his : i = s1
            · subst his
              rw [hws s2 hl2 hl i h12] at h0
              cases h0
            · rw [xne s1 (Ne.symm his)]
              exact hU3 _ _ _ (hord his his2).1 (h3 hl)
        · by_cases hji : j = i
          · subst hji
            simp [show j < listed.size by omega]
          · rw [getD_set_ne true (Ne.symm hji)]
            by_cases his : i = q
            · subst his
              unfold waits at hw
              rw [ho'] at hw
              exact (hdep' j (by simpa using hw)).1
            · rw [getD_set_ne true his] at hl
              exact hws q hql hl j hw
        · by_cases hji : j = i
          · subst hji
            exfalso
            simp [show j < listed.size by omega] at hl
          · have e1 : updX x i v j = x j := by simp only [updX]; rw [if_neg hji]
            rw [e1]
            rw [getD_set_ne true (Ne.symm hji)] at hl
            exact hin j hjl hl)
    unfold wantOp at hst
    unfold wpOp
    simp only [ho]
    split
    · rename_i hw
      rw [if_pos hw] at hst
      exact .inl hst
    · rename_i hw
      rw [if_neg hw] at hst
      exact hst

/-- A REGION THAT DRAWS ITS ORDER AND HOLDS AN APPEND (s1) AND THE STORE OF WHAT IT GIVES (s2). -/
theorem region_rel3 {id : Nat} {l : List Oper} {a0 : Act} {w : World} (pre : List Nat) (s1 s2 : Nat) (U : World → World → Prop) (S1 : World → Prop) (S2 S3 : Value → World → Prop) (E : List (Cd U)) (A : List (Value → Prop)) (hm : P.follows .mixedOrders = true) (hn : (dsts l).Nodup) (he : edgesBack l = true)
    (hpre : preOK l s1 pre = true) (h12 : waits l s2 s1 = true) (hne : s1 ≠ s2) (hl1 : s1 < l.length) (hl2 : s2 < l.length) (hS : S1 w.drew)
    (hU1 : ∀ W W', U W W' → S1 W → S1 W') (hU2 : ∀ v W W', U W W' → S2 v W → S2 v W') (hU3 : ∀ v W W', U W W' → S3 v W → S3 v W')
    (hsteps : ∀ x W, ∀ a, a = (⟨fillA x 0 l a0.tmps, a0.defers⟩ : Act) → Steps3 P l a0.tmps Q pre s1 s2 U S1 S2 S3 E A x a W 0 l)
    (hdone : ∀ x W, S3 (x s1) W → (∀ i, i < l.length → atA A i (x i)) → ∀ a, a = (⟨fillA x 0 l a0.tmps, a0.defers⟩ : Act) → Q .normal a W) :
    (Code.region id l.toArray true).wp P Q a0 w := by
  refine wp_region_any hm (rel3_any (a0 := a0) hn he hpre h12 hne hl2 hU1 hU2 hU3 hsteps hdone l.toArray.size (Array.replicate l.toArray.size false) (asIs l a0.tmps) a0 w.drew ?_ ?_ ?_ (fun _ => ⟨hS, ?_⟩) ?_ ?_ ?_ ?_ (fun _ _ _ => rfl))
  · simpa using unl_false l.length l.length (Nat.le_refl _)
  · rw [fillA_start]
  · intro i hi h
    exfalso
    simp [hi] at h
  · intro i hi h
    exfalso
    simp [hi] at h
  · intro h
    exfalso
    simp [hl1] at h
  · intro h
    exfalso
    simp [hl2] at h
  · intro j hsl h
    exfalso
    simp [hsl] at h
  · simp
end Go.Proofs.YtoecimgmghlfpaaGreatDoor.Mem

/-
  Layer 5 (tree): the document's Copy: the same tree, of new memory. Written by gen_treerefcopy.py.
-/
namespace Go.Proofs.YtoecimgmghlfpaaGreatDoor.Tree
open Go.ChangeShapes Go.WideShapes Go.ChangeAt Go.RowKit Mem
set_option linter.unusedVariables false

/-- The blocks from one on that are there. -/
def Rng (B : Nat) (W : World) : Nat → Prop := fun b => B ≤ b ∧ b < W.heap.size
theorem rng_later {B : Nat} {W W' : World} {v : Value} {f : F} (h : Fs W (Rng B W) v f) (hb : Below W.heap.size W W') : Fs W' (Rng B W') v f :=
  (h.keep fun b hb' => hb.block b hb'.2).more fun b hb' => ⟨hb'.1, Nat.lt_of_lt_of_le hb'.2 hb.size⟩
/-- The blocks that the Kids of a new row may lie in. -/
def CS (w W : World) (v : Value) : Nat → Prop := fun b => w.heap.size + 3 ≤ b ∧ b < W.heap.size ∧ some b ≠ v.ownBlock
/-- What holds at each round: vb: what the variable holds; v: the row. -/
structure CAt (w W : World) (k : Int) (x y : ByteArray) (A : Option Addr) (n C : Nat) (vb v : Value) (L : List Nd) : Prop where
  bel : Below w.heap.size w W
  b1 : Boxed W w.heap.size k x y (.slice A n C)
  b2 : Boxed W (w.heap.size + 1) 0 ⟨#[]⟩ ⟨#[]⟩ (.slice none 0 0)
  b3 : Boxed W (w.heap.size + 2) k x y vb
  o : OwnS W (CS w W v) v L
  d : ∀ g, v.ownBlock = some g → w.heap.size + 3 ≤ g
theorem set_grown (w : World) (g i : Nat) (v : Value) : w.grownBy (w.setCell ⟨g, i, none⟩ v) (some g) := by
  have h := (Below.refl 0 w).setCell (p := ⟨g, i, none⟩) (Nat.zero_le _) v
  refine ⟨h.os, h.tape, h.output, h.size, fun k _ hne => ?_⟩
  exact Below.heap_setCell _ _ _ _ (fun e => hne (by rw [e]))
section
variable {w W W' : World} {k : Int} {x y : ByteArray} {A : Option Addr} {n C : Nat} {vb v v' : Value} {L : List Nd} {nd : Nd}
theorem CAt.sS (h : CAt w W k x y A n C vb v L) : ∀ b, CS w W v b → b < W.heap.size ∧ some b ≠ v.ownBlock := fun b hb => ⟨hb.2.1, hb.2.2⟩
theorem CAt.later (h : CAt w W k x y A n C vb v L) (hb : Below W.heap.size W W') : CAt w W' k x y A n C vb v L :=
  ⟨h.bel.trans (hb.mono h.bel.size), h.b1.below hb h.b1.lt, h.b2.below hb h.b2.lt, h.b3.below hb h.b3.lt, (h.o.later hb fun b hb' => hb'.2.1).more fun b hb' => ⟨hb'.1, Nat.lt_of_lt_of_le hb'.2.1 hb.size, hb'.2.2⟩, h.d⟩
theorem CAt.app (h : CAt w W k x y A n C vb v L) (ho : OwnS W' (CS w W v) v' (L ++ [nd])) (hg : W.grownBy W' v.ownBlock) (hv : v'.ownBlock = v.ownBlock ∨ v'.ownBlock = some W.heap.size) : CAt w W' k x y A n C vb v' (L ++ [nd]) := by
  have q1 := h.b1.lt; have q2 := h.b2.lt; have q3 := h.b3.lt
  refine ⟨h.bel.trans (below_grown hg h.bel.size fun g e => Nat.le_trans (by omega) (h.d g e)), (hg.block _ q1 fun e => by have := h.d _ e.symm; omega).trans h.b1, (hg.block _ q2 fun e => by have := h.d _ e.symm; omega).trans h.b2, (hg.block _ q3 fun e => by have := h.d _ e.symm; omega).trans h.b3, ho.more fun b hb => ⟨hb.1, Nat.lt_of_lt_of_le hb.2.1 hg.size, fun e => ?_⟩, fun g e => ?_⟩
  · rcases hv with hv | hv
    · exact hb.2.2 (e.trans hv)
    · rw [hv] at e
      obtain rfl := Option.some.inj e
      exact Nat.lt_irrefl _ hb.2.1
  · rcases hv with hv | hv
    · exact h.d g (hv ▸ e)
    · rw [hv] at e
      obtain rfl := Option.some.inj e
      omega
theorem CAt.set (h : CAt w W k x y A n C vb v L) : CAt w (W.setCell ⟨w.heap.size + 2, 3, none⟩ v) k x y A n C v v L := by
  have hg := set_grown W (w.heap.size + 2) 3 v
  refine ⟨h.bel.setCell (p := ⟨w.heap.size + 2, 3, none⟩) (show w.heap.size ≤ w.heap.size + 2 by omega) _, (Below.heap_setCell _ _ _ _ (show w.heap.size ≠ w.heap.size + 2 by omega)).trans h.b1, (Below.heap_setCell _ _ _ _ (show w.heap.size + 1 ≠ w.heap.size + 2 by omega)).trans h.b2, ?_, (h.o.grown hg (.inr fun e => by have := h.d _ e; omega) fun b hb => ⟨hb.2.1, fun e => by have := Option.some.inj e; have := hb.1; omega⟩).more fun b hb => ⟨hb.1, Nat.lt_of_lt_of_le hb.2.1 hg.size, hb.2.2⟩, h.d⟩
  have := set_at h.b3 3 v
  unfold Boxed
  simpa using this
theorem rng_cs {wr W : World} (h : CAt w wr k x y A n C vb v L) (hb : Below wr.heap.size wr W) {b : Nat} (hb' : Rng wr.heap.size W b) : CS w W v b :=
  ⟨Nat.le_trans h.b3.lt hb'.1, hb'.2, fun e => by have := h.o.lt e.symm; have := hb'.1; omega⟩
end

/-- A tree of new memory: its row is the call's own, its Kids' blocks are new, and none of them is the row's. -/
def NewT (w W : World) (v : Value) (L : List Nd) : Prop := OwnS W (fun b => w.heap.size ≤ b ∧ b < W.heap.size ∧ some b ≠ v.ownBlock) v L ∧ ∀ g, v.ownBlock = some g → w.heap.size ≤ g
theorem NewT.fs {w W : World} {v : Value} {L : List Nd} (h : NewT w W v L) : Fs W (Rng w.heap.size W) v (ofL L) :=
  h.1.fs (fun b hb => ⟨hb.1, hb.2.1⟩) fun g e => ⟨h.2 g e, h.1.lt e⟩
def CopySpec (N : Nat) : Prop := ∀ (k : Int) (x y : ByteArray) (A : Option Addr) (n C : Nat) (c : F) (w : World), c.size ≤ N → c.size ≤ 100000 → Fs w (Lo w.heap.size) (.slice A n C) c →
  Calls Tryz.prog 26 #[.agg #[.int .i64 k, .string x, .string y, .slice A n C]] w fun e w' => Below w.heap.size w w' ∧ ∃ (Ar : Option Addr) (nr Cr : Nat), e = .returned (.agg #[.int .i64 k, .string x, .string y, .slice Ar nr Cr]) ∧ NewT w w' (.slice Ar nr Cr) (toL c)

theorem toL_drop_take {c : F} {i : Nat} {k : Int} {x y : ByteArray} {kc r : F} (h : c.drop i = .cons k x y kc r) : (toL c)[i]? = some ⟨k, x, y, kc⟩ := by
  induction i generalizing c with
  | zero => rw [show c = .cons k x y kc r from h]; rfl
  | succ i ih =>
    cases c with
    | nil => simp [F.drop] at h
    | cons k' x' y' c' r' => exact ih (c := r') h

set_option maxRecDepth 100000 in
set_option maxHeartbeats 16000000 in
theorem copy_step (N : Nat) (ih : ∀ M, M < N → CopySpec M) : CopySpec N := by
  intro k x y A n C c w hN hbig hf
  have HIH := Lib.hid ih
  obtain ⟨A', C', e, hnC, hCm⟩ := hf.slice
  injection e with q1 q2 q3
  subst q1; subst q2; subst q3
  have b1 := below3 w (.cells #[.int .i64 k, .string x, .string y, .slice A c.len C] 24) (.cells #[.int .i64 0, .string ⟨#[]⟩, .string ⟨#[]⟩, .slice none 0 0] 24) (.cells #[.int .i64 k, .string x, .string y, .slice none 0 0] 24)
  have HM : Hid (CAt w (((w.alloc (.cells #[.int .i64 k, .string x, .string y, .slice A c.len C] 24)).alloc (.cells #[.int .i64 0, .string ⟨#[]⟩, .string ⟨#[]⟩, .slice none 0 0] 24)).alloc (.cells #[.int .i64 k, .string x, .string y, .slice none 0 0] 24)) k x y A c.len C (.slice none 0 0) (.slice none 0 0) ((toL c).take 0)) := by
    refine ⟨b1, ?_, ?_, ?_, OwnS.nil _ _, fun g e => by cases e⟩
    · exact (Below.heap_alloc _ _ _ (by simp <;> omega)).trans ((Below.heap_alloc _ _ _ (by simp)).trans (heap_alloc_new _ _))
    · have e : w.heap.size + 1 = (w.alloc (.cells #[.int .i64 k, .string x, .string y, .slice A c.len C] 24)).heap.size := by simp
      rw [e]
      exact (Below.heap_alloc _ _ _ (by simp)).trans (heap_alloc_new _ _)
    · have e : w.heap.size + 2 = ((w.alloc (.cells #[.int .i64 k, .string x, .string y, .slice A c.len C] 24)).alloc (.cells #[.int .i64 0, .string ⟨#[]⟩, .string ⟨#[]⟩, .slice none 0 0] 24)).heap.size := by simp
      rw [e]
      exact heap_alloc_new _ _
  obtain ⟨n, hn⟩ : ∃ n, c.len = n := ⟨_, rfl⟩
  have HLN : Hid (n ≤ 100000) := by show n ≤ _; have := F.len_le_size c; omega
  rw [hn] at HM hf hnC ⊢
  have HF := Lib.hid hf
  have HN := Lib.hid hn
  have hCm' : C ≤ 9223372036854775807 := hCm
  clear ih hf b1 hn
  go_enter Tryz.func26, Tryz.ntmps26
  go_wp2
  go_loopw [4] (fun s4 wr => ∃ (i ln C0 : Nat) (A0 : Option Addr), i ≤ n ∧ s4 = .int .i64 (i : Int) ∧ Hid (CAt w wr k x y A n C (.slice A0 ln C0) (.slice A0 ln C0) ((toL c).take i))) (fun s4 _ => n - (intOf s4).toNat)
  case atStart => exact ⟨0, 0, 0, none, Nat.zero_le _, rfl, HM.out⟩
  case round =>
    clear HM
    obtain ⟨i, ln, C0, A0, hi, rfl, HM⟩ := hrel
    obtain ⟨p0, p1, p2, p3⟩ := HM.out.b1.cells
    by_cases hlt : i < n
    · have hlt' : (i : Int) < (n : Int) := by omega
      have hi0 : (0 : Int) ≤ (i : Int) := by omega
      obtain ⟨kk, kx, ky, kc, kr, hdr, hdr2⟩ := F.drop_cons (n := i) (f := c) (by rw [HN.out]; exact hlt)
      have hfw := HF.out.below HM.out.bel (Nat.le_refl _)
      obtain ⟨b0, off0, s0, rfl, hb0, _, hat⟩ := hfw.at_ hdr
      obtain ⟨Ak, Ck, rfl, hk1, hk2⟩ := hat.kids.slice
      have hnd := toL_drop_take hdr
      have hsz := size_drop hdr
      have HTK : Hid ((toL c).take (i + 1) = (toL c).take i ++ [⟨kk, kx, ky, kc⟩]) := by show _ = _; rw [List.take_add_one, hnd]; rfl
      have hlb : b0 < wr.heap.size := Nat.lt_of_lt_of_le hb0 HM.out.bel.size
      obtain ⟨kn, hkn⟩ : ∃ kn, kc.len = kn := ⟨_, rfl⟩
      rw [hkn] at hat hk1
      have HND : Hid (∀ W, Below wr.heap.size wr W → W.cell? ⟨b0, off0 + i * 4, none⟩ = some (.int .i64 kk) ∧ W.cell? ⟨b0, off0 + i * 4 + 1, none⟩ = some (.string kx) ∧ W.cell? ⟨b0, off0 + i * 4 + 2, none⟩ = some (.string ky) ∧ W.cell? ⟨b0, off0 + i * 4 + 3, none⟩ = some (.slice Ak kn Ck)) := fun W hW =>
        ⟨(hW.cell (p := ⟨b0, off0 + i * 4, none⟩) hlb).trans hat.c0, (hW.cell (p := ⟨b0, off0 + i * 4 + 1, none⟩) hlb).trans hat.c1, (hW.cell (p := ⟨b0, off0 + i * 4 + 2, none⟩) hlb).trans hat.c2, (hW.cell (p := ⟨b0, off0 + i * 4 + 3, none⟩) hlb).trans hat.c3⟩
      have hkl := F.len_le_size kc
      have HKF : Hid (∀ W, Below wr.heap.size wr W → Fs W (Lo W.heap.size) (.slice Ak kn Ck) kc) := fun W hW => (hat.kids.below hW HM.out.bel.size).up (Nat.le_trans HM.out.bel.size hW.size)
      have HC : Hid (∀ W, Below wr.heap.size wr W → Calls Tryz.prog 26 #[.agg #[.int .i64 kk, .string kx, .string ky, .slice Ak kn Ck]] W fun e w' => Below W.heap.size W w' ∧ ∃ (Ar : Option Addr) (nr Cr : Nat), e = .returned (.agg #[.int .i64 kk, .string kx, .string ky, .slice Ar nr Cr]) ∧ Fs w' (Rng W.heap.size w') (.slice Ar nr Cr) kc) := fun W hW =>
        (HIH.out kc.size (by omega) kk kx ky Ak kn Ck kc W (Nat.le_refl _) (by omega) ((HKF.out W hW))).mono fun e w' ⟨hb, Ar, nr, Cr, he, hnw⟩ => ⟨hb, Ar, nr, Cr, he, by have := hnw.fs; rwa [ofL_toL] at this⟩
      obtain ⟨L, hL⟩ : ∃ L, (toL c).take i = L := ⟨_, rfl⟩
      rw [hL] at HM HTK
      have HLL : Hid (L.length ≤ 1000000) := by show L.length ≤ _; rw [← hL, List.length_take, toL_len, HN.out]; have := HLN.out; omega
      clear hdr hdr2 hfw hat hnd hsz hL hkn hkl hk2
      go_wp2
      refine region_rel3 [0, 1, 2, 3, 4, 5, 6, 7, 8, 9] 9 11 (fun W W' => Below W.heap.size W W') (fun W => Below wr.heap.size wr W) (fun v' W => CAt w W k x y (some ⟨b0, off0, none⟩) n C (.slice A0 ln C0) v' (L ++ [⟨kk, kx, ky, kc⟩])) (fun v' W => CAt w W k x y (some ⟨b0, off0, none⟩) n C v' v' (L ++ [⟨kk, kx, ky, kc⟩])) [Cd.any, Cd.any, Cd.any, Cd.any, Cd.any, Cd.any, Cd.any, ⟨fun v W => ∃ (Ar : Option Addr) (nr Cr : Nat), v = .agg #[.int .i64 kk, .string kx, .string ky, .slice Ar nr Cr] ∧ Fs W (Rng wr.heap.size W) (.slice Ar nr Cr) kc, fun v W W' hU h => by obtain ⟨Ar, nr, Cr, e, hf⟩ := h; exact ⟨Ar, nr, Cr, e, rng_later hf hU⟩⟩, ⟨fun v W => ∃ (b : Nat) (Ar : Option Addr) (nr Cr : Nat), v = .slice (some ⟨b, 0, none⟩) 1 1 ∧ wr.heap.size ≤ b ∧ b < W.heap.size ∧ W.cell? ⟨b, 0, none⟩ = some (.int .i64 kk) ∧ W.cell? ⟨b, 1, none⟩ = some (.string kx) ∧ W.cell? ⟨b, 2, none⟩ = some (.string ky) ∧ W.cell? ⟨b, 3, none⟩ = some (.slice Ar nr Cr) ∧ Fs W (Rng wr.heap.size W) (.slice Ar nr Cr) kc, fun v W W' hU h => by obtain ⟨b, Ar, nr, Cr, e, h1, h2, c0, c1, c2, c3, hf⟩ := h; exact ⟨b, Ar, nr, Cr, e, h1, Nat.lt_of_lt_of_le h2 hU.size, (hU.cell (p := ⟨b, 0, none⟩) h2).trans c0, (hU.cell (p := ⟨b, 1, none⟩) h2).trans c1, (hU.cell (p := ⟨b, 2, none⟩) h2).trans c2, (hU.cell (p := ⟨b, 3, none⟩) h2).trans c3, rng_later hf hU⟩⟩, Cd.any, Cd.any, Cd.any] [(fun v => v = Value.pointer (some ⟨w.heap.size + 2, 3, none⟩)), (fun v => v = Value.slice A0 ln C0), (fun v => v = Value.pointer (some ⟨w.heap.size, 3, none⟩)), (fun v => v = Value.slice (some ⟨b0, off0, none⟩) n C), (fun v => v = Value.int .i64 (i : Int)), (fun v => v = Value.pointer (some ⟨b0, off0 + i * 4, none⟩)), (fun v => v = Value.agg #[.int .i64 kk, .string kx, .string ky, .slice Ak kn Ck]), (fun _ => True), (fun _ => True), (fun _ => True), (fun v => v = Value.pointer (some ⟨w.heap.size + 2, 3, none⟩)), (fun _ => True)] (by kernel_rfl) (by decide) (by kernel_rfl) (by kernel_rfl) (by kernel_rfl) (by decide) (by decide) (by decide) ((Below.refl _ _).drew) (fun _ _ hU hS => hS.trans (hU.mono hS.size)) (fun _ _ _ hU hS => hS.later hU) (fun _ _ _ hU hS => hS.later hU) ?steps ?behind
      case steps =>
        intro xv W a ha
        simp only [fillA] at ha
        simp only [List.setIfInBounds_toArray, List.set_cons_succ, List.set_cons_zero, Nat.zero_add, Nat.reduceAdd] at ha
        subst ha
        refine ⟨fun hI hS1 hS2 hd he K hK => ?s0, fun hI hS1 hS2 hd he K hK => ?s1, fun hI hS1 hS2 hd he K hK => ?s2, fun hI hS1 hS2 hd he K hK => ?s3, fun hI hS1 hS2 hd he K hK => ?s4, fun hI hS1 hS2 hd he K hK => ?s5, fun hI hS1 hS2 hd he K hK => ?s6, fun hI hS1 hS2 hd he K hK => ?s7, fun hI hS1 hS2 hd he K hK => ?s8, fun hI hS1 hS2 hd he K hK => ?s9, fun hI hS1 hS2 hd he K hK => ?s10, fun hI hS1 hS2 hd he K hK => ?s11, trivial⟩
        case s0 =>
          clear hd he hS1 hS2
          simp only [Act.put, List.setIfInBounds_toArray, List.set_cons_succ, List.set_cons_zero] at hK
          refine (if_pos (by rfl)).mpr ?_
          go_simp
          exact hK.out _ _ (fun _ _ => ⟨Below.refl _ _, trivial⟩) (fun e => absurd e (by decide)) (fun e => absurd e (by decide)) rfl
        case s1 =>
          have hx0 : xv 0 = Value.pointer (some ⟨w.heap.size + 2, 3, none⟩) := hd 0 (by kernel_rfl)
          have hSW := hS1 (.inl (by kernel_rfl))
          clear hd he hS1 hS2
          simp only [Act.put, List.setIfInBounds_toArray, List.set_cons_succ, List.set_cons_zero] at hK
          rw [hx0] at hK ⊢
          refine (if_pos (by rfl)).mpr ?_
          obtain ⟨hq0, hq1, hq2, hq3⟩ := (HM.out.later hSW).b3.cells
          go_simp
          exact hK.out _ _ (fun _ _ => ⟨Below.refl _ _, trivial⟩) (fun e => absurd e (by decide)) (fun e => absurd e (by decide)) rfl
        case s2 =>
          clear hd he hS1 hS2
          simp only [Act.put, List.setIfInBounds_toArray, List.set_cons_succ, List.set_cons_zero] at hK
          refine (if_pos (by rfl)).mpr ?_
          go_simp
          exact hK.out _ _ (fun _ _ => ⟨Below.refl _ _, trivial⟩) (fun e => absurd e (by decide)) (fun e => absurd e (by decide)) rfl
        case s3 =>
          have hx2 : xv 2 = Value.pointer (some ⟨w.heap.size, 3, none⟩) := hd 2 (by kernel_rfl)
          have hSW := hS1 (.inl (by kernel_rfl))
          clear hd he hS1 hS2
          simp only [Act.put, List.setIfInBounds_toArray, List.set_cons_succ, List.set_cons_zero] at hK
          rw [hx2] at hK ⊢
          refine (if_pos (by rfl)).mpr ?_
          obtain ⟨hq0, hq1, hq2, hq3⟩ := (HM.out.later hSW).b1.cells
          go_simp
          exact hK.out _ _ (fun _ _ => ⟨Below.refl _ _, trivial⟩) (fun e => absurd e (by decide)) (fun e => absurd e (by decide)) rfl
        case s4 =>
          clear hd he hS1 hS2
          simp only [Act.put, List.setIfInBounds_toArray, List.set_cons_succ, List.set_cons_zero] at hK
          refine (if_pos (by rfl)).mpr ?_
          go_simp
          exact hK.out _ _ (fun _ _ => ⟨Below.refl _ _, trivial⟩) (fun e => absurd e (by decide)) (fun e => absurd e (by decide)) rfl
        case s5 =>
          have hx3 : xv 3 = Value.slice (some ⟨b0, off0, none⟩) n C := hd 3 (by kernel_rfl)
          have hx4 : xv 4 = Value.int .i64 (i : Int) := hd 4 (by kernel_rfl)
          clear hd he hS1 hS2
          simp only [Act.put, List.setIfInBounds_toArray, List.set_cons_succ, List.set_cons_zero] at hK
          rw [hx3] at hK ⊢
          rw [hx4] at hK ⊢
          refine (if_pos (by rfl)).mpr ?_
          go_simp
          exact hK.out _ _ (fun _ _ => ⟨Below.refl _ _, trivial⟩) (fun e => absurd e (by decide)) (fun e => absurd e (by decide)) rfl
        case s6 =>
          have hx5 : xv 5 = Value.pointer (some ⟨b0, off0 + i * 4, none⟩) := hd 5 (by kernel_rfl)
          have hSW := hS1 (.inl (by kernel_rfl))
          clear hd he hS1 hS2
          simp only [Act.put, List.setIfInBounds_toArray, List.set_cons_succ, List.set_cons_zero] at hK
          rw [hx5] at hK ⊢
          refine (if_pos (by rfl)).mpr ?_
          obtain ⟨hq0, hq1, hq2, hq3⟩ := HND.out W hSW
          go_simp
          exact hK.out _ _ (fun _ _ => ⟨Below.refl _ _, trivial⟩) (fun e => absurd e (by decide)) (fun e => absurd e (by decide)) rfl
        case s7 =>
          have hx6 : xv 6 = Value.agg #[.int .i64 kk, .string kx, .string ky, .slice Ak kn Ck] := hd 6 (by kernel_rfl)
          have hSW := hS1 (.inl (by kernel_rfl))
          clear hd he hS1 hS2
          simp only [Act.put, List.setIfInBounds_toArray, List.set_cons_succ, List.set_cons_zero] at hK
          rw [hx6] at hK ⊢
          refine (if_pos (by rfl)).mpr ?_
          go_simp
          go_at_call 26
          refine (HC.out W hSW).mono ?_
          rintro e w' ⟨hb, Ar, nr, Cr, rfl, hf⟩
          exact hK.out _ _ (fun _ _ => ⟨hb, Ar, nr, Cr, rfl, hf.more fun b hb' => ⟨Nat.le_trans hSW.size hb'.1, hb'.2⟩⟩) (fun e => absurd e (by decide)) (fun e => absurd e (by decide)) trivial
        case s8 =>
          have he7 : ∃ (Ar : Option Addr) (nr Cr : Nat), xv 7 = .agg #[.int .i64 kk, .string kx, .string ky, .slice Ar nr Cr] ∧ Fs W (Rng wr.heap.size W) (.slice Ar nr Cr) kc := he (.inl (by kernel_rfl)) 7 (by kernel_rfl)
          have hSW := hS1 (.inl (by kernel_rfl))
          clear hd he hS1 hS2
          simp only [Act.put, List.setIfInBounds_toArray, List.set_cons_succ, List.set_cons_zero] at hK
          refine (if_pos (by rfl)).mpr ?_
          obtain ⟨Ar, nr, Cr, e7, hf⟩ := he7
          rw [e7] at hK ⊢
          go_simp
          have hb := below1 W (.cells #[.int .i64 kk, .string kx, .string ky, .slice Ar nr Cr] 24)
          have hbx := boxed_new W kk kx ky (.slice Ar nr Cr)
          obtain ⟨z0, z1, z2, z3⟩ := hbx.cells
          exact hK.out _ _ (fun _ _ => ⟨hb, W.heap.size, Ar, nr, Cr, rfl, hSW.size, by simp, z0, z1, z2, z3, rng_later hf hb⟩) (fun e => absurd e (by decide)) (fun e => absurd e (by decide)) trivial
        case s9 =>
          have hx1 : xv 1 = Value.slice A0 ln C0 := hd 1 (by kernel_rfl)
          have he8 : ∃ (b : Nat) (Ar : Option Addr) (nr Cr : Nat), xv 8 = .slice (some ⟨b, 0, none⟩) 1 1 ∧ wr.heap.size ≤ b ∧ b < W.heap.size ∧ W.cell? ⟨b, 0, none⟩ = some (.int .i64 kk) ∧ W.cell? ⟨b, 1, none⟩ = some (.string kx) ∧ W.cell? ⟨b, 2, none⟩ = some (.string ky) ∧ W.cell? ⟨b, 3, none⟩ = some (.slice Ar nr Cr) ∧ Fs W (Rng wr.heap.size W) (.slice Ar nr Cr) kc := he (.inr rfl) 8 (by kernel_rfl)
          have hSW := hS1 (.inr rfl)
          clear hd he hS1 hS2
          simp only [Act.put, List.setIfInBounds_toArray, List.set_cons_succ, List.set_cons_zero] at hK
          rw [hx1] at hK ⊢
          refine (if_pos (by rfl)).mpr ?_
          obtain ⟨b, Ar, nr, Cr, e8, h1, h2, c0, c1, c2, c3, hf⟩ := he8
          have HMW := HM.out.later hSW
          rw [e8] at hK ⊢
          refine wp_app_own _ _ rfl (CS w W (.slice A0 ln C0)) (.slice A0 ln C0) L b 1 ⟨kk, kx, ky, kc⟩ (.slice Ar nr Cr) rfl rfl ⟨c0, c1, c2, c3⟩ HMW.o (hf.more fun b' hb' => rng_cs HM.out hSW hb') HMW.sS HLL.out ?_
          intro v' w' r1 r2 r3
          exact hK.out _ _ (fun e => absurd rfl e) (fun _ => HMW.app r1 r2 r3) (fun e => absurd e (by decide)) trivial
        case s10 =>
          clear hd he hS1 hS2
          simp only [Act.put, List.setIfInBounds_toArray, List.set_cons_succ, List.set_cons_zero] at hK
          refine (if_pos (by rfl)).mpr ?_
          go_simp
          exact hK.out _ _ (fun _ _ => ⟨Below.refl _ _, trivial⟩) (fun e => absurd e (by decide)) (fun e => absurd e (by decide)) rfl
        case s11 =>
          have hx10 : xv 10 = Value.pointer (some ⟨w.heap.size + 2, 3, none⟩) := hd 10 (by kernel_rfl)
          have hS2W := hS2 rfl
          clear hd he hS1 hS2
          simp only [Act.put] at hK
          rw [hx10] at hK ⊢
          refine (if_pos (by rfl)).mpr ?_
          obtain ⟨a9, c9, e9, _, _⟩ := hS2W.o.slice
          obtain ⟨m9, hm9⟩ : ∃ m, (L ++ [(⟨kk, kx, ky, kc⟩ : Nd)]).length = m := ⟨_, rfl⟩
          rw [hm9] at e9
          clear hm9
          obtain ⟨y0, y1, y2, y3⟩ := frz hS2W.b3
          obtain ⟨x0, x1, x2, x3⟩ := hS2W.b3.cells
          have hset := hS2W.set
          rw [e9] at hK hset ⊢
          go_simp
          exact hK.out undef _ (fun _ e => absurd rfl e) (fun e => absurd e (by decide)) (fun _ => hset) trivial
      case behind =>
        intro xv W hW hx a ha
        simp only [fillA] at ha
        simp only [List.setIfInBounds_toArray, List.set_cons_succ, List.set_cons_zero, Nat.zero_add, Nat.reduceAdd] at ha
        subst ha
        have HX : Hid (∃ (A1 : Option Addr) (n1 C1 : Nat), CAt w W k x y (some ⟨b0, off0, none⟩) n C (.slice A1 n1 C1) (.slice A1 n1 C1) ((toL c).take (i + 1))) := by
          obtain ⟨a9, c9, e9, _, _⟩ := hW.o.slice
          rw [e9] at hW
          exact ⟨a9, _, c9, by rw [HTK.out]; exact hW⟩
        obtain ⟨A1, n1, C1, hM2⟩ := HX.out
        have HM2 := Lib.hid hM2
        clear hx hW hM2 HX
        go_wp2
        go_roundw
        case rel => exact ⟨i + 1, n1, C1, A1, by omega, by go_num, HM2.out⟩
        case measure => simp [intOf]; omega
    · have hlt' : ¬ (i : Int) < (n : Int) := by omega
      obtain rfl : i = n := by omega
      obtain ⟨z0, z1, z2, z3⟩ := HM.out.b3.cells
      obtain ⟨y0, y1, y2, y3⟩ := frz HM.out.b2
      obtain ⟨x0, x1, x2, x3⟩ := HM.out.b2.cells
      have HT : Hid ((toL c).take i = toL c) := by show _ = _; rw [List.take_of_length_le]; rw [toL_len, HN.out]; exact Nat.le_refl _
      clear hlt
      go_wp2
      refine bodyPost_ret (results_cell_row rfl _ _ (w.heap.size + 1) 24 _ (0, 0) _ rfl (box_new HM.out.b2) Tryz.underlying24 rfl hi_node) rfl ?_
      have hbb := box_below wr (w.heap.size + 1) (.int .i64 k) (.string x) (.string y) (.slice A0 ln C0)
      have hoth : ∀ b, b ≠ w.heap.size + 1 → (((((wr.setCell ⟨w.heap.size + 1, 0, none⟩ (.int .i64 k)).setCell ⟨w.heap.size + 1, 1, none⟩ (.string x)).setCell ⟨w.heap.size + 1, 2, none⟩ (.string y)).setCell ⟨w.heap.size + 1, 3, none⟩ (.slice A0 ln C0))).heap[b]? = wr.heap[b]? := fun b hb => set4_other _ _ _ _ _ _ _ hb
      have hgr : wr.grownBy (((((wr.setCell ⟨w.heap.size + 1, 0, none⟩ (.int .i64 k)).setCell ⟨w.heap.size + 1, 1, none⟩ (.string x)).setCell ⟨w.heap.size + 1, 2, none⟩ (.string y)).setCell ⟨w.heap.size + 1, 3, none⟩ (.slice A0 ln C0))) (some (w.heap.size + 1)) := ⟨hbb.os, hbb.tape, hbb.output, hbb.size, fun b _ hne => hoth b fun e => hne (by rw [e])⟩
      have hM := HM.out
      rw [HT.out] at hM
      refine ⟨hM.bel.trans (hbb.mono (Nat.le_succ _)), A0, ln, C0, rfl, ?_, fun g e => Nat.le_trans (by omega) (hM.d g e)⟩
      exact (hM.o.grown hgr (.inr fun e => by have := hM.d _ e; omega) fun b hb => ⟨hb.2.1, fun e => by have := Option.some.inj e; have := hb.1; omega⟩).more fun b hb => ⟨Nat.le_trans (by omega) hb.1, Nat.lt_of_lt_of_le hb.2.1 hbb.size, hb.2.2⟩
theorem copy_any (N : Nat) : CopySpec N := by
  induction N using Nat.strongRecOn with
  | _ N ih => exact copy_step N ih
end Go.Proofs.YtoecimgmghlfpaaGreatDoor.Tree

/-
  Layer 5 (tree): one node of a row of one's own, read and written anew.
-/
namespace Go.Proofs.YtoecimgmghlfpaaGreatDoor.Tree
open Go.ChangeShapes Go.WideShapes Go.ChangeAt Go.RowKit Mem
set_option linter.unusedVariables false

theorem flat_set (p' : Nd × Value) : ∀ (ps : List (Nd × Value)) (i : Nat), i < ps.length →
    ((((ps.flatMap ndC).set (i * 4) (.int .i64 p'.1.k)).set (i * 4 + 1) (.string p'.1.x)).set (i * 4 + 2) (.string p'.1.y)).set (i * 4 + 3) p'.2 = (ps.set i p').flatMap ndC
  | [], i, h => by simp at h
  | p :: ps, 0, h => by simp [ndC]
  | p :: ps, i + 1, h => by
    have ih := flat_set p' ps i (by simpa using h)
    have e : ∀ (j : Nat) (l : List Value) (u : Value), (ndC p ++ l).set (4 + j) u = ndC p ++ l.set j u := fun j l u => by
      rw [List.set_append, if_neg (by rw [ndC_len]; omega), ndC_len, show 4 + j - 4 = j by omega]
    rw [List.flatMap_cons, List.set_cons_succ, List.flatMap_cons, ← ih, show (i + 1) * 4 = 4 + i * 4 by omega, show 4 + i * 4 + 1 = 4 + (i * 4 + 1) by omega, show 4 + i * 4 + 2 = 4 + (i * 4 + 2) by omega, show 4 + i * 4 + 3 = 4 + (i * 4 + 3) by omega, e, e, e, e]

/-- One node of such a row. -/
theorem OwnS.at_ {w : World} {S : Nat → Prop} {A : Option Addr} {n c : Nat} {L : List Nd} (h : OwnS w S (.slice A n c) L) {i : Nat} {nd : Nd} (hi : L[i]? = some nd) :
    ∃ g s, A = some ⟨g, 0, none⟩ ∧ g < w.heap.size ∧ w.cell? ⟨g, i * 4, none⟩ = some (.int .i64 nd.k) ∧ w.cell? ⟨g, i * 4 + 1, none⟩ = some (.string nd.x) ∧ w.cell? ⟨g, i * 4 + 2, none⟩ = some (.string nd.y) ∧ w.cell? ⟨g, i * 4 + 3, none⟩ = some s ∧ Fs w S s nd.c := by
  obtain ⟨ps, h1, ho, hf⟩ := h
  have hlen : ps.length = L.length := by rw [← h1]; simp
  have hil : i < L.length := (List.getElem?_eq_some_iff.1 hi).1
  obtain ⟨p, hp⟩ : ∃ p, ps[i]? = some p := ⟨_, List.getElem?_eq_getElem (by omega)⟩
  have hpn : p.1 = nd := by
    have : (ps.map (·.1))[i]? = some p.1 := by rw [List.getElem?_map, hp]; rfl
    rw [h1, hi] at this
    exact (Option.some.inj this).symm
  rcases ho.2 with ⟨_, h0⟩ | ⟨g, cap, cur, hv, hg0, hg, q1, q2, q3, q4⟩
  · omega
  · injection hv with e1 e2 e3
    have hc := ho.cells (g := g) (by rw [e1]; rfl)
    have ad : ∀ j, (⟨g, 0, none⟩ : Addr).add j = ⟨g, j, none⟩ := fun j => by unfold Addr.add; split <;> simp_all
    have at_ : ∀ j u, (ndC p)[j]? = some u → w.cell? ⟨g, i * 4 + j, none⟩ = some u := fun j u hu => by
      have := hc (i * 4 + j) u (MemT.flat_at (sz := 4) ndC_len ps i p hp j u hu)
      rwa [ad] at this
    refine ⟨g, p.2, e1, lt_of_block hg, ?_, ?_, ?_, ?_, ?_⟩
    · have := at_ 0 _ rfl; rwa [hpn] at this
    · have := at_ 1 _ rfl; rwa [hpn] at this
    · have := at_ 2 _ rfl; rwa [hpn] at this
    · exact at_ 3 _ rfl
    · have := hf p (List.mem_of_getElem? hp); rwa [hpn] at this

/-- The world with one node of block g written anew. -/
def put4 (w : World) (g i : Nat) (k : Int) (x y : ByteArray) (s : Value) : World := (((w.setCell ⟨g, i * 4, none⟩ (.int .i64 k)).setCell ⟨g, i * 4 + 1, none⟩ (.string x)).setCell ⟨g, i * 4 + 2, none⟩ (.string y)).setCell ⟨g, i * 4 + 3, none⟩ s
theorem put4_grown (w : World) (g i : Nat) (k : Int) (x y : ByteArray) (s : Value) : w.grownBy (put4 w g i k x y s) (some g) := by
  have hb : Below 0 w (put4 w g i k x y s) := by
    unfold put4
    exact ((((Below.refl 0 w).setCell (Nat.zero_le _) _).setCell (Nat.zero_le _) _).setCell (Nat.zero_le _) _).setCell (Nat.zero_le _) _
  refine ⟨hb.os, hb.tape, hb.output, hb.size, fun b _ hne => ?_⟩
  have hne' : b ≠ g := fun e => hne (by rw [e])
  unfold put4
  rw [Below.heap_setCell _ _ _ _ hne', Below.heap_setCell _ _ _ _ hne', Below.heap_setCell _ _ _ _ hne', Below.heap_setCell _ _ _ _ hne']
theorem OwnS.put {w : World} {S : Nat → Prop} {g n c : Nat} {L : List Nd} (h : OwnS w S (.slice (some ⟨g, 0, none⟩) n c) L) (i : Nat) (hi : i < L.length) (k : Int) (x y : ByteArray) (s : Value) (c' : F) (hf : Fs w S s c') (hS : ∀ b, S b → b < w.heap.size ∧ b ≠ g) :
    OwnS (put4 w g i k x y s) S (.slice (some ⟨g, 0, none⟩) n c) (L.set i ⟨k, x, y, c'⟩) := by
  obtain ⟨ps, e1, ho, hfs⟩ := h
  obtain ⟨a', c'', e, _, _⟩ := own_slice' ho
  injection e with _ e2 _
  subst e2
  have hlen : ps.length = L.length := by rw [← e1]; simp
  have r1 := (ho.stored (i * 4) (.int .i64 k)).1
  have r2 := (r1.stored (i * 4 + 1) (.string x)).1
  have r3 := (r2.stored (i * 4 + 2) (.string y)).1
  have r4 := (r3.stored (i * 4 + 3) s).1
  rw [flat_set (⟨k, x, y, c'⟩, s) ps i (by omega)] at r4
  have hg := put4_grown w g i k x y s
  have keep : ∀ {v : Value} {f : F}, Fs w S v f → Fs (put4 w g i k x y s) S v f := fun hv => hv.keep fun b hb => hg.block b (hS b hb).1 (fun e => (hS b hb).2 (Option.some.inj e))
  refine ⟨ps.set i (⟨k, x, y, c'⟩, s), by rw [List.map_set, e1], by rw [List.length_set]; exact r4, fun p hp => ?_⟩
  rcases List.mem_or_eq_of_mem_set hp with hp | rfl
  · exact keep (hfs p hp)
  · exact keep hf
end Go.Proofs.YtoecimgmghlfpaaGreatDoor.Tree

/-
  Words of no layer: a region that draws its order and whose operation s (a store) waits for all others: they are told by conditions, two of them (s1, s2) by one on both, and behind the store the region is done.
-/
namespace Go.Proofs.YtoecimgmghlfpaaGreatDoor.Mem
set_option linter.unusedVariables false
variable {P : Program} {Q : Exit → Act → World → Prop}

/-- Operation s waits for all others. -/
def lastOK (l : List Oper) (s : Nat) : Bool := (List.range l.length).all fun j => j == s || waits l s j
/-- What operations i, i+1, .. must do: s leads to what F says of the others' values, and of the world. -/
def StepsL (P : Program) (l : List Oper) (t0 : Array Value) (Q : Exit → Act → World → Prop) (s s1 s2 : Nat) (X : Option Value → Option Value → World → Prop) (F : (Nat → Value) → World → Prop) {T : World → World → Prop} (Φ : List (Cd T)) (x : Nat → Value) (a : Act) (W : World) : Nat → List Oper → Prop
  | _, [] => True
  | i, o :: os => ((∀ j, waits l j i = true → x j = asIs l t0 j) → (∀ j, (o.after.any fun e => Region.binds .any e && e.on == j) = true → (atC Φ j).p (x j) W) → ∀ p q, X p q W → (i = s1 → p = none) → (i = s2 → q = none) → (i = s → p = some (x s1) ∧ q = some (x s2)) → ∀ K : Act → World → Prop, Shut (∀ v W', (i ≠ s → T W W' ∧ (atC Φ i).p v W') → (i = s1 → X (some v) q W') → (i = s2 → X p (some v) W') → (i = s → F x W') → K (a.put o.dst v) W') → wantOp P l Q o K a W) ∧ StepsL P l t0 Q s s1 s2 X F Φ x a W (i + 1) os
theorem StepsL.get {l : List Oper} {t0 : Array Value} {s s1 s2 : Nat} {X : Option Value → Option Value → World → Prop} {F : (Nat → Value) → World → Prop} {T : World → World → Prop} {Φ : List (Cd T)} {x : Nat → Value} {a : Act} {W : World} : ∀ (os : List Oper) (k i : Nat) (o : Oper), StepsL P l t0 Q s s1 s2 X F Φ x a W k os → os[i]? = some o →
    ((∀ j, waits l j (k + i) = true → x j = asIs l t0 j) → (∀ j, (o.after.any fun e => Region.binds .any e && e.on == j) = true → (atC Φ j).p (x j) W) → ∀ p q, X p q W → (k + i = s1 → p = none) → (k + i = s2 → q = none) → (k + i = s → p = some (x s1) ∧ q = some (x s2)) → ∀ K : Act → World → Prop, Shut (∀ v W', (k + i ≠ s → T W W' ∧ (atC Φ (k + i)).p v W') → (k + i = s1 → X (some v) q W') → (k + i = s2 → X p (some v) W') → (k + i = s → F x W') → K (a.put o.dst v) W') → wantOp P l Q o K a W)
  | [], _, _, _, _, h => by simp at h
  | p :: os, k, 0, o, hs, h => by
    simp only [List.getElem?_cons_zero, Option.some.injEq] at h
    subst h
    exact hs.1
  | p :: os, k, i + 1, o, hs, h => by
    have := StepsL.get os (k + 1) i o hs.2 (by simpa using h)
    rwa [show k + 1 + i = k + (i + 1) by omega] at this

theorem last_any {l : List Oper} {s s1 s2 : Nat} {X : Option Value → Option Value → World → Prop} {F : (Nat → Value) → World → Prop} {T : World → World → Prop} {Φ : List (Cd T)} {a0 : Act} {w1 : World} (hn : (dsts l).Nodup) (he : edgesBack l = true) (hla : lastOK l s = true) (hsl : s < l.length) (htr : ∀ W1 W2 W3, T W1 W2 → T W2 W3 → T W1 W3)
    (hF : ∀ x v W, F x W → F (updX x s v) W) (hXT : ∀ p q W W', T W W' → X p q W → X p q W') (hne1 : s1 ≠ s2) (hne2 : s1 ≠ s) (hne3 : s2 ≠ s) (hl1 : s1 < l.length) (hl2 : s2 < l.length)
    (hsteps : ∀ x W, T w1 W → ∀ a, a = (⟨fillA x 0 l a0.tmps, a0.defers⟩ : Act) → StepsL P l a0.tmps Q s s1 s2 X F Φ x a W 0 l)
    (hdone : ∀ x W, F x W → ∀ a, a = (⟨fillA x 0 l a0.tmps, a0.defers⟩ : Act) → Q .normal a W) :
    ∀ (fuel : Nat) (listed : Array Bool) (x : Nat → Value) (a : Act) (W : World), unl listed l.length = fuel → a = ⟨fillA x 0 l a0.tmps, a0.defers⟩ → T w1 W → (∀ i, i < l.length → listed.getD i true = true → (atC Φ i).p (x i) W) →
      X (if listed.getD s1 true = true then some (x s1) else none) (if listed.getD s2 true = true then some (x s2) else none) W → listed.getD s true = false → (∀ j, j < l.length → listed.getD j true = true → ∀ i, waits l j i = true → listed.getD i true = true) → (l.length ≤ listed.size) → (∀ j, j < l.length → listed.getD j true = false → x j = asIs l a0.tmps j) →
      wpAny P .any l.toArray Q fuel listed a W := by
  have all : ∀ listed : Array Bool, Region.ready .any l.toArray listed = [] → ∀ i, i < l.length → listed.getD i true = true := by
    intro listed hr i
    induction i using Nat.strongRecOn with
    | _ i ih =>
      intro hi
      by_cases hl : listed.getD i true = true
      · exact hl
      · exfalso
        have hm : i ∈ Region.ready .any l.toArray listed := mem_ready.2 ⟨by simpa using hl, l[i], by simp [hi], fun e hm hb => by
          have h1 := List.all_eq_true.1 he i (List.mem_range.2 hi)
          simp only [List.getElem?_eq_getElem hi] at h1
          have h2 := Array.all_eq_true_iff_forall_mem.1 h1 e hm
          simp only [hb, Bool.not_true, Bool.false_or, decide_eq_true_eq] at h2
          have h3 := ih e.on h2 (by omega)
          rcases Nat.lt_or_ge e.on listed.size with h' | h'
          · simpa [h'] using h3
          · exfalso
            have h4 : listed.getD i true = true := by simp [Array.getElem?_eq_none (show listed.size ≤ i by omega)]
            exact hl h4⟩
        rw [hr] at hm
        cases hm
  intro fuel
  induction fuel with
  | zero =>
    intro listed x a W hf ha hT hx _ hs0 _ _ _
    have hall := unl_none hf
    rw [hall s hsl] at hs0
    cases hs0
  | succ fuel ih =>
    intro listed x a W hf ha hT hx hX hs0 hws hsz hin
    refine ⟨fun hr => (by rw [all listed hr s hsl] at hs0; cases hs0), fun i hi => ?_⟩
    obtain ⟨h0, o, ho, hdep⟩ := mem_ready.1 hi
    have ho' : l[i]? = some o := by simpa using ho
    have hil : i < l.length := (List.getElem?_eq_some_iff.1 ho').1
    have hdep' : ∀ j, (o.after.any fun e => Region.binds .any e && e.on == j) = true → listed.getD j true = true ∧ j < i := fun j hj => by
      rw [← Array.any_toList, List.any_eq_true] at hj
      obtain ⟨e, hm0, hb⟩ := hj
      have hm : e ∈ o.after := Array.mem_toList_iff.1 hm0
      simp only [Bool.and_eq_true, beq_iff_eq] at hb
      have h1 := hdep e hm hb.1
      rw [hb.2] at h1
      have hjl : j < listed.size := by
        rcases Nat.lt_or_ge j listed.size with h' | h'
        · exact h'
        · simp [Array.getElem?_eq_none h'] at h1
      have h2 := List.all_eq_true.1 he i (List.mem_range.2 hil)
      simp only [ho'] at h2
      have h3 := Array.all_eq_true_iff_forall_mem.1 h2 e hm
      simp only [hb.1, Bool.not_true, Bool.false_or, decide_eq_true_eq] at h3
      exact ⟨by simpa [hjl] using h1, by omega⟩
    have hput : ∀ v, a.put o.dst v = (⟨fillA (updX x i v) 0 l a0.tmps, a0.defers⟩ : Act) := by
      intro v
      rw [ha]
      cases hd : o.dst with
      | none =>
        simp only [Act.put]
        congr 1
        have key : ∀ (os : List Oper) (k m : Nat) (t : Array Value), os[m]? = some o → fillA (updX x (k + m) v) k os t = fillA x k os t := by
          intro os
          induction os with
          | nil => intro k m t h; rfl
          | cons p os ihs =>
            intro k m t h
            cases m with
            | zero =>
              simp only [List.getElem?_cons_zero, Option.some.injEq] at h
              subst h
              simp only [fillA, hd]
              exact fillA_congr os (k + 1) _ fun j hj => by simp only [updX]; rw [if_neg (by omega)]
            | succ m =>
              simp only [fillA]
              have e1 : updX x (k + (m + 1)) v k = x k := by simp only [updX]; rw [if_neg (by omega)]
              rw [e1, show k + (m + 1) = k + 1 + m by omega]
              exact ihs (k + 1) m _ (by simpa using h)
        have := key l 0 i a0.tmps ho'
        rw [Nat.zero_add] at this
        exact this.symm
      | some d =>
        simp only [Act.put]
        congr 1
        have := fillA_upd (x := x) (v := v) l 0 i o a0.tmps hn ho' hd
        rw [Nat.zero_add] at this
        exact this.symm
    have hst := StepsL.get l 0 i o (hsteps x W hT a ha) ho' (fun j hw => by
        rw [Nat.zero_add] at hw
        have hjl : j < l.length := by
          unfold waits at hw
          rcases Nat.lt_or_ge j l.length with h' | h'
          · exact h'
          · rw [List.getElem?_eq_none h'] at hw; cases hw
        refine hin j hjl ?_
        by_cases hl : listed.getD j true = true
        · exfalso
          rw [hws j hjl hl i hw] at h0
          cases h0
        · simpa using hl)
      (fun j hj => hx j (by have := (hdep' j hj).2; omega) (hdep' j hj).1)
      _ _ hX (fun e => by rw [Nat.zero_add] at e; subst e; rw [if_neg (by rw [h0]; decide)]) (fun e => by rw [Nat.zero_add] at e; subst e; rw [if_neg (by rw [h0]; decide)])
      (fun e => by
        rw [Nat.zero_add] at e
        subst e
        have hw : ∀ j, j < l.length → j ≠ i → listed.getD j true = true := fun j hj hji => by
          have h1 := List.all_eq_true.1 hla j (List.mem_range.2 hj)
          simp only [Bool.or_eq_true, beq_iff_eq, hji, false_or] at h1
          unfold waits at h1
          rw [ho'] at h1
          exact (hdep' j (by simpa using h1)).1
        exact ⟨if_pos (hw s1 hl1 hne2), if_pos (hw s2 hl2 hne3)⟩)
      (fun a' W' => wpAny P .any l.toArray Q fuel (listed.setIfInBounds i true) a' W')
      (by
        intro v W' hne hx1 hx2 hlast
        rw [Nat.zero_add] at hne hlast hx1 hx2
        by_cases his : i = s
        · have hF' := hF x v W' (hlast his)
          have hu := unl_set h0 hil
          have hz : fuel = 0 := by
            have hun : unl (listed.setIfInBounds i true) l.length = 0 := by
              have hall : ∀ j, j < l.length → (listed.setIfInBounds i true).getD j true = true := fun j hj => by
                by_cases hji : j = i
                · subst hji
                  simp [show j < listed.size by omega]
                · rw [getD_set_ne true (Ne.symm hji)]
                  have h1 := List.all_eq_true.1 hla j (List.mem_range.2 hj)
                  rw [← his] at h1
                  simp only [Bool.or_eq_true, beq_iff_eq, hji, false_or] at h1
                  unfold waits at h1
                  rw [ho'] at h1
                  exact (hdep' j (by simpa using h1)).1
              have key : ∀ m, m ≤ l.length → unl (listed.setIfInBounds i true) m = 0 := by
                intro m
                induction m with
                | zero => intro _; rfl
                | succ m ihm =>
                  intro hm
                  simp only [unl]
                  rw [ihm (by omega), hall m (by omega)]
                  rfl
              exact key _ (Nat.le_refl _)
            omega
          subst hz
          have hall := unl_none (show unl (listed.setIfInBounds i true) l.length = 0 by omega)
          refine ⟨?_, hdone (updX x i v) W' (by rw [his]; exact hF') _ (hput v)⟩
          cases hr : Region.ready .any l.toArray (listed.setIfInBounds i true) with
          | nil => rfl
          | cons q rs =>
            exfalso
            obtain ⟨g0, o', ho2, _⟩ := mem_ready.1 (show q ∈ Region.ready .any l.toArray (listed.setIfInBounds i true) by rw [hr]; exact List.mem_cons_self ..)
            have hq : q < l.length := by
              have := (Array.getElem?_eq_some_iff.1 ho2).1
              simpa using this
            rw [hall q hq] at g0
            cases g0
        · obtain ⟨hTW, hv⟩ := hne his
          refine ih (listed.setIfInBounds i true) (updX x i v) _ W' (by have := unl_set h0 hil; omega) (hput v) (htr _ _ _ hT hTW) (fun j hj hl => ?_) ?_ ?_ (fun q hql hl j hw => ?_) (by simpa using hsz) (fun j hjl hl => ?_)
          · by_cases hji : j = i
            · subst hji
              simpa [updX] using hv
            · have e1 : updX x i v j = x j := by simp only [updX]; rw [if_neg hji]
              rw [e1]
              rw [getD_set_ne true (Ne.symm hji)] at hl
              exact (atC Φ j).mono _ _ _ hTW (hx j hj hl)
          · have hset : (listed.setIfInBounds i true).getD i true = true := by simp [show i < listed.size by omega]
            have xi : updX x i v i = v := by simp [updX]
            have xne : ∀ j, j ≠ i → updX x i v j = x j := fun j hj => by simp only [updX]; rw [if_neg hj]
            by_cases e1 : i = s1
            · subst e1
              rw [hset, if_pos rfl, xi, getD_set_ne true hne1, xne s2 (Ne.symm hne1)]
              exact hx1 rfl
            · by_cases e2 : i = s2
              · subst e2
                rw [hset, if_pos rfl, xi, getD_set_ne true e1, xne s1 (Ne.symm e1)]
                exact hx2 rfl
              · rw [getD_set_ne true e1, getD_set_ne true e2, xne s1 (Ne.symm e1), xne s2 (Ne.symm e2)]
                exact hXT _ _ _ _ hTW hX
          · rw [getD_set_ne true his]; exact hs0
          · by_cases hji : j = i
            · subst hji
              simp [show j < listed.size by omega]
            · rw [getD_set_ne true (Ne.symm hji)]
              by_cases hiq : i = q
              · subst hiq
                unfold waits at hw
                rw [ho'] at hw
                exact (hdep' j (by simpa using hw)).1
              · rw [getD_set_ne true hiq] at hl
                exact hws q hql hl j hw
          · by_cases hji : j = i
            · subst hji
              exfalso
              simp [show j < listed.size by omega] at hl
            · have e1 : updX x i v j = x j := by simp only [updX]; rw [if_neg hji]
              rw [e1]
              rw [getD_set_ne true (Ne.symm hji)] at hl
              exact hin j hjl hl)
    unfold wantOp at hst
    unfold wpOp
    simp only [ho]
    split
    · rename_i hw
      rw [if_pos hw] at hst
      exact .inl hst
    · rename_i hw
      rw [if_neg hw] at hst
      exact hst

/-- A REGION THAT DRAWS ITS ORDER AND WHOSE OPERATION s WAITS FOR ALL OTHERS. -/
theorem region_last {id : Nat} {l : List Oper} {a0 : Act} {w : World} (s s1 s2 : Nat) (X : Option Value → Option Value → World → Prop) (F : (Nat → Value) → World → Prop) (T : World → World → Prop) (Φ : List (Cd T)) (hm : P.follows .mixedOrders = true) (hn : (dsts l).Nodup) (he : edgesBack l = true) (hla : lastOK l s = true) (hsl : s < l.length)
    (hF : ∀ x v W, F x W → F (updX x s v) W) (hXT : ∀ p q W W', T W W' → X p q W → X p q W') (hne1 : s1 ≠ s2) (hne2 : s1 ≠ s) (hne3 : s2 ≠ s) (hl1 : s1 < l.length) (hl2 : s2 < l.length) (hX0 : X none none w.drew) (hrf : T w.drew w.drew) (htr : ∀ W1 W2 W3, T W1 W2 → T W2 W3 → T W1 W3)
    (hsteps : ∀ x W, T w.drew W → ∀ a, a = (⟨fillA x 0 l a0.tmps, a0.defers⟩ : Act) → StepsL P l a0.tmps Q s s1 s2 X F Φ x a W 0 l)
    (hdone : ∀ x W, F x W → ∀ a, a = (⟨fillA x 0 l a0.tmps, a0.defers⟩ : Act) → Q .normal a W) :
    (Code.region id l.toArray true).wp P Q a0 w := by
  refine wp_region_any hm (last_any (a0 := a0) (w1 := w.drew) (Φ := Φ) (s := s) (s1 := s1) (s2 := s2) (X := X) (F := F) hn he hla hsl htr hF hXT hne1 hne2 hne3 hl1 hl2 hsteps hdone l.toArray.size (Array.replicate l.toArray.size false) (asIs l a0.tmps) a0 w.drew ?_ ?_ hrf ?_ ?_ ?_ ?_ ?_ (fun _ _ _ => rfl))
  · simpa using unl_false l.length l.length (Nat.le_refl _)
  · rw [fillA_start]
  · intro i hi h
    exfalso
    simp [hi] at h
  · rw [if_neg (by simp [hl1]), if_neg (by simp [hl2])]
    exact hX0
  · simp [hsl]
  · intro j hsl h
    exfalso
    simp [hsl] at h
  · simp
end Go.Proofs.YtoecimgmghlfpaaGreatDoor.Mem
