/-
  Words of no layer: a region that draws its order and holds two operations that turn the world (an append, and the store of what it gives), walked once for all orders, by phases.
-/
import Derived.Test.YtoecimgmghlfpaaDoorMemRel2
namespace Go.Proofs.YtoecimgmghlfpaaDoor.Mem
set_option linter.unusedVariables false
variable {P : Program} {Q : Exit → Act → World → Prop}

/-- The operations of pre lie ahead of s1: each is waited for by s1, or by a later one of pre. -/
def preOK (l : List Oper) (s1 : Nat) (pre : List Nat) : Bool := pre.all fun i => i == s1 || pre.any fun j => decide (i < j) && waits l j i
theorem pre_not {l : List Oper} {s1 : Nat} {pre : List Nat} {listed : Array Bool} (h : preOK l s1 pre = true) (hno : ∀ j i, waits l j i = true → listed.getD i true = false → listed.getD j true = false) (hlen : ∀ j i, waits l j i = true → j < l.length) :
    ∀ (m i : Nat), l.length - i ≤ m → pre.contains i = true → listed.getD i true = false → listed.getD s1 true = false := by
  intro m
  induction m with
  | zero =>
    intro i hm hi h0
    have h1 := List.all_eq_true.1 h i (List.contains_iff_mem.1 hi)
    rw [Bool.or_eq_true] at h1
    rcases h1 with h1 | h1
    · rw [beq_iff_eq] at h1; subst h1; exact h0
    · obtain ⟨j, hj, hb⟩ := List.any_eq_true.1 h1
      rw [Bool.and_eq_true, decide_eq_true_eq] at hb
      have := hlen j i hb.2
      omega
  | succ m ih =>
    intro i hm hi h0
    have h1 := List.all_eq_true.1 h i (List.contains_iff_mem.1 hi)
    rw [Bool.or_eq_true] at h1
    rcases h1 with h1 | h1
    · rw [beq_iff_eq] at h1; subst h1; exact h0
    · obtain ⟨j, hj, hb⟩ := List.any_eq_true.1 h1
      rw [Bool.and_eq_true, decide_eq_true_eq] at hb
      have := hlen j i hb.2
      exact ih j (by omega) (List.contains_iff_mem.2 hj) (hno j i hb.2 h0)

def atA (A : List (Value → Prop)) (i : Nat) : Value → Prop := A.getD i fun _ => True
/-- What is asked of operation i: ahead of s1 the world is as S1 says, between s1 and s2 as S2 says of what s1 gave, behind s2 as S3 says. -/
def Step3 (P : Program) (l : List Oper) (t0 : Array Value) (Q : Exit → Act → World → Prop) (pre : List Nat) (s1 s2 : Nat) (U : World → World → Prop) (S1 : World → Prop) (S2 S3 : Value → World → Prop) (E : List (Cd U)) (A : List (Value → Prop)) (x : Nat → Value) (a : Act) (W : World) (i : Nat) (o : Oper) : Prop :=
  (∀ j, waits l j i = true → x j = asIs l t0 j) → (pre.contains i = true ∨ i = s1 → S1 W) → (i = s2 → S2 (x s1) W) → (∀ j, (o.after.any fun e => Region.binds .any e && e.on == j) = true → atA A j (x j)) →
  ((pre.contains i = true ∨ i = s1) → ∀ j, (o.after.any fun e => Region.binds .any e && e.on == j) = true → (atC E j).p (x j) W) →
  ∀ K : Act → World → Prop, Shut (∀ v W', (i ≠ s1 → i ≠ s2 → U W W' ∧ (atC E i).p v W') → (i = s1 → S2 v W') → (i = s2 → S3 (x s1) W') → atA A i v → K (a.put o.dst v) W') → wantOp P l Q o K a W
def Steps3 (P : Program) (l : List Oper) (t0 : Array Value) (Q : Exit → Act → World → Prop) (pre : List Nat) (s1 s2 : Nat) (U : World → World → Prop) (S1 : World → Prop) (S2 S3 : Value → World → Prop) (E : List (Cd U)) (A : List (Value → Prop)) (x : Nat → Value) (a : Act) (W : World) : Nat → List Oper → Prop
  | _, [] => True
  | i, o :: os => Step3 P l t0 Q pre s1 s2 U S1 S2 S3 E A x a W i o ∧ Steps3 P l t0 Q pre s1 s2 U S1 S2 S3 E A x a W (i + 1) os
theorem Steps3.get {l : List Oper} {t0 : Array Value} {pre : List Nat} {s1 s2 : Nat} {U : World → World → Prop} {S1 : World → Prop} {S2 S3 : Value → World → Prop} {E : List (Cd U)} {A : List (Value → Prop)} {x : Nat → Value} {a : Act} {W : World} : ∀ (os : List Oper) (k i : Nat) (o : Oper), Steps3 P l t0 Q pre s1 s2 U S1 S2 S3 E A x a W k os → os[i]? = some o → Step3 P l t0 Q pre s1 s2 U S1 S2 S3 E A x a W (k + i) o
  | [], _, _, _, _, h => by simp at h
  | p :: os, k, 0, o, hs, h => by
    simp only [List.getElem?_cons_zero, Option.some.injEq] at h
    subst h
    exact hs.1
  | p :: os, k, i + 1, o, hs, h => by
    have := Steps3.get os (k + 1) i o hs.2 (by simpa using h)
    rwa [show k + 1 + i = k + (i + 1) by omega] at this

theorem rel3_any {l : List Oper} {pre : List Nat} {s1 s2 : Nat} {U : World → World → Prop} {S1 : World → Prop} {S2 S3 : Value → World → Prop} {E : List (Cd U)} {A : List (Value → Prop)} {a0 : Act} (hn : (dsts l).Nodup) (he : edgesBack l = true) (hpre : preOK l s1 pre = true) (h12 : waits l s2 s1 = true) (hne : s1 ≠ s2) (hl2 : s2 < l.length)
    (hU1 : ∀ W W', U W W' → S1 W → S1 W') (hU2 : ∀ v W W', U W W' → S2 v W → S2 v W') (hU3 : ∀ v W W', U W W' → S3 v W → S3 v W')
    (hsteps : ∀ x W, ∀ a, a = (⟨fillA x 0 l a0.tmps, a0.defers⟩ : Act) → Steps3 P l a0.tmps Q pre s1 s2 U S1 S2 S3 E A x a W 0 l)
    (hdone : ∀ x W, S3 (x s1) W → (∀ i, i < l.length → atA A i (x i)) → ∀ a, a = (⟨fillA x 0 l a0.tmps, a0.defers⟩ : Act) → Q .normal a W) :
    ∀ (fuel : Nat) (listed : Array Bool) (x : Nat → Value) (a : Act) (W : World), unl listed l.length = fuel → a = ⟨fillA x 0 l a0.tmps, a0.defers⟩ → (∀ i, i < l.length → listed.getD i true = true → atA A i (x i)) →
      (listed.getD s1 true = false → S1 W ∧ ∀ i, i < l.length → listed.getD i true = true → (atC E i).p (x i) W) → (listed.getD s1 true = true → listed.getD s2 true = false → S2 (x s1) W) → (listed.getD s2 true = true → S3 (x s1) W) → (∀ j, j < l.length → listed.getD j true = true → ∀ i, waits l j i = true → listed.getD i true = true) → (l.length ≤ listed.size) → (∀ j, j < l.length → listed.getD j true = false → x j = asIs l a0.tmps j) →
      wpAny P .any l.toArray Q fuel listed a W := by
  have all : ∀ listed : Array Bool, Region.ready .any l.toArray listed = [] → ∀ i, i < l.length → listed.getD i true = true := by
    intro listed hr i
    induction i using Nat.strongRecOn with
    | _ i ih =>
      intro hi
      by_cases hl : listed.getD i true = true
      · exact hl
      · exfalso
        have hm : i ∈ Region.ready .any l.toArray listed := mem_ready.2 ⟨by simpa using hl, l[i], by simp [hi], fun e hm hb => by
          have h1 := List.all_eq_true.1 he i (List.mem_range.2 hi)
          simp only [List.getElem?_eq_getElem hi] at h1
          have h2 := Array.all_eq_true_iff_forall_mem.1 h1 e hm
          simp only [hb, Bool.not_true, Bool.false_or, decide_eq_true_eq] at h2
          have h3 := ih e.on h2 (by omega)
          rcases Nat.lt_or_ge e.on listed.size with h' | h'
          · simpa [h'] using h3
          · exfalso
            have h4 : listed.getD i true = true := by simp [Array.getElem?_eq_none (show listed.size ≤ i by omega)]
            exact hl h4⟩
        rw [hr] at hm
        cases hm
  intro fuel
  induction fuel with
  | zero =>
    intro listed x a W hf ha hA _ _ h3 _ _ _
    have hall := unl_none hf
    refine ⟨?_, hdone x W (h3 (hall s2 hl2)) (fun i hi => hA i hi (hall i hi)) a ha⟩
    cases hr : Region.ready .any l.toArray listed with
    | nil => rfl
    | cons i rs =>
      exfalso
      obtain ⟨h0, o, ho, _⟩ := mem_ready.1 (show i ∈ Region.ready .any l.toArray listed by rw [hr]; exact List.mem_cons_self ..)
      have hi : i < l.length := by
        have := (Array.getElem?_eq_some_iff.1 ho).1
        simpa using this
      rw [hall i hi] at h0
      cases h0
  | succ fuel ih =>
    intro listed x a W hf ha hA h1 h2 h3 hws hsz hin
    refine ⟨fun hr => hdone x W (h3 (all listed hr s2 hl2)) (fun i hi => hA i hi (all listed hr i hi)) a ha, fun i hi => ?_⟩
    obtain ⟨h0, o, ho, hdep⟩ := mem_ready.1 hi
    have ho' : l[i]? = some o := by simpa using ho
    have hil : i < l.length := (List.getElem?_eq_some_iff.1 ho').1
    have hdep' : ∀ j, (o.after.any fun e => Region.binds .any e && e.on == j) = true → listed.getD j true = true ∧ j < i := fun j hj => by
      rw [← Array.any_toList, List.any_eq_true] at hj
      obtain ⟨e, hm0, hb⟩ := hj
      have hm : e ∈ o.after := Array.mem_toList_iff.1 hm0
      simp only [Bool.and_eq_true, beq_iff_eq] at hb
      have h1 := hdep e hm hb.1
      rw [hb.2] at h1
      have hjl : j < listed.size := by
        rcases Nat.lt_or_ge j listed.size with h' | h'
        · exact h'
        · simp [Array.getElem?_eq_none h'] at h1
      have h2 := List.all_eq_true.1 he i (List.mem_range.2 hil)
      simp only [ho'] at h2
      have h3 := Array.all_eq_true_iff_forall_mem.1 h2 e hm
      simp only [hb.1, Bool.not_true, Bool.false_or, decide_eq_true_eq] at h3
      exact ⟨by simpa [hjl] using h1, by omega⟩
    have hlen : ∀ j q, waits l j q = true → j < l.length := fun j q hw => by
      unfold waits at hw
      rcases Nat.lt_or_ge j l.length with h' | h'
      · exact h'
      · rw [List.getElem?_eq_none h'] at hw; cases hw
    have hnot : ∀ j, waits l j i = true → listed.getD j true = false := fun j hw => by
      by_cases hl : listed.getD j true = true
      · exfalso
        rw [hws j (hlen j i hw) hl i hw] at h0
        cases h0
      · simpa using hl
    have hs1 : pre.contains i = true ∨ i = s1 → listed.getD s1 true = false := fun hw => by
      rcases hw with hw | hw
      · refine pre_not hpre (fun j q hq h0q => ?_) hlen _ i (Nat.le_refl _) hw h0
        by_cases hl : listed.getD j true = true
        · exfalso
          rw [hws j (hlen j q hq) hl q hq] at h0q
          cases h0q
        · simpa using hl
      · subst hw; exact h0
    have hst := Steps3.get l 0 i o (hsteps x W a ha) ho' (fun j hw => by
        rw [Nat.zero_add] at hw
        exact hin j (hlen j i hw) (hnot j hw)) (fun hw => by
        rw [Nat.zero_add] at hw
        exact (h1 (hs1 hw)).1) (fun hw => by
        rw [Nat.zero_add] at hw
        subst hw
        refine h2 ?_ h0
        unfold waits at h12
        rw [ho'] at h12
        exact (hdep' s1 (by simpa using h12)).1)
      (fun j hj => hA j (by have := (hdep' j hj).2; omega) (hdep' j hj).1)
      (fun hw j hj => by
        rw [Nat.zero_add] at hw
        exact (h1 (hs1 hw)).2 j (by have := (hdep' j hj).2; omega) (hdep' j hj).1)
      (fun a' W' => wpAny P .any l.toArray Q fuel (listed.setIfInBounds i true) a' W')
      (by
        intro v W' hord hi1 hi2 hv
        rw [Nat.zero_add] at hv hord hi1 hi2
        have hset : (listed.setIfInBounds i true).getD i true = true := by simp [show i < listed.size by omega]
        have xne : ∀ j, j ≠ i → updX x i v j = x j := fun j hj => by simp only [updX]; rw [if_neg hj]
        refine ih (listed.setIfInBounds i true) (updX x i v) _ W' (by have := unl_set h0 hil; omega) ?_ (fun j hj hl => ?_) (fun hl => ?_) (fun hl hl' => ?_) (fun hl => ?_) (fun q hql hl j hw => ?_) (by simpa using hsz) (fun j hjl hl => ?_)
        · rw [ha]
          cases hd : o.dst with
          | none =>
            simp only [Act.put]
            congr 1
            have key : ∀ (os : List Oper) (k m : Nat) (t : Array Value), os[m]? = some o → fillA (updX x (k + m) v) k os t = fillA x k os t := by
              intro os
              induction os with
              | nil => intro k m t h; rfl
              | cons p os ihs =>
                intro k m t h
                cases m with
                | zero =>
                  simp only [List.getElem?_cons_zero, Option.some.injEq] at h
                  subst h
                  simp only [fillA, hd]
                  exact fillA_congr os (k + 1) _ fun j hj => by simp only [updX]; rw [if_neg (by omega)]
                | succ m =>
                  simp only [fillA]
                  have e1 : updX x (k + (m + 1)) v k = x k := by simp only [updX]; rw [if_neg (by omega)]
                  rw [e1, show k + (m + 1) = k + 1 + m by omega]
                  exact ihs (k + 1) m _ (by simpa using h)
            have := key l 0 i a0.tmps ho'
            rw [Nat.zero_add] at this
            exact this.symm
          | some d =>
            simp only [Act.put]
            congr 1
            have := fillA_upd (x := x) (v := v) l 0 i o a0.tmps hn ho' hd
            rw [Nat.zero_add] at this
            exact this.symm
        · by_cases hji : j = i
          · subst hji
            simpa [updX] using hv
          · rw [xne j hji]
            rw [getD_set_ne true (Ne.symm hji)] at hl
            exact hA j hj hl
        · by_cases his : i = s1
          · subst his
            rw [hset] at hl
            cases hl
          · rw [getD_set_ne true his] at hl
            obtain ⟨g1, g2⟩ := h1 hl
            have his2 : i ≠ s2 := fun e => by
              subst e
              unfold waits at h12
              rw [ho'] at h12
              rw [(hdep' s1 (by simpa using h12)).1] at hl
              cases hl
            obtain ⟨hU, hE⟩ := hord his his2
            refine ⟨hU1 _ _ hU g1, fun j hj hl' => ?_⟩
            by_cases hji : j = i
            · subst hji
              simpa [updX] using hE
            · rw [xne j hji]
              rw [getD_set_ne true (Ne.symm hji)] at hl'
              exact (atC E j).mono _ _ _ hU (g2 j hj hl')
        · by_cases his : i = s1
          · subst his
            simpa [updX] using hi1 rfl
          · rw [getD_set_ne true his] at hl
            by_cases his2 : i = s2
            · subst his2
              rw [hset] at hl'
              cases hl'
            · rw [getD_set_ne true his2] at hl'
              rw [xne s1 (Ne.symm his)]
              exact hU2 _ _ _ (hord his his2).1 (h2 hl hl')
        · by_cases his2 : i = s2
          · subst his2
            rw [xne s1 hne]
            exact hi2 rfl
          · rw [getD_set_ne true his2] at hl
            by_cases his : i = s1
            · subst his
              rw [hws s2 hl2 hl i h12] at h0
              cases h0
            · rw [xne s1 (Ne.symm his)]
              exact hU3 _ _ _ (hord his his2).1 (h3 hl)
        · by_cases hji : j = i
          · subst hji
            simp [show j < listed.size by omega]
          · rw [getD_set_ne true (Ne.symm hji)]
            by_cases his : i = q
            · subst his
              unfold waits at hw
              rw [ho'] at hw
              exact (hdep' j (by simpa using hw)).1
            · rw [getD_set_ne true his] at hl
              exact hws q hql hl j hw
        · by_cases hji : j = i
          · subst hji
            exfalso
            simp [show j < listed.size by omega] at hl
          · have e1 : updX x i v j = x j := by simp only [updX]; rw [if_neg hji]
            rw [e1]
            rw [getD_set_ne true (Ne.symm hji)] at hl
            exact hin j hjl hl)
    unfold wantOp at hst
    unfold wpOp
    simp only [ho]
    split
    · rename_i hw
      rw [if_pos hw] at hst
      exact .inl hst
    · rename_i hw
      rw [if_neg hw] at hst
      exact hst

/-- A REGION THAT DRAWS ITS ORDER AND HOLDS AN APPEND (s1) AND THE STORE OF WHAT IT GIVES (s2). -/
theorem region_rel3 {id : Nat} {l : List Oper} {a0 : Act} {w : World} (pre : List Nat) (s1 s2 : Nat) (U : World → World → Prop) (S1 : World → Prop) (S2 S3 : Value → World → Prop) (E : List (Cd U)) (A : List (Value → Prop)) (hm : P.follows .mixedOrders = true) (hn : (dsts l).Nodup) (he : edgesBack l = true)
    (hpre : preOK l s1 pre = true) (h12 : waits l s2 s1 = true) (hne : s1 ≠ s2) (hl1 : s1 < l.length) (hl2 : s2 < l.length) (hS : S1 w.drew)
    (hU1 : ∀ W W', U W W' → S1 W → S1 W') (hU2 : ∀ v W W', U W W' → S2 v W → S2 v W') (hU3 : ∀ v W W', U W W' → S3 v W → S3 v W')
    (hsteps : ∀ x W, ∀ a, a = (⟨fillA x 0 l a0.tmps, a0.defers⟩ : Act) → Steps3 P l a0.tmps Q pre s1 s2 U S1 S2 S3 E A x a W 0 l)
    (hdone : ∀ x W, S3 (x s1) W → (∀ i, i < l.length → atA A i (x i)) → ∀ a, a = (⟨fillA x 0 l a0.tmps, a0.defers⟩ : Act) → Q .normal a W) :
    (Code.region id l.toArray true).wp P Q a0 w := by
  refine wp_region_any hm (rel3_any (a0 := a0) hn he hpre h12 hne hl2 hU1 hU2 hU3 hsteps hdone l.toArray.size (Array.replicate l.toArray.size false) (asIs l a0.tmps) a0 w.drew ?_ ?_ ?_ (fun _ => ⟨hS, ?_⟩) ?_ ?_ ?_ ?_ (fun _ _ _ => rfl))
  · simpa using unl_false l.length l.length (Nat.le_refl _)
  · rw [fillA_start]
  · intro i hi h
    exfalso
    simp [hi] at h
  · intro i hi h
    exfalso
    simp [hi] at h
  · intro h
    exfalso
    simp [hl1] at h
  · intro h
    exfalso
    simp [hl2] at h
  · intro j hsl h
    exfalso
    simp [hsl] at h
  · simp
end Go.Proofs.YtoecimgmghlfpaaDoor.Mem
