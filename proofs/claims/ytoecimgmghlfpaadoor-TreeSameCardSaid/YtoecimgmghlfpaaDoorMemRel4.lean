/-
  Words of no layer: a region that draws its order and holds up to three operations that turn the world (s1, and behind it s2 and s3, in any order), walked once for all orders, by phases.
-/
import Derived.Test.YtoecimgmghlfpaaDoorMemRel3
namespace Go.Proofs.YtoecimgmghlfpaaDoor.Mem
set_option linter.unusedVariables false
variable {P : Program} {Q : Exit → Act → World → Prop}

/-- A condition on what s1 gave, and on what a later operation gives. -/
def atB (A2 : List (Value → Value → Prop)) (i : Nat) : Value → Value → Prop := A2.getD i fun _ _ => True
/-- What is asked of operation i: p, q, r: have s1, s2, s3 run? Ahead of s1 the world is as S1 says, behind it as Ph says of which have run, and of what s1 gave. -/
def Step4 (P : Program) (l : List Oper) (t0 : Array Value) (Q : Exit → Act → World → Prop) (pre : List Nat) (s1 s2 s3 : Nat) (U : World → World → Prop) (S1 : World → Prop) (Ph : Bool → Bool → Value → World → Prop) (E : List (Cd U)) (A : List (Value → Prop)) (A2 : List (Value → Value → Prop)) (x : Nat → Value) (a : Act) (W : World) (i : Nat) (o : Oper) : Prop :=
  (∀ j, waits l j i = true → x j = asIs l t0 j) → (∀ j, waits l i j = true → atA A j (x j)) → (∀ j, waits l i j = true → waits l j s1 = true → atB A2 j (x s1) (x j)) →
  ∀ p q r : Bool, (p = false → S1 W ∧ ∀ j, waits l i j = true → (atC E j).p (x j) W) → (p = true → Ph q r (x s1) W) →
  (pre.contains i = true ∨ i = s1 → p = false) → (waits l i s1 = true → p = true) → (waits l s2 i = true ∨ i = s2 → q = false) → (waits l s3 i = true ∨ i = s3 → r = false) → (waits l i s2 = true → q = true) → (waits l i s3 = true → r = true) →
  ∀ K : Act → World → Prop, Shut (∀ v W', (i ≠ s1 → i ≠ s2 → i ≠ s3 → U W W' ∧ (atC E i).p v W') → (i = s1 → Ph false (decide (l.length ≤ s3)) v W') → (i = s2 → Ph true r (x s1) W') → (i = s3 → Ph q true (x s1) W') → atA A i v → (waits l i s1 = true → atB A2 i (x s1) v) → K (a.put o.dst v) W') → wantOp P l Q o K a W
def Steps4 (P : Program) (l : List Oper) (t0 : Array Value) (Q : Exit → Act → World → Prop) (pre : List Nat) (s1 s2 s3 : Nat) (U : World → World → Prop) (S1 : World → Prop) (Ph : Bool → Bool → Value → World → Prop) (E : List (Cd U)) (A : List (Value → Prop)) (A2 : List (Value → Value → Prop)) (x : Nat → Value) (a : Act) (W : World) : Nat → List Oper → Prop
  | _, [] => True
  | i, o :: os => Step4 P l t0 Q pre s1 s2 s3 U S1 Ph E A A2 x a W i o ∧ Steps4 P l t0 Q pre s1 s2 s3 U S1 Ph E A A2 x a W (i + 1) os
theorem Steps4.get {l : List Oper} {t0 : Array Value} {pre : List Nat} {s1 s2 s3 : Nat} {U : World → World → Prop} {S1 : World → Prop} {Ph : Bool → Bool → Value → World → Prop} {E : List (Cd U)} {A : List (Value → Prop)} {A2 : List (Value → Value → Prop)} {x : Nat → Value} {a : Act} {W : World} : ∀ (os : List Oper) (k i : Nat) (o : Oper), Steps4 P l t0 Q pre s1 s2 s3 U S1 Ph E A A2 x a W k os → os[i]? = some o → Step4 P l t0 Q pre s1 s2 s3 U S1 Ph E A A2 x a W (k + i) o
  | [], _, _, _, _, h => by simp at h
  | p :: os, k, 0, o, hs, h => by
    simp only [List.getElem?_cons_zero, Option.some.injEq] at h
    subst h
    exact hs.1
  | p :: os, k, i + 1, o, hs, h => by
    have := Steps4.get os (k + 1) i o hs.2 (by simpa using h)
    rwa [show k + 1 + i = k + (i + 1) by omega] at this

theorem rel4_any {l : List Oper} {pre : List Nat} {s1 s2 s3 : Nat} {U : World → World → Prop} {S1 : World → Prop} {Ph : Bool → Bool → Value → World → Prop} {E : List (Cd U)} {A : List (Value → Prop)} {A2 : List (Value → Value → Prop)} {a0 : Act} (hn : (dsts l).Nodup) (he : edgesBack l = true) (hpre : preOK l s1 pre = true) (h12 : waits l s2 s1 = true) (h13 : (decide (l.length ≤ s3) || waits l s3 s1) = true) (hne12 : s1 ≠ s2) (hne13 : s1 ≠ s3) (hne23 : s2 ≠ s3) (hl1 : s1 < l.length) (hl2 : s2 < l.length)
    (hU1 : ∀ W W', U W W' → S1 W → S1 W') (hUP : ∀ q r v W W', U W W' → Ph q r v W → Ph q r v W')
    (hsteps : ∀ x W, ∀ a, a = (⟨fillA x 0 l a0.tmps, a0.defers⟩ : Act) → Steps4 P l a0.tmps Q pre s1 s2 s3 U S1 Ph E A A2 x a W 0 l)
    (hdone : ∀ x W, Ph true true (x s1) W → (∀ i, i < l.length → atA A i (x i)) → (∀ i, i < l.length → waits l i s1 = true → atB A2 i (x s1) (x i)) → ∀ a, a = (⟨fillA x 0 l a0.tmps, a0.defers⟩ : Act) → Q .normal a W) :
    ∀ (fuel : Nat) (listed : Array Bool) (x : Nat → Value) (a : Act) (W : World), unl listed l.length = fuel → a = ⟨fillA x 0 l a0.tmps, a0.defers⟩ → (∀ i, i < l.length → listed.getD i true = true → atA A i (x i)) → (∀ i, i < l.length → listed.getD i true = true → waits l i s1 = true → atB A2 i (x s1) (x i)) →
      (listed.getD s1 true = false → S1 W ∧ ∀ i, i < l.length → listed.getD i true = true → (atC E i).p (x i) W) → (listed.getD s1 true = true → Ph (listed.getD s2 true) (listed.getD s3 true) (x s1) W) → (∀ j, j < l.length → listed.getD j true = true → ∀ i, waits l j i = true → listed.getD i true = true) → (l.length = listed.size) → (∀ j, j < l.length → listed.getD j true = false → x j = asIs l a0.tmps j) →
      wpAny P .any l.toArray Q fuel listed a W := by
  have all : ∀ listed : Array Bool, Region.ready .any l.toArray listed = [] → ∀ i, i < l.length → listed.getD i true = true := by
    intro listed hr i
    induction i using Nat.strongRecOn with
    | _ i ih =>
      intro hi
      by_cases hl : listed.getD i true = true
      · exact hl
      · exfalso
        have hm : i ∈ Region.ready .any l.toArray listed := mem_ready.2 ⟨by simpa using hl, l[i], by simp [hi], fun e hm hb => by
          have h1 := List.all_eq_true.1 he i (List.mem_range.2 hi)
          simp only [List.getElem?_eq_getElem hi] at h1
          have h2 := Array.all_eq_true_iff_forall_mem.1 h1 e hm
          simp only [hb, Bool.not_true, Bool.false_or, decide_eq_true_eq] at h2
          have h3 := ih e.on h2 (by omega)
          rcases Nat.lt_or_ge e.on listed.size with h' | h'
          · simpa [h'] using h3
          · exfalso
            have h4 : listed.getD i true = true := by simp [Array.getElem?_eq_none (show listed.size ≤ i by omega)]
            exact hl h4⟩
        rw [hr] at hm
        cases hm
  intro fuel
  induction fuel with
  | zero =>
    intro listed x a W hf ha hA hB _ h2 _ hsz _
    have hall := unl_none hf
    have hq : listed.getD s2 true = true := hall s2 hl2
    have hr3 : listed.getD s3 true = true := by
      rcases Nat.lt_or_ge s3 l.length with h' | h'
      · exact hall s3 h'
      · simp [Array.getElem?_eq_none (show listed.size ≤ s3 by omega)]
    have hph := h2 (hall s1 hl1)
    rw [hq, hr3] at hph
    refine ⟨?_, hdone x W hph (fun i hi => hA i hi (hall i hi)) (fun i hi hw => hB i hi (hall i hi) hw) a ha⟩
    cases hr : Region.ready .any l.toArray listed with
    | nil => rfl
    | cons i rs =>
      exfalso
      obtain ⟨h0, o, ho, _⟩ := mem_ready.1 (show i ∈ Region.ready .any l.toArray listed by rw [hr]; exact List.mem_cons_self ..)
      have hi : i < l.length := by
        have := (Array.getElem?_eq_some_iff.1 ho).1
        simpa using this
      rw [hall i hi] at h0
      cases h0
  | succ fuel ih =>
    intro listed x a W hf ha hA hB h1 h2 hws hsz0 hin
    have hsz : l.length ≤ listed.size := by omega
    have hbig : ∀ j, l.length ≤ j → listed.getD j true = true := fun j hj => by simp [Array.getElem?_eq_none (show listed.size ≤ j by omega)]
    refine ⟨fun hr => by
      have hph := h2 (all listed hr s1 hl1)
      have hr3 : listed.getD s3 true = true := by
        rcases Nat.lt_or_ge s3 l.length with h' | h'
        · exact all listed hr s3 h'
        · exact hbig s3 h'
      rw [all listed hr s2 hl2, hr3] at hph
      exact hdone x W hph (fun i hi => hA i hi (all listed hr i hi)) (fun i hi hw => hB i hi (all listed hr i hi) hw) a ha, fun i hi => ?_⟩
    obtain ⟨h0, o, ho, hdep⟩ := mem_ready.1 hi
    have ho' : l[i]? = some o := by simpa using ho
    have hil : i < l.length := (List.getElem?_eq_some_iff.1 ho').1
    have hdep' : ∀ j, (o.after.any fun e => Region.binds .any e && e.on == j) = true → listed.getD j true = true ∧ j < i := fun j hj => by
      rw [← Array.any_toList, List.any_eq_true] at hj
      obtain ⟨e, hm0, hb⟩ := hj
      have hm : e ∈ o.after := Array.mem_toList_iff.1 hm0
      simp only [Bool.and_eq_true, beq_iff_eq] at hb
      have h1 := hdep e hm hb.1
      rw [hb.2] at h1
      have hjl : j < listed.size := by
        rcases Nat.lt_or_ge j listed.size with h' | h'
        · exact h'
        · simp [Array.getElem?_eq_none h'] at h1
      have h2 := List.all_eq_true.1 he i (List.mem_range.2 hil)
      simp only [ho'] at h2
      have h3 := Array.all_eq_true_iff_forall_mem.1 h2 e hm
      simp only [hb.1, Bool.not_true, Bool.false_or, decide_eq_true_eq] at h3
      exact ⟨by simpa [hjl] using h1, by omega⟩
    have hlen : ∀ j q, waits l j q = true → j < l.length := fun j q hw => by
      unfold waits at hw
      rcases Nat.lt_or_ge j l.length with h' | h'
      · exact h'
      · rw [List.getElem?_eq_none h'] at hw; cases hw
    have hnot : ∀ j, waits l j i = true → listed.getD j true = false := fun j hw => by
      by_cases hl : listed.getD j true = true
      · exfalso
        rw [hws j (hlen j i hw) hl i hw] at h0
        cases h0
      · simpa using hl
    have hs1 : pre.contains i = true ∨ i = s1 → listed.getD s1 true = false := fun hw => by
      rcases hw with hw | hw
      · refine pre_not hpre (fun j q hq h0q => ?_) hlen _ i (Nat.le_refl _) hw h0
        by_cases hl : listed.getD j true = true
        · exfalso
          rw [hws j (hlen j q hq) hl q hq] at h0q
          cases h0q
        · simpa using hl
      · subst hw; exact h0
    have hwi : ∀ j, waits l i j = true → listed.getD j true = true ∧ j < i := fun j hj => by
      unfold waits at hj
      rw [ho'] at hj
      exact hdep' j (by simpa using hj)
    have hst := Steps4.get l 0 i o (hsteps x W a ha) ho' (fun j hw => by
        rw [Nat.zero_add] at hw
        exact hin j (hlen j i hw) (hnot j hw))
      (fun j hj => by rw [Nat.zero_add] at hj; exact hA j (by have := (hwi j hj).2; omega) (hwi j hj).1)
      (fun j hj hj1 => by rw [Nat.zero_add] at hj; exact hB j (by have := (hwi j hj).2; omega) (hwi j hj).1 hj1)
      (listed.getD s1 true) (listed.getD s2 true) (listed.getD s3 true)
      (fun hp => ⟨(h1 hp).1, fun j hj => by rw [Nat.zero_add] at hj; exact (h1 hp).2 j (by have := (hwi j hj).2; omega) (hwi j hj).1⟩)
      h2
      (fun hw => hs1 (by rw [Nat.zero_add] at hw; exact hw))
      (fun hw => by rw [Nat.zero_add] at hw; exact (hwi s1 hw).1)
      (fun hw => by
        rw [Nat.zero_add] at hw
        rcases hw with hw | hw
        · exact hnot s2 hw
        · subst hw; exact h0)
      (fun hw => by
        rw [Nat.zero_add] at hw
        rcases hw with hw | hw
        · exact hnot s3 hw
        · subst hw; exact h0)
      (fun hw => by rw [Nat.zero_add] at hw; exact (hwi s2 hw).1)
      (fun hw => by rw [Nat.zero_add] at hw; exact (hwi s3 hw).1)
      (fun a' W' => wpAny P .any l.toArray Q fuel (listed.setIfInBounds i true) a' W')
      (by
        intro v W' hord hi1 hi2 hi3 hv hvB
        rw [Nat.zero_add] at hv hord hi1 hi2 hi3 hvB
        have hset : (listed.setIfInBounds i true).getD i true = true := by simp [show i < listed.size by omega]
        have xne : ∀ j, j ≠ i → updX x i v j = x j := fun j hj => by simp only [updX]; rw [if_neg hj]
        refine ih (listed.setIfInBounds i true) (updX x i v) _ W' (by have := unl_set h0 hil; omega) ?_ (fun j hj hl => ?_) (fun j hj hl hw => ?_) (fun hl => ?_) (fun hl => ?_) (fun q hql hl j hw => ?_) (by simpa using hsz0) (fun j hjl hl => ?_)
        · rw [ha]
          cases hd : o.dst with
          | none =>
            simp only [Act.put]
            congr 1
            have key : ∀ (os : List Oper) (k m : Nat) (t : Array Value), os[m]? = some o → fillA (updX x (k + m) v) k os t = fillA x k os t := by
              intro os
              induction os with
              | nil => intro k m t h; rfl
              | cons p os ihs =>
                intro k m t h
                cases m with
                | zero =>
                  simp only [List.getElem?_cons_zero, Option.some.injEq] at h
                  subst h
                  simp only [fillA, hd]
                  exact fillA_congr os (k + 1) _ fun j hj => by simp only [updX]; rw [if_neg (by omega)]
                | succ m =>
                  simp only [fillA]
                  have e1 : updX x (k + (m + 1)) v k = x k := by simp only [updX]; rw [if_neg (by omega)]
                  rw [e1, show k + (m + 1) = k + 1 + m by omega]
                  exact ihs (k + 1) m _ (by simpa using h)
            have := key l 0 i a0.tmps ho'
            rw [Nat.zero_add] at this
            exact this.symm
          | some d =>
            simp only [Act.put]
            congr 1
            have := fillA_upd (x := x) (v := v) l 0 i o a0.tmps hn ho' hd
            rw [Nat.zero_add] at this
            exact this.symm
        · by_cases hji : j = i
          · subst hji
            simpa [updX] using hv
          · rw [xne j hji]
            rw [getD_set_ne true (Ne.symm hji)] at hl
            exact hA j hj hl
        · by_cases hjs : i = s1
          · exfalso
            subst hjs
            by_cases hji : j = i
            · subst hji
              exact Nat.lt_irrefl _ (hwi j hw).2
            · rw [getD_set_ne true (Ne.symm hji)] at hl
              rw [hws j hj hl i hw] at h0
              cases h0
          · rw [xne s1 (Ne.symm hjs)]
            by_cases hji : j = i
            · subst hji
              simpa [updX] using hvB hw
            · rw [xne j hji]
              rw [getD_set_ne true (Ne.symm hji)] at hl
              exact hB j hj hl hw
        · by_cases his : i = s1
          · subst his
            rw [hset] at hl
            cases hl
          · rw [getD_set_ne true his] at hl
            obtain ⟨g1, g2⟩ := h1 hl
            have his2 : i ≠ s2 := fun e => by
              subst e
              rw [(hwi s1 h12).1] at hl
              cases hl
            have his3 : i ≠ s3 := fun e => by
              subst e
              rw [Bool.or_eq_true, decide_eq_true_eq] at h13
              rw [(hwi s1 (h13.resolve_left (by omega))).1] at hl
              cases hl
            obtain ⟨hU, hE⟩ := hord his his2 his3
            refine ⟨hU1 _ _ hU g1, fun j hj hl' => ?_⟩
            by_cases hji : j = i
            · subst hji
              simpa [updX] using hE
            · rw [xne j hji]
              rw [getD_set_ne true (Ne.symm hji)] at hl'
              exact (atC E j).mono _ _ _ hU (g2 j hj hl')
        · by_cases his : i = s1
          · subst his
            have e2 : listed.getD s2 true = false := hnot s2 h12
            have e3 : listed.getD s3 true = decide (l.length ≤ s3) := by
              rw [Bool.or_eq_true, decide_eq_true_eq] at h13
              rcases h13 with h' | h'
              · rw [hbig s3 h', decide_eq_true h']
              · rw [hnot s3 h', decide_eq_false (by have := hlen s3 i h'; omega)]
            rw [getD_set_ne true hne12, getD_set_ne true hne13, e2, e3]
            simpa [updX] using hi1 rfl
          · rw [getD_set_ne true his] at hl
            rw [xne s1 (Ne.symm his)]
            by_cases his2 : i = s2
            · subst his2
              rw [hset, getD_set_ne true hne23]
              exact hi2 rfl
            · by_cases his3 : i = s3
              · subst his3
                rw [hset, getD_set_ne true his2]
                exact hi3 rfl
              · rw [getD_set_ne true his2, getD_set_ne true his3]
                exact hUP _ _ _ _ _ (hord his his2 his3).1 (h2 hl)
        · by_cases hji : j = i
          · subst hji
            simp [show j < listed.size by omega]
          · rw [getD_set_ne true (Ne.symm hji)]
            by_cases his : i = q
            · subst his
              unfold waits at hw
              rw [ho'] at hw
              exact (hdep' j (by simpa using hw)).1
            · rw [getD_set_ne true his] at hl
              exact hws q hql hl j hw
        · by_cases hji : j = i
          · subst hji
            exfalso
            simp [show j < listed.size by omega] at hl
          · have e1 : updX x i v j = x j := by simp only [updX]; rw [if_neg hji]
            rw [e1]
            rw [getD_set_ne true (Ne.symm hji)] at hl
            exact hin j hjl hl)
    unfold wantOp at hst
    unfold wpOp
    simp only [ho]
    split
    · rename_i hw
      rw [if_pos hw] at hst
      exact .inl hst
    · rename_i hw
      rw [if_neg hw] at hst
      exact hst

/-- A REGION THAT DRAWS ITS ORDER AND HOLDS s1, AND BEHIND IT s2 AND s3, IN ANY ORDER (s3 not there: the list's length). -/
theorem region_rel4 {id : Nat} {l : List Oper} {a0 : Act} {w : World} (pre : List Nat) (s1 s2 s3 : Nat) (U : World → World → Prop) (S1 : World → Prop) (Ph : Bool → Bool → Value → World → Prop) (E : List (Cd U)) (A : List (Value → Prop)) (A2 : List (Value → Value → Prop)) (hm : P.follows .mixedOrders = true) (hn : (dsts l).Nodup) (he : edgesBack l = true)
    (hpre : preOK l s1 pre = true) (h12 : waits l s2 s1 = true) (h13 : (decide (l.length ≤ s3) || waits l s3 s1) = true) (hne12 : s1 ≠ s2) (hne13 : s1 ≠ s3) (hne23 : s2 ≠ s3) (hl1 : s1 < l.length) (hl2 : s2 < l.length) (hS : S1 w.drew)
    (hU1 : ∀ W W', U W W' → S1 W → S1 W') (hUP : ∀ q r v W W', U W W' → Ph q r v W → Ph q r v W')
    (hsteps : ∀ x W, ∀ a, a = (⟨fillA x 0 l a0.tmps, a0.defers⟩ : Act) → Steps4 P l a0.tmps Q pre s1 s2 s3 U S1 Ph E A A2 x a W 0 l)
    (hdone : ∀ x W, Ph true true (x s1) W → (∀ i, i < l.length → atA A i (x i)) → (∀ i, i < l.length → waits l i s1 = true → atB A2 i (x s1) (x i)) → ∀ a, a = (⟨fillA x 0 l a0.tmps, a0.defers⟩ : Act) → Q .normal a W) :
    (Code.region id l.toArray true).wp P Q a0 w := by
  refine wp_region_any hm (rel4_any (a0 := a0) hn he hpre h12 h13 hne12 hne13 hne23 hl1 hl2 hU1 hUP hsteps hdone l.toArray.size (Array.replicate l.toArray.size false) (asIs l a0.tmps) a0 w.drew ?_ ?_ ?_ ?_ (fun _ => ⟨hS, ?_⟩) ?_ ?_ ?_ (fun _ _ _ => rfl))
  · simpa using unl_false l.length l.length (Nat.le_refl _)
  · rw [fillA_start]
  · intro i hi h
    exfalso
    simp [hi] at h
  · intro i hi h
    exfalso
    simp [hi] at h
  · intro i hi h
    exfalso
    simp [hi] at h
  · intro h
    exfalso
    simp [hl1] at h
  · intro j hsl h
    exfalso
    simp [hsl] at h
  · simp
end Go.Proofs.YtoecimgmghlfpaaDoor.Mem
