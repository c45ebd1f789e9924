/-
  Words of no layer: a region that draws its order and holds a store, walked once for all orders, by conditions.
-/
import Derived.Test.YtpankfbdlakmcaaMemRel
namespace Go.Proofs.Ytpankfbdlakmcaa.Mem
set_option linter.unusedVariables false
variable {P : Program} {Q : Exit → Act → World → Prop}

/-! ### One operation, number s, that breaks a condition S on the world (a store): what it waits for sees S. -/
/-- Does operation s wait for operation i? -/
def waits (l : List Oper) (s i : Nat) : Bool := ((l[s]?).map fun o => o.after.any fun e => Region.binds .any e && e.on == i).getD false
def Steps2 (P : Program) (l : List Oper) (t0 : Array Value) (Q : Exit → Act → World → Prop) (s : Nat) (S : World → Prop) {T : World → World → Prop} (Φ : List (Cd T)) (x : Nat → Value) (a : Act) (W : World) : Nat → List Oper → Prop
  | _, [] => True
  | i, o :: os => ((∀ j, waits l j i = true → x j = asIs l t0 j) → (waits l s i = true ∨ i = s → S W) → (∀ j, (o.after.any fun e => Region.binds .any e && e.on == j) = true → (atC Φ j).p (x j) W) → ∀ K : Act → World → Prop, Shut (∀ v W', T W W' → (i = s ∨ (S W → S W')) → (atC Φ i).p v W' → K (a.put o.dst v) W') → wantOp P l Q o K a W) ∧ Steps2 P l t0 Q s S Φ x a W (i + 1) os

theorem Steps2.get {l : List Oper} {t0 : Array Value} {s : Nat} {S : World → Prop} {T : World → World → Prop} {Φ : List (Cd T)} {x : Nat → Value} {a : Act} {W : World} : ∀ (os : List Oper) (k i : Nat) (o : Oper), Steps2 P l t0 Q s S Φ x a W k os → os[i]? = some o →
    ((∀ j, waits l j (k + i) = true → x j = asIs l t0 j) → (waits l s (k + i) = true ∨ k + i = s → S W) → (∀ j, (o.after.any fun e => Region.binds .any e && e.on == j) = true → (atC Φ j).p (x j) W) → ∀ K : Act → World → Prop, Shut (∀ v W', T W W' → (k + i = s ∨ (S W → S W')) → (atC Φ (k + i)).p v W' → K (a.put o.dst v) W') → wantOp P l Q o K a W)
  | [], _, _, _, _, h => by simp at h
  | p :: os, k, 0, o, hs, h => by
    simp only [List.getElem?_cons_zero, Option.some.injEq] at h
    subst h
    exact hs.1
  | p :: os, k, i + 1, o, hs, h => by
    have := Steps2.get os (k + 1) i o hs.2 (by simpa using h)
    rwa [show k + 1 + i = k + (i + 1) by omega] at this

theorem rel2_any {l : List Oper} {s : Nat} {S : World → Prop} {T : World → World → Prop} {Φ : List (Cd T)} {a0 : Act} {w1 : World} (hn : (dsts l).Nodup) (he : edgesBack l = true) (htr : ∀ W1 W2 W3, T W1 W2 → T W2 W3 → T W1 W3)
    (hsteps : ∀ x W, T w1 W → ∀ a, a = (⟨fillA x 0 l a0.tmps, a0.defers⟩ : Act) → Steps2 P l a0.tmps Q s S Φ x a W 0 l)
    (hdone : ∀ x W, T w1 W → (∀ i, i < l.length → (atC Φ i).p (x i) W) → ∀ a, a = (⟨fillA x 0 l a0.tmps, a0.defers⟩ : Act) → Q .normal a W) :
    ∀ (fuel : Nat) (listed : Array Bool) (x : Nat → Value) (a : Act) (W : World), unl listed l.length = fuel → a = ⟨fillA x 0 l a0.tmps, a0.defers⟩ → T w1 W → (∀ i, i < l.length → listed.getD i true = true → (atC Φ i).p (x i) W) →
      (listed.getD s true = false → S W) → (∀ j, j < l.length → listed.getD j true = true → ∀ i, waits l j i = true → listed.getD i true = true) → (l.length ≤ listed.size) → (∀ j, j < l.length → listed.getD j true = false → x j = asIs l a0.tmps j) →
      wpAny P .any l.toArray Q fuel listed a W := by
  have all : ∀ listed : Array Bool, Region.ready .any l.toArray listed = [] → ∀ i, i < l.length → listed.getD i true = true := by
    intro listed hr i
    induction i using Nat.strongRecOn with
    | _ i ih =>
      intro hi
      by_cases hl : listed.getD i true = true
      · exact hl
      · exfalso
        have hm : i ∈ Region.ready .any l.toArray listed := mem_ready.2 ⟨by simpa using hl, l[i], by simp [hi], fun e hm hb => by
          have h1 := List.all_eq_true.1 he i (List.mem_range.2 hi)
          simp only [List.getElem?_eq_getElem hi] at h1
          have h2 := Array.all_eq_true_iff_forall_mem.1 h1 e hm
          simp only [hb, Bool.not_true, Bool.false_or, decide_eq_true_eq] at h2
          have h3 := ih e.on h2 (by omega)
          rcases Nat.lt_or_ge e.on listed.size with h' | h'
          · simpa [h'] using h3
          · exfalso
            have h4 : listed.getD i true = true := by simp [Array.getElem?_eq_none (show listed.size ≤ i by omega)]
            exact hl h4⟩
        rw [hr] at hm
        cases hm
  intro fuel
  induction fuel with
  | zero =>
    intro listed x a W hf ha hT hx _ _ _ _
    have hall := unl_none hf
    refine ⟨?_, hdone x W hT (fun i hi => hx i hi (hall i hi)) a ha⟩
    cases hr : Region.ready .any l.toArray listed with
    | nil => rfl
    | cons i rs =>
      exfalso
      obtain ⟨h0, o, ho, _⟩ := mem_ready.1 (show i ∈ Region.ready .any l.toArray listed by rw [hr]; exact List.mem_cons_self ..)
      have hi : i < l.length := by
        have := (Array.getElem?_eq_some_iff.1 ho).1
        simpa using this
      rw [hall i hi] at h0
      cases h0
  | succ fuel ih =>
    intro listed x a W hf ha hT hx hS hws hsz hin
    refine ⟨fun hr => hdone x W hT (fun i hi => hx i hi (all listed hr i hi)) a ha, fun i hi => ?_⟩
    obtain ⟨h0, o, ho, hdep⟩ := mem_ready.1 hi
    have ho' : l[i]? = some o := by simpa using ho
    have hil : i < l.length := (List.getElem?_eq_some_iff.1 ho').1
    have hdep' : ∀ j, (o.after.any fun e => Region.binds .any e && e.on == j) = true → listed.getD j true = true ∧ j < i := fun j hj => by
      rw [← Array.any_toList, List.any_eq_true] at hj
      obtain ⟨e, hm0, hb⟩ := hj
      have hm : e ∈ o.after := Array.mem_toList_iff.1 hm0
      simp only [Bool.and_eq_true, beq_iff_eq] at hb
      have h1 := hdep e hm hb.1
      rw [hb.2] at h1
      have hjl : j < listed.size := by
        rcases Nat.lt_or_ge j listed.size with h' | h'
        · exact h'
        · simp [Array.getElem?_eq_none h'] at h1
      have h2 := List.all_eq_true.1 he i (List.mem_range.2 hil)
      simp only [ho'] at h2
      have h3 := Array.all_eq_true_iff_forall_mem.1 h2 e hm
      simp only [hb.1, Bool.not_true, Bool.false_or, decide_eq_true_eq] at h3
      exact ⟨by simpa [hjl] using h1, by omega⟩
    have hst := Steps2.get l 0 i o (hsteps x W hT a ha) ho' (fun j hw => by
        rw [Nat.zero_add] at hw
        have hsl : j < l.length := by
          unfold waits at hw
          rcases Nat.lt_or_ge j l.length with h' | h'
          · exact h'
          · rw [List.getElem?_eq_none h'] at hw; cases hw
        refine hin j hsl ?_
        by_cases hl : listed.getD j true = true
        · exfalso
          rw [hws j hsl hl i hw] at h0
          cases h0
        · simpa using hl) (fun hw => by
        rw [Nat.zero_add] at hw
        rcases hw with hw | hw
        · refine hS ?_
          by_cases hl : listed.getD s true = true
          · exfalso
            have hsl : s < l.length := by
              unfold waits at hw
              rcases Nat.lt_or_ge s l.length with h' | h'
              · exact h'
              · rw [List.getElem?_eq_none h'] at hw; cases hw
            rw [hws s hsl hl i hw] at h0
            cases h0
          · simpa using hl
        · subst hw; exact hS h0)
      (fun j hj => hx j (by have := (hdep' j hj).2; omega) (hdep' j hj).1)
      (fun a' W' => wpAny P .any l.toArray Q fuel (listed.setIfInBounds i true) a' W')
      (by
        intro v W' hTW hSW hv
        rw [Nat.zero_add] at hv hSW
        refine ih (listed.setIfInBounds i true) (updX x i v) _ W' (by have := unl_set h0 hil; omega) ?_ (htr _ _ _ hT hTW) (fun j hj hl => ?_) (fun hl => ?_) (fun q hql hl j hw => ?_) (by simpa using hsz) (fun j hjl hl => ?_)
        · rw [ha]
          cases hd : o.dst with
          | none =>
            simp only [Act.put]
            congr 1
            have key : ∀ (os : List Oper) (k m : Nat) (t : Array Value), os[m]? = some o → fillA (updX x (k + m) v) k os t = fillA x k os t := by
              intro os
              induction os with
              | nil => intro k m t h; rfl
              | cons p os ihs =>
                intro k m t h
                cases m with
                | zero =>
                  simp only [List.getElem?_cons_zero, Option.some.injEq] at h
                  subst h
                  simp only [fillA, hd]
                  exact fillA_congr os (k + 1) _ fun j hj => by simp only [updX]; rw [if_neg (by omega)]
                | succ m =>
                  simp only [fillA]
                  have e1 : updX x (k + (m + 1)) v k = x k := by simp only [updX]; rw [if_neg (by omega)]
                  rw [e1, show k + (m + 1) = k + 1 + m by omega]
                  exact ihs (k + 1) m _ (by simpa using h)
            have := key l 0 i a0.tmps ho'
            rw [Nat.zero_add] at this
            exact this.symm
          | some d =>
            simp only [Act.put]
            congr 1
            have := fillA_upd (x := x) (v := v) l 0 i o a0.tmps hn ho' hd
            rw [Nat.zero_add] at this
            exact this.symm
        · by_cases hji : j = i
          · subst hji
            simpa [updX] using hv
          · have e1 : updX x i v j = x j := by simp only [updX]; rw [if_neg hji]
            rw [e1]
            rw [getD_set_ne true (Ne.symm hji)] at hl
            exact (atC Φ j).mono _ _ _ hTW (hx j hj hl)
        · by_cases his : i = s
          · subst his
            exfalso
            simp [show i < listed.size by omega] at hl
          · rw [getD_set_ne true his] at hl
            exact (hSW.resolve_left his) (hS hl)
        · by_cases hji : j = i
          · subst hji
            simp [show j < listed.size by omega]
          · rw [getD_set_ne true (Ne.symm hji)]
            by_cases his : i = q
            · subst his
              unfold waits at hw
              rw [ho'] at hw
              exact (hdep' j (by simpa using hw)).1
            · rw [getD_set_ne true his] at hl
              exact hws q hql hl j hw
        · by_cases hji : j = i
          · subst hji
            exfalso
            simp [show j < listed.size by omega] at hl
          · have e1 : updX x i v j = x j := by simp only [updX]; rw [if_neg hji]
            rw [e1]
            rw [getD_set_ne true (Ne.symm hji)] at hl
            exact hin j hjl hl)
    unfold wantOp at hst
    unfold wpOp
    simp only [ho]
    split
    · rename_i hw
      rw [if_pos hw] at hst
      exact .inl hst
    · rename_i hw
      rw [if_neg hw] at hst
      exact hst

/-- A REGION THAT DRAWS ITS ORDER AND HOLDS A STORE, operation s: what the store waits for sees the world as S says. -/
theorem region_rel2 {id : Nat} {l : List Oper} {a0 : Act} {w : World} (s : Nat) (S : World → Prop) (T : World → World → Prop) (Φ : List (Cd T)) (hm : P.follows .mixedOrders = true) (hn : (dsts l).Nodup) (he : edgesBack l = true)
    (hS : S w.drew) (hrf : T w.drew w.drew) (htr : ∀ W1 W2 W3, T W1 W2 → T W2 W3 → T W1 W3)
    (hsteps : ∀ x W, T w.drew W → ∀ a, a = (⟨fillA x 0 l a0.tmps, a0.defers⟩ : Act) → Steps2 P l a0.tmps Q s S Φ x a W 0 l)
    (hdone : ∀ x W, T w.drew W → (∀ i, i < l.length → (atC Φ i).p (x i) W) → ∀ a, a = (⟨fillA x 0 l a0.tmps, a0.defers⟩ : Act) → Q .normal a W) :
    (Code.region id l.toArray true).wp P Q a0 w := by
  refine wp_region_any hm (rel2_any (a0 := a0) (w1 := w.drew) (Φ := Φ) (s := s) (S := S) hn he htr hsteps hdone l.toArray.size (Array.replicate l.toArray.size false) (asIs l a0.tmps) a0 w.drew ?_ ?_ hrf ?_ (fun _ => hS) ?_ ?_ (fun _ _ _ => rfl))
  · simpa using unl_false l.length l.length (Nat.le_refl _)
  · rw [fillA_start]
  · intro i hi h
    exfalso
    simp [hi] at h
  · intro j hsl h
    exfalso
    simp [hsl] at h
  · simp
end Go.Proofs.Ytpankfbdlakmcaa.Mem
