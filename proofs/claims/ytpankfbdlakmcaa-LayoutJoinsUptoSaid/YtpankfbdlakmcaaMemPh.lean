/-
  Words of no layer: a region that draws its order, some of whose operations (the writers) turn the world from phase to phase: G says how the world is, by which operations are done and what they left.
-/
import Derived.Test.YtpankfbdlakmcaaMemRel
namespace Go.Proofs.Ytpankfbdlakmcaa.Mem
set_option linter.unusedVariables false

/-- Does operation s wait for operation i? -/
def waitsP (l : List Oper) (s i : Nat) : Bool := ((l[s]?).map fun o => o.after.any fun e => Region.binds .any e && e.on == i).getD false
def setD (d : Nat → Bool) (i : Nat) : Nat → Bool := fun j => if j = i then true else d j
/-- What is asked of operation i. -/
def StepP (P : Program) (l : List Oper) (Q : Exit → Act → World → Prop) (ws : List Nat) (G : (Nat → Bool) → (Nat → Value) → World → Prop) {T : World → World → Prop} (Φ : List (Cd T)) (x : Nat → Value) (a : Act) (W : World) (i : Nat) (o : Oper) : Prop :=
  ∀ d : Nat → Bool, d i = false → (∀ j, waitsP l i j = true → d j = true) → (∀ k j, d k = true → waitsP l k j = true → d j = true) → (∀ j, d j = true → (atC Φ j).p (x j) W) → G d x W →
  ∀ K : Act → World → Prop, Shut (∀ v W', (if ws.contains i = true then T W W' ∧ G (setD d i) (updX x i v) W' else RowKit.Below W.heap.size W W') → (atC Φ i).p v W' → K (a.put o.dst v) W') → wantOp P l Q o K a W
def StepsP (P : Program) (l : List Oper) (Q : Exit → Act → World → Prop) (ws : List Nat) (G : (Nat → Bool) → (Nat → Value) → World → Prop) {T : World → World → Prop} (Φ : List (Cd T)) (x : Nat → Value) (a : Act) (W : World) : Nat → List Oper → Prop
  | _, [] => True
  | i, o :: os => StepP P l Q ws G Φ x a W i o ∧ StepsP P l Q ws G Φ x a W (i + 1) os
variable {P : Program} {Q : Exit → Act → World → Prop}
theorem StepsP.get {l : List Oper} {ws : List Nat} {G : (Nat → Bool) → (Nat → Value) → World → Prop} {T : World → World → Prop} {Φ : List (Cd T)} {x : Nat → Value} {a : Act} {W : World} : ∀ (os : List Oper) (k i : Nat) (o : Oper), StepsP P l Q ws G Φ x a W k os → os[i]? = some o → StepP P l Q ws G Φ x a W (k + i) o
  | [], _, _, _, _, h => by simp at h
  | p :: os, k, 0, o, hs, h => by
    simp only [List.getElem?_cons_zero, Option.some.injEq] at h
    subst h
    exact hs.1
  | p :: os, k, i + 1, o, hs, h => by
    have := StepsP.get os (k + 1) i o hs.2 (by simpa using h)
    rwa [show k + 1 + i = k + (i + 1) by omega] at this

def doneOf (n : Nat) (listed : Array Bool) : Nat → Bool := fun j => decide (j < n) && listed.getD j true
theorem ph_any {l : List Oper} {ws : List Nat} {G : (Nat → Bool) → (Nat → Value) → World → Prop} {T : World → World → Prop} {Φ : List (Cd T)} {a0 : Act} {w1 : World} (hn : (dsts l).Nodup) (he : edgesBack l = true) (htr : ∀ W1 W2 W3, T W1 W2 → T W2 W3 → T W1 W3)
    (hTB : ∀ W W', RowKit.Below W.heap.size W W' → T W W')
    (hG : ∀ d d' x x' W W', (∀ j, ws.contains j = true → d' j = d j ∧ (d j = true → x' j = x j)) → RowKit.Below W.heap.size W W' → G d x W → G d' x' W')
    (hsteps : ∀ x W, T w1 W → ∀ a, a = (⟨fillA x 0 l a0.tmps, a0.defers⟩ : Act) → StepsP P l Q ws G Φ x a W 0 l)
    (hdone : ∀ d x W, T w1 W → (∀ i, i < l.length → d i = true) → (∀ i, i < l.length → (atC Φ i).p (x i) W) → G d x W → ∀ a, a = (⟨fillA x 0 l a0.tmps, a0.defers⟩ : Act) → Q .normal a W) :
    ∀ (fuel : Nat) (listed : Array Bool) (x : Nat → Value) (a : Act) (W : World), unl listed l.length = fuel → a = ⟨fillA x 0 l a0.tmps, a0.defers⟩ → T w1 W → (∀ i, i < l.length → listed.getD i true = true → (atC Φ i).p (x i) W) →
      (∀ k j, doneOf l.length listed k = true → waitsP l k j = true → doneOf l.length listed j = true) → G (doneOf l.length listed) x W →
      wpAny P .any l.toArray Q fuel listed a W := by
  have all : ∀ listed : Array Bool, Region.ready .any l.toArray listed = [] → ∀ i, i < l.length → listed.getD i true = true := by
    intro listed hr i
    induction i using Nat.strongRecOn with
    | _ i ih =>
      intro hi
      by_cases hl : listed.getD i true = true
      · exact hl
      · exfalso
        have hm : i ∈ Region.ready .any l.toArray listed := mem_ready.2 ⟨by simpa using hl, l[i], by simp [hi], fun e hm hb => by
          have h1 := List.all_eq_true.1 he i (List.mem_range.2 hi)
          simp only [List.getElem?_eq_getElem hi] at h1
          have h2 := Array.all_eq_true_iff_forall_mem.1 h1 e hm
          simp only [hb, Bool.not_true, Bool.false_or, decide_eq_true_eq] at h2
          have h3 := ih e.on h2 (by omega)
          rcases Nat.lt_or_ge e.on listed.size with h' | h'
          · simpa [h'] using h3
          · exfalso
            have h4 : listed.getD i true = true := by simp [Array.getElem?_eq_none (show listed.size ≤ i by omega)]
            exact hl h4⟩
        rw [hr] at hm
        cases hm
  intro fuel
  induction fuel with
  | zero =>
    intro listed x a W hf ha hT hx hcl hg
    have hall := unl_none hf
    refine ⟨?_, hdone _ x W hT (fun i hi => by simp only [doneOf, hi, decide_true, Bool.true_and]; exact hall i hi) (fun i hi => hx i hi (hall i hi)) hg a ha⟩
    cases hr : Region.ready .any l.toArray listed with
    | nil => rfl
    | cons i rs =>
      exfalso
      obtain ⟨h0, o, ho, _⟩ := mem_ready.1 (show i ∈ Region.ready .any l.toArray listed by rw [hr]; exact List.mem_cons_self ..)
      have hi : i < l.length := by
        have := (Array.getElem?_eq_some_iff.1 ho).1
        simpa using this
      rw [hall i hi] at h0
      cases h0
  | succ fuel ih =>
    intro listed x a W hf ha hT hx hcl hg
    refine ⟨fun hr => hdone _ x W hT (fun i hi => by simp only [doneOf, hi, decide_true, Bool.true_and]; exact all listed hr i hi) (fun i hi => hx i hi (all listed hr i hi)) hg a ha, fun i hi => ?_⟩
    obtain ⟨h0, o, ho, hdep⟩ := mem_ready.1 hi
    have ho' : l[i]? = some o := by simpa using ho
    have hil : i < l.length := (List.getElem?_eq_some_iff.1 ho').1
    have hdi : doneOf l.length listed i = false := by simp only [doneOf, hil, decide_true, Bool.true_and]; exact h0
    have hwd : ∀ j, waitsP l i j = true → doneOf l.length listed j = true := fun j hj => by
      unfold waitsP at hj
      simp only [ho', Option.map_some, Option.getD_some] at hj
      rw [← Array.any_toList, List.any_eq_true] at hj
      obtain ⟨e, hm0, hb⟩ := hj
      have hm : e ∈ o.after := Array.mem_toList_iff.1 hm0
      simp only [Bool.and_eq_true, beq_iff_eq] at hb
      have h1 := hdep e hm hb.1
      rw [hb.2] at h1
      have hjl : j < listed.size := by
        rcases Nat.lt_or_ge j listed.size with h' | h'
        · exact h'
        · simp [Array.getElem?_eq_none h'] at h1
      have h2 := List.all_eq_true.1 he i (List.mem_range.2 hil)
      simp only [ho'] at h2
      have h3 := Array.all_eq_true_iff_forall_mem.1 h2 e hm
      simp only [hb.1, Bool.not_true, Bool.false_or, decide_eq_true_eq] at h3
      have hj' : j < l.length := by omega
      simp only [doneOf, hj', decide_true, Bool.true_and]
      simpa [hjl] using h1
    have hset : ∀ j, doneOf l.length (listed.setIfInBounds i true) j = setD (doneOf l.length listed) i j := fun j => by
      unfold doneOf setD
      by_cases hji : j = i
      · subst hji
        have hs : j < listed.size := by
          rcases Nat.lt_or_ge j listed.size with h' | h'
          · exact h'
          · simp [Array.getElem?_eq_none h'] at h0
        simp [hil, hs]
      · rw [if_neg hji, getD_set_ne true (Ne.symm hji)]
    have hfill : ∀ v, a.put o.dst v = ⟨fillA (updX x i v) 0 l a0.tmps, a0.defers⟩ := fun v => by
      rw [ha]
      cases hd : o.dst with
      | none =>
        simp only [Act.put]
        congr 1
        have key : ∀ (os : List Oper) (k m : Nat) (t : Array Value), os[m]? = some o → fillA (updX x (k + m) v) k os t = fillA x k os t := by
          intro os
          induction os with
          | nil => intro k m t h; rfl
          | cons p os ihs =>
            intro k m t h
            cases m with
            | zero =>
              simp only [List.getElem?_cons_zero, Option.some.injEq] at h
              subst h
              simp only [fillA, hd]
              exact fillA_congr os (k + 1) _ fun j hj => by simp only [updX]; rw [if_neg (by omega)]
            | succ m =>
              simp only [fillA]
              have e1 : updX x (k + (m + 1)) v k = x k := by simp only [updX]; rw [if_neg (by omega)]
              rw [e1, show k + (m + 1) = k + 1 + m by omega]
              exact ihs (k + 1) m _ (by simpa using h)
        have := key l 0 i a0.tmps ho'
        rw [Nat.zero_add] at this
        exact this.symm
      | some d =>
        simp only [Act.put]
        congr 1
        have := fillA_upd (x := x) (v := v) l 0 i o a0.tmps hn ho' hd
        rw [Nat.zero_add] at this
        exact this.symm
    have hst := StepsP.get l 0 i o (hsteps x W hT a ha) ho' (doneOf l.length listed) (by rw [Nat.zero_add]; exact hdi) (by rw [Nat.zero_add]; exact hwd) hcl
      (fun j hj => by
        simp only [doneOf, Bool.and_eq_true, decide_eq_true_eq] at hj
        exact hx j hj.1 hj.2) hg
      (fun a' W' => wpAny P .any l.toArray Q fuel (listed.setIfInBounds i true) a' W')
      (by
        intro v W' hTW hv
        rw [Nat.zero_add] at hv hTW
        have hTW' : T W W' := by
          split at hTW
          · exact hTW.1
          · exact hTB _ _ hTW
        have hde : doneOf l.length (listed.setIfInBounds i true) = setD (doneOf l.length listed) i := funext hset
        refine ih (listed.setIfInBounds i true) (updX x i v) _ W' (by have := unl_set h0 hil; omega) (hfill v) (htr _ _ _ hT hTW') (fun j hj hl => ?_) (fun k j hk hw => ?_) ?_
        · by_cases hji : j = i
          · subst hji
            simpa [updX] using hv
          · have e1 : updX x i v j = x j := by simp only [updX]; rw [if_neg hji]
            rw [e1]
            rw [getD_set_ne true (Ne.symm hji)] at hl
            exact (atC Φ j).mono _ _ _ hTW' (hx j hj hl)
        · rw [hde] at hk ⊢
          unfold setD at hk ⊢
          by_cases hji : j = i
          · rw [if_pos hji]
          · rw [if_neg hji]
            by_cases hki : k = i
            · subst hki; exact hwd j hw
            · rw [if_neg hki] at hk; exact hcl k j hk hw
        · rw [hde]
          split at hTW
          · exact hTW.2
          · rename_i hns
            refine hG _ _ _ _ _ _ (fun j hj => ?_) hTW hg
            have hji : j ≠ i := fun e => hns (e ▸ hj)
            exact ⟨by unfold setD; rw [if_neg hji], fun _ => by simp only [updX]; rw [if_neg hji]⟩)
    unfold wantOp at hst
    unfold wpOp
    simp only [ho]
    split
    · rename_i hw
      rw [if_pos hw] at hst
      exact .inl hst
    · rename_i hw
      rw [if_neg hw] at hst
      exact hst

/-- A REGION THAT DRAWS ITS ORDER, BY PHASES. -/
theorem region_ph {id : Nat} {l : List Oper} {a0 : Act} {w : World} (ws : List Nat) (G : (Nat → Bool) → (Nat → Value) → World → Prop) (T : World → World → Prop) (Φ : List (Cd T)) (hm : P.follows .mixedOrders = true) (hn : (dsts l).Nodup) (he : edgesBack l = true)
    (hrf : T w.drew w.drew) (htr : ∀ W1 W2 W3, T W1 W2 → T W2 W3 → T W1 W3)
    (hTB : ∀ W W', RowKit.Below W.heap.size W W' → T W W')
    (hG : ∀ d d' x x' W W', (∀ j, ws.contains j = true → d' j = d j ∧ (d j = true → x' j = x j)) → RowKit.Below W.heap.size W W' → G d x W → G d' x' W')
    (hG0 : ∀ x, G (fun _ => false) x w.drew)
    (hsteps : ∀ x W, T w.drew W → ∀ a, a = (⟨fillA x 0 l a0.tmps, a0.defers⟩ : Act) → StepsP P l Q ws G Φ x a W 0 l)
    (hdone : ∀ d x W, T w.drew W → (∀ i, i < l.length → d i = true) → (∀ i, i < l.length → (atC Φ i).p (x i) W) → G d x W → ∀ a, a = (⟨fillA x 0 l a0.tmps, a0.defers⟩ : Act) → Q .normal a W) :
    (Code.region id l.toArray true).wp P Q a0 w := by
  have hdf : doneOf l.length (Array.replicate l.toArray.size false) = fun _ => false := by
    funext j
    unfold doneOf
    by_cases hj : j < l.length
    · simp [hj]
    · simp [hj]
  refine wp_region_any hm (ph_any (a0 := a0) (w1 := w.drew) (Φ := Φ) hn he htr hTB hG hsteps hdone l.toArray.size (Array.replicate l.toArray.size false) (asIs l a0.tmps) a0 w.drew ?_ ?_ hrf ?_ ?_ ?_)
  · simpa using unl_false l.length l.length (Nat.le_refl _)
  · rw [fillA_start]
  · intro i hi h
    exfalso
    simp [hi] at h
  · intro k j hk
    rw [hdf] at hk
    cases hk
  · rw [hdf]
    exact hG0 _
end Go.Proofs.Ytpankfbdlakmcaa.Mem
