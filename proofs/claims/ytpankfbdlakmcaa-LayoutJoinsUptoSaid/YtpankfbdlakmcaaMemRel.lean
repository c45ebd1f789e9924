/-
  Words of no layer: a region that draws its order, walked once for all orders: what each operation leaves is told by a condition on its value and the world, which no later operation breaks.
-/
import Derived.Deep.RegionHeld3
import Derived.Below
namespace Go.Proofs.Ytpankfbdlakmcaa.Mem
set_option linter.unusedVariables false

/-- A condition on a value and the world that no step from world to world breaks. -/
structure Cd (T : World → World → Prop) where
  p : Value → World → Prop
  mono : ∀ v W W', T W W' → p v W → p v W'
def Cd.any {T : World → World → Prop} : Cd T := ⟨fun _ _ => True, fun _ _ _ _ _ => trivial⟩
def Cd.is {T : World → World → Prop} (u : Value) : Cd T := ⟨fun v _ => v = u, fun _ _ _ _ h => h⟩
/-- The condition on operation i of a region. -/
def atC {T : World → World → Prop} (Φ : List (Cd T)) (i : Nat) : Cd T := Φ.getD i Cd.any

/-- The frame's slots when each operation's slot holds its x. -/
def fillA (x : Nat → Value) : Nat → List Oper → Array Value → Array Value
  | _, [], t => t
  | i, o :: os, t => fillA x (i + 1) os (match o.dst with | some d => t.setIfInBounds d (x i) | none => t)
def updX (x : Nat → Value) (i : Nat) (v : Value) : Nat → Value := fun j => if j = i then v else x j
def dsts (l : List Oper) : List Nat := l.filterMap fun o => o.dst

theorem fillA_congr {x x' : Nat → Value} : ∀ (l : List Oper) (i : Nat) (t : Array Value), (∀ j, i ≤ j → x j = x' j) → fillA x i l t = fillA x' i l t
  | [], _, _, _ => rfl
  | o :: os, i, t, h => by
    simp only [fillA]
    rw [h i (Nat.le_refl _)]
    exact fillA_congr os (i + 1) _ fun j hj => h j (by omega)
theorem fillA_set {x : Nat → Value} {d : Nat} {v : Value} : ∀ (l : List Oper) (i : Nat) (t : Array Value), d ∉ dsts l → fillA x i l (t.setIfInBounds d v) = (fillA x i l t).setIfInBounds d v
  | [], _, _, _ => rfl
  | o :: os, i, t, h => by
    have h2 : d ∉ dsts os := fun hm => h (by simp only [dsts, List.filterMap_cons] at hm ⊢; split <;> simp_all)
    simp only [fillA]
    cases hd : o.dst with
    | none => exact fillA_set os (i + 1) t h2
    | some e =>
      have hne : e ≠ d := fun he => h (by simp only [dsts, List.filterMap_cons, hd, he]; exact List.mem_cons_self ..)
      simp only
      rw [← fillA_set os (i + 1) (t.setIfInBounds e (x i)) h2, Array.setIfInBounds_comm _ _ hne]
theorem fillA_upd {x : Nat → Value} {d : Nat} {v : Value} : ∀ (l : List Oper) (i j : Nat) (o : Oper) (t : Array Value), (dsts l).Nodup → l[j]? = some o → o.dst = some d → fillA (updX x (i + j) v) i l t = (fillA x i l t).setIfInBounds d v
  | [], _, _, _, _, _, h, _ => by simp at h
  | p :: os, i, 0, o, t, hn, h, hd => by
    simp only [List.getElem?_cons_zero, Option.some.injEq] at h
    subst h
    have hn' : d ∉ dsts os ∧ (dsts os).Nodup := by
      simp only [dsts, List.filterMap_cons, hd] at hn
      exact List.nodup_cons.1 hn
    simp only [fillA, hd, Nat.add_zero]
    rw [fillA_congr (x' := x) os (i + 1) _ (fun k hk => by simp only [updX]; rw [if_neg (by omega)])]
    rw [← fillA_set os (i + 1) _ hn'.1]
    simp [updX]
  | p :: os, i, j + 1, o, t, hn, h, hd => by
    have hn' : (dsts os).Nodup := by
      simp only [dsts, List.filterMap_cons] at hn
      split at hn
      · exact hn
      · exact (List.nodup_cons.1 hn).2
    simp only [fillA]
    have e1 : updX x (i + (j + 1)) v i = x i := by simp only [updX]; rw [if_neg (by omega)]
    rw [e1, show i + (j + 1) = i + 1 + j by omega]
    exact fillA_upd os (i + 1) j o _ hn' (by simpa using h) hd
theorem set_same {t : Array Value} {d : Nat} : t.setIfInBounds d (t.getD d undef) = t := by
  apply Array.ext_getElem?
  intro k
  rw [Array.getElem?_setIfInBounds]
  by_cases h : d = k
  · subst h
    by_cases hk : d < t.size
    · simp [hk]
    · simp [hk]
  · simp [h]
/-- The slots as they stand, as what each operation leaves. -/
def asIs (l : List Oper) (t : Array Value) : Nat → Value := fun j => ((l[j]?).bind (·.dst)).elim undef (fun d => t.getD d undef)
theorem fillA_asIs (t : Array Value) : ∀ (l : List Oper) (i : Nat) (x : Nat → Value), (∀ j o d, l[j]? = some o → o.dst = some d → x (i + j) = t.getD d undef) → fillA x i l t = t
  | [], _, _, _ => rfl
  | o :: os, i, x, h => by
    simp only [fillA]
    have e : (match o.dst with | some d => t.setIfInBounds d (x i) | none => t) = t := by
      cases hd : o.dst with
      | none => rfl
      | some d =>
        have := h 0 o d rfl hd
        rw [Nat.add_zero] at this
        simp only [this]
        exact set_same
    rw [e]
    exact fillA_asIs t os (i + 1) x fun j o' d hj hd => by
      rw [show i + 1 + j = i + (j + 1) by omega]
      exact h (j + 1) o' d (by simpa using hj) hd
theorem fillA_start (l : List Oper) (t : Array Value) : fillA (asIs l t) 0 l t = t :=
  fillA_asIs t l 0 _ fun j o d hj hd => by simp [asIs, hj, hd]

/-- How many of the first n are not listed. -/
def unl (listed : Array Bool) : Nat → Nat
  | 0 => 0
  | n + 1 => unl listed n + if listed.getD n true = false then 1 else 0
theorem unl_none {listed : Array Bool} : ∀ {n : Nat}, unl listed n = 0 → ∀ i, i < n → listed.getD i true = true
  | 0, _, i, h => by omega
  | n + 1, h, i, hi => by
    simp only [unl] at h
    by_cases hl : listed.getD n true = false
    · rw [if_pos hl] at h; omega
    · by_cases hin : i = n
      · subst hin; simpa using hl
      · exact unl_none (n := n) (by omega) i (by omega)
theorem unl_set_out {listed : Array Bool} {i : Nat} : ∀ {n : Nat}, n ≤ i → unl (listed.setIfInBounds i true) n = unl listed n
  | 0, _ => rfl
  | n + 1, h => by
    simp only [unl]
    rw [unl_set_out (n := n) (by omega), getD_set_ne true (show i ≠ n by omega)]
theorem unl_set {listed : Array Bool} {i : Nat} (hu : listed.getD i true = false) : ∀ {n : Nat}, i < n → unl (listed.setIfInBounds i true) n + 1 = unl listed n
  | 0, h => by omega
  | n + 1, h => by
    simp only [unl]
    by_cases hin : i = n
    · subst hin
      rw [unl_set_out (Nat.le_refl _), if_pos hu]
      have hs : i < listed.size := by
        rcases Nat.lt_or_ge i listed.size with h' | h'
        · exact h'
        · simp [Array.getElem?_eq_none h'] at hu
      simp [hs]
    · rw [getD_set_ne true hin]
      have := unl_set hu (n := n) (by omega)
      omega

variable {P : Program} {Q : Exit → Act → World → Prop}

/-- One operation, carried out if its guard lets it. -/
def wantOp (P : Program) (l : List Oper) (Q : Exit → Act → World → Prop) (o : Oper) (K : Act → World → Prop) (a : Act) (w : World) : Prop :=
  if Region.wanted o (yielded l.toArray a.tmps) = true then o.wp P a w K Q else K (a.put o.dst undef) w

/-- Every edge leads back. -/
def edgesBack (l : List Oper) : Bool := (List.range l.length).all fun i => match l[i]? with
  | some o => o.after.all fun e => !Region.binds .any e || decide (e.on < i)
  | none => true

/-- What operations i, i+1, .. must do. -/
def Steps (P : Program) (l : List Oper) (Q : Exit → Act → World → Prop) {T : World → World → Prop} (Φ : List (Cd T)) (x : Nat → Value) (a : Act) (W : World) : Nat → List Oper → Prop
  | _, [] => True
  | i, o :: os => ((∀ j, (o.after.any fun e => Region.binds .any e && e.on == j) = true → (atC Φ j).p (x j) W) → ∀ K : Act → World → Prop, Shut (∀ v W', T W W' → (atC Φ i).p v W' → K (a.put o.dst v) W') → wantOp P l Q o K a W) ∧ Steps P l Q Φ x a W (i + 1) os

theorem Steps.get {l : List Oper} {T : World → World → Prop} {Φ : List (Cd T)} {x : Nat → Value} {a : Act} {W : World} : ∀ (os : List Oper) (k i : Nat) (o : Oper), Steps P l Q Φ x a W k os → os[i]? = some o →
    ((∀ j, (o.after.any fun e => Region.binds .any e && e.on == j) = true → (atC Φ j).p (x j) W) → ∀ K : Act → World → Prop, Shut (∀ v W', T W W' → (atC Φ (k + i)).p v W' → K (a.put o.dst v) W') → wantOp P l Q o K a W)
  | [], _, _, _, _, h => by simp at h
  | p :: os, k, 0, o, hs, h => by
    simp only [List.getElem?_cons_zero, Option.some.injEq] at h
    subst h
    exact hs.1
  | p :: os, k, i + 1, o, hs, h => by
    have := Steps.get os (k + 1) i o hs.2 (by simpa using h)
    rwa [show k + 1 + i = k + (i + 1) by omega] at this

theorem rel_any {l : List Oper} {T : World → World → Prop} {Φ : List (Cd T)} {a0 : Act} {w1 : World} (hn : (dsts l).Nodup) (he : edgesBack l = true) (htr : ∀ W1 W2 W3, T W1 W2 → T W2 W3 → T W1 W3)
    (hsteps : ∀ x W, T w1 W → ∀ a, a = (⟨fillA x 0 l a0.tmps, a0.defers⟩ : Act) → Steps P l Q Φ x a W 0 l)
    (hdone : ∀ x W, T w1 W → (∀ i, i < l.length → (atC Φ i).p (x i) W) → ∀ a, a = (⟨fillA x 0 l a0.tmps, a0.defers⟩ : Act) → Q .normal a W) :
    ∀ (fuel : Nat) (listed : Array Bool) (x : Nat → Value) (a : Act) (W : World), unl listed l.length = fuel → a = ⟨fillA x 0 l a0.tmps, a0.defers⟩ → T w1 W → (∀ i, i < l.length → listed.getD i true = true → (atC Φ i).p (x i) W) →
      wpAny P .any l.toArray Q fuel listed a W := by
  have all : ∀ listed : Array Bool, Region.ready .any l.toArray listed = [] → ∀ i, i < l.length → listed.getD i true = true := by
    intro listed hr i
    induction i using Nat.strongRecOn with
    | _ i ih =>
      intro hi
      by_cases hl : listed.getD i true = true
      · exact hl
      · exfalso
        have hm : i ∈ Region.ready .any l.toArray listed := mem_ready.2 ⟨by simpa using hl, l[i], by simp [hi], fun e hm hb => by
          have h1 := List.all_eq_true.1 he i (List.mem_range.2 hi)
          simp only [List.getElem?_eq_getElem hi] at h1
          have h2 := Array.all_eq_true_iff_forall_mem.1 h1 e hm
          simp only [hb, Bool.not_true, Bool.false_or, decide_eq_true_eq] at h2
          have h3 := ih e.on h2 (by omega)
          rcases Nat.lt_or_ge e.on listed.size with h' | h'
          · simpa [h'] using h3
          · exfalso
            have h4 : listed.getD i true = true := by simp [Array.getElem?_eq_none (show listed.size ≤ i by omega)]
            exact hl h4⟩
        rw [hr] at hm
        cases hm
  intro fuel
  induction fuel with
  | zero =>
    intro listed x a W hf ha hT hx
    have hall := unl_none hf
    refine ⟨?_, hdone x W hT (fun i hi => hx i hi (hall i hi)) a ha⟩
    cases hr : Region.ready .any l.toArray listed with
    | nil => rfl
    | cons i rs =>
      exfalso
      obtain ⟨h0, o, ho, _⟩ := mem_ready.1 (show i ∈ Region.ready .any l.toArray listed by rw [hr]; exact List.mem_cons_self ..)
      have hi : i < l.length := by
        have := (Array.getElem?_eq_some_iff.1 ho).1
        simpa using this
      rw [hall i hi] at h0
      cases h0
  | succ fuel ih =>
    intro listed x a W hf ha hT hx
    refine ⟨fun hr => hdone x W hT (fun i hi => hx i hi (all listed hr i hi)) a ha, fun i hi => ?_⟩
    obtain ⟨h0, o, ho, hdep⟩ := mem_ready.1 hi
    have ho' : l[i]? = some o := by simpa using ho
    have hil : i < l.length := (List.getElem?_eq_some_iff.1 ho').1
    have hst := Steps.get l 0 i o (hsteps x W hT a ha) ho' (fun j hj => by
      rw [← Array.any_toList, List.any_eq_true] at hj
      obtain ⟨e, hm0, hb⟩ := hj
      have hm : e ∈ o.after := Array.mem_toList_iff.1 hm0
      simp only [Bool.and_eq_true, beq_iff_eq] at hb
      have h1 := hdep e hm hb.1
      rw [hb.2] at h1
      have hjl : j < listed.size := by
        rcases Nat.lt_or_ge j listed.size with h' | h'
        · exact h'
        · simp [Array.getElem?_eq_none h'] at h1
      have h2 := List.all_eq_true.1 he i (List.mem_range.2 hil)
      simp only [ho'] at h2
      have h3 := Array.all_eq_true_iff_forall_mem.1 h2 e hm
      simp only [hb.1, Bool.not_true, Bool.false_or, decide_eq_true_eq] at h3
      exact hx j (by omega) (by simpa [hjl] using h1))
      (fun a' W' => wpAny P .any l.toArray Q fuel (listed.setIfInBounds i true) a' W')
      (by
        intro v W' hTW hv
        rw [Nat.zero_add] at hv
        refine ih (listed.setIfInBounds i true) (updX x i v) _ W' (by have := unl_set h0 hil; omega) ?_ (htr _ _ _ hT hTW) (fun j hj hl => ?_)
        · rw [ha]
          cases hd : o.dst with
          | none =>
            simp only [Act.put]
            congr 1
            have key : ∀ (os : List Oper) (k m : Nat) (t : Array Value), os[m]? = some o → fillA (updX x (k + m) v) k os t = fillA x k os t := by
              intro os
              induction os with
              | nil => intro k m t h; rfl
              | cons p os ihs =>
                intro k m t h
                cases m with
                | zero =>
                  simp only [List.getElem?_cons_zero, Option.some.injEq] at h
                  subst h
                  simp only [fillA, hd]
                  exact fillA_congr os (k + 1) _ fun j hj => by simp only [updX]; rw [if_neg (by omega)]
                | succ m =>
                  simp only [fillA]
                  have e1 : updX x (k + (m + 1)) v k = x k := by simp only [updX]; rw [if_neg (by omega)]
                  rw [e1, show k + (m + 1) = k + 1 + m by omega]
                  exact ihs (k + 1) m _ (by simpa using h)
            have := key l 0 i a0.tmps ho'
            rw [Nat.zero_add] at this
            exact this.symm
          | some d =>
            simp only [Act.put]
            congr 1
            have := fillA_upd (x := x) (v := v) l 0 i o a0.tmps hn ho' hd
            rw [Nat.zero_add] at this
            exact this.symm
        · by_cases hji : j = i
          · subst hji
            simpa [updX] using hv
          · have e1 : updX x i v j = x j := by simp only [updX]; rw [if_neg hji]
            rw [e1]
            rw [getD_set_ne true (Ne.symm hji)] at hl
            exact (atC Φ j).mono _ _ _ hTW (hx j hj hl))
    unfold wantOp at hst
    unfold wpOp
    simp only [ho]
    split
    · rename_i hw
      rw [if_pos hw] at hst
      exact .inl hst
    · rename_i hw
      rw [if_neg hw] at hst
      exact hst

theorem unl_false : ∀ (m n : Nat), n ≤ m → unl (Array.replicate m false) n = n
  | m, 0, _ => rfl
  | m, n + 1, h => by
    simp only [unl]
    rw [unl_false m n (by omega)]
    simp [show n < m by omega]

theorem undrew {w W : World} (h : RowKit.Below w.drew.heap.size w.drew W) : RowKit.Below w.heap.size w W := ⟨h.os, h.tape, h.output, h.size, h.block⟩

/-- A REGION THAT DRAWS ITS ORDER, BY CONDITIONS. -/
theorem region_rel {id : Nat} {l : List Oper} {a0 : Act} {w : World} (T : World → World → Prop) (Φ : List (Cd T)) (hm : P.follows .mixedOrders = true) (hn : (dsts l).Nodup) (he : edgesBack l = true)
    (hrf : T w.drew w.drew) (htr : ∀ W1 W2 W3, T W1 W2 → T W2 W3 → T W1 W3)
    (hsteps : ∀ x W, T w.drew W → ∀ a, a = (⟨fillA x 0 l a0.tmps, a0.defers⟩ : Act) → Steps P l Q Φ x a W 0 l)
    (hdone : ∀ x W, T w.drew W → (∀ i, i < l.length → (atC Φ i).p (x i) W) → ∀ a, a = (⟨fillA x 0 l a0.tmps, a0.defers⟩ : Act) → Q .normal a W) :
    (Code.region id l.toArray true).wp P Q a0 w := by
  refine wp_region_any hm (rel_any (a0 := a0) (w1 := w.drew) (Φ := Φ) hn he htr hsteps hdone l.toArray.size (Array.replicate l.toArray.size false) (asIs l a0.tmps) a0 w.drew ?_ ?_ hrf ?_)
  · simpa using unl_false l.length l.length (Nat.le_refl _)
  · rw [fillA_start]
  · intro i hi h
    exfalso
    simp [hi] at h
end Go.Proofs.Ytpankfbdlakmcaa.Mem
