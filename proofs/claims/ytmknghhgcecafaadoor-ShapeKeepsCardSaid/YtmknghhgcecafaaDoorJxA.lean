import Derived.Deep.RegionHeld3
import Derived.Below
import Derived.Test.YtmknghhgcecafaaDoorChecked
import Derived.WalkKit
import Derived.ProofKit
import Derived.OpenShut
import Derived.Lib.Hide
import Derived.Outline
import Derived.WalkMore
import Derived.OneCell
import Derived.OwnWalk
import Derived.Maps.AppendAt

/-
  Words of no layer: a region that draws its order, walked once for all orders: what each operation leaves is told by a condition on its value and the world, which no later operation breaks.
-/
namespace Go.Proofs.YtmknghhgcecafaaDoor.Mem
set_option linter.unusedVariables false

/-- A condition on a value and the world that no step from world to world breaks. -/
structure Cd (T : World → World → Prop) where
  p : Value → World → Prop
  mono : ∀ v W W', T W W' → p v W → p v W'
def Cd.any {T : World → World → Prop} : Cd T := ⟨fun _ _ => True, fun _ _ _ _ _ => trivial⟩
def Cd.is {T : World → World → Prop} (u : Value) : Cd T := ⟨fun v _ => v = u, fun _ _ _ _ h => h⟩
/-- The condition on operation i of a region. -/
def atC {T : World → World → Prop} (Φ : List (Cd T)) (i : Nat) : Cd T := Φ.getD i Cd.any

/-- The frame's slots when each operation's slot holds its x. -/
def fillA (x : Nat → Value) : Nat → List Oper → Array Value → Array Value
  | _, [], t => t
  | i, o :: os, t => fillA x (i + 1) os (match o.dst with | some d => t.setIfInBounds d (x i) | none => t)
def updX (x : Nat → Value) (i : Nat) (v : Value) : Nat → Value := fun j => if j = i then v else x j
def dsts (l : List Oper) : List Nat := l.filterMap fun o => o.dst

theorem fillA_congr {x x' : Nat → Value} : ∀ (l : List Oper) (i : Nat) (t : Array Value), (∀ j, i ≤ j → x j = x' j) → fillA x i l t = fillA x' i l t
  | [], _, _, _ => rfl
  | o :: os, i, t, h => by
    simp only [fillA]
    rw [h i (Nat.le_refl _)]
    exact fillA_congr os (i + 1) _ fun j hj => h j (by omega)
theorem fillA_set {x : Nat → Value} {d : Nat} {v : Value} : ∀ (l : List Oper) (i : Nat) (t : Array Value), d ∉ dsts l → fillA x i l (t.setIfInBounds d v) = (fillA x i l t).setIfInBounds d v
  | [], _, _, _ => rfl
  | o :: os, i, t, h => by
    have h2 : d ∉ dsts os := fun hm => h (by simp only [dsts, List.filterMap_cons] at hm ⊢; split <;> simp_all)
    simp only [fillA]
    cases hd : o.dst with
    | none => exact fillA_set os (i + 1) t h2
    | some e =>
      have hne : e ≠ d := fun he => h (by simp only [dsts, List.filterMap_cons, hd, he]; exact List.mem_cons_self ..)
      simp only
      rw [← fillA_set os (i + 1) (t.setIfInBounds e (x i)) h2, Array.setIfInBounds_comm _ _ hne]
theorem fillA_upd {x : Nat → Value} {d : Nat} {v : Value} : ∀ (l : List Oper) (i j : Nat) (o : Oper) (t : Array Value), (dsts l).Nodup → l[j]? = some o → o.dst = some d → fillA (updX x (i + j) v) i l t = (fillA x i l t).setIfInBounds d v
  | [], _, _, _, _, _, h, _ => by simp at h
  | p :: os, i, 0, o, t, hn, h, hd => by
    simp only [List.getElem?_cons_zero, Option.some.injEq] at h
    subst h
    have hn' : d ∉ dsts os ∧ (dsts os).Nodup := by
      simp only [dsts, List.filterMap_cons, hd] at hn
      exact List.nodup_cons.1 hn
    simp only [fillA, hd, Nat.add_zero]
    rw [fillA_congr (x' := x) os (i + 1) _ (fun k hk => by simp only [updX]; rw [if_neg (by omega)])]
    rw [← fillA_set os (i + 1) _ hn'.1]
    simp [updX]
  | p :: os, i, j + 1, o, t, hn, h, hd => by
    have hn' : (dsts os).Nodup := by
      simp only [dsts, List.filterMap_cons] at hn
      split at hn
      · exact hn
      · exact (List.nodup_cons.1 hn).2
    simp only [fillA]
    have e1 : updX x (i + (j + 1)) v i = x i := by simp only [updX]; rw [if_neg (by omega)]
    rw [e1, show i + (j + 1) = i + 1 + j by omega]
    exact fillA_upd os (i + 1) j o _ hn' (by simpa using h) hd
theorem set_same {t : Array Value} {d : Nat} : t.setIfInBounds d (t.getD d undef) = t := by
  apply Array.ext_getElem?
  intro k
  rw [Array.getElem?_setIfInBounds]
  by_cases h : d = k
  · subst h
    by_cases hk : d < t.size
    · simp [hk]
    · simp [hk]
  · simp [h]
/-- The slots as they stand, as what each operation leaves. -/
def asIs (l : List Oper) (t : Array Value) : Nat → Value := fun j => ((l[j]?).bind (·.dst)).elim undef (fun d => t.getD d undef)
theorem fillA_asIs (t : Array Value) : ∀ (l : List Oper) (i : Nat) (x : Nat → Value), (∀ j o d, l[j]? = some o → o.dst = some d → x (i + j) = t.getD d undef) → fillA x i l t = t
  | [], _, _, _ => rfl
  | o :: os, i, x, h => by
    simp only [fillA]
    have e : (match o.dst with | some d => t.setIfInBounds d (x i) | none => t) = t := by
      cases hd : o.dst with
      | none => rfl
      | some d =>
        have := h 0 o d rfl hd
        rw [Nat.add_zero] at this
        simp only [this]
        exact set_same
    rw [e]
    exact fillA_asIs t os (i + 1) x fun j o' d hj hd => by
      rw [show i + 1 + j = i + (j + 1) by omega]
      exact h (j + 1) o' d (by simpa using hj) hd
theorem fillA_start (l : List Oper) (t : Array Value) : fillA (asIs l t) 0 l t = t :=
  fillA_asIs t l 0 _ fun j o d hj hd => by simp [asIs, hj, hd]

/-- How many of the first n are not listed. -/
def unl (listed : Array Bool) : Nat → Nat
  | 0 => 0
  | n + 1 => unl listed n + if listed.getD n true = false then 1 else 0
theorem unl_none {listed : Array Bool} : ∀ {n : Nat}, unl listed n = 0 → ∀ i, i < n → listed.getD i true = true
  | 0, _, i, h => by omega
  | n + 1, h, i, hi => by
    simp only [unl] at h
    by_cases hl : listed.getD n true = false
    · rw [if_pos hl] at h; omega
    · by_cases hin : i = n
      · subst hin; simpa using hl
      · exact unl_none (n := n) (by omega) i (by omega)
theorem unl_set_out {listed : Array Bool} {i : Nat} : ∀ {n : Nat}, n ≤ i → unl (listed.setIfInBounds i true) n = unl listed n
  | 0, _ => rfl
  | n + 1, h => by
    simp only [unl]
    rw [unl_set_out (n := n) (by omega), getD_set_ne true (show i ≠ n by omega)]
theorem unl_set {listed : Array Bool} {i : Nat} (hu : listed.getD i true = false) : ∀ {n : Nat}, i < n → unl (listed.setIfInBounds i true) n + 1 = unl listed n
  | 0, h => by omega
  | n + 1, h => by
    simp only [unl]
    by_cases hin : i = n
    · subst hin
      rw [unl_set_out (Nat.le_refl _), if_pos hu]
      have hs : i < listed.size := by
        rcases Nat.lt_or_ge i listed.size with h' | h'
        · exact h'
        · simp [Array.getElem?_eq_none h'] at hu
      simp [hs]
    · rw [getD_set_ne true hin]
      have := unl_set hu (n := n) (by omega)
      omega

variable {P : Program} {Q : Exit → Act → World → Prop}

/-- One operation, carried out if its guard lets it. -/
def wantOp (P : Program) (l : List Oper) (Q : Exit → Act → World → Prop) (o : Oper) (K : Act → World → Prop) (a : Act) (w : World) : Prop :=
  if Region.wanted o (yielded l.toArray a.tmps) = true then o.wp P a w K Q else K (a.put o.dst undef) w

/-- Every edge leads back. -/
def edgesBack (l : List Oper) : Bool := (List.range l.length).all fun i => match l[i]? with
  | some o => o.after.all fun e => !Region.binds .any e || decide (e.on < i)
  | none => true

/-- What operations i, i+1, .. must do. -/
def Steps (P : Program) (l : List Oper) (Q : Exit → Act → World → Prop) {T : World → World → Prop} (Φ : List (Cd T)) (x : Nat → Value) (a : Act) (W : World) : Nat → List Oper → Prop
  | _, [] => True
  | i, o :: os => ((∀ j, (o.after.any fun e => Region.binds .any e && e.on == j) = true → (atC Φ j).p (x j) W) → ∀ K : Act → World → Prop, Shut (∀ v W', T W W' → (atC Φ i).p v W' → K (a.put o.dst v) W') → wantOp P l Q o K a W) ∧ Steps P l Q Φ x a W (i + 1) os

theorem Steps.get {l : List Oper} {T : World → World → Prop} {Φ : List (Cd T)} {x : Nat → Value} {a : Act} {W : World} : ∀ (os : List Oper) (k i : Nat) (o : Oper), Steps P l Q Φ x a W k os → os[i]? = some o →
    ((∀ j, (o.after.any fun e => Region.binds .any e && e.on == j) = true → (atC Φ j).p (x j) W) → ∀ K : Act → World → Prop, Shut (∀ v W', T W W' → (atC Φ (k + i)).p v W' → K (a.put o.dst v) W') → wantOp P l Q o K a W)
  | [], _, _, _, _, h => by simp at h
  | p :: os, k, 0, o, hs, h => by
    simp only [List.getElem?_cons_zero, Option.some.injEq] at h
    subst h
    exact hs.1
  | p :: os, k, i + 1, o, hs, h => by
    have := Steps.get os (k + 1) i o hs.2 (by simpa using h)
    rwa [show k + 1 + i = k + (i + 1) by omega] at this

theorem rel_any {l : List Oper} {T : World → World → Prop} {Φ : List (Cd T)} {a0 : Act} {w1 : World} (hn : (dsts l).Nodup) (he : edgesBack l = true) (htr : ∀ W1 W2 W3, T W1 W2 → T W2 W3 → T W1 W3)
    (hsteps : ∀ x W, T w1 W → ∀ a, a = (⟨fillA x 0 l a0.tmps, a0.defers⟩ : Act) → Steps P l Q Φ x a W 0 l)
    (hdone : ∀ x W, T w1 W → (∀ i, i < l.length → (atC Φ i).p (x i) W) → ∀ a, a = (⟨fillA x 0 l a0.tmps, a0.defers⟩ : Act) → Q .normal a W) :
    ∀ (fuel : Nat) (listed : Array Bool) (x : Nat → Value) (a : Act) (W : World), unl listed l.length = fuel → a = ⟨fillA x 0 l a0.tmps, a0.defers⟩ → T w1 W → (∀ i, i < l.length → listed.getD i true = true → (atC Φ i).p (x i) W) →
      wpAny P .any l.toArray Q fuel listed a W := by
  have all : ∀ listed : Array Bool, Region.ready .any l.toArray listed = [] → ∀ i, i < l.length → listed.getD i true = true := by
    intro listed hr i
    induction i using Nat.strongRecOn with
    | _ i ih =>
      intro hi
      by_cases hl : listed.getD i true = true
      · exact hl
      · exfalso
        have hm : i ∈ Region.ready .any l.toArray listed := mem_ready.2 ⟨by simpa using hl, l[i], by simp [hi], fun e hm hb => by
          have h1 := List.all_eq_true.1 he i (List.mem_range.2 hi)
          simp only [List.getElem?_eq_getElem hi] at h1
          have h2 := Array.all_eq_true_iff_forall_mem.1 h1 e hm
          simp only [hb, Bool.not_true, Bool.false_or, decide_eq_true_eq] at h2
          have h3 := ih e.on h2 (by omega)
          rcases Nat.lt_or_ge e.on listed.size with h' | h'
          · simpa [h'] using h3
          · exfalso
            have h4 : listed.getD i true = true := by simp [Array.getElem?_eq_none (show listed.size ≤ i by omega)]
            exact hl h4⟩
        rw [hr] at hm
        cases hm
  intro fuel
  induction fuel with
  | zero =>
    intro listed x a W hf ha hT hx
    have hall := unl_none hf
    refine ⟨?_, hdone x W hT (fun i hi => hx i hi (hall i hi)) a ha⟩
    cases hr : Region.ready .any l.toArray listed with
    | nil => rfl
    | cons i rs =>
      exfalso
      obtain ⟨h0, o, ho, _⟩ := mem_ready.1 (show i ∈ Region.ready .any l.toArray listed by rw [hr]; exact List.mem_cons_self ..)
      have hi : i < l.length := by
        have := (Array.getElem?_eq_some_iff.1 ho).1
        simpa using this
      rw [hall i hi] at h0
      cases h0
  | succ fuel ih =>
    intro listed x a W hf ha hT hx
    refine ⟨fun hr => hdone x W hT (fun i hi => hx i hi (all listed hr i hi)) a ha, fun i hi => ?_⟩
    obtain ⟨h0, o, ho, hdep⟩ := mem_ready.1 hi
    have ho' : l[i]? = some o := by simpa using ho
    have hil : i < l.length := (List.getElem?_eq_some_iff.1 ho').1
    have hst := Steps.get l 0 i o (hsteps x W hT a ha) ho' (fun j hj => by
      rw [← Array.any_toList, List.any_eq_true] at hj
      obtain ⟨e, hm0, hb⟩ := hj
      have hm : e ∈ o.after := Array.mem_toList_iff.1 hm0
      simp only [Bool.and_eq_true, beq_iff_eq] at hb
      have h1 := hdep e hm hb.1
      rw [hb.2] at h1
      have hjl : j < listed.size := by
        rcases Nat.lt_or_ge j listed.size with h' | h'
        · exact h'
        · simp [Array.getElem?_eq_none h'] at h1
      have h2 := List.all_eq_true.1 he i (List.mem_range.2 hil)
      simp only [ho'] at h2
      have h3 := Array.all_eq_true_iff_forall_mem.1 h2 e hm
      simp only [hb.1, Bool.not_true, Bool.false_or, decide_eq_true_eq] at h3
      exact hx j (by omega) (by simpa [hjl] using h1))
      (fun a' W' => wpAny P .any l.toArray Q fuel (listed.setIfInBounds i true) a' W')
      (by
        intro v W' hTW hv
        rw [Nat.zero_add] at hv
        refine ih (listed.setIfInBounds i true) (updX x i v) _ W' (by have := unl_set h0 hil; omega) ?_ (htr _ _ _ hT hTW) (fun j hj hl => ?_)
        · rw [ha]
          cases hd : o.dst with
          | none =>
            simp only [Act.put]
            congr 1
            have key : ∀ (os : List Oper) (k m : Nat) (t : Array Value), os[m]? = some o → fillA (updX x (k + m) v) k os t = fillA x k os t := by
              intro os
              induction os with
              | nil => intro k m t h; rfl
              | cons p os ihs =>
                intro k m t h
                cases m with
                | zero =>
                  simp only [List.getElem?_cons_zero, Option.some.injEq] at h
                  subst h
                  simp only [fillA, hd]
                  exact fillA_congr os (k + 1) _ fun j hj => by simp only [updX]; rw [if_neg (by omega)]
                | succ m =>
                  simp only [fillA]
                  have e1 : updX x (k + (m + 1)) v k = x k := by simp only [updX]; rw [if_neg (by omega)]
                  rw [e1, show k + (m + 1) = k + 1 + m by omega]
                  exact ihs (k + 1) m _ (by simpa using h)
            have := key l 0 i a0.tmps ho'
            rw [Nat.zero_add] at this
            exact this.symm
          | some d =>
            simp only [Act.put]
            congr 1
            have := fillA_upd (x := x) (v := v) l 0 i o a0.tmps hn ho' hd
            rw [Nat.zero_add] at this
            exact this.symm
        · by_cases hji : j = i
          · subst hji
            simpa [updX] using hv
          · have e1 : updX x i v j = x j := by simp only [updX]; rw [if_neg hji]
            rw [e1]
            rw [getD_set_ne true (Ne.symm hji)] at hl
            exact (atC Φ j).mono _ _ _ hTW (hx j hj hl))
    unfold wantOp at hst
    unfold wpOp
    simp only [ho]
    split
    · rename_i hw
      rw [if_pos hw] at hst
      exact .inl hst
    · rename_i hw
      rw [if_neg hw] at hst
      exact hst

theorem unl_false : ∀ (m n : Nat), n ≤ m → unl (Array.replicate m false) n = n
  | m, 0, _ => rfl
  | m, n + 1, h => by
    simp only [unl]
    rw [unl_false m n (by omega)]
    simp [show n < m by omega]

theorem undrew {w W : World} (h : RowKit.Below w.drew.heap.size w.drew W) : RowKit.Below w.heap.size w W := ⟨h.os, h.tape, h.output, h.size, h.block⟩

/-- A REGION THAT DRAWS ITS ORDER, BY CONDITIONS. -/
theorem region_rel {id : Nat} {l : List Oper} {a0 : Act} {w : World} (T : World → World → Prop) (Φ : List (Cd T)) (hm : P.follows .mixedOrders = true) (hn : (dsts l).Nodup) (he : edgesBack l = true)
    (hrf : T w.drew w.drew) (htr : ∀ W1 W2 W3, T W1 W2 → T W2 W3 → T W1 W3)
    (hsteps : ∀ x W, T w.drew W → ∀ a, a = (⟨fillA x 0 l a0.tmps, a0.defers⟩ : Act) → Steps P l Q Φ x a W 0 l)
    (hdone : ∀ x W, T w.drew W → (∀ i, i < l.length → (atC Φ i).p (x i) W) → ∀ a, a = (⟨fillA x 0 l a0.tmps, a0.defers⟩ : Act) → Q .normal a W) :
    (Code.region id l.toArray true).wp P Q a0 w := by
  refine wp_region_any hm (rel_any (a0 := a0) (w1 := w.drew) (Φ := Φ) hn he htr hsteps hdone l.toArray.size (Array.replicate l.toArray.size false) (asIs l a0.tmps) a0 w.drew ?_ ?_ hrf ?_)
  · simpa using unl_false l.length l.length (Nat.le_refl _)
  · rw [fillA_start]
  · intro i hi h
    exfalso
    simp [hi] at h
end Go.Proofs.YtmknghhgcecafaaDoor.Mem

/-
  Words of no layer: a region that draws its order and holds a store, walked once for all orders, by conditions.
-/
namespace Go.Proofs.YtmknghhgcecafaaDoor.Mem
set_option linter.unusedVariables false
variable {P : Program} {Q : Exit → Act → World → Prop}

/-! ### One operation, number s, that breaks a condition S on the world (a store): what it waits for sees S. -/
/-- Does operation s wait for operation i? -/
def waits (l : List Oper) (s i : Nat) : Bool := ((l[s]?).map fun o => o.after.any fun e => Region.binds .any e && e.on == i).getD false
def Steps2 (P : Program) (l : List Oper) (t0 : Array Value) (Q : Exit → Act → World → Prop) (s : Nat) (S : World → Prop) {T : World → World → Prop} (Φ : List (Cd T)) (x : Nat → Value) (a : Act) (W : World) : Nat → List Oper → Prop
  | _, [] => True
  | i, o :: os => ((∀ j, waits l j i = true → x j = asIs l t0 j) → (waits l s i = true ∨ i = s → S W) → (∀ j, (o.after.any fun e => Region.binds .any e && e.on == j) = true → (atC Φ j).p (x j) W) → ∀ K : Act → World → Prop, Shut (∀ v W', T W W' → (i = s ∨ (S W → S W')) → (atC Φ i).p v W' → K (a.put o.dst v) W') → wantOp P l Q o K a W) ∧ Steps2 P l t0 Q s S Φ x a W (i + 1) os

theorem Steps2.get {l : List Oper} {t0 : Array Value} {s : Nat} {S : World → Prop} {T : World → World → Prop} {Φ : List (Cd T)} {x : Nat → Value} {a : Act} {W : World} : ∀ (os : List Oper) (k i : Nat) (o : Oper), Steps2 P l t0 Q s S Φ x a W k os → os[i]? = some o →
    ((∀ j, waits l j (k + i) = true → x j = asIs l t0 j) → (waits l s (k + i) = true ∨ k + i = s → S W) → (∀ j, (o.after.any fun e => Region.binds .any e && e.on == j) = true → (atC Φ j).p (x j) W) → ∀ K : Act → World → Prop, Shut (∀ v W', T W W' → (k + i = s ∨ (S W → S W')) → (atC Φ (k + i)).p v W' → K (a.put o.dst v) W') → wantOp P l Q o K a W)
  | [], _, _, _, _, h => by simp at h
  | p :: os, k, 0, o, hs, h => by
    simp only [List.getElem?_cons_zero, Option.some.injEq] at h
    subst h
    exact hs.1
  | p :: os, k, i + 1, o, hs, h => by
    have := Steps2.get os (k + 1) i o hs.2 (by simpa using h)
    rwa [show k + 1 + i = k + (i + 1) by omega] at this

theorem rel2_any {l : List Oper} {s : Nat} {S : World → Prop} {T : World → World → Prop} {Φ : List (Cd T)} {a0 : Act} {w1 : World} (hn : (dsts l).Nodup) (he : edgesBack l = true) (htr : ∀ W1 W2 W3, T W1 W2 → T W2 W3 → T W1 W3)
    (hsteps : ∀ x W, T w1 W → ∀ a, a = (⟨fillA x 0 l a0.tmps, a0.defers⟩ : Act) → Steps2 P l a0.tmps Q s S Φ x a W 0 l)
    (hdone : ∀ x W, T w1 W → (∀ i, i < l.length → (atC Φ i).p (x i) W) → ∀ a, a = (⟨fillA x 0 l a0.tmps, a0.defers⟩ : Act) → Q .normal a W) :
    ∀ (fuel : Nat) (listed : Array Bool) (x : Nat → Value) (a : Act) (W : World), unl listed l.length = fuel → a = ⟨fillA x 0 l a0.tmps, a0.defers⟩ → T w1 W → (∀ i, i < l.length → listed.getD i true = true → (atC Φ i).p (x i) W) →
      (listed.getD s true = false → S W) → (∀ j, j < l.length → listed.getD j true = true → ∀ i, waits l j i = true → listed.getD i true = true) → (l.length ≤ listed.size) → (∀ j, j < l.length → listed.getD j true = false → x j = asIs l a0.tmps j) →
      wpAny P .any l.toArray Q fuel listed a W := by
  have all : ∀ listed : Array Bool, Region.ready .any l.toArray listed = [] → ∀ i, i < l.length → listed.getD i true = true := by
    intro listed hr i
    induction i using Nat.strongRecOn with
    | _ i ih =>
      intro hi
      by_cases hl : listed.getD i true = true
      · exact hl
      · exfalso
        have hm : i ∈ Region.ready .any l.toArray listed := mem_ready.2 ⟨by simpa using hl, l[i], by simp [hi], fun e hm hb => by
          have h1 := List.all_eq_true.1 he i (List.mem_range.2 hi)
          simp only [List.getElem?_eq_getElem hi] at h1
          have h2 := Array.all_eq_true_iff_forall_mem.1 h1 e hm
          simp only [hb, Bool.not_true, Bool.false_or, decide_eq_true_eq] at h2
          have h3 := ih e.on h2 (by omega)
          rcases Nat.lt_or_ge e.on listed.size with h' | h'
          · simpa [h'] using h3
          · exfalso
            have h4 : listed.getD i true = true := by simp [Array.getElem?_eq_none (show listed.size ≤ i by omega)]
            exact hl h4⟩
        rw [hr] at hm
        cases hm
  intro fuel
  induction fuel with
  | zero =>
    intro listed x a W hf ha hT hx _ _ _ _
    have hall := unl_none hf
    refine ⟨?_, hdone x W hT (fun i hi => hx i hi (hall i hi)) a ha⟩
    cases hr : Region.ready .any l.toArray listed with
    | nil => rfl
    | cons i rs =>
      exfalso
      obtain ⟨h0, o, ho, _⟩ := mem_ready.1 (show i ∈ Region.ready .any l.toArray listed by rw [hr]; exact List.mem_cons_self ..)
      have hi : i < l.length := by
        have := (Array.getElem?_eq_some_iff.1 ho).1
        simpa using this
      rw [hall i hi] at h0
      cases h0
  | succ fuel ih =>
    intro listed x a W hf ha hT hx hS hws hsz hin
    refine ⟨fun hr => hdone x W hT (fun i hi => hx i hi (all listed hr i hi)) a ha, fun i hi => ?_⟩
    obtain ⟨h0, o, ho, hdep⟩ := mem_ready.1 hi
    have ho' : l[i]? = some o := by simpa using ho
    have hil : i < l.length := (List.getElem?_eq_some_iff.1 ho').1
    have hdep' : ∀ j, (o.after.any fun e => Region.binds .any e && e.on == j) = true → listed.getD j true = true ∧ j < i := fun j hj => by
      rw [← Array.any_toList, List.any_eq_true] at hj
      obtain ⟨e, hm0, hb⟩ := hj
      have hm : e ∈ o.after := Array.mem_toList_iff.1 hm0
      simp only [Bool.and_eq_true, beq_iff_eq] at hb
      have h1 := hdep e hm hb.1
      rw [hb.2] at h1
      have hjl : j < listed.size := by
        rcases Nat.lt_or_ge j listed.size with h' | h'
        · exact h'
        · simp [Array.getElem?_eq_none h'] at h1
      have h2 := List.all_eq_true.1 he i (List.mem_range.2 hil)
      simp only [ho'] at h2
      have h3 := Array.all_eq_true_iff_forall_mem.1 h2 e hm
      simp only [hb.1, Bool.not_true, Bool.false_or, decide_eq_true_eq] at h3
      exact ⟨by simpa [hjl] using h1, by omega⟩
    have hst := Steps2.get l 0 i o (hsteps x W hT a ha) ho' (fun j hw => by
        rw [Nat.zero_add] at hw
        have hsl : j < l.length := by
          unfold waits at hw
          rcases Nat.lt_or_ge j l.length with h' | h'
          · exact h'
          · rw [List.getElem?_eq_none h'] at hw; cases hw
        refine hin j hsl ?_
        by_cases hl : listed.getD j true = true
        · exfalso
          rw [hws j hsl hl i hw] at h0
          cases h0
        · simpa using hl) (fun hw => by
        rw [Nat.zero_add] at hw
        rcases hw with hw | hw
        · refine hS ?_
          by_cases hl : listed.getD s true = true
          · exfalso
            have hsl : s < l.length := by
              unfold waits at hw
              rcases Nat.lt_or_ge s l.length with h' | h'
              · exact h'
              · rw [List.getElem?_eq_none h'] at hw; cases hw
            rw [hws s hsl hl i hw] at h0
            cases h0
          · simpa using hl
        · subst hw; exact hS h0)
      (fun j hj => hx j (by have := (hdep' j hj).2; omega) (hdep' j hj).1)
      (fun a' W' => wpAny P .any l.toArray Q fuel (listed.setIfInBounds i true) a' W')
      (by
        intro v W' hTW hSW hv
        rw [Nat.zero_add] at hv hSW
        refine ih (listed.setIfInBounds i true) (updX x i v) _ W' (by have := unl_set h0 hil; omega) ?_ (htr _ _ _ hT hTW) (fun j hj hl => ?_) (fun hl => ?_) (fun q hql hl j hw => ?_) (by simpa using hsz) (fun j hjl hl => ?_)
        · rw [ha]
          cases hd : o.dst with
          | none =>
            simp only [Act.put]
            congr 1
            have key : ∀ (os : List Oper) (k m : Nat) (t : Array Value), os[m]? = some o → fillA (updX x (k + m) v) k os t = fillA x k os t := by
              intro os
              induction os with
              | nil => intro k m t h; rfl
              | cons p os ihs =>
                intro k m t h
                cases m with
                | zero =>
                  simp only [List.getElem?_cons_zero, Option.some.injEq] at h
                  subst h
                  simp only [fillA, hd]
                  exact fillA_congr os (k + 1) _ fun j hj => by simp only [updX]; rw [if_neg (by omega)]
                | succ m =>
                  simp only [fillA]
                  have e1 : updX x (k + (m + 1)) v k = x k := by simp only [updX]; rw [if_neg (by omega)]
                  rw [e1, show k + (m + 1) = k + 1 + m by omega]
                  exact ihs (k + 1) m _ (by simpa using h)
            have := key l 0 i a0.tmps ho'
            rw [Nat.zero_add] at this
            exact this.symm
          | some d =>
            simp only [Act.put]
            congr 1
            have := fillA_upd (x := x) (v := v) l 0 i o a0.tmps hn ho' hd
            rw [Nat.zero_add] at this
            exact this.symm
        · by_cases hji : j = i
          · subst hji
            simpa [updX] using hv
          · have e1 : updX x i v j = x j := by simp only [updX]; rw [if_neg hji]
            rw [e1]
            rw [getD_set_ne true (Ne.symm hji)] at hl
            exact (atC Φ j).mono _ _ _ hTW (hx j hj hl)
        · by_cases his : i = s
          · subst his
            exfalso
            simp [show i < listed.size by omega] at hl
          · rw [getD_set_ne true his] at hl
            exact (hSW.resolve_left his) (hS hl)
        · by_cases hji : j = i
          · subst hji
            simp [show j < listed.size by omega]
          · rw [getD_set_ne true (Ne.symm hji)]
            by_cases his : i = q
            · subst his
              unfold waits at hw
              rw [ho'] at hw
              exact (hdep' j (by simpa using hw)).1
            · rw [getD_set_ne true his] at hl
              exact hws q hql hl j hw
        · by_cases hji : j = i
          · subst hji
            exfalso
            simp [show j < listed.size by omega] at hl
          · have e1 : updX x i v j = x j := by simp only [updX]; rw [if_neg hji]
            rw [e1]
            rw [getD_set_ne true (Ne.symm hji)] at hl
            exact hin j hjl hl)
    unfold wantOp at hst
    unfold wpOp
    simp only [ho]
    split
    · rename_i hw
      rw [if_pos hw] at hst
      exact .inl hst
    · rename_i hw
      rw [if_neg hw] at hst
      exact hst

/-- A REGION THAT DRAWS ITS ORDER AND HOLDS A STORE, operation s: what the store waits for sees the world as S says. -/
theorem region_rel2 {id : Nat} {l : List Oper} {a0 : Act} {w : World} (s : Nat) (S : World → Prop) (T : World → World → Prop) (Φ : List (Cd T)) (hm : P.follows .mixedOrders = true) (hn : (dsts l).Nodup) (he : edgesBack l = true)
    (hS : S w.drew) (hrf : T w.drew w.drew) (htr : ∀ W1 W2 W3, T W1 W2 → T W2 W3 → T W1 W3)
    (hsteps : ∀ x W, T w.drew W → ∀ a, a = (⟨fillA x 0 l a0.tmps, a0.defers⟩ : Act) → Steps2 P l a0.tmps Q s S Φ x a W 0 l)
    (hdone : ∀ x W, T w.drew W → (∀ i, i < l.length → (atC Φ i).p (x i) W) → ∀ a, a = (⟨fillA x 0 l a0.tmps, a0.defers⟩ : Act) → Q .normal a W) :
    (Code.region id l.toArray true).wp P Q a0 w := by
  refine wp_region_any hm (rel2_any (a0 := a0) (w1 := w.drew) (Φ := Φ) (s := s) (S := S) hn he htr hsteps hdone l.toArray.size (Array.replicate l.toArray.size false) (asIs l a0.tmps) a0 w.drew ?_ ?_ hrf ?_ (fun _ => hS) ?_ ?_ (fun _ _ _ => rfl))
  · simpa using unl_false l.length l.length (Nat.le_refl _)
  · rw [fillA_start]
  · intro i hi h
    exfalso
    simp [hi] at h
  · intro j hsl h
    exfalso
    simp [hsl] at h
  · simp
end Go.Proofs.YtmknghhgcecafaaDoor.Mem

/-
  Words for memory, of no layer: rows of structs (elements of several one-cell fields) of a call's own: append of one element, and how such a row reads.
-/
namespace Go.Proofs.YtmknghhgcecafaaDoor.MemT
open Go.ChangeShapes Go.WideShapes Go.ChangeAt Go.RowKit
set_option linter.unusedVariables false

/-- The slice at A reads as the elements xs, each of sz cells; it lies below block B. -/
def RT {α : Type} (f : α → List Value) (sz : Nat) (w : World) (B : Nat) (A : Option Addr) (xs : List α) : Prop :=
  xs = [] ∨ ∃ b, A = some ⟨b, 0, none⟩ ∧ b < B ∧ ∀ i x, xs[i]? = some x → ∀ j u, (f x)[j]? = some u → w.cell? ⟨b, i * sz + j, none⟩ = some u
section
variable {α : Type} {f : α → List Value} {sz : Nat} {w w' : World} {B B' : Nat} {A : Option Addr} {xs : List α}
theorem RT.below (h : RT f sz w B A xs) {B0 : Nat} (hb : Below B0 w w') (hB : B ≤ B0) : RT f sz w' B A xs := by
  rcases h with h | ⟨b, e, hl, hc⟩
  · exact .inl h
  · exact .inr ⟨b, e, hl, fun i x hx j u hu => (hb.cell (by show b < B0; omega)).trans (hc i x hx j u hu)⟩
theorem RT.more (h : RT f sz w B A xs) (hB : B ≤ B') : RT f sz w B' A xs := by
  rcases h with h | ⟨b, e, hl, hc⟩
  · exact .inl h
  · exact .inr ⟨b, e, by omega, hc⟩
theorem RT.at_ (h : RT f sz w B A xs) (hn : 0 < xs.length) : ∃ b, A = some ⟨b, 0, none⟩ ∧ b < B ∧ ∀ i x, xs[i]? = some x → ∀ j u, (f x)[j]? = some u → w.cell? ⟨b, i * sz + j, none⟩ = some u := by
  rcases h with h | h
  · subst h; simp at hn
  · exact h
end

theorem flat_len {α : Type} {f : α → List Value} {sz : Nat} (hf : ∀ x, (f x).length = sz) : ∀ xs : List α, (xs.flatMap f).length = xs.length * sz
  | [] => by simp
  | x :: xs => by
    rw [List.flatMap_cons, List.length_append, hf, flat_len hf xs, List.length_cons, Nat.add_mul]; omega
theorem flat_at {α : Type} {f : α → List Value} {sz : Nat} (hf : ∀ x, (f x).length = sz) : ∀ (xs : List α) (i : Nat) (x : α), xs[i]? = some x → ∀ (j : Nat) (u : Value), (f x)[j]? = some u → (xs.flatMap f)[i * sz + j]? = some u
  | [], i, x, h => by simp at h
  | y :: ys, 0, x, h => fun j u hu => by
    simp only [List.getElem?_cons_zero, Option.some.injEq] at h
    subst h
    have hj : j < (f y).length := by
      rcases Nat.lt_or_ge j (f y).length with h' | h'
      · exact h'
      · rw [List.getElem?_eq_none h'] at hu; cases hu
    rw [List.flatMap_cons, Nat.zero_mul, Nat.zero_add, List.getElem?_append_left hj]; exact hu
  | y :: ys, i + 1, x, h => fun j u hu => by
    have ih := flat_at hf ys i x (by simpa using h) j u hu
    have hl := hf y
    rw [List.flatMap_cons, List.getElem?_append_right (by rw [hl, Nat.add_mul]; omega), hl]
    rw [show (i + 1) * sz + j - sz = i * sz + j from by rw [Nat.add_mul]; omega]
    exact ih

theorem own_rt {α : Type} {f : α → List Value} {sz : Nat} (hf : ∀ x, (f x).length = sz) {w : World} {base n c : Nat} {E : TypeId} {A : Option Addr} {xs : List α} (h : w.ownsRow base E sz (.slice A n c) n (xs.flatMap f)) (hn : xs.length = n) :
    RT f sz w w.heap.size A xs := by
  rcases h.2 with ⟨_, h0⟩ | ⟨g, cap, cur, hv, hg0, hg, h1, h2, h3, h4⟩
  · exact .inl (List.eq_nil_of_length_eq_zero (by omega))
  · injection hv with hA _ _
    refine .inr ⟨g, hA, lt_of_block hg, fun i x hx j u hu => ?_⟩
    have e := flat_at hf xs i x hx j u hu
    rw [← h4, List.getElem?_take] at e
    split at e
    · simpa [World.cell?, hg] using e
    · cases e

section
variable {P : Program} {T E : TypeId} {i0 : TypeInfo} {z : Value} {sz by_ : Nat}
/-- append of one struct onto a row of the call's own. -/
theorem app_cells (w : World) {ops : Array Oper} {rest : List Oper} {o : Oper} {a : Act} {Q : Exit → Act → World → Prop} (hgd : o.guard = none) (s x : Operand)
    (ho : o.op = .call { callee := .builtin .append, args := #[s, x], argTypes := #[T, T] }) (hT : P.underlying T = some (.slice E)) (hi0 : P.info? E = some i0) (hz0 : i0.zero = some z) (hz1 : i0.size = sz) (hz2 : i0.bytes = by_) (hzc : z.cells.size = sz) (hsz : 0 < sz)
    (base : Nat) (v : Value) (n : Nat) (vs cs : List Value) (hs : a.eval s = v) (hown : w.ownsRow base E sz v n vs) (hcs : cs.length = sz) (hu : ∀ u ∈ cs, u.oneCell' = true) (g : Nat) (hg : g = w.heap.size) (hx : a.eval x = .slice (some ⟨g, 0, none⟩) 1 1)
    (h63 : n ≤ 10000000) (hb : by_ ≤ 100) (hbase : base ≤ w.heap.size)
    (h : ∀ v' w', w'.ownsRow base E sz v' (n + 1) (vs ++ cs) → (w.alloc (.cells cs.toArray E)).grownBy w' v.ownBlock → (∀ B, (∀ b, v.ownBlock = some b → B ≤ b) → B ≤ w.heap.size → Below B w w') →
      (v'.ownBlock = v.ownBlock ∨ v'.ownBlock = some (w.heap.size + 1)) → wpList P ops Q rest (a.put o.dst v') w') :
    wpList P ops Q (o :: rest) a (w.alloc (.cells cs.toArray E)) := by
  subst hg
  have hmul : (n + 1) * by_ ≤ 10000001 * 100 := Nat.mul_le_mul (by omega) hb
  refine wpList_append_own_at (P := P) _ hgd s x T ho base E i0 z sz by_ hT hi0 hz0 hz1 hz2 hzc hsz v n vs hs (hown.alloc _) ⟨w.heap.size, 0, none⟩ 1 1 cs hx (by omega) (fun j u hj => ?_) hu (by unfold maxLen; omega) (by omega) (by simp; omega) fun v' w' h1 h2 _ h4 => ?_
  · have e2 : (⟨w.heap.size, 0, none⟩ : Addr).add j = ⟨w.heap.size, j, none⟩ := by unfold Addr.add; split <;> simp_all
    rw [e2, World.cell?_alloc_at _ _ _ _ rfl]
    simpa using hj
  · exact h v' w' h1 h2 (fun B hv hB => ((Below.refl B w).alloc hB _).grown h2 (by simp; omega) hv) (by simpa using h4)
end
end Go.Proofs.YtmknghhgcecafaaDoor.MemT

/-
  Words of no layer: a region that draws its order and holds two operations that turn the world (an append, and the store of what it gives), walked once for all orders, by phases.
-/
namespace Go.Proofs.YtmknghhgcecafaaDoor.Mem
set_option linter.unusedVariables false
variable {P : Program} {Q : Exit → Act → World → Prop}

/-- The operations of pre lie ahead of s1: each is waited for by s1, or by a later one of pre. -/
def preOK (l : List Oper) (s1 : Nat) (pre : List Nat) : Bool := pre.all fun i => i == s1 || pre.any fun j => decide (i < j) && waits l j i
theorem pre_not {l : List Oper} {s1 : Nat} {pre : List Nat} {listed : Array Bool} (h : preOK l s1 pre = true) (hno : ∀ j i, waits l j i = true → listed.getD i true = false → listed.getD j true = false) (hlen : ∀ j i, waits l j i = true → j < l.length) :
    ∀ (m i : Nat), l.length - i ≤ m → pre.contains i = true → listed.getD i true = false → listed.getD s1 true = false := by
  intro m
  induction m with
  | zero =>
    intro i hm hi h0
    have h1 := List.all_eq_true.1 h i (List.contains_iff_mem.1 hi)
    rw [Bool.or_eq_true] at h1
    rcases h1 with h1 | h1
    · rw [beq_iff_eq] at h1; subst h1; exact h0
    · obtain ⟨j, hj, hb⟩ := List.any_eq_true.1 h1
      rw [Bool.and_eq_true, decide_eq_true_eq] at hb
      have := hlen j i hb.2
      omega
  | succ m ih =>
    intro i hm hi h0
    have h1 := List.all_eq_true.1 h i (List.contains_iff_mem.1 hi)
    rw [Bool.or_eq_true] at h1
    rcases h1 with h1 | h1
    · rw [beq_iff_eq] at h1; subst h1; exact h0
    · obtain ⟨j, hj, hb⟩ := List.any_eq_true.1 h1
      rw [Bool.and_eq_true, decide_eq_true_eq] at hb
      have := hlen j i hb.2
      exact ih j (by omega) (List.contains_iff_mem.2 hj) (hno j i hb.2 h0)

def atA (A : List (Value → Prop)) (i : Nat) : Value → Prop := A.getD i fun _ => True
/-- What is asked of operation i: ahead of s1 the world is as S1 says, between s1 and s2 as S2 says of what s1 gave, behind s2 as S3 says. -/
def Step3 (P : Program) (l : List Oper) (t0 : Array Value) (Q : Exit → Act → World → Prop) (pre : List Nat) (s1 s2 : Nat) (U : World → World → Prop) (S1 : World → Prop) (S2 S3 : Value → World → Prop) (E : List (Cd U)) (A : List (Value → Prop)) (x : Nat → Value) (a : Act) (W : World) (i : Nat) (o : Oper) : Prop :=
  (∀ j, waits l j i = true → x j = asIs l t0 j) → (pre.contains i = true ∨ i = s1 → S1 W) → (i = s2 → S2 (x s1) W) → (∀ j, (o.after.any fun e => Region.binds .any e && e.on == j) = true → atA A j (x j)) →
  ((pre.contains i = true ∨ i = s1) → ∀ j, (o.after.any fun e => Region.binds .any e && e.on == j) = true → (atC E j).p (x j) W) →
  ∀ K : Act → World → Prop, Shut (∀ v W', (i ≠ s1 → i ≠ s2 → U W W' ∧ (atC E i).p v W') → (i = s1 → S2 v W') → (i = s2 → S3 (x s1) W') → atA A i v → K (a.put o.dst v) W') → wantOp P l Q o K a W
def Steps3 (P : Program) (l : List Oper) (t0 : Array Value) (Q : Exit → Act → World → Prop) (pre : List Nat) (s1 s2 : Nat) (U : World → World → Prop) (S1 : World → Prop) (S2 S3 : Value → World → Prop) (E : List (Cd U)) (A : List (Value → Prop)) (x : Nat → Value) (a : Act) (W : World) : Nat → List Oper → Prop
  | _, [] => True
  | i, o :: os => Step3 P l t0 Q pre s1 s2 U S1 S2 S3 E A x a W i o ∧ Steps3 P l t0 Q pre s1 s2 U S1 S2 S3 E A x a W (i + 1) os
theorem Steps3.get {l : List Oper} {t0 : Array Value} {pre : List Nat} {s1 s2 : Nat} {U : World → World → Prop} {S1 : World → Prop} {S2 S3 : Value → World → Prop} {E : List (Cd U)} {A : List (Value → Prop)} {x : Nat → Value} {a : Act} {W : World} : ∀ (os : List Oper) (k i : Nat) (o : Oper), Steps3 P l t0 Q pre s1 s2 U S1 S2 S3 E A x a W k os → os[i]? = some o → Step3 P l t0 Q pre s1 s2 U S1 S2 S3 E A x a W (k + i) o
  | [], _, _, _, _, h => by simp at h
  | p :: os, k, 0, o, hs, h => by
    simp only [List.getElem?_cons_zero, Option.some.injEq] at h
    subst h
    exact hs.1
  | p :: os, k, i + 1, o, hs, h => by
    have := Steps3.get os (k + 1) i o hs.2 (by simpa using h)
    rwa [show k + 1 + i = k + (i + 1) by omega] at this

theorem rel3_any {l : List Oper} {pre : List Nat} {s1 s2 : Nat} {U : World → World → Prop} {S1 : World → Prop} {S2 S3 : Value → World → Prop} {E : List (Cd U)} {A : List (Value → Prop)} {a0 : Act} (hn : (dsts l).Nodup) (he : edgesBack l = true) (hpre : preOK l s1 pre = true) (h12 : waits l s2 s1 = true) (hne : s1 ≠ s2) (hl2 : s2 < l.length)
    (hU1 : ∀ W W', U W W' → S1 W → S1 W') (hU2 : ∀ v W W', U W W' → S2 v W → S2 v W') (hU3 : ∀ v W W', U W W' → S3 v W → S3 v W')
    (hsteps : ∀ x W, ∀ a, a = (⟨fillA x 0 l a0.tmps, a0.defers⟩ : Act) → Steps3 P l a0.tmps Q pre s1 s2 U S1 S2 S3 E A x a W 0 l)
    (hdone : ∀ x W, S3 (x s1) W → (∀ i, i < l.length → atA A i (x i)) → ∀ a, a = (⟨fillA x 0 l a0.tmps, a0.defers⟩ : Act) → Q .normal a W) :
    ∀ (fuel : Nat) (listed : Array Bool) (x : Nat → Value) (a : Act) (W : World), unl listed l.length = fuel → a = ⟨fillA x 0 l a0.tmps, a0.defers⟩ → (∀ i, i < l.length → listed.getD i true = true → atA A i (x i)) →
      (listed.getD s1 true = false → S1 W ∧ ∀ i, i < l.length → listed.getD i true = true → (atC E i).p (x i) W) → (listed.getD s1 true = true → listed.getD s2 true = false → S2 (x s1) W) → (listed.getD s2 true = true → S3 (x s1) W) → (∀ j, j < l.length → listed.getD j true = true → ∀ i, waits l j i = true → listed.getD i true = true) → (l.length ≤ listed.size) → (∀ j, j < l.length → listed.getD j true = false → x j = asIs l a0.tmps j) →
      wpAny P .any l.toArray Q fuel listed a W := by
  have all : ∀ listed : Array Bool, Region.ready .any l.toArray listed = [] → ∀ i, i < l.length → listed.getD i true = true := by
    intro listed hr i
    induction i using Nat.strongRecOn with
    | _ i ih =>
      intro hi
      by_cases hl : listed.getD i true = true
      · exact hl
      · exfalso
        have hm : i ∈ Region.ready .any l.toArray listed := mem_ready.2 ⟨by simpa using hl, l[i], by simp [hi], fun e hm hb => by
          have h1 := List.all_eq_true.1 he i (List.mem_range.2 hi)
          simp only [List.getElem?_eq_getElem hi] at h1
          have h2 := Array.all_eq_true_iff_forall_mem.1 h1 e hm
          simp only [hb, Bool.not_true, Bool.false_or, decide_eq_true_eq] at h2
          have h3 := ih e.on h2 (by omega)
          rcases Nat.lt_or_ge e.on listed.size with h' | h'
          · simpa [h'] using h3
          · exfalso
            have h4 : listed.getD i true = true := by simp [Array.getElem?_eq_none (show listed.size ≤ i by omega)]
            exact hl h4⟩
        rw [hr] at hm
        cases hm
  intro fuel
  induction fuel with
  | zero =>
    intro listed x a W hf ha hA _ _ h3 _ _ _
    have hall := unl_none hf
    refine ⟨?_, hdone x W (h3 (hall s2 hl2)) (fun i hi => hA i hi (hall i hi)) a ha⟩
    cases hr : Region.ready .any l.toArray listed with
    | nil => rfl
    | cons i rs =>
      exfalso
      obtain ⟨h0, o, ho, _⟩ := mem_ready.1 (show i ∈ Region.ready .any l.toArray listed by rw [hr]; exact List.mem_cons_self ..)
      have hi : i < l.length := by
        have := (Array.getElem?_eq_some_iff.1 ho).1
        simpa using this
      rw [hall i hi] at h0
      cases h0
  | succ fuel ih =>
    intro listed x a W hf ha hA h1 h2 h3 hws hsz hin
    refine ⟨fun hr => hdone x W (h3 (all listed hr s2 hl2)) (fun i hi => hA i hi (all listed hr i hi)) a ha, fun i hi => ?_⟩
    obtain ⟨h0, o, ho, hdep⟩ := mem_ready.1 hi
    have ho' : l[i]? = some o := by simpa using ho
    have hil : i < l.length := (List.getElem?_eq_some_iff.1 ho').1
    have hdep' : ∀ j, (o.after.any fun e => Region.binds .any e && e.on == j) = true → listed.getD j true = true ∧ j < i := fun j hj => by
      rw [← Array.any_toList, List.any_eq_true] at hj
      obtain ⟨e, hm0, hb⟩ := hj
      have hm : e ∈ o.after := Array.mem_toList_iff.1 hm0
      simp only [Bool.and_eq_true, beq_iff_eq] at hb
      have h1 := hdep e hm hb.1
      rw [hb.2] at h1
      have hjl : j < listed.size := by
        rcases Nat.lt_or_ge j listed.size with h' | h'
        · exact h'
        · simp [Array.getElem?_eq_none h'] at h1
      have h2 := List.all_eq_true.1 he i (List.mem_range.2 hil)
      simp only [ho'] at h2
      have h3 := Array.all_eq_true_iff_forall_mem.1 h2 e hm
      simp only [hb.1, Bool.not_true, Bool.false_or, decide_eq_true_eq] at h3
      exact ⟨by simpa [hjl] using h1, by omega⟩
    have hlen : ∀ j q, waits l j q = true → j < l.length := fun j q hw => by
      unfold waits at hw
      rcases Nat.lt_or_ge j l.length with h' | h'
      · exact h'
      · rw [List.getElem?_eq_none h'] at hw; cases hw
    have hnot : ∀ j, waits l j i = true → listed.getD j true = false := fun j hw => by
      by_cases hl : listed.getD j true = true
      · exfalso
        rw [hws j (hlen j i hw) hl i hw] at h0
        cases h0
      · simpa using hl
    have hs1 : pre.contains i = true ∨ i = s1 → listed.getD s1 true = false := fun hw => by
      rcases hw with hw | hw
      · refine pre_not hpre (fun j q hq h0q => ?_) hlen _ i (Nat.le_refl _) hw h0
        by_cases hl : listed.getD j true = true
        · exfalso
          rw [hws j (hlen j q hq) hl q hq] at h0q
          cases h0q
        · simpa using hl
      · subst hw; exact h0
    have hst := Steps3.get l 0 i o (hsteps x W a ha) ho' (fun j hw => by
        rw [Nat.zero_add] at hw
        exact hin j (hlen j i hw) (hnot j hw)) (fun hw => by
        rw [Nat.zero_add] at hw
        exact (h1 (hs1 hw)).1) (fun hw => by
        rw [Nat.zero_add] at hw
        subst hw
        refine h2 ?_ h0
        unfold waits at h12
        rw [ho'] at h12
        exact (hdep' s1 (by simpa using h12)).1)
      (fun j hj => hA j (by have := (hdep' j hj).2; omega) (hdep' j hj).1)
      (fun hw j hj => by
        rw [Nat.zero_add] at hw
        exact (h1 (hs1 hw)).2 j (by have := (hdep' j hj).2; omega) (hdep' j hj).1)
      (fun a' W' => wpAny P .any l.toArray Q fuel (listed.setIfInBounds i true) a' W')
      (by
        intro v W' hord hi1 hi2 hv
        rw [Nat.zero_add] at hv hord hi1 hi2
        have hset : (listed.setIfInBounds i true).getD i true = true := by simp [show i < listed.size by omega]
        have xne : ∀ j, j ≠ i → updX x i v j = x j := fun j hj => by simp only [updX]; rw [if_neg hj]
        refine ih (listed.setIfInBounds i true) (updX x i v) _ W' (by have := unl_set h0 hil; omega) ?_ (fun j hj hl => ?_) (fun hl => ?_) (fun hl hl' => ?_) (fun hl => ?_) (fun q hql hl j hw => ?_) (by simpa using hsz) (fun j hjl hl => ?_)
        · rw [ha]
          cases hd : o.dst with
          | none =>
            simp only [Act.put]
            congr 1
            have key : ∀ (os : List Oper) (k m : Nat) (t : Array Value), os[m]? = some o → fillA (updX x (k + m) v) k os t = fillA x k os t := by
              intro os
              induction os with
              | nil => intro k m t h; rfl
              | cons p os ihs =>
                intro k m t h
                cases m with
                | zero =>
                  simp only [List.getElem?_cons_zero, Option.some.injEq] at h
                  subst h
                  simp only [fillA, hd]
                  exact fillA_congr os (k + 1) _ fun j hj => by simp only [updX]; rw [if_neg (by omega)]
                | succ m =>
                  simp only [fillA]
                  have e1 : updX x (k + (m + 1)) v k = x k := by simp only [updX]; rw [if_neg (by omega)]
                  rw [e1, show k + (m + 1) = k + 1 + m by omega]
                  exact ihs (k + 1) m _ (by simpa using h)
            have := key l 0 i a0.tmps ho'
            rw [Nat.zero_add] at this
            exact this.symm
          | some d =>
            simp only [Act.put]
            congr 1
            have := fillA_upd (x := x) (v := v) l 0 i o a0.tmps hn ho' hd
            rw [Nat.zero_add] at this
            exact this.symm
        · by_cases hji : j = i
          · subst hji
            simpa [updX] using hv
          · rw [xne j hji]
            rw [getD_set_ne true (Ne.symm hji)] at hl
            exact hA j hj hl
        · by_cases his : i = s1
          · subst his
            rw [hset] at hl
            cases hl
          · rw [getD_set_ne true his] at hl
            obtain ⟨g1, g2⟩ := h1 hl
            have his2 : i ≠ s2 := fun e => by
              subst e
              unfold waits at h12
              rw [ho'] at h12
              rw [(hdep' s1 (by simpa using h12)).1] at hl
              cases hl
            obtain ⟨hU, hE⟩ := hord his his2
            refine ⟨hU1 _ _ hU g1, fun j hj hl' => ?_⟩
            by_cases hji : j = i
            · subst hji
              simpa [updX] using hE
            · rw [xne j hji]
              rw [getD_set_ne true (Ne.symm hji)] at hl'
              exact (atC E j).mono _ _ _ hU (g2 j hj hl')
        · by_cases his : i = s1
          · subst his
            simpa [updX] using hi1 rfl
          · rw [getD_set_ne true his] at hl
            by_cases his2 : i = s2
            · subst his2
              rw [hset] at hl'
              cases hl'
            · rw [getD_set_ne true his2] at hl'
              rw [xne s1 (Ne.symm his)]
              exact hU2 _ _ _ (hord his his2).1 (h2 hl hl')
        · by_cases his2 : i = s2
          · subst his2
            rw [xne s1 hne]
            exact hi2 rfl
          · rw [getD_set_ne true his2] at hl
            by_cases his : i = s1
            · subst his
              rw [hws s2 hl2 hl i h12] at h0
              cases h0
            · rw [xne s1 (Ne.symm his)]
              exact hU3 _ _ _ (hord his his2).1 (h3 hl)
        · by_cases hji : j = i
          · subst hji
            simp [show j < listed.size by omega]
          · rw [getD_set_ne true (Ne.symm hji)]
            by_cases his : i = q
            · subst his
              unfold waits at hw
              rw [ho'] at hw
              exact (hdep' j (by simpa using hw)).1
            · rw [getD_set_ne true his] at hl
              exact hws q hql hl j hw
        · by_cases hji : j = i
          · subst hji
            exfalso
            simp [show j < listed.size by omega] at hl
          · have e1 : updX x i v j = x j := by simp only [updX]; rw [if_neg hji]
            rw [e1]
            rw [getD_set_ne true (Ne.symm hji)] at hl
            exact hin j hjl hl)
    unfold wantOp at hst
    unfold wpOp
    simp only [ho]
    split
    · rename_i hw
      rw [if_pos hw] at hst
      exact .inl hst
    · rename_i hw
      rw [if_neg hw] at hst
      exact hst

/-- A REGION THAT DRAWS ITS ORDER AND HOLDS AN APPEND (s1) AND THE STORE OF WHAT IT GIVES (s2). -/
theorem region_rel3 {id : Nat} {l : List Oper} {a0 : Act} {w : World} (pre : List Nat) (s1 s2 : Nat) (U : World → World → Prop) (S1 : World → Prop) (S2 S3 : Value → World → Prop) (E : List (Cd U)) (A : List (Value → Prop)) (hm : P.follows .mixedOrders = true) (hn : (dsts l).Nodup) (he : edgesBack l = true)
    (hpre : preOK l s1 pre = true) (h12 : waits l s2 s1 = true) (hne : s1 ≠ s2) (hl1 : s1 < l.length) (hl2 : s2 < l.length) (hS : S1 w.drew)
    (hU1 : ∀ W W', U W W' → S1 W → S1 W') (hU2 : ∀ v W W', U W W' → S2 v W → S2 v W') (hU3 : ∀ v W W', U W W' → S3 v W → S3 v W')
    (hsteps : ∀ x W, ∀ a, a = (⟨fillA x 0 l a0.tmps, a0.defers⟩ : Act) → Steps3 P l a0.tmps Q pre s1 s2 U S1 S2 S3 E A x a W 0 l)
    (hdone : ∀ x W, S3 (x s1) W → (∀ i, i < l.length → atA A i (x i)) → ∀ a, a = (⟨fillA x 0 l a0.tmps, a0.defers⟩ : Act) → Q .normal a W) :
    (Code.region id l.toArray true).wp P Q a0 w := by
  refine wp_region_any hm (rel3_any (a0 := a0) hn he hpre h12 hne hl2 hU1 hU2 hU3 hsteps hdone l.toArray.size (Array.replicate l.toArray.size false) (asIs l a0.tmps) a0 w.drew ?_ ?_ ?_ (fun _ => ⟨hS, ?_⟩) ?_ ?_ ?_ ?_ (fun _ _ _ => rfl))
  · simpa using unl_false l.length l.length (Nat.le_refl _)
  · rw [fillA_start]
  · intro i hi h
    exfalso
    simp [hi] at h
  · intro i hi h
    exfalso
    simp [hi] at h
  · intro h
    exfalso
    simp [hl1] at h
  · intro h
    exfalso
    simp [hl2] at h
  · intro j hsl h
    exfalso
    simp [hsl] at h
  · simp
end Go.Proofs.YtmknghhgcecafaaDoor.Mem

/-
  Words of no layer: a region that draws its order and holds up to three operations that turn the world (s1, and behind it s2 and s3, in any order), walked once for all orders, by phases.
-/
namespace Go.Proofs.YtmknghhgcecafaaDoor.Mem
set_option linter.unusedVariables false
variable {P : Program} {Q : Exit → Act → World → Prop}

/-- A condition on what s1 gave, and on what a later operation gives. -/
def atB (A2 : List (Value → Value → Prop)) (i : Nat) : Value → Value → Prop := A2.getD i fun _ _ => True
/-- What is asked of operation i: p, q, r: have s1, s2, s3 run? Ahead of s1 the world is as S1 says, behind it as Ph says of which have run, and of what s1 gave. -/
def Step4 (P : Program) (l : List Oper) (t0 : Array Value) (Q : Exit → Act → World → Prop) (pre : List Nat) (s1 s2 s3 : Nat) (U : World → World → Prop) (S1 : World → Prop) (Ph : Bool → Bool → Value → World → Prop) (E : List (Cd U)) (A : List (Value → Prop)) (A2 : List (Value → Value → Prop)) (x : Nat → Value) (a : Act) (W : World) (i : Nat) (o : Oper) : Prop :=
  (∀ j, waits l j i = true → x j = asIs l t0 j) → (∀ j, waits l i j = true → atA A j (x j)) → (∀ j, waits l i j = true → waits l j s1 = true → atB A2 j (x s1) (x j)) →
  ∀ p q r : Bool, (p = false → S1 W ∧ ∀ j, waits l i j = true → (atC E j).p (x j) W) → (p = true → Ph q r (x s1) W) →
  (pre.contains i = true ∨ i = s1 → p = false) → (waits l i s1 = true → p = true) → (waits l s2 i = true ∨ i = s2 → q = false) → (waits l s3 i = true ∨ i = s3 → r = false) → (waits l i s2 = true → q = true) → (waits l i s3 = true → r = true) →
  ∀ K : Act → World → Prop, Shut (∀ v W', (i ≠ s1 → i ≠ s2 → i ≠ s3 → U W W' ∧ (atC E i).p v W') → (i = s1 → Ph false (decide (l.length ≤ s3)) v W') → (i = s2 → Ph true r (x s1) W') → (i = s3 → Ph q true (x s1) W') → atA A i v → (waits l i s1 = true → atB A2 i (x s1) v) → K (a.put o.dst v) W') → wantOp P l Q o K a W
def Steps4 (P : Program) (l : List Oper) (t0 : Array Value) (Q : Exit → Act → World → Prop) (pre : List Nat) (s1 s2 s3 : Nat) (U : World → World → Prop) (S1 : World → Prop) (Ph : Bool → Bool → Value → World → Prop) (E : List (Cd U)) (A : List (Value → Prop)) (A2 : List (Value → Value → Prop)) (x : Nat → Value) (a : Act) (W : World) : Nat → List Oper → Prop
  | _, [] => True
  | i, o :: os => Step4 P l t0 Q pre s1 s2 s3 U S1 Ph E A A2 x a W i o ∧ Steps4 P l t0 Q pre s1 s2 s3 U S1 Ph E A A2 x a W (i + 1) os
theorem Steps4.get {l : List Oper} {t0 : Array Value} {pre : List Nat} {s1 s2 s3 : Nat} {U : World → World → Prop} {S1 : World → Prop} {Ph : Bool → Bool → Value → World → Prop} {E : List (Cd U)} {A : List (Value → Prop)} {A2 : List (Value → Value → Prop)} {x : Nat → Value} {a : Act} {W : World} : ∀ (os : List Oper) (k i : Nat) (o : Oper), Steps4 P l t0 Q pre s1 s2 s3 U S1 Ph E A A2 x a W k os → os[i]? = some o → Step4 P l t0 Q pre s1 s2 s3 U S1 Ph E A A2 x a W (k + i) o
  | [], _, _, _, _, h => by simp at h
  | p :: os, k, 0, o, hs, h => by
    simp only [List.getElem?_cons_zero, Option.some.injEq] at h
    subst h
    exact hs.1
  | p :: os, k, i + 1, o, hs, h => by
    have := Steps4.get os (k + 1) i o hs.2 (by simpa using h)
    rwa [show k + 1 + i = k + (i + 1) by omega] at this

theorem rel4_any {l : List Oper} {pre : List Nat} {s1 s2 s3 : Nat} {U : World → World → Prop} {S1 : World → Prop} {Ph : Bool → Bool → Value → World → Prop} {E : List (Cd U)} {A : List (Value → Prop)} {A2 : List (Value → Value → Prop)} {a0 : Act} (hn : (dsts l).Nodup) (he : edgesBack l = true) (hpre : preOK l s1 pre = true) (h12 : waits l s2 s1 = true) (h13 : (decide (l.length ≤ s3) || waits l s3 s1) = true) (hne12 : s1 ≠ s2) (hne13 : s1 ≠ s3) (hne23 : s2 ≠ s3) (hl1 : s1 < l.length) (hl2 : s2 < l.length)
    (hU1 : ∀ W W', U W W' → S1 W → S1 W') (hUP : ∀ q r v W W', U W W' → Ph q r v W → Ph q r v W')
    (hsteps : ∀ x W, ∀ a, a = (⟨fillA x 0 l a0.tmps, a0.defers⟩ : Act) → Steps4 P l a0.tmps Q pre s1 s2 s3 U S1 Ph E A A2 x a W 0 l)
    (hdone : ∀ x W, Ph true true (x s1) W → (∀ i, i < l.length → atA A i (x i)) → (∀ i, i < l.length → waits l i s1 = true → atB A2 i (x s1) (x i)) → ∀ a, a = (⟨fillA x 0 l a0.tmps, a0.defers⟩ : Act) → Q .normal a W) :
    ∀ (fuel : Nat) (listed : Array Bool) (x : Nat → Value) (a : Act) (W : World), unl listed l.length = fuel → a = ⟨fillA x 0 l a0.tmps, a0.defers⟩ → (∀ i, i < l.length → listed.getD i true = true → atA A i (x i)) → (∀ i, i < l.length → listed.getD i true = true → waits l i s1 = true → atB A2 i (x s1) (x i)) →
      (listed.getD s1 true = false → S1 W ∧ ∀ i, i < l.length → listed.getD i true = true → (atC E i).p (x i) W) → (listed.getD s1 true = true → Ph (listed.getD s2 true) (listed.getD s3 true) (x s1) W) → (∀ j, j < l.length → listed.getD j true = true → ∀ i, waits l j i = true → listed.getD i true = true) → (l.length = listed.size) → (∀ j, j < l.length → listed.getD j true = false → x j = asIs l a0.tmps j) →
      wpAny P .any l.toArray Q fuel listed a W := by
  have all : ∀ listed : Array Bool, Region.ready .any l.toArray listed = [] → ∀ i, i < l.length → listed.getD i true = true := by
    intro listed hr i
    induction i using Nat.strongRecOn with
    | _ i ih =>
      intro hi
      by_cases hl : listed.getD i true = true
      · exact hl
      · exfalso
        have hm : i ∈ Region.ready .any l.toArray listed := mem_ready.2 ⟨by simpa using hl, l[i], by simp [hi], fun e hm hb => by
          have h1 := List.all_eq_true.1 he i (List.mem_range.2 hi)
          simp only [List.getElem?_eq_getElem hi] at h1
          have h2 := Array.all_eq_true_iff_forall_mem.1 h1 e hm
          simp only [hb, Bool.not_true, Bool.false_or, decide_eq_true_eq] at h2
          have h3 := ih e.on h2 (by omega)
          rcases Nat.lt_or_ge e.on listed.size with h' | h'
          · simpa [h'] using h3
          · exfalso
            have h4 : listed.getD i true = true := by simp [Array.getElem?_eq_none (show listed.size ≤ i by omega)]
            exact hl h4⟩
        rw [hr] at hm
        cases hm
  intro fuel
  induction fuel with
  | zero =>
    intro listed x a W hf ha hA hB _ h2 _ hsz _
    have hall := unl_none hf
    have hq : listed.getD s2 true = true := hall s2 hl2
    have hr3 : listed.getD s3 true = true := by
      rcases Nat.lt_or_ge s3 l.length with h' | h'
      · exact hall s3 h'
      · simp [Array.getElem?_eq_none (show listed.size ≤ s3 by omega)]
    have hph := h2 (hall s1 hl1)
    rw [hq, hr3] at hph
    refine ⟨?_, hdone x W hph (fun i hi => hA i hi (hall i hi)) (fun i hi hw => hB i hi (hall i hi) hw) a ha⟩
    cases hr : Region.ready .any l.toArray listed with
    | nil => rfl
    | cons i rs =>
      exfalso
      obtain ⟨h0, o, ho, _⟩ := mem_ready.1 (show i ∈ Region.ready .any l.toArray listed by rw [hr]; exact List.mem_cons_self ..)
      have hi : i < l.length := by
        have := (Array.getElem?_eq_some_iff.1 ho).1
        simpa using this
      rw [hall i hi] at h0
      cases h0
  | succ fuel ih =>
    intro listed x a W hf ha hA hB h1 h2 hws hsz0 hin
    have hsz : l.length ≤ listed.size := by omega
    have hbig : ∀ j, l.length ≤ j → listed.getD j true = true := fun j hj => by simp [Array.getElem?_eq_none (show listed.size ≤ j by omega)]
    refine ⟨fun hr => by
      have hph := h2 (all listed hr s1 hl1)
      have hr3 : listed.getD s3 true = true := by
        rcases Nat.lt_or_ge s3 l.length with h' | h'
        · exact all listed hr s3 h'
        · exact hbig s3 h'
      rw [all listed hr s2 hl2, hr3] at hph
      exact hdone x W hph (fun i hi => hA i hi (all listed hr i hi)) (fun i hi hw => hB i hi (all listed hr i hi) hw) a ha, fun i hi => ?_⟩
    obtain ⟨h0, o, ho, hdep⟩ := mem_ready.1 hi
    have ho' : l[i]? = some o := by simpa using ho
    have hil : i < l.length := (List.getElem?_eq_some_iff.1 ho').1
    have hdep' : ∀ j, (o.after.any fun e => Region.binds .any e && e.on == j) = true → listed.getD j true = true ∧ j < i := fun j hj => by
      rw [← Array.any_toList, List.any_eq_true] at hj
      obtain ⟨e, hm0, hb⟩ := hj
      have hm : e ∈ o.after := Array.mem_toList_iff.1 hm0
      simp only [Bool.and_eq_true, beq_iff_eq] at hb
      have h1 := hdep e hm hb.1
      rw [hb.2] at h1
      have hjl : j < listed.size := by
        rcases Nat.lt_or_ge j listed.size with h' | h'
        · exact h'
        · simp [Array.getElem?_eq_none h'] at h1
      have h2 := List.all_eq_true.1 he i (List.mem_range.2 hil)
      simp only [ho'] at h2
      have h3 := Array.all_eq_true_iff_forall_mem.1 h2 e hm
      simp only [hb.1, Bool.not_true, Bool.false_or, decide_eq_true_eq] at h3
      exact ⟨by simpa [hjl] using h1, by omega⟩
    have hlen : ∀ j q, waits l j q = true → j < l.length := fun j q hw => by
      unfold waits at hw
      rcases Nat.lt_or_ge j l.length with h' | h'
      · exact h'
      · rw [List.getElem?_eq_none h'] at hw; cases hw
    have hnot : ∀ j, waits l j i = true → listed.getD j true = false := fun j hw => by
      by_cases hl : listed.getD j true = true
      · exfalso
        rw [hws j (hlen j i hw) hl i hw] at h0
        cases h0
      · simpa using hl
    have hs1 : pre.contains i = true ∨ i = s1 → listed.getD s1 true = false := fun hw => by
      rcases hw with hw | hw
      · refine pre_not hpre (fun j q hq h0q => ?_) hlen _ i (Nat.le_refl _) hw h0
        by_cases hl : listed.getD j true = true
        · exfalso
          rw [hws j (hlen j q hq) hl q hq] at h0q
          cases h0q
        · simpa using hl
      · subst hw; exact h0
    have hwi : ∀ j, waits l i j = true → listed.getD j true = true ∧ j < i := fun j hj => by
      unfold waits at hj
      rw [ho'] at hj
      exact hdep' j (by simpa using hj)
    have hst := Steps4.get l 0 i o (hsteps x W a ha) ho' (fun j hw => by
        rw [Nat.zero_add] at hw
        exact hin j (hlen j i hw) (hnot j hw))
      (fun j hj => by rw [Nat.zero_add] at hj; exact hA j (by have := (hwi j hj).2; omega) (hwi j hj).1)
      (fun j hj hj1 => by rw [Nat.zero_add] at hj; exact hB j (by have := (hwi j hj).2; omega) (hwi j hj).1 hj1)
      (listed.getD s1 true) (listed.getD s2 true) (listed.getD s3 true)
      (fun hp => ⟨(h1 hp).1, fun j hj => by rw [Nat.zero_add] at hj; exact (h1 hp).2 j (by have := (hwi j hj).2; omega) (hwi j hj).1⟩)
      h2
      (fun hw => hs1 (by rw [Nat.zero_add] at hw; exact hw))
      (fun hw => by rw [Nat.zero_add] at hw; exact (hwi s1 hw).1)
      (fun hw => by
        rw [Nat.zero_add] at hw
        rcases hw with hw | hw
        · exact hnot s2 hw
        · subst hw; exact h0)
      (fun hw => by
        rw [Nat.zero_add] at hw
        rcases hw with hw | hw
        · exact hnot s3 hw
        · subst hw; exact h0)
      (fun hw => by rw [Nat.zero_add] at hw; exact (hwi s2 hw).1)
      (fun hw => by rw [Nat.zero_add] at hw; exact (hwi s3 hw).1)
      (fun a' W' => wpAny P .any l.toArray Q fuel (listed.setIfInBounds i true) a' W')
      (by
        intro v W' hord hi1 hi2 hi3 hv hvB
        rw [Nat.zero_add] at hv hord hi1 hi2 hi3 hvB
        have hset : (listed.setIfInBounds i true).getD i true = true := by simp [show i < listed.size by omega]
        have xne : ∀ j, j ≠ i → updX x i v j = x j := fun j hj => by simp only [updX]; rw [if_neg hj]
        refine ih (listed.setIfInBounds i true) (updX x i v) _ W' (by have := unl_set h0 hil; omega) ?_ (fun j hj hl => ?_) (fun j hj hl hw => ?_) (fun hl => ?_) (fun hl => ?_) (fun q hql hl j hw => ?_) (by simpa using hsz0) (fun j hjl hl => ?_)
        · rw [ha]
          cases hd : o.dst with
          | none =>
            simp only [Act.put]
            congr 1
            have key : ∀ (os : List Oper) (k m : Nat) (t : Array Value), os[m]? = some o → fillA (updX x (k + m) v) k os t = fillA x k os t := by
              intro os
              induction os with
              | nil => intro k m t h; rfl
              | cons p os ihs =>
                intro k m t h
                cases m with
                | zero =>
                  simp only [List.getElem?_cons_zero, Option.some.injEq] at h
                  subst h
                  simp only [fillA, hd]
                  exact fillA_congr os (k + 1) _ fun j hj => by simp only [updX]; rw [if_neg (by omega)]
                | succ m =>
                  simp only [fillA]
                  have e1 : updX x (k + (m + 1)) v k = x k := by simp only [updX]; rw [if_neg (by omega)]
                  rw [e1, show k + (m + 1) = k + 1 + m by omega]
                  exact ihs (k + 1) m _ (by simpa using h)
            have := key l 0 i a0.tmps ho'
            rw [Nat.zero_add] at this
            exact this.symm
          | some d =>
            simp only [Act.put]
            congr 1
            have := fillA_upd (x := x) (v := v) l 0 i o a0.tmps hn ho' hd
            rw [Nat.zero_add] at this
            exact this.symm
        · by_cases hji : j = i
          · subst hji
            simpa [updX] using hv
          · rw [xne j hji]
            rw [getD_set_ne true (Ne.symm hji)] at hl
            exact hA j hj hl
        · by_cases hjs : i = s1
          · exfalso
            subst hjs
            by_cases hji : j = i
            · subst hji
              exact Nat.lt_irrefl _ (hwi j hw).2
            · rw [getD_set_ne true (Ne.symm hji)] at hl
              rw [hws j hj hl i hw] at h0
              cases h0
          · rw [xne s1 (Ne.symm hjs)]
            by_cases hji : j = i
            · subst hji
              simpa [updX] using hvB hw
            · rw [xne j hji]
              rw [getD_set_ne true (Ne.symm hji)] at hl
              exact hB j hj hl hw
        · by_cases his : i = s1
          · subst his
            rw [hset] at hl
            cases hl
          · rw [getD_set_ne true his] at hl
            obtain ⟨g1, g2⟩ := h1 hl
            have his2 : i ≠ s2 := fun e => by
              subst e
              rw [(hwi s1 h12).1] at hl
              cases hl
            have his3 : i ≠ s3 := fun e => by
              subst e
              rw [Bool.or_eq_true, decide_eq_true_eq] at h13
              rw [(hwi s1 (h13.resolve_left (by omega))).1] at hl
              cases hl
            obtain ⟨hU, hE⟩ := hord his his2 his3
            refine ⟨hU1 _ _ hU g1, fun j hj hl' => ?_⟩
            by_cases hji : j = i
            · subst hji
              simpa [updX] using hE
            · rw [xne j hji]
              rw [getD_set_ne true (Ne.symm hji)] at hl'
              exact (atC E j).mono _ _ _ hU (g2 j hj hl')
        · by_cases his : i = s1
          · subst his
            have e2 : listed.getD s2 true = false := hnot s2 h12
            have e3 : listed.getD s3 true = decide (l.length ≤ s3) := by
              rw [Bool.or_eq_true, decide_eq_true_eq] at h13
              rcases h13 with h' | h'
              · rw [hbig s3 h', decide_eq_true h']
              · rw [hnot s3 h', decide_eq_false (by have := hlen s3 i h'; omega)]
            rw [getD_set_ne true hne12, getD_set_ne true hne13, e2, e3]
            simpa [updX] using hi1 rfl
          · rw [getD_set_ne true his] at hl
            rw [xne s1 (Ne.symm his)]
            by_cases his2 : i = s2
            · subst his2
              rw [hset, getD_set_ne true hne23]
              exact hi2 rfl
            · by_cases his3 : i = s3
              · subst his3
                rw [hset, getD_set_ne true his2]
                exact hi3 rfl
              · rw [getD_set_ne true his2, getD_set_ne true his3]
                exact hUP _ _ _ _ _ (hord his his2 his3).1 (h2 hl)
        · by_cases hji : j = i
          · subst hji
            simp [show j < listed.size by omega]
          · rw [getD_set_ne true (Ne.symm hji)]
            by_cases his : i = q
            · subst his
              unfold waits at hw
              rw [ho'] at hw
              exact (hdep' j (by simpa using hw)).1
            · rw [getD_set_ne true his] at hl
              exact hws q hql hl j hw
        · by_cases hji : j = i
          · subst hji
            exfalso
            simp [show j < listed.size by omega] at hl
          · have e1 : updX x i v j = x j := by simp only [updX]; rw [if_neg hji]
            rw [e1]
            rw [getD_set_ne true (Ne.symm hji)] at hl
            exact hin j hjl hl)
    unfold wantOp at hst
    unfold wpOp
    simp only [ho]
    split
    · rename_i hw
      rw [if_pos hw] at hst
      exact .inl hst
    · rename_i hw
      rw [if_neg hw] at hst
      exact hst

/-- A REGION THAT DRAWS ITS ORDER AND HOLDS s1, AND BEHIND IT s2 AND s3, IN ANY ORDER (s3 not there: the list's length). -/
theorem region_rel4 {id : Nat} {l : List Oper} {a0 : Act} {w : World} (pre : List Nat) (s1 s2 s3 : Nat) (U : World → World → Prop) (S1 : World → Prop) (Ph : Bool → Bool → Value → World → Prop) (E : List (Cd U)) (A : List (Value → Prop)) (A2 : List (Value → Value → Prop)) (hm : P.follows .mixedOrders = true) (hn : (dsts l).Nodup) (he : edgesBack l = true)
    (hpre : preOK l s1 pre = true) (h12 : waits l s2 s1 = true) (h13 : (decide (l.length ≤ s3) || waits l s3 s1) = true) (hne12 : s1 ≠ s2) (hne13 : s1 ≠ s3) (hne23 : s2 ≠ s3) (hl1 : s1 < l.length) (hl2 : s2 < l.length) (hS : S1 w.drew)
    (hU1 : ∀ W W', U W W' → S1 W → S1 W') (hUP : ∀ q r v W W', U W W' → Ph q r v W → Ph q r v W')
    (hsteps : ∀ x W, ∀ a, a = (⟨fillA x 0 l a0.tmps, a0.defers⟩ : Act) → Steps4 P l a0.tmps Q pre s1 s2 s3 U S1 Ph E A A2 x a W 0 l)
    (hdone : ∀ x W, Ph true true (x s1) W → (∀ i, i < l.length → atA A i (x i)) → (∀ i, i < l.length → waits l i s1 = true → atB A2 i (x s1) (x i)) → ∀ a, a = (⟨fillA x 0 l a0.tmps, a0.defers⟩ : Act) → Q .normal a W) :
    (Code.region id l.toArray true).wp P Q a0 w := by
  refine wp_region_any hm (rel4_any (a0 := a0) hn he hpre h12 h13 hne12 hne13 hne23 hl1 hl2 hU1 hUP hsteps hdone l.toArray.size (Array.replicate l.toArray.size false) (asIs l a0.tmps) a0 w.drew ?_ ?_ ?_ ?_ (fun _ => ⟨hS, ?_⟩) ?_ ?_ ?_ (fun _ _ _ => rfl))
  · simpa using unl_false l.length l.length (Nat.le_refl _)
  · rw [fillA_start]
  · intro i hi h
    exfalso
    simp [hi] at h
  · intro i hi h
    exfalso
    simp [hi] at h
  · intro i hi h
    exfalso
    simp [hi] at h
  · intro h
    exfalso
    simp [hl1] at h
  · intro j hsl h
    exfalso
    simp [hsl] at h
  · simp
end Go.Proofs.YtmknghhgcecafaaDoor.Mem
