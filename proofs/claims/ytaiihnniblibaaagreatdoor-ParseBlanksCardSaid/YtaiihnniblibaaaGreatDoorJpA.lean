import Derived.Lib.Bytes
import Derived.Deep.RegionHeld3
import Derived.Below
import Derived.WalkKit
import Derived.ProofKit
import Derived.OpenShut
import Derived.Lib.Hide
import Derived.Deep.QuietTactic
import Derived.BigQuiet
import Derived.Test.YtaiihnniblibaaaGreatDoorChecked
import Derived.Outline
import Derived.WalkMore
import Derived.OneCell
import Derived.OwnWalk
import Derived.StillTailTactics
import Derived.Shelf.Abstract

/-
 Plain mathematics of layer 5 (tree): rows of trees, how they nest, which are right. Nothing of the program is imported.
-/
namespace Go.Proofs.YtaiihnniblibaaaGreatDoor.Tree
set_option linter.unusedVariables false

/-- A row of trees: the first one's kind, text, trail and Kids, and the rest. -/
inductive F where
 | nil
 | cons (k : Int) (x y : ByteArray) (c r : F)

namespace F
def len : F → Nat
 | .nil => 0
 | .cons _ _ _ _ r => r.len + 1
def size : F → Nat
 | .nil => 0
 | .cons _ _ _ c r => c.size + r.size + 1
def drop : Nat → F → F
 | 0, f => f
 | _ + 1, .nil => .nil
 | n + 1, .cons _ _ _ _ r => r.drop n
theorem drop_nil : ∀ n : Nat, F.drop n .nil = .nil
 | 0 => rfl
 | _ + 1 => rfl
theorem drop_len : ∀ (n : Nat) (f : F), (f.drop n).len = f.len - n
 | 0, f => rfl
 | n + 1, .nil => by simp [drop, len]
 | n + 1, .cons _ _ _ _ r => by simp only [drop, len, drop_len n r]; omega
theorem drop_drop : ∀ (n m : Nat) (f : F), (f.drop n).drop m = f.drop (n + m)
 | 0, m, f => by rw [Nat.zero_add]; rfl
 | n + 1, m, .nil => by simp only [drop_nil]
 | n + 1, m, .cons _ _ _ _ r => by rw [show n + 1 + m = (n + m) + 1 by omega]; simp only [drop, drop_drop n m r]
theorem drop_all : ∀ (n : Nat) (f : F), f.len ≤ n → f.drop n = .nil
 | n, .nil, _ => drop_nil n
 | 0, .cons _ _ _ _ r, h => by simp [len] at h
 | n + 1, .cons _ _ _ _ r, h => drop_all n r (by simp only [len] at h; omega)
theorem drop_cons : ∀ {n : Nat} {f : F}, n < f.len → ∃ k x y c r, f.drop n = .cons k x y c r ∧ f.drop (n + 1) = r
 | n, .nil, h => by simp [len] at h
 | 0, .cons k x y c r, _ => ⟨k, x, y, c, r, rfl, rfl⟩
 | n + 1, .cons _ _ _ _ r, h => by
  obtain ⟨k, x, y, c, r', h1, h2⟩ := drop_cons (n := n) (f := r) (by simp only [len] at h; omega)
  exact ⟨k, x, y, c, r', h1, h2⟩
end F

/-- How strongly an operator binds. -/
def level (s : ByteArray) : Nat :=
 if s.toList == [124, 124] then 1
 else if s.toList == [38, 38] then 2
 else if s.toList == [61, 61] || s.toList == [33, 61] || s.toList == [60] || s.toList == [60, 61] || s.toList == [62] || s.toList == [62, 61] then 3
 else if s.toList == [43] || s.toList == [45] || s.toList == [124] || s.toList == [94] then 4
 else if s.toList == [42] || s.toList == [47] || s.toList == [37] || s.toList == [60, 60] || s.toList == [62, 62] || s.toList == [38] || s.toList == [38, 94] then 5
 else 0
theorem level_le (s : ByteArray) : level s ≤ 5 := by unfold level; repeat' split <;> try omega

/-- How much deeper than its parent a Kid stands, but for parentheses. -/
def more (pk : Int) (i : Nat) (kk : Int) : Nat :=
 if pk = 28 ∨ pk = 10 ∨ pk = 11 ∨ pk = 12 ∨ pk = 13 ∨ pk = 15 ∨ pk = 17 then 1
 else if pk = 30 ∨ pk = 31 then (if 0 < i then 1 else 0)
 else if pk = 18 then (if i = 2 ∧ kk = 18 then 1 else 0)
 else 0
def holds (k : Int) : Bool := k == 1 || k == 17 || k == 13

/-- A part of a row of Kids: all up to the first that doesn't pass, or one that passes. -/
inductive Pt where
 | many (p : Int → ByteArray → Bool)
 | one (l : List (Int → ByteArray → Bool))

def dropM (p : Int → ByteArray → Bool) : F → F
 | .nil => .nil
 | .cons k x y c r => if p k x then dropM p r else .cons k x y c r
def Pt.take : Pt → F → Option F
 | .many p, f => some (dropM p f)
 | .one l, .nil => none
 | .one l, .cons k x _ _ r => if l.any (fun p => p k x) then some r else none
section
variable (nm : ByteArray → Bool) (tk : ByteArray → Int → Bool)
end

/-- Two rows that are the same. -/
def same : F → F → Bool
 | .nil, .nil => true
 | .cons k x y c r, .cons k' x' y' c' r' => (k == k' && x.toList == x'.toList && y.toList == y'.toList && same c c') && same r r'
 | _, _ => false
theorem ba_toList {a b : ByteArray} (h : a.toList = b.toList) : a = b := by
 rw [ByteArray.toList_eq, ByteArray.toList_eq] at h
 cases a; cases b; simp at h; rw [h]
theorem same_refl : ∀ f : F, same f f = true
 | .nil => rfl
 | .cons k x y c r => by simp [same, same_refl c, same_refl r]
/-- A node. -/
structure Nd where
 k : Int
 x : ByteArray
 y : ByteArray
 c : F
def Nd.size (n : Nd) : Nat := n.c.size + 1
/-- A row's nodes, each ahead of its Kids. -/
def nodes : F → List Nd
 | .nil => []
 | .cons k x y c r => ⟨k, x, y, c⟩ :: (nodes c ++ nodes r)
end Go.Proofs.YtaiihnniblibaaaGreatDoor.Tree

/-
 Words of no layer: a region that draws its order, walked once for all orders: what each operation leaves is told by a condition on its value and the world, which no later operation breaks.
-/
namespace Go.Proofs.YtaiihnniblibaaaGreatDoor.Mem
set_option linter.unusedVariables false

/-- A condition on a value and the world that no step from world to world breaks. -/
structure Cd (T : World → World → Prop) where
 p : Value → World → Prop
 mono : ∀ v W W', T W W' → p v W → p v W'
def Cd.any {T : World → World → Prop} : Cd T := ⟨fun _ _ => True, fun _ _ _ _ _ => trivial⟩
def Cd.is {T : World → World → Prop} (u : Value) : Cd T := ⟨fun v _ => v = u, fun _ _ _ _ h => h⟩
/-- The condition on operation i of a region. -/
def atC {T : World → World → Prop} (Φ : List (Cd T)) (i : Nat) : Cd T := Φ.getD i Cd.any

/-- The frame's slots when each operation's slot holds its x. -/
def fillA (x : Nat → Value) : Nat → List Oper → Array Value → Array Value
 | _, [], t => t
 | i, o :: os, t => fillA x (i + 1) os (match o.dst with | some d => t.setIfInBounds d (x i) | none => t)
def updX (x : Nat → Value) (i : Nat) (v : Value) : Nat → Value := fun j => if j = i then v else x j
def dsts (l : List Oper) : List Nat := l.filterMap fun o => o.dst

theorem fillA_congr {x x' : Nat → Value} : ∀ (l : List Oper) (i : Nat) (t : Array Value), (∀ j, i ≤ j → x j = x' j) → fillA x i l t = fillA x' i l t
 | [], _, _, _ => rfl
 | o :: os, i, t, h => by
  simp only [fillA]
  rw [h i (Nat.le_refl _)]
  exact fillA_congr os (i + 1) _ fun j hj => h j (by omega)
theorem fillA_set {x : Nat → Value} {d : Nat} {v : Value} : ∀ (l : List Oper) (i : Nat) (t : Array Value), d ∉ dsts l → fillA x i l (t.setIfInBounds d v) = (fillA x i l t).setIfInBounds d v
 | [], _, _, _ => rfl
 | o :: os, i, t, h => by
  have h2 : d ∉ dsts os := fun hm => h (by simp only [dsts, List.filterMap_cons] at hm ⊢; split <;> simp_all)
  simp only [fillA]
  cases hd : o.dst with
  | none => exact fillA_set os (i + 1) t h2
  | some e =>
   have hne : e ≠ d := fun he => h (by simp only [dsts, List.filterMap_cons, hd, he]; exact List.mem_cons_self ..)
   simp only
   rw [← fillA_set os (i + 1) (t.setIfInBounds e (x i)) h2, Array.setIfInBounds_comm _ _ hne]
theorem fillA_upd {x : Nat → Value} {d : Nat} {v : Value} : ∀ (l : List Oper) (i j : Nat) (o : Oper) (t : Array Value), (dsts l).Nodup → l[j]? = some o → o.dst = some d → fillA (updX x (i + j) v) i l t = (fillA x i l t).setIfInBounds d v
 | [], _, _, _, _, _, h, _ => by simp at h
 | p :: os, i, 0, o, t, hn, h, hd => by
  simp only [List.getElem?_cons_zero, Option.some.injEq] at h
  subst h
  have hn' : d ∉ dsts os ∧ (dsts os).Nodup := by
   simp only [dsts, List.filterMap_cons, hd] at hn
   exact List.nodup_cons.1 hn
  simp only [fillA, hd, Nat.add_zero]
  rw [fillA_congr (x' := x) os (i + 1) _ (fun k hk => by simp only [updX]; rw [if_neg (by omega)])]
  rw [← fillA_set os (i + 1) _ hn'.1]
  simp [updX]
 | p :: os, i, j + 1, o, t, hn, h, hd => by
  have hn' : (dsts os).Nodup := by
   simp only [dsts, List.filterMap_cons] at hn
   split at hn
   ·exact hn
   ·exact (List.nodup_cons.1 hn).2
  simp only [fillA]
  have e1 : updX x (i + (j + 1)) v i = x i := by simp only [updX]; rw [if_neg (by omega)]
  rw [e1, show i + (j + 1) = i + 1 + j by omega]
  exact fillA_upd os (i + 1) j o _ hn' (by simpa using h) hd
theorem set_same {t : Array Value} {d : Nat} : t.setIfInBounds d (t.getD d undef) = t := by
 apply Array.ext_getElem?
 intro k
 rw [Array.getElem?_setIfInBounds]
 by_cases h : d = k
 ·subst h
  by_cases hk : d < t.size
  ·simp [hk]
  ·simp [hk]
 ·simp [h]
/-- The slots as they stand, as what each operation leaves. -/
def asIs (l : List Oper) (t : Array Value) : Nat → Value := fun j => ((l[j]?).bind (·.dst)).elim undef (fun d => t.getD d undef)
theorem fillA_asIs (t : Array Value) : ∀ (l : List Oper) (i : Nat) (x : Nat → Value), (∀ j o d, l[j]? = some o → o.dst = some d → x (i + j) = t.getD d undef) → fillA x i l t = t
 | [], _, _, _ => rfl
 | o :: os, i, x, h => by
  simp only [fillA]
  have e : (match o.dst with | some d => t.setIfInBounds d (x i) | none => t) = t := by
   cases hd : o.dst with
   | none => rfl
   | some d =>
    have := h 0 o d rfl hd
    rw [Nat.add_zero] at this
    simp only [this]
    exact set_same
  rw [e]
  exact fillA_asIs t os (i + 1) x fun j o' d hj hd => by
   rw [show i + 1 + j = i + (j + 1) by omega]
   exact h (j + 1) o' d (by simpa using hj) hd
theorem fillA_start (l : List Oper) (t : Array Value) : fillA (asIs l t) 0 l t = t :=
 fillA_asIs t l 0 _ fun j o d hj hd => by simp [asIs, hj, hd]

/-- How many of the first n are not listed. -/
def unl (listed : Array Bool) : Nat → Nat
 | 0 => 0
 | n + 1 => unl listed n + if listed.getD n true = false then 1 else 0
theorem unl_none {listed : Array Bool} : ∀ {n : Nat}, unl listed n = 0 → ∀ i, i < n → listed.getD i true = true
 | 0, _, i, h => by omega
 | n + 1, h, i, hi => by
  simp only [unl] at h
  by_cases hl : listed.getD n true = false
  ·rw [if_pos hl] at h; omega
  ·by_cases hin : i = n
   ·subst hin; simpa using hl
   ·exact unl_none (n := n) (by omega) i (by omega)
theorem unl_set_out {listed : Array Bool} {i : Nat} : ∀ {n : Nat}, n ≤ i → unl (listed.setIfInBounds i true) n = unl listed n
 | 0, _ => rfl
 | n + 1, h => by
  simp only [unl]
  rw [unl_set_out (n := n) (by omega), getD_set_ne true (show i ≠ n by omega)]
theorem unl_set {listed : Array Bool} {i : Nat} (hu : listed.getD i true = false) : ∀ {n : Nat}, i < n → unl (listed.setIfInBounds i true) n + 1 = unl listed n
 | 0, h => by omega
 | n + 1, h => by
  simp only [unl]
  by_cases hin : i = n
  ·subst hin
   rw [unl_set_out (Nat.le_refl _), if_pos hu]
   have hs : i < listed.size := by
    rcases Nat.lt_or_ge i listed.size with h' | h'
    ·exact h'
    ·simp [Array.getElem?_eq_none h'] at hu
   simp [hs]
  ·rw [getD_set_ne true hin]
   have := unl_set hu (n := n) (by omega)
   omega

variable {P : Program} {Q : Exit → Act → World → Prop}

/-- One operation, carried out if its guard lets it. -/
def wantOp (P : Program) (l : List Oper) (Q : Exit → Act → World → Prop) (o : Oper) (K : Act → World → Prop) (a : Act) (w : World) : Prop :=
 if Region.wanted o (yielded l.toArray a.tmps) = true then o.wp P a w K Q else K (a.put o.dst undef) w

/-- Every edge leads back. -/
def edgesBack (l : List Oper) : Bool := (List.range l.length).all fun i => match l[i]? with
 | some o => o.after.all fun e => !Region.binds .any e || decide (e.on < i)
 | none => true

/-- What operations i, i+1, .. must do. -/
def Steps (P : Program) (l : List Oper) (Q : Exit → Act → World → Prop) {T : World → World → Prop} (Φ : List (Cd T)) (x : Nat → Value) (a : Act) (W : World) : Nat → List Oper → Prop
 | _, [] => True
 | i, o :: os => ((∀ j, (o.after.any fun e => Region.binds .any e && e.on == j) = true → (atC Φ j).p (x j) W) → ∀ K : Act → World → Prop, Shut (∀ v W', T W W' → (atC Φ i).p v W' → K (a.put o.dst v) W') → wantOp P l Q o K a W) ∧ Steps P l Q Φ x a W (i + 1) os

theorem Steps.get {l : List Oper} {T : World → World → Prop} {Φ : List (Cd T)} {x : Nat → Value} {a : Act} {W : World} : ∀ (os : List Oper) (k i : Nat) (o : Oper), Steps P l Q Φ x a W k os → os[i]? = some o →
  ((∀ j, (o.after.any fun e => Region.binds .any e && e.on == j) = true → (atC Φ j).p (x j) W) → ∀ K : Act → World → Prop, Shut (∀ v W', T W W' → (atC Φ (k + i)).p v W' → K (a.put o.dst v) W') → wantOp P l Q o K a W)
 | [], _, _, _, _, h => by simp at h
 | p :: os, k, 0, o, hs, h => by
  simp only [List.getElem?_cons_zero, Option.some.injEq] at h
  subst h
  exact hs.1
 | p :: os, k, i + 1, o, hs, h => by
  have := Steps.get os (k + 1) i o hs.2 (by simpa using h)
  rwa [show k + 1 + i = k + (i + 1) by omega] at this

theorem rel_any {l : List Oper} {T : World → World → Prop} {Φ : List (Cd T)} {a0 : Act} {w1 : World} (hn : (dsts l).Nodup) (he : edgesBack l = true) (htr : ∀ W1 W2 W3, T W1 W2 → T W2 W3 → T W1 W3)
  (hsteps : ∀ x W, T w1 W → ∀ a, a = (⟨fillA x 0 l a0.tmps, a0.defers⟩ : Act) → Steps P l Q Φ x a W 0 l)
  (hdone : ∀ x W, T w1 W → (∀ i, i < l.length → (atC Φ i).p (x i) W) → ∀ a, a = (⟨fillA x 0 l a0.tmps, a0.defers⟩ : Act) → Q .normal a W) :
  ∀ (fuel : Nat) (listed : Array Bool) (x : Nat → Value) (a : Act) (W : World), unl listed l.length = fuel → a = ⟨fillA x 0 l a0.tmps, a0.defers⟩ → T w1 W → (∀ i, i < l.length → listed.getD i true = true → (atC Φ i).p (x i) W) →
   wpAny P .any l.toArray Q fuel listed a W := by
 have all : ∀ listed : Array Bool, Region.ready .any l.toArray listed = [] → ∀ i, i < l.length → listed.getD i true = true := by
  intro listed hr i
  induction i using Nat.strongRecOn with
  | _ i ih =>
   intro hi
   by_cases hl : listed.getD i true = true
   ·exact hl
   ·exfalso
    have hm : i ∈ Region.ready .any l.toArray listed := mem_ready.2 ⟨by simpa using hl, l[i], by simp [hi], fun e hm hb => by
     have h1 := List.all_eq_true.1 he i (List.mem_range.2 hi)
     simp only [List.getElem?_eq_getElem hi] at h1
     have h2 := Array.all_eq_true_iff_forall_mem.1 h1 e hm
     simp only [hb, Bool.not_true, Bool.false_or, decide_eq_true_eq] at h2
     have h3 := ih e.on h2 (by omega)
     rcases Nat.lt_or_ge e.on listed.size with h' | h'
     ·simpa [h'] using h3
     ·exfalso
      have h4 : listed.getD i true = true := by simp [Array.getElem?_eq_none (show listed.size ≤ i by omega)]
      exact hl h4⟩
    rw [hr] at hm
    cases hm
 intro fuel
 induction fuel with
 | zero =>
  intro listed x a W hf ha hT hx
  have hall := unl_none hf
  refine ⟨?_, hdone x W hT (fun i hi => hx i hi (hall i hi)) a ha⟩
  cases hr : Region.ready .any l.toArray listed with
  | nil => rfl
  | cons i rs =>
   exfalso
   obtain ⟨h0, o, ho, _⟩ := mem_ready.1 (show i ∈ Region.ready .any l.toArray listed by rw [hr]; exact List.mem_cons_self ..)
   have hi : i < l.length := by
    have := (Array.getElem?_eq_some_iff.1 ho).1
    simpa using this
   rw [hall i hi] at h0
   cases h0
 | succ fuel ih =>
  intro listed x a W hf ha hT hx
  refine ⟨fun hr => hdone x W hT (fun i hi => hx i hi (all listed hr i hi)) a ha, fun i hi => ?_⟩
  obtain ⟨h0, o, ho, hdep⟩ := mem_ready.1 hi
  have ho' : l[i]? = some o := by simpa using ho
  have hil : i < l.length := (List.getElem?_eq_some_iff.1 ho').1
  have hst := Steps.get l 0 i o (hsteps x W hT a ha) ho' (fun j hj => by
   rw [← Array.any_toList, List.any_eq_true] at hj
   obtain ⟨e, hm0, hb⟩ := hj
   have hm : e ∈ o.after := Array.mem_toList_iff.1 hm0
   simp only [Bool.and_eq_true, beq_iff_eq] at hb
   have h1 := hdep e hm hb.1
   rw [hb.2] at h1
   have hjl : j < listed.size := by
    rcases Nat.lt_or_ge j listed.size with h' | h'
    ·exact h'
    ·simp [Array.getElem?_eq_none h'] at h1
   have h2 := List.all_eq_true.1 he i (List.mem_range.2 hil)
   simp only [ho'] at h2
   have h3 := Array.all_eq_true_iff_forall_mem.1 h2 e hm
   simp only [hb.1, Bool.not_true, Bool.false_or, decide_eq_true_eq] at h3
   exact hx j (by omega) (by simpa [hjl] using h1))
   (fun a' W' => wpAny P .any l.toArray Q fuel (listed.setIfInBounds i true) a' W')
   (by
    intro v W' hTW hv
    rw [Nat.zero_add] at hv
    refine ih (listed.setIfInBounds i true) (updX x i v) _ W' (by have := unl_set h0 hil; omega) ?_ (htr _ _ _ hT hTW) (fun j hj hl => ?_)
    ·rw [ha]
     cases hd : o.dst with
     | none =>
      simp only [Act.put]
      congr 1
      have key : ∀ (os : List Oper) (k m : Nat) (t : Array Value), os[m]? = some o → fillA (updX x (k + m) v) k os t = fillA x k os t := by
       intro os
       induction os with
       | nil => intro k m t h; rfl
       | cons p os ihs =>
        intro k m t h
        cases m with
        | zero =>
         simp only [List.getElem?_cons_zero, Option.some.injEq] at h
         subst h
         simp only [fillA, hd]
         exact fillA_congr os (k + 1) _ fun j hj => by simp only [updX]; rw [if_neg (by omega)]
        | succ m =>
         simp only [fillA]
         have e1 : updX x (k + (m + 1)) v k = x k := by simp only [updX]; rw [if_neg (by omega)]
         rw [e1, show k + (m + 1) = k + 1 + m by omega]
         exact ihs (k + 1) m _ (by simpa using h)
      have := key l 0 i a0.tmps ho'
      rw [Nat.zero_add] at this
      exact this.symm
     | some d =>
      simp only [Act.put]
      congr 1
      have := fillA_upd (x := x) (v := v) l 0 i o a0.tmps hn ho' hd
      rw [Nat.zero_add] at this
      exact this.symm
    ·by_cases hji : j = i
     ·subst hji
      simpa [updX] using hv
     ·have e1 : updX x i v j = x j := by simp only [updX]; rw [if_neg hji]
      rw [e1]
      rw [getD_set_ne true (Ne.symm hji)] at hl
      exact (atC Φ j).mono _ _ _ hTW (hx j hj hl))
  unfold wantOp at hst
  unfold wpOp
  simp only [ho]
  split
  ·rename_i hw
   rw [if_pos hw] at hst
   exact .inl hst
  ·rename_i hw
   rw [if_neg hw] at hst
   exact hst

theorem unl_false : ∀ (m n : Nat), n ≤ m → unl (Array.replicate m false) n = n
 | m, 0, _ => rfl
 | m, n + 1, h => by
  simp only [unl]
  rw [unl_false m n (by omega)]
  simp [show n < m by omega]

theorem undrew {w W : World} (h : RowKit.Below w.drew.heap.size w.drew W) : RowKit.Below w.heap.size w W := ⟨h.os, h.tape, h.output, h.size, h.block⟩

/-- A REGION THAT DRAWS ITS ORDER, BY CONDITIONS. -/
theorem region_rel {id : Nat} {l : List Oper} {a0 : Act} {w : World} (T : World → World → Prop) (Φ : List (Cd T)) (hm : P.follows .mixedOrders = true) (hn : (dsts l).Nodup) (he : edgesBack l = true)
  (hrf : T w.drew w.drew) (htr : ∀ W1 W2 W3, T W1 W2 → T W2 W3 → T W1 W3)
  (hsteps : ∀ x W, T w.drew W → ∀ a, a = (⟨fillA x 0 l a0.tmps, a0.defers⟩ : Act) → Steps P l Q Φ x a W 0 l)
  (hdone : ∀ x W, T w.drew W → (∀ i, i < l.length → (atC Φ i).p (x i) W) → ∀ a, a = (⟨fillA x 0 l a0.tmps, a0.defers⟩ : Act) → Q .normal a W) :
  (Code.region id l.toArray true).wp P Q a0 w := by
 refine wp_region_any hm (rel_any (a0 := a0) (w1 := w.drew) (Φ := Φ) hn he htr hsteps hdone l.toArray.size (Array.replicate l.toArray.size false) (asIs l a0.tmps) a0 w.drew ?_ ?_ hrf ?_)
 ·simpa using unl_false l.length l.length (Nat.le_refl _)
 ·rw [fillA_start]
 ·intro i hi h
  exfalso
  simp [hi] at h
end Go.Proofs.YtaiihnniblibaaaGreatDoor.Mem

/-
 Layer 5 (tree): how a row of trees lies in memory. Nothing of the program is imported.
-/
namespace Go.Proofs.YtaiihnniblibaaaGreatDoor.Tree
open Go.ChangeShapes Go.WideShapes Go.ChangeAt Go.RowKit
set_option linter.unusedVariables false

/-- The slice v reads as the row of trees f; every block that it goes through is one of S. -/
def Fs (w : World) (S : Nat → Prop) : Value → F → Prop
 | v, .nil => ∃ A C, v = .slice A 0 C ∧ C ≤ 9223372036854775807
 | v, .cons k x y c r => ∃ b off n C s, v = .slice (some ⟨b, off, none⟩) (n + 1) (C + 1) ∧ r.len = n ∧ n ≤ C ∧ C + 1 ≤ 9223372036854775807 ∧ S b ∧
   w.cell? ⟨b, off, none⟩ = some (.int .i64 k) ∧ w.cell? ⟨b, off + 1, none⟩ = some (.string x) ∧ w.cell? ⟨b, off + 2, none⟩ = some (.string y) ∧ w.cell? ⟨b, off + 3, none⟩ = some s ∧
   Fs w S s c ∧ ∀ A', (r = .nil ∨ A' = some ⟨b, off + 4, none⟩) → Fs w S (.slice A' n C) r

/-- The blocks below B. -/
def Lo (B : Nat) : Nat → Prop := fun b => b < B

section
variable {w w' : World} {S S' : Nat → Prop} {v : Value} {f : F}
theorem Fs.keep : ∀ {f : F} {v : Value}, Fs w S v f → (∀ b, S b → w'.heap[b]? = w.heap[b]?) → Fs w' S v f
 | .nil, v, h, _ => h
 | .cons k x y c r, v, ⟨b, off, n, C, s, e, h1, h2, h3, hS, c0, c1, c2, c3, hk, hr⟩, hh =>
  ⟨b, off, n, C, s, e, h1, h2, h3, hS, (World.cell?_of_block (w := w) (hh b hS)).trans c0, (World.cell?_of_block (w := w) (hh b hS)).trans c1, (World.cell?_of_block (w := w) (hh b hS)).trans c2, (World.cell?_of_block (w := w) (hh b hS)).trans c3,
   hk.keep hh, fun A' hA => (hr A' hA).keep hh⟩
theorem Fs.more : ∀ {f : F} {v : Value}, Fs w S v f → (∀ b, S b → S' b) → Fs w S' v f
 | .nil, v, h, _ => h
 | .cons k x y c r, v, ⟨b, off, n, C, s, e, h1, h2, h3, hS, c0, c1, c2, c3, hk, hr⟩, hh =>
  ⟨b, off, n, C, s, e, h1, h2, h3, hh b hS, c0, c1, c2, c3, hk.more hh, fun A' hA => (hr A' hA).more hh⟩
theorem Fs.below {B B0 : Nat} (h : Fs w (Lo B) v f) (hb : Below B0 w w') (hB : B ≤ B0) : Fs w' (Lo B) v f :=
 h.keep fun b hb' => hb.block b (Nat.lt_of_lt_of_le hb' hB)
theorem Fs.up {B B' : Nat} (h : Fs w (Lo B) v f) (hB : B ≤ B') : Fs w (Lo B') v f := h.more fun b hb => Nat.lt_of_lt_of_le hb hB
theorem Fs.drewN (h : Fs w S v f) (q : Nat) : Fs (w.drewN q) S v f := h.keep fun _ _ => rfl

theorem Fs.slice : ∀ {f : F} {v : Value}, Fs w S v f → ∃ A C, v = .slice A f.len C ∧ f.len ≤ C ∧ C ≤ 9223372036854775807
 | .nil, v, ⟨A, C, e, h⟩ => ⟨A, C, e, Nat.zero_le _, h⟩
 | .cons k x y c r, v, ⟨b, off, n, C, s, e, h1, h2, h3, _⟩ => ⟨some ⟨b, off, none⟩, C + 1, by rw [e, ← h1]; rfl, by simp only [F.len]; omega, h3⟩

theorem Fs.nil {A : Option Addr} {C : Nat} (hC : C ≤ 9223372036854775807) : Fs w S (.slice A 0 C) .nil := ⟨A, C, rfl, hC⟩

/-- What stands at place i. -/
structure At (w : World) (S : Nat → Prop) (b off i : Nat) (k : Int) (x y : ByteArray) (c : F) (s : Value) : Prop where
 c0 : w.cell? ⟨b, off + i * 4, none⟩ = some (.int .i64 k)
 c1 : w.cell? ⟨b, off + i * 4 + 1, none⟩ = some (.string x)
 c2 : w.cell? ⟨b, off + i * 4 + 2, none⟩ = some (.string y)
 c3 : w.cell? ⟨b, off + i * 4 + 3, none⟩ = some s
 kids : Fs w S s c

theorem Fs.drop : ∀ {f : F} {b off n C : Nat} (i : Nat), Fs w S (.slice (some ⟨b, off, none⟩) n C) f → i ≤ n → ∀ A', (i = n ∨ A' = some ⟨b, off + i * 4, none⟩) → Fs w S (.slice A' (n - i) (C - i)) (f.drop i)
 | .nil, b, off, n, C, i, ⟨A, C', e, h⟩, hi, A', hA => by
  injection e with e1 e2 e3
  subst e2
  rw [F.drop_nil]
  exact ⟨A', C - i, by rw [Nat.zero_sub], by omega⟩
 | .cons k x y c r, b, off, n, C, 0, h, hi, A', hA => by
  rcases hA with hA | hA
  ·subst hA
   obtain ⟨b', off', n', C', s, e, _⟩ := h
   injection e with _ e2 _
   cases e2
  ·subst hA
   simpa [F.drop] using h
 | .cons k x y c r, b, off, n, C, i + 1, ⟨b', off', n', C', s, e, h1, h2, h3, hS, c0, c1, c2, c3, hk, hr⟩, hi, A', hA => by
  injection e with e1 e2 e3
  injection e1 with e1
  injection e1 with e4 e5
  subst e2; subst e3; subst e4; subst e5
  by_cases hz : r = .nil
  ·subst hz
   simp only [F.drop, F.drop_nil]
   simp only [F.len] at h1
   subst h1
   exact ⟨A', C' + 1 - (i + 1), by simp, by omega⟩
  ·have := (hr (some ⟨b, off + 4, none⟩) (.inr rfl)).drop i (by omega) A' (by
    rcases hA with hA | hA
    ·exact .inl (by omega)
    ·exact .inr (by rw [hA, show off + (i + 1) * 4 = off + 4 + i * 4 by omega]))
   simpa [F.drop, Nat.add_sub_add_right] using this

theorem Fs.at_ {A : Option Addr} {n C : Nat} {i : Nat} {k : Int} {x y : ByteArray} {c r : F} (h : Fs w S (.slice A n C) f) (hf : f.drop i = .cons k x y c r) : ∃ b off s, A = some ⟨b, off, none⟩ ∧ S b ∧ i < n ∧ At w S b off i k x y c s := by
 have hlen : i < f.len := by
  have := F.drop_len i f
  rw [hf] at this
  simp only [F.len] at this
  omega
 obtain ⟨A', C', e, _⟩ := h.slice
 injection e with e1 e2 e3
 subst e1; subst e2; subst e3
 cases f with
 | nil => simp [F.len] at hlen
 | cons k' x' y' c' r' =>
  have h' := h
  obtain ⟨b, off, n', C'', s', e, _, _, _, hS, _⟩ := h'
  injection e with e1 e2 e3
  subst e1; subst e3
  have hd := h.drop i (by omega) (some ⟨b, off + i * 4, none⟩) (.inr rfl)
  rw [hf] at hd
  obtain ⟨b2, off2, n2, C2, s, e, _, _, _, _, c0, c1, c2, c3, hk, _⟩ := hd
  injection e with e1 e2 e3
  injection e1 with e1
  injection e1 with e4 e5
  subst e4; subst e5
  exact ⟨b, off, s, rfl, hS, hlen, c0, c1, c2, c3, hk⟩
end

end Go.Proofs.YtaiihnniblibaaaGreatDoor.Tree

/-
 Layer 5 (tree): how strongly operators bind (Level), what stands in parentheses (Paren), how deep.
-/
namespace Go.Proofs.YtaiihnniblibaaaGreatDoor.Tree
open Go.ChangeShapes Go.WideShapes Go.ChangeAt Go.RowKit
set_option linter.unusedVariables false

-- BEGIN LEVEL
set_option maxHeartbeats 4000000 in
theorem level_any (s : ByteArray) (w : World) : Calls Tryz.prog 101 #[.string s] w fun e w' => e = .returned (.int .i64 (level s : Int)) ∧ w' = w := by
 have hl : level s = level s := rfl
 conv at hl => rhs; unfold level
 cases b0 : (s.toList == [124, 124]) with
 | true =>
  have hv : level s = 1 := by rw [hl]; simp [b0]
  rw [hv]; clear hv hl
  go_enter Tryz.func101, Tryz.ntmps101
  go_wp2
  go_ret
  exact ⟨rfl, rfl⟩
 | false =>
 cases b1 : (s.toList == [38, 38]) with
 | true =>
  have hv : level s = 2 := by rw [hl]; simp [b0, b1]
  rw [hv]; clear hv hl
  go_enter Tryz.func101, Tryz.ntmps101
  go_wp2
  go_ret
  exact ⟨rfl, rfl⟩
 | false =>
 cases b2 : (s.toList == [61, 61]) with
 | true =>
  have hv : level s = 3 := by rw [hl]; simp [b0, b1, b2]
  rw [hv]; clear hv hl
  go_enter Tryz.func101, Tryz.ntmps101
  go_wp2
  go_ret
  exact ⟨rfl, rfl⟩
 | false =>
 cases b3 : (s.toList == [33, 61]) with
 | true =>
  have hv : level s = 3 := by rw [hl]; simp [b0, b1, b2, b3]
  rw [hv]; clear hv hl
  go_enter Tryz.func101, Tryz.ntmps101
  go_wp2
  go_ret
  exact ⟨rfl, rfl⟩
 | false =>
 cases b4 : (s.toList == [60]) with
 | true =>
  have hv : level s = 3 := by rw [hl]; simp [b0, b1, b2, b3, b4]
  rw [hv]; clear hv hl
  go_enter Tryz.func101, Tryz.ntmps101
  go_wp2
  go_ret
  exact ⟨rfl, rfl⟩
 | false =>
 cases b5 : (s.toList == [60, 61]) with
 | true =>
  have hv : level s = 3 := by rw [hl]; simp [b0, b1, b2, b3, b4, b5]
  rw [hv]; clear hv hl
  go_enter Tryz.func101, Tryz.ntmps101
  go_wp2
  go_ret
  exact ⟨rfl, rfl⟩
 | false =>
 cases b6 : (s.toList == [62]) with
 | true =>
  have hv : level s = 3 := by rw [hl]; simp [b0, b1, b2, b3, b4, b5, b6]
  rw [hv]; clear hv hl
  go_enter Tryz.func101, Tryz.ntmps101
  go_wp2
  go_ret
  exact ⟨rfl, rfl⟩
 | false =>
 cases b7 : (s.toList == [62, 61]) with
 | true =>
  have hv : level s = 3 := by rw [hl]; simp [b0, b1, b2, b3, b4, b5, b6, b7]
  rw [hv]; clear hv hl
  go_enter Tryz.func101, Tryz.ntmps101
  go_wp2
  go_ret
  exact ⟨rfl, rfl⟩
 | false =>
 cases b8 : (s.toList == [43]) with
 | true =>
  have hv : level s = 4 := by rw [hl]; simp [b0, b1, b2, b3, b4, b5, b6, b7, b8]
  rw [hv]; clear hv hl
  go_enter Tryz.func101, Tryz.ntmps101
  go_wp2
  go_ret
  exact ⟨rfl, rfl⟩
 | false =>
 cases b9 : (s.toList == [45]) with
 | true =>
  have hv : level s = 4 := by rw [hl]; simp [b0, b1, b2, b3, b4, b5, b6, b7, b8, b9]
  rw [hv]; clear hv hl
  go_enter Tryz.func101, Tryz.ntmps101
  go_wp2
  go_ret
  exact ⟨rfl, rfl⟩
 | false =>
 cases b10 : (s.toList == [124]) with
 | true =>
  have hv : level s = 4 := by rw [hl]; simp [b0, b1, b2, b3, b4, b5, b6, b7, b8, b9, b10]
  rw [hv]; clear hv hl
  go_enter Tryz.func101, Tryz.ntmps101
  go_wp2
  go_ret
  exact ⟨rfl, rfl⟩
 | false =>
 cases b11 : (s.toList == [94]) with
 | true =>
  have hv : level s = 4 := by rw [hl]; simp [b0, b1, b2, b3, b4, b5, b6, b7, b8, b9, b10, b11]
  rw [hv]; clear hv hl
  go_enter Tryz.func101, Tryz.ntmps101
  go_wp2
  go_ret
  exact ⟨rfl, rfl⟩
 | false =>
 cases b12 : (s.toList == [42]) with
 | true =>
  have hv : level s = 5 := by rw [hl]; simp [b0, b1, b2, b3, b4, b5, b6, b7, b8, b9, b10, b11, b12]
  rw [hv]; clear hv hl
  go_enter Tryz.func101, Tryz.ntmps101
  go_wp2
  go_ret
  exact ⟨rfl, rfl⟩
 | false =>
 cases b13 : (s.toList == [47]) with
 | true =>
  have hv : level s = 5 := by rw [hl]; simp [b0, b1, b2, b3, b4, b5, b6, b7, b8, b9, b10, b11, b12, b13]
  rw [hv]; clear hv hl
  go_enter Tryz.func101, Tryz.ntmps101
  go_wp2
  go_ret
  exact ⟨rfl, rfl⟩
 | false =>
 cases b14 : (s.toList == [37]) with
 | true =>
  have hv : level s = 5 := by rw [hl]; simp [b0, b1, b2, b3, b4, b5, b6, b7, b8, b9, b10, b11, b12, b13, b14]
  rw [hv]; clear hv hl
  go_enter Tryz.func101, Tryz.ntmps101
  go_wp2
  go_ret
  exact ⟨rfl, rfl⟩
 | false =>
 cases b15 : (s.toList == [60, 60]) with
 | true =>
  have hv : level s = 5 := by rw [hl]; simp [b0, b1, b2, b3, b4, b5, b6, b7, b8, b9, b10, b11, b12, b13, b14, b15]
  rw [hv]; clear hv hl
  go_enter Tryz.func101, Tryz.ntmps101
  go_wp2
  go_ret
  exact ⟨rfl, rfl⟩
 | false =>
 cases b16 : (s.toList == [62, 62]) with
 | true =>
  have hv : level s = 5 := by rw [hl]; simp [b0, b1, b2, b3, b4, b5, b6, b7, b8, b9, b10, b11, b12, b13, b14, b15, b16]
  rw [hv]; clear hv hl
  go_enter Tryz.func101, Tryz.ntmps101
  go_wp2
  go_ret
  exact ⟨rfl, rfl⟩
 | false =>
 cases b17 : (s.toList == [38]) with
 | true =>
  have hv : level s = 5 := by rw [hl]; simp [b0, b1, b2, b3, b4, b5, b6, b7, b8, b9, b10, b11, b12, b13, b14, b15, b16, b17]
  rw [hv]; clear hv hl
  go_enter Tryz.func101, Tryz.ntmps101
  go_wp2
  go_ret
  exact ⟨rfl, rfl⟩
 | false =>
 cases b18 : (s.toList == [38, 94]) with
 | true =>
  have hv : level s = 5 := by rw [hl]; simp [b0, b1, b2, b3, b4, b5, b6, b7, b8, b9, b10, b11, b12, b13, b14, b15, b16, b17, b18]
  rw [hv]; clear hv hl
  go_enter Tryz.func101, Tryz.ntmps101
  go_wp2
  go_ret
  exact ⟨rfl, rfl⟩
 | false =>
 have hv : level s = 0 := by rw [hl]; simp [b0, b1, b2, b3, b4, b5, b6, b7, b8, b9, b10, b11, b12, b13, b14, b15, b16, b17, b18]
 rw [hv]; clear hv hl
 go_enter Tryz.func101, Tryz.ntmps101
 go_wp2
 go_ret
 exact ⟨rfl, rfl⟩
-- END LEVEL
end Go.Proofs.YtaiihnniblibaaaGreatDoor.Tree

/-
 Layer 6: words for the document's Same: boxes that hold nodes, and rows that are the same.
-/
namespace Go.Proofs.YtaiihnniblibaaaGreatDoor.Tree
open Go.ChangeShapes Go.WideShapes Go.ChangeAt Go.RowKit
set_option linter.unusedVariables false

theorem below2 (w : World) (o1 o2 : Obj) : Below w.heap.size w ((w.alloc o1).alloc o2) := ((Below.refl _ _).alloc (Nat.le_refl _) _).alloc (by simp) _
theorem lt_ofb {w : World} {b : Nat} {x : _} (h : w.heap[b]? = some x) : b < w.heap.size := by
 rcases Nat.lt_or_ge b w.heap.size with h' | h'
 ·exact h'
 ·rw [Array.getElem?_eq_none h'] at h; cases h
/-- Block g is a variable that holds a node. -/
def Boxed (w : World) (g : Nat) (k : Int) (x y : ByteArray) (s : Value) : Prop := w.heap[g]? = some (.cells #[.int .i64 k, .string x, .string y, s] 24 (0, 0))
theorem Boxed.cells {w : World} {g : Nat} {k : Int} {x y : ByteArray} {s : Value} (h : Boxed w g k x y s) :
  w.cell? ⟨g, 0, none⟩ = some (.int .i64 k) ∧ w.cell? ⟨g, 1, none⟩ = some (.string x) ∧ w.cell? ⟨g, 2, none⟩ = some (.string y) ∧ w.cell? ⟨g, 3, none⟩ = some s := by
 unfold Boxed at h
 refine ⟨?_, ?_, ?_, ?_⟩ <;> simp [World.cell?, h]
theorem Boxed.below {w w' : World} {g : Nat} {k : Int} {x y : ByteArray} {s : Value} (h : Boxed w g k x y s) {B : Nat} (hb : Below B w w') (hg : g < B) : Boxed w' g k x y s := (hb.block g hg).trans h
theorem Boxed.lt {w : World} {g : Nat} {k : Int} {x y : ByteArray} {s : Value} (h : Boxed w g k x y s) : g < w.heap.size := lt_ofb h
theorem size_drop {f : F} {j : Nat} {k : Int} {x y : ByteArray} {c r : F} (h : f.drop j = .cons k x y c r) : c.size < f.size := by
 induction j generalizing f with
 | zero => rw [show f = .cons k x y c r from h]; simp only [F.size]; omega
 | succ j ih =>
  cases f with
  | nil => simp [F.drop] at h
  | cons k' x' y' c' r' => have := ih (f := r') h; simp only [F.size]; omega
theorem Fs.later {w w' : World} {v : Value} {f : F} (h : Fs w (Lo w.heap.size) v f) (hb : Below w.heap.size w w') : Fs w' (Lo w'.heap.size) v f := (h.below hb (Nat.le_refl _)).up hb.size

def alikeB (k : Int) (x y : ByteArray) (n : Nat) (k' : Int) (x' y' : ByteArray) (n' : Nat) : Bool := k == k' && (x.toList == x'.toList && (y.toList == y'.toList && decide (n = n')))

def sameT (k : Int) (x y : ByteArray) (c : F) (k' : Int) (x' y' : ByteArray) (c' : F) : Bool := k == k' && (x.toList == x'.toList && (y.toList == y'.toList && same c c'))
theorem same_len : ∀ {f g : F}, same f g = true → f.len = g.len
 | .nil, .nil, _ => rfl
 | .nil, .cons .., h => by simp [same] at h
 | .cons .., .nil, h => by simp [same] at h
 | .cons k x y c r, .cons k' x' y' c' r', h => by
  simp only [same, Bool.and_eq_true] at h
  simp only [F.len, same_len h.2]
theorem same_cons (k : Int) (x y : ByteArray) (c r : F) (k' : Int) (x' y' : ByteArray) (c' r' : F) : same (.cons k x y c r) (.cons k' x' y' c' r') = (sameT k x y c k' x' y' c' && same r r') := by
 simp only [same, sameT, Bool.and_assoc]
theorem sameT_alike {k : Int} {x y : ByteArray} {c : F} {k' : Int} {x' y' : ByteArray} {c' : F} (h : alikeB k x y c.len k' x' y' c'.len = false) : sameT k x y c k' x' y' c' = false := by
 unfold sameT
 unfold alikeB at h
 cases hs : same c c' with
 | false => simp
 | true =>
  rw [decide_eq_true (same_len hs), Bool.and_true] at h
  rw [Bool.and_true]
  exact h
theorem sameT_same {k : Int} {x y : ByteArray} {c : F} {k' : Int} {x' y' : ByteArray} {c' : F} (h : alikeB k x y c.len k' x' y' c'.len = true) : sameT k x y c k' x' y' c' = same c c' ∧ c.len = c'.len := by
 unfold alikeB at h
 unfold sameT
 simp only [Bool.and_eq_true, decide_eq_true_eq] at h
 obtain ⟨h1, h2, h3, h4⟩ := h
 rw [h1, h2, h3]
 exact ⟨by simp, h4⟩
def SamePost (b : Bool) (w : World) (e : Ending) (w' : World) : Prop := e = .returned (.bool b) ∧ Below w.heap.size w w'
end Go.Proofs.YtaiihnniblibaaaGreatDoor.Tree

/-
 Layer 5 (tree): the document's Same. Written by gen_treerefsame.py.
-/
namespace Go.Proofs.YtaiihnniblibaaaGreatDoor.Tree
open Go.ChangeShapes Go.WideShapes Go.ChangeAt Go.RowKit Mem
set_option linter.unusedVariables false

def RSameSpec (N : Nat) : Prop := ∀ (k : Int) (x y : ByteArray) (A : Option Addr) (n C : Nat) (c : F) (k' : Int) (x' y' : ByteArray) (A' : Option Addr) (n' C' : Nat) (c' : F) (w : World), c.size ≤ N → Fs w (Lo w.heap.size) (.slice A n C) c → Fs w (Lo w.heap.size) (.slice A' n' C') c' →
 Calls Tryz.prog 11 #[.agg #[.int .i64 k, .string x, .string y, .slice A n C], .agg #[.int .i64 k', .string x', .string y', .slice A' n' C']] w fun e w' => SamePost (sameT k x y c k' x' y' c') w e w'

set_option maxRecDepth 100000 in
set_option maxHeartbeats 16000000 in
theorem rsame_step (N : Nat) (ih : ∀ M, M < N → RSameSpec M) : RSameSpec N := by
 intro k x y A n C c k' x' y' A' n' C' c' w hN hf hf'
 have HIH := Lib.hid ih
 have b1 := below2 w (.cells #[.int .i64 k, .string x, .string y, .slice A n C] 24) (.cells #[.int .i64 k', .string x', .string y', .slice A' n' C'] 24)
 have HB := Lib.hid b1
 have HX2 : Hid (Boxed ((w.alloc (.cells #[.int .i64 k, .string x, .string y, .slice A n C] 24)).alloc (.cells #[.int .i64 k', .string x', .string y', .slice A' n' C'] 24)) w.heap.size k x y (.slice A n C)) := (Below.heap_alloc _ _ _ (by simp)).trans (heap_alloc_new _ _)
 have HX3 : Hid (Boxed ((w.alloc (.cells #[.int .i64 k, .string x, .string y, .slice A n C] 24)).alloc (.cells #[.int .i64 k', .string x', .string y', .slice A' n' C'] 24)) (w.heap.size + 1) k' x' y' (.slice A' n' C')) := by
  have e : w.heap.size + 1 = (w.alloc (.cells #[.int .i64 k, .string x, .string y, .slice A n C] 24)).heap.size := by simp
  rw [e]
  exact heap_alloc_new _ _
 have HF := Lib.hid hf; have HF' := Lib.hid hf'
 obtain ⟨_, _, e, hnC, hCm⟩ := hf.slice
 injection e with q1 q2 q3
 obtain ⟨_, _, e', hnC', hCm'⟩ := hf'.slice
 injection e' with q1' q2' q3'
 have HN1 := Lib.hid q2; have HN2 := Lib.hid q2'
 have hn1 : n ≤ 9223372036854775807 := by omega
 have hC1 : C ≤ 9223372036854775807 := by omega
 have hC2 : C' ≤ 9223372036854775807 := by omega
 have hc1 : n ≤ C := by omega
 have hc2 : n' ≤ C' := by omega
 obtain ⟨res, hres⟩ : ∃ res, sameT k x y c k' x' y' c' = res := ⟨_, rfl⟩
 rw [hres]
 have HR0 := Lib.hid hres
 clear ih hf hf' b1 hres q1 q2 q3 q1' q2' q3' hnC hnC' hCm hCm'
 cases hal : alikeB k x y n k' x' y' n' with
 | false =>
  have HE : Hid (res = false) := by show _ = _; rw [← HR0.out, sameT_alike (by rw [← HN1.out, ← HN2.out]; exact hal)]
  unfold alikeB at hal
  cases hk : (k == k') with
  | false =>
   have hkn : (k != k') = true := by rw [bne, hk]; rfl
   clear hal
   go_enter Tryz.func11, Tryz.ntmps11
   go_wp2
   go_ret
   exact ⟨by rw [HE.out]; rfl, HB.out⟩
  | true =>
   have hkn : (k != k') = false := by rw [bne, hk]; rfl
   cases hx : (x.toList == x'.toList) with
   | false =>
    clear hal
    go_enter Tryz.func11, Tryz.ntmps11
    go_wp2
    go_ret
    exact ⟨by rw [HE.out]; rfl, HB.out⟩
   | true =>
    cases hy : (y.toList == y'.toList) with
    | false =>
     clear hal
     go_enter Tryz.func11, Tryz.ntmps11
     go_wp2
     go_ret
     exact ⟨by rw [HE.out]; rfl, HB.out⟩
    | true =>
     have hn : ¬ n = n' := by
      rw [hk, hx, hy] at hal
      simpa using hal
     have hn' : ((n : Int) == (n' : Int)) = false := by
      have : ¬ ((n : Int) = (n' : Int)) := by omega
      simpa using this
     have hnn : ((n : Int) != (n' : Int)) = true := by rw [bne, hn']; rfl
     clear hal
     go_enter Tryz.func11, Tryz.ntmps11
     go_wp2
     go_ret
     exact ⟨by rw [HE.out]; rfl, HB.out⟩
 | true =>
  obtain ⟨hss, hll⟩ := sameT_same (c := c) (c' := c') (by rw [← HN1.out, ← HN2.out]; exact hal)
  have HR : Hid (same (c.drop 0) (c'.drop 0) = res) := by show same c c' = _; rw [← hss]; exact HR0.out
  have hnn : n = n' := by rw [HN1.out, HN2.out]; exact hll
  unfold alikeB at hal
  simp only [Bool.and_eq_true, decide_eq_true_eq] at hal
  obtain ⟨hk, hx, hy, _⟩ := hal
  have hkn : (k != k') = false := by rw [bne, hk]; rfl
  subst hnn
  clear hss hll
  go_enter Tryz.func11, Tryz.ntmps11
  go_wp2
  clear hk hx hy hkn
  go_loopw [5] (fun s5 wr => ∃ j : Nat, j ≤ n ∧ s5 = .int .i64 (j : Int) ∧ Hid (same (c.drop j) (c'.drop j) = res) ∧ Hid (Below w.heap.size w wr) ∧ Hid (Boxed wr w.heap.size k x y (.slice A n C)) ∧ Hid (Boxed wr (w.heap.size + 1) k' x' y' (.slice A' n C'))) (fun s5 _ => n - (intOf s5).toNat)
  case atStart => exact ⟨0, Nat.zero_le _, rfl, HR.out, HB.out, HX2.out, HX3.out⟩
  case round =>
   clear HR HB HX2 HX3
   obtain ⟨j, hj, rfl, HR, HB, HX2, HX3⟩ := hrel
   obtain ⟨p0, p1, p2, p3⟩ := HX2.out.cells
   by_cases hlt : j < n
   ·have hlt' : (j : Int) < (n : Int) := by omega
    have hj0 : (0 : Int) ≤ (j : Int) := by omega
    obtain ⟨k1, x1, y1, c1, r1, hd1, hd1'⟩ := F.drop_cons (n := j) (f := c) (by rw [← HN1.out]; exact hlt)
    obtain ⟨k2, x2, y2, c2, r2, hd2, hd2'⟩ := F.drop_cons (n := j) (f := c') (by rw [← HN2.out]; exact hlt)
    have hw1 := HF.out.below HB.out (Nat.le_refl _)
    have hw2 := HF'.out.below HB.out (Nat.le_refl _)
    obtain ⟨ba, oa, s1, rfl, hba, _, hat1⟩ := hw1.at_ hd1
    obtain ⟨bb, ob, s2, rfl, hbb, _, hat2⟩ := hw2.at_ hd2
    obtain ⟨Ak, Ck, rfl, _, _⟩ := hat1.kids.slice
    obtain ⟨Al, Cl, rfl, _, _⟩ := hat2.kids.slice
    have hs1 := size_drop hd1
    obtain ⟨m1, hm1⟩ : ∃ m, c1.len = m := ⟨_, rfl⟩
    obtain ⟨m2, hm2⟩ : ∃ m, c2.len = m := ⟨_, rfl⟩
    rw [hm1] at hat1
    rw [hm2] at hat2
    have hla : ba < wr.heap.size := Nat.lt_of_lt_of_le hba HB.out.size
    have hlb : bb < wr.heap.size := Nat.lt_of_lt_of_le hbb HB.out.size
    have HND : Hid (∀ W, Below wr.heap.size wr W → (W.cell? ⟨ba, oa + j * 4, none⟩ = some (.int .i64 k1) ∧ W.cell? ⟨ba, oa + j * 4 + 1, none⟩ = some (.string x1) ∧ W.cell? ⟨ba, oa + j * 4 + 2, none⟩ = some (.string y1) ∧ W.cell? ⟨ba, oa + j * 4 + 3, none⟩ = some (.slice Ak m1 Ck)) ∧
      (W.cell? ⟨bb, ob + j * 4, none⟩ = some (.int .i64 k2) ∧ W.cell? ⟨bb, ob + j * 4 + 1, none⟩ = some (.string x2) ∧ W.cell? ⟨bb, ob + j * 4 + 2, none⟩ = some (.string y2) ∧ W.cell? ⟨bb, ob + j * 4 + 3, none⟩ = some (.slice Al m2 Cl))) := fun W hW =>
     ⟨⟨(hW.cell (p := ⟨ba, oa + j * 4, none⟩) hla).trans hat1.c0, (hW.cell (p := ⟨ba, oa + j * 4 + 1, none⟩) hla).trans hat1.c1, (hW.cell (p := ⟨ba, oa + j * 4 + 2, none⟩) hla).trans hat1.c2, (hW.cell (p := ⟨ba, oa + j * 4 + 3, none⟩) hla).trans hat1.c3⟩,
      (hW.cell (p := ⟨bb, ob + j * 4, none⟩) hlb).trans hat2.c0, (hW.cell (p := ⟨bb, ob + j * 4 + 1, none⟩) hlb).trans hat2.c1, (hW.cell (p := ⟨bb, ob + j * 4 + 2, none⟩) hlb).trans hat2.c2, (hW.cell (p := ⟨bb, ob + j * 4 + 3, none⟩) hlb).trans hat2.c3⟩
    have HX : Hid (∀ W, Below wr.heap.size wr W → Boxed W w.heap.size k x y (.slice (some ⟨ba, oa, none⟩) n C) ∧ Boxed W (w.heap.size + 1) k' x' y' (.slice (some ⟨bb, ob, none⟩) n C')) := fun W hW => ⟨HX2.out.below hW HX2.out.lt, HX3.out.below hW HX3.out.lt⟩
    obtain ⟨sm, hsm⟩ : ∃ sm, sameT k1 x1 y1 c1 k2 x2 y2 c2 = sm := ⟨_, rfl⟩
    have HC : Hid (∀ W, Below wr.heap.size wr W → Calls Tryz.prog 11 #[.agg #[.int .i64 k1, .string x1, .string y1, .slice Ak m1 Ck], .agg #[.int .i64 k2, .string x2, .string y2, .slice Al m2 Cl]] W fun e w' => SamePost sm W e w') := fun W hW => by
     rw [← hsm]
     have hs := Nat.le_trans HB.out.size hW.size
     exact HIH.out c1.size (by omega) k1 x1 y1 Ak m1 Ck c1 k2 x2 y2 Al m2 Cl c2 W (Nat.le_refl _) ((hat1.kids.below hW HB.out.size).up hs) ((hat2.kids.below hW HB.out.size).up hs)
    have hrr := HR.out
    rw [hd1, hd2, same_cons, hsm] at hrr
    have HRR : Hid ((sm && same (c.drop (j + 1)) (c'.drop (j + 1))) = res) := by show _ = _; rw [hd1', hd2']; exact hrr
    clear hd1 hd1' hd2 hd2' hw1 hw2 hba hbb hlb hla hat1 hat2 hs1 hm1 hm2 hsm hrr HR HX2 HX3
    go_wp2
    clear p0 p1 p2 p3
    refine region_rel (fun W W' => Below W.heap.size W W') [Cd.is (Value.pointer (some ⟨w.heap.size, 3, none⟩)), Cd.is (Value.slice (some ⟨ba, oa, none⟩) n C), Cd.is (Value.int .i64 (j : Int)), Cd.is (Value.pointer (some ⟨ba, oa + j * 4, none⟩)), Cd.is (Value.agg #[.int .i64 k1, .string x1, .string y1, .slice Ak m1 Ck]), Cd.is (Value.pointer (some ⟨w.heap.size + 1, 3, none⟩)), Cd.is (Value.slice (some ⟨bb, ob, none⟩) n C'), Cd.is (Value.int .i64 (j : Int)), Cd.is (Value.pointer (some ⟨bb, ob + j * 4, none⟩)), Cd.is (Value.agg #[.int .i64 k2, .string x2, .string y2, .slice Al m2 Cl]), Cd.is (Value.bool sm), Cd.is (Value.bool (!sm))] (by kernel_rfl) (by decide) (by kernel_rfl) (Below.refl _ _) (fun _ _ _ h k => h.trans (k.mono h.size)) ?steps ?behind
    case steps =>
     intro xv W hW a ha
     replace hW := undrew hW
     simp only [fillA] at ha
     simp only [List.setIfInBounds_toArray, List.set_cons_succ, List.set_cons_zero, Nat.zero_add, Nat.reduceAdd] at ha
     subst ha
     refine ⟨?s0, ?s1, ?s2, ?s3, ?s4, ?s5, ?s6, ?s7, ?s8, ?s9, ?s10, ?s11, trivial⟩
     all_goals intro hd K hK
     all_goals (try simp only [Act.put, List.setIfInBounds_toArray, List.set_cons_succ, List.set_cons_zero] at hK)
     case s0 =>
      clear hd
      refine (if_pos (by rfl)).mpr ?_
      go_simp
      exact hK.out _ _ (Below.refl _ _) rfl
     case s1 =>
      have hx0 : xv 0 = Value.pointer (some ⟨w.heap.size, 3, none⟩) := hd 0 (by kernel_rfl)
      clear hd
      rw [hx0] at hK ⊢
      refine (if_pos (by rfl)).mpr ?_
      obtain ⟨hq0, hq1, hq2, hq3⟩ := (HX.out W hW).1.cells
      go_simp
      exact hK.out _ _ (Below.refl _ _) rfl
     case s2 =>
      clear hd
      refine (if_pos (by rfl)).mpr ?_
      go_simp
      exact hK.out _ _ (Below.refl _ _) rfl
     case s3 =>
      have hx1 : xv 1 = Value.slice (some ⟨ba, oa, none⟩) n C := hd 1 (by kernel_rfl)
      have hx2 : xv 2 = Value.int .i64 (j : Int) := hd 2 (by kernel_rfl)
      clear hd
      rw [hx1] at hK ⊢
      rw [hx2] at hK ⊢
      refine (if_pos (by rfl)).mpr ?_
      go_simp
      exact hK.out _ _ (Below.refl _ _) rfl
     case s4 =>
      have hx3 : xv 3 = Value.pointer (some ⟨ba, oa + j * 4, none⟩) := hd 3 (by kernel_rfl)
      clear hd
      rw [hx3] at hK ⊢
      refine (if_pos (by rfl)).mpr ?_
      obtain ⟨hq0, hq1, hq2, hq3⟩ := (HND.out W hW).1
      go_simp
      exact hK.out _ _ (Below.refl _ _) rfl
     case s5 =>
      clear hd
      refine (if_pos (by rfl)).mpr ?_
      go_simp
      exact hK.out _ _ (Below.refl _ _) rfl
     case s6 =>
      have hx5 : xv 5 = Value.pointer (some ⟨w.heap.size + 1, 3, none⟩) := hd 5 (by kernel_rfl)
      clear hd
      rw [hx5] at hK ⊢
      refine (if_pos (by rfl)).mpr ?_
      obtain ⟨hq0, hq1, hq2, hq3⟩ := (HX.out W hW).2.cells
      go_simp
      exact hK.out _ _ (Below.refl _ _) rfl
     case s7 =>
      clear hd
      refine (if_pos (by rfl)).mpr ?_
      go_simp
      exact hK.out _ _ (Below.refl _ _) rfl
     case s8 =>
      have hx6 : xv 6 = Value.slice (some ⟨bb, ob, none⟩) n C' := hd 6 (by kernel_rfl)
      have hx7 : xv 7 = Value.int .i64 (j : Int) := hd 7 (by kernel_rfl)
      clear hd
      rw [hx6] at hK ⊢
      rw [hx7] at hK ⊢
      refine (if_pos (by rfl)).mpr ?_
      go_simp
      exact hK.out _ _ (Below.refl _ _) rfl
     case s9 =>
      have hx8 : xv 8 = Value.pointer (some ⟨bb, ob + j * 4, none⟩) := hd 8 (by kernel_rfl)
      clear hd
      rw [hx8] at hK ⊢
      refine (if_pos (by rfl)).mpr ?_
      obtain ⟨hq0, hq1, hq2, hq3⟩ := (HND.out W hW).2
      go_simp
      exact hK.out _ _ (Below.refl _ _) rfl
     case s10 =>
      have hx4 : xv 4 = Value.agg #[.int .i64 k1, .string x1, .string y1, .slice Ak m1 Ck] := hd 4 (by kernel_rfl)
      have hx9 : xv 9 = Value.agg #[.int .i64 k2, .string x2, .string y2, .slice Al m2 Cl] := hd 9 (by kernel_rfl)
      clear hd
      rw [hx4] at hK ⊢
      rw [hx9] at hK ⊢
      refine (if_pos (by rfl)).mpr ?_
      go_simp
      go_at_call 11
      refine (HC.out W hW).mono ?_
      rintro e w' ⟨rfl, hb⟩
      exact hK.out _ _ hb rfl
     case s11 =>
      have hx10 : xv 10 = Value.bool sm := hd 10 (by kernel_rfl)
      clear hd
      rw [hx10] at hK ⊢
      refine (if_pos (by rfl)).mpr ?_
      go_simp
      exact hK.out _ _ (Below.refl _ _) rfl
    case behind =>
     intro xv W hW hx a ha
     replace hW := undrew hW
     simp only [fillA] at ha
     simp only [List.setIfInBounds_toArray, List.set_cons_succ, List.set_cons_zero, Nat.zero_add, Nat.reduceAdd] at ha
     subst ha
     have h11 : xv 11 = Value.bool (!sm) := hx 11 (by decide)
     rw [h11]
     have HB5 := Lib.hid (HB.out.trans (hW.mono HB.out.size))
     have HX5 : Hid (Boxed W w.heap.size k x y (.slice (some ⟨ba, oa, none⟩) n C) ∧ Boxed W (w.heap.size + 1) k' x' y' (.slice (some ⟨bb, ob, none⟩) n C')) := HX.out W hW
     clear hx hW h11 HX HND HC
     cases sm with
     | false =>
      have HE : Hid (res = false) := by show _ = _; rw [← HRR.out]; rfl
      go_wp2
      go_ret
      exact ⟨by rw [HE.out]; rfl, HB5.out⟩
     | true =>
      have HE : Hid (same (c.drop (j + 1)) (c'.drop (j + 1)) = res) := by show _ = _; rw [← HRR.out]; rfl
      go_wp2
      go_roundw
      case rel => exact ⟨j + 1, by omega, by go_num, HE.out, HB5.out, HX5.out.1, HX5.out.2⟩
      case measure => simp [intOf]; omega
   ·have hlt' : ¬ (j : Int) < (n : Int) := by omega
    have HE : Hid (res = true) := by
     show _ = _
     rw [← HR.out, F.drop_all _ _ (by rw [← HN1.out]; omega), F.drop_all _ _ (by rw [← HN2.out]; omega)]
     rfl
    clear hlt
    go_wp2
    go_ret
    exact ⟨by rw [HE.out]; rfl, HB.out⟩
theorem rsame_any (N : Nat) : RSameSpec N := by
 induction N using Nat.strongRecOn with
 | _ N ih => exact rsame_step N ih
end Go.Proofs.YtaiihnniblibaaaGreatDoor.Tree
