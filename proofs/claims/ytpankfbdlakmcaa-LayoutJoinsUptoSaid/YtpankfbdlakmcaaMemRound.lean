/-
  Words of no layer: a region that draws its order, in the round of a range over a function: by the conditions of MemRel.
-/
import Derived.Test.YtpankfbdlakmcaaMemRel
import Derived.OrdersIn
import Derived.OwnWalkIn
import Derived.TacticsIn
namespace Go.Proofs.Ytpankfbdlakmcaa.Mem
set_option linter.unusedVariables false
variable {P : Program} {Q : Exit → Act → World → Prop} {n r : Nat}

def noDefer (o : Oper) : Bool := match o.op with
  | .defer _ => false
  | _ => true
theorem noDefer_op {o : Oper} (h : noDefer o = true) (c : _) : o.op ≠ .defer c := fun e => by
  unfold noDefer at h
  rw [e] at h
  cases h
theorem op_in {o : Oper} {a : Act} {w : World} {K : Act → World → Prop} (hd : noDefer o = true) (h : o.wp P a w K Q) : o.wpIn (Fence.wide.inRound r) n P a w K Q := by
  refine ⟨fun f _ => trivial, ?_⟩
  rw [Oper.semAt_eq _ _ _ (noDefer_op hd)]
  unfold Oper.wp at h
  generalize (execOp a.eval o).run P w = res at *
  cases res with
  | ok x w' =>
    cases x <;> simp only [Oper.upon, Oper.uponIn] at h ⊢ <;> first
      | exact h
      | exact ⟨fun h' => by simp [Fence.wide] at h', (callsIn_wide.2 h : CallsIn Fence.wide _ _ _ _ _ _)⟩
      | exact ⟨fun h' => by simp [Fence.wide] at h', fun c cs _ => by obtain ⟨v, w2, q, s⟩ := h c cs; exact ⟨v, w2, q, stepsIn_wide.2 s⟩⟩
  | halt x w' => cases x <;> simp only [Oper.upon, Oper.uponIn] at h ⊢ <;> exact h
theorem any_in {md : Region.Mode} {ops : Array Oper} (hd : ∀ (i : Nat) (o : Oper), ops[i]? = some o → noDefer o = true) (hQ : ¬ LetsOut Q) : ∀ (fuel : Nat) (listed : Array Bool) (a : Act) (w : World), wpAny P md ops Q fuel listed a w → wpAnyIn (Fence.wide.inRound r) n P md ops Q fuel listed a w
  | 0, _, _, _, h => h
  | fuel + 1, listed, a, w, h => ⟨h.1, fun i hi => by
    have h2 := h.2 i hi
    refine wpOpIn_mono (fun a w => any_in hd hQ fuel _ a w) ?_
    unfold wpOp at h2
    unfold wpOpIn
    cases ho : ops[i]? with
    | none => rw [ho] at h2; exact h2
    | some o =>
      rw [ho] at h2
      simp only at h2 ⊢
      by_cases hw : Region.wanted o (yielded ops a.tmps) = true
      · rw [if_pos hw] at h2 ⊢
        rcases h2 with h2 | h2
        · exact op_in (hd i o ho) h2
        · exact absurd h2.2 hQ
      · rw [if_neg hw] at h2 ⊢
        exact ⟨fun f _ => trivial, h2⟩⟩

/-- A REGION THAT DRAWS ITS ORDER, BY CONDITIONS, IN A ROUND. -/
theorem region_relIn {id : Nat} {l : List Oper} {a0 : Act} {w : World} (T : World → World → Prop) (Φ : List (Cd T)) (hm : P.follows .mixedOrders = true) (hn : (dsts l).Nodup) (he : edgesBack l = true) (hd : l.all noDefer = true) (hQ : ¬ LetsOut Q)
    (hrf : T w.drew w.drew) (htr : ∀ W1 W2 W3, T W1 W2 → T W2 W3 → T W1 W3)
    (hsteps : ∀ x W, T w.drew W → ∀ a, a = (⟨fillA x 0 l a0.tmps, a0.defers⟩ : Act) → Steps P l Q Φ x a W 0 l)
    (hdone : ∀ x W, T w.drew W → (∀ i, i < l.length → (atC Φ i).p (x i) W) → ∀ a, a = (⟨fillA x 0 l a0.tmps, a0.defers⟩ : Act) → Q .normal a W) :
    (Code.region id l.toArray true).wpIn (Fence.wide.inRound r) n P Q a0 w := by
  refine wpIn_region_any hm (any_in (fun i o ho => List.all_eq_true.1 hd o (List.mem_of_getElem? (by simpa using ho))) hQ _ _ _ _ (rel_any (a0 := a0) (w1 := w.drew) (Φ := Φ) hn he htr hsteps hdone l.toArray.size (Array.replicate l.toArray.size false) (asIs l a0.tmps) a0 w.drew ?_ ?_ hrf ?_))
  · simpa using unl_false l.length l.length (Nat.le_refl _)
  · rw [fillA_start]
  · intro i hi h
    exfalso
    simp [hi] at h
end Go.Proofs.Ytpankfbdlakmcaa.Mem
