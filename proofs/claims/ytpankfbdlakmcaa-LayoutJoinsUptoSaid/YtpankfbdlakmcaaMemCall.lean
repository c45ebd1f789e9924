/-
  Words of no layer: a region that draws its order and whose operation s breaks a condition on the world (a store, a call), in the round of a range over a function.
-/
import Derived.Test.YtpankfbdlakmcaaMemRel2
import Derived.Test.YtpankfbdlakmcaaMemRound
namespace Go.Proofs.Ytpankfbdlakmcaa.Mem
set_option linter.unusedVariables false
variable {P : Program} {Q : Exit → Act → World → Prop} {n r : Nat}

theorem region_rel2In {id : Nat} {l : List Oper} {a0 : Act} {w : World} (s : Nat) (S : World → Prop) (T : World → World → Prop) (Φ : List (Cd T)) (hm : P.follows .mixedOrders = true) (hn : (dsts l).Nodup) (he : edgesBack l = true) (hd : l.all noDefer = true) (hQ : ¬ LetsOut Q)
    (hS : S w.drew) (hrf : T w.drew w.drew) (htr : ∀ W1 W2 W3, T W1 W2 → T W2 W3 → T W1 W3)
    (hsteps : ∀ x W, T w.drew W → ∀ a, a = (⟨fillA x 0 l a0.tmps, a0.defers⟩ : Act) → Steps2 P l a0.tmps Q s S Φ x a W 0 l)
    (hdone : ∀ x W, T w.drew W → (∀ i, i < l.length → (atC Φ i).p (x i) W) → ∀ a, a = (⟨fillA x 0 l a0.tmps, a0.defers⟩ : Act) → Q .normal a W) :
    (Code.region id l.toArray true).wpIn (Fence.wide.inRound r) n P Q a0 w := by
  refine wpIn_region_any hm (any_in (fun i o ho => List.all_eq_true.1 hd o (List.mem_of_getElem? (by simpa using ho))) hQ _ _ _ _ (rel2_any (a0 := a0) (w1 := w.drew) (Φ := Φ) (s := s) (S := S) hn he htr hsteps hdone l.toArray.size (Array.replicate l.toArray.size false) (asIs l a0.tmps) a0 w.drew ?_ ?_ hrf ?_ (fun _ => hS) ?_ ?_ (fun _ _ _ => rfl)))
  · simpa using unl_false l.length l.length (Nat.le_refl _)
  · rw [fillA_start]
  · intro i hi h
    exfalso
    simp [hi] at h
  · intro j hsl h
    exfalso
    simp [hsl] at h
  · simp
end Go.Proofs.Ytpankfbdlakmcaa.Mem
