/-
  Layer 7 (doc): the law DocWraps. Written by gen_docwraps.py.
-/
import Derived.Test.YtpankfbdlakmcaaDocKnown
import Derived.Test.YtpankfbdlakmcaaDocAlike
namespace Go.Proofs.Ytpankfbdlakmcaa.Doc
open Go.ChangeShapes Go.WideShapes Go.ChangeAt Go.RowKit Mem
set_option linter.unusedVariables false

theorem own_caps {w : World} {base n : Nat} {E : TypeId} {a : Option Addr} {C : Nat} {vs : List Value} (h : w.ownsRow base E 2 (.slice a n C) n vs) : n ≤ C ∧ C ≤ maxLen := by
  rcases h.2 with ⟨e, h0⟩ | ⟨g, cap, cur, e, _, _, h3, h4, _⟩
  · injection e with _ _ e3; omega
  · injection e with _ _ e3; omega
/-- What Plain leaves, as it is read. -/
def PlPost (l : List Pc) (n : Nat) (w : World) (e : Ending) (w' : World) : Prop := (∃ (A : Option Addr) (C : Nat), e = .returned (.slice A n C) ∧ n ≤ C ∧ C ≤ maxLen ∧ RdP w' A l) ∧ Below w.heap.size w w'
theorem pl_of {l : List Pc} {n : Nat} {w : World} {f : Nat} {args : Array Value} (hn : l.length = n) (h : Calls Try.prog f args w (PlainPost l w)) : Calls Try.prog f args w (PlPost l n w) := by
  refine h.mono ?_
  rintro e w' ⟨A, C, rfl, ho, hb⟩
  obtain ⟨h1, h2⟩ := own_caps ho
  have h3 := RdP.of_own ho
  rw [hn] at h1 ⊢
  exact ⟨⟨A, C, rfl, h1, h2, h3⟩, hb⟩
theorem rd_at {w : World} {g off : Nat} {l : List Pc} (h : RdP w (some ⟨g, off, none⟩) l) {i : Nat} {p : Pc} (hp : l[i]? = some p) : w.cell? ⟨g, off + i * 2, none⟩ = some (.int .i64 p.1) ∧ w.cell? ⟨g, off + i * 2 + 1, none⟩ = some (.string p.2) := by
  rcases h with h | ⟨g', off', e, _, hc⟩
  · subst h; simp at hp
  · injection e with e
    injection e with e1 e2
    subst e1; subst e2
    exact hc i p hp
theorem pcs_nest (nd : Nd) : pcs1 (nestN nd) = ((5, emp) : Pc) :: (pcs1 nd ++ [((6, emp) : Pc)]) := by
  have := pcs_wrap 5 nd
  exact this
theorem pcs_group (nd : Nd) : pcs1 (groupN nd) = ((7, emp) : Pc) :: (pcs1 nd ++ [((8, emp) : Pc)]) := by
  have := pcs_wrap 7 nd
  exact this
theorem lo_later {w W : World} {v : Value} {g : G} (h : Gs w (Lo w.heap.size) v g) (hb : Below w.heap.size w W) : Gs W (Lo W.heap.size) v g := (h.below hb (Nat.le_refl _)).up hb.size
end Go.Proofs.Ytpankfbdlakmcaa.Doc
