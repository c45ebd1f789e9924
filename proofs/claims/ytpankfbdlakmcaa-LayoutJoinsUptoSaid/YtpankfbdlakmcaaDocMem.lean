/-
  Layer 7 (doc): how a row of plans, or of documents, lies in memory. Nothing of the program is imported.
-/
import Derived.Test.YtpankfbdlakmcaaDocMath
import Derived.WalkKit
import Derived.ProofKit
import Derived.OpenShut
import Derived.Below
import Derived.Lib.Hide
import Derived.Deep.QuietTactic
import Derived.BigQuiet
namespace Go.Proofs.Ytpankfbdlakmcaa.Doc
open Go.ChangeShapes Go.WideShapes Go.ChangeAt Go.RowKit
set_option linter.unusedVariables false

/-- The slice v reads as the row of trees f; every block that it goes through is one of S. -/
def Gs (w : World) (S : Nat → Prop) : Value → G → Prop
  | v, .nil => ∃ A C, v = .slice A 0 C ∧ C ≤ 9223372036854775807
  | v, .cons k x c r => ∃ b off n C s, v = .slice (some ⟨b, off, none⟩) (n + 1) (C + 1) ∧ r.len = n ∧ n ≤ C ∧ C + 1 ≤ 9223372036854775807 ∧ S b ∧
      w.cell? ⟨b, off, none⟩ = some (.int .i64 k) ∧ w.cell? ⟨b, off + 1, none⟩ = some (.string x) ∧ w.cell? ⟨b, off + 2, none⟩ = some s ∧
      Gs w S s c ∧ ∀ A', (r = .nil ∨ A' = some ⟨b, off + 3, none⟩) → Gs w S (.slice A' n C) r

/-- The blocks below B. -/
def Lo (B : Nat) : Nat → Prop := fun b => b < B

section
variable {w w' : World} {S S' : Nat → Prop} {v : Value} {f : G}
theorem Gs.keep : ∀ {f : G} {v : Value}, Gs w S v f → (∀ b, S b → w'.heap[b]? = w.heap[b]?) → Gs w' S v f
  | .nil, v, h, _ => h
  | .cons k x c r, v, ⟨b, off, n, C, s, e, h1, h2, h3, hS, c0, c1, c2, hk, hr⟩, hh =>
    ⟨b, off, n, C, s, e, h1, h2, h3, hS, (World.cell?_of_block (w := w) (hh b hS)).trans c0, (World.cell?_of_block (w := w) (hh b hS)).trans c1, (World.cell?_of_block (w := w) (hh b hS)).trans c2,
      hk.keep hh, fun A' hA => (hr A' hA).keep hh⟩
theorem Gs.more : ∀ {f : G} {v : Value}, Gs w S v f → (∀ b, S b → S' b) → Gs w S' v f
  | .nil, v, h, _ => h
  | .cons k x c r, v, ⟨b, off, n, C, s, e, h1, h2, h3, hS, c0, c1, c2, hk, hr⟩, hh =>
    ⟨b, off, n, C, s, e, h1, h2, h3, hh b hS, c0, c1, c2, hk.more hh, fun A' hA => (hr A' hA).more hh⟩
theorem Gs.below {B B0 : Nat} (h : Gs w (Lo B) v f) (hb : Below B0 w w') (hB : B ≤ B0) : Gs w' (Lo B) v f :=
  h.keep fun b hb' => hb.block b (Nat.lt_of_lt_of_le hb' hB)
theorem Gs.up {B B' : Nat} (h : Gs w (Lo B) v f) (hB : B ≤ B') : Gs w (Lo B') v f := h.more fun b hb => Nat.lt_of_lt_of_le hb hB
theorem Gs.drewN (h : Gs w S v f) (q : Nat) : Gs (w.drewN q) S v f := h.keep fun _ _ => rfl

theorem Gs.slice : ∀ {f : G} {v : Value}, Gs w S v f → ∃ A C, v = .slice A f.len C ∧ f.len ≤ C ∧ C ≤ 9223372036854775807
  | .nil, v, ⟨A, C, e, h⟩ => ⟨A, C, e, Nat.zero_le _, h⟩
  | .cons k x c r, v, ⟨b, off, n, C, s, e, h1, h2, h3, _⟩ => ⟨some ⟨b, off, none⟩, C + 1, by rw [e, ← h1]; rfl, by simp only [G.len]; omega, h3⟩

theorem Gs.nil {A : Option Addr} {C : Nat} (hC : C ≤ 9223372036854775807) : Gs w S (.slice A 0 C) .nil := ⟨A, C, rfl, hC⟩

/-- What stands at place i. -/
structure At (w : World) (S : Nat → Prop) (b off i : Nat) (k : Int) (x : ByteArray) (c : G) (s : Value) : Prop where
  c0 : w.cell? ⟨b, off + i * 3, none⟩ = some (.int .i64 k)
  c1 : w.cell? ⟨b, off + i * 3 + 1, none⟩ = some (.string x)
  c2 : w.cell? ⟨b, off + i * 3 + 2, none⟩ = some s
  kids : Gs w S s c

theorem Gs.drop : ∀ {f : G} {b off n C : Nat} (i : Nat), Gs w S (.slice (some ⟨b, off, none⟩) n C) f → i ≤ n → ∀ A', (i = n ∨ A' = some ⟨b, off + i * 3, none⟩) → Gs w S (.slice A' (n - i) (C - i)) (f.drop i)
  | .nil, b, off, n, C, i, ⟨A, C', e, h⟩, hi, A', hA => by
    injection e with e1 e2 e3
    subst e2
    rw [G.drop_nil]
    exact ⟨A', C - i, by rw [Nat.zero_sub], by omega⟩
  | .cons k x c r, b, off, n, C, 0, h, hi, A', hA => by
    rcases hA with hA | hA
    · subst hA
      obtain ⟨b', off', n', C', s, e, _⟩ := h
      injection e with _ e2 _
      cases e2
    · subst hA
      simpa [G.drop] using h
  | .cons k x c r, b, off, n, C, i + 1, ⟨b', off', n', C', s, e, h1, h2, h3, hS, c0, c1, c2, hk, hr⟩, hi, A', hA => by
    injection e with e1 e2 e3
    injection e1 with e1
    injection e1 with e4 e5
    subst e2; subst e3; subst e4; subst e5
    by_cases hz : r = .nil
    · subst hz
      simp only [G.drop, G.drop_nil]
      simp only [G.len] at h1
      subst h1
      exact ⟨A', C' + 1 - (i + 1), by simp, by omega⟩
    · have := (hr (some ⟨b, off + 3, none⟩) (.inr rfl)).drop i (by omega) A' (by
        rcases hA with hA | hA
        · exact .inl (by omega)
        · exact .inr (by rw [hA, show off + (i + 1) * 3 = off + 3 + i * 3 by omega]))
      simpa [G.drop, Nat.add_sub_add_right] using this

theorem Gs.at_ {A : Option Addr} {n C : Nat} {i : Nat} {k : Int} {x : ByteArray} {c r : G} (h : Gs w S (.slice A n C) f) (hf : f.drop i = .cons k x c r) : ∃ b off s, A = some ⟨b, off, none⟩ ∧ S b ∧ i < n ∧ At w S b off i k x c s := by
  have hlen : i < f.len := by
    have := G.drop_len i f
    rw [hf] at this
    simp only [G.len] at this
    omega
  obtain ⟨A', C', e, _⟩ := h.slice
  injection e with e1 e2 e3
  subst e1; subst e2; subst e3
  cases f with
  | nil => simp [G.len] at hlen
  | cons k' x' c' r' =>
    have h' := h
    obtain ⟨b, off, n', C'', s', e, _, _, _, hS, _⟩ := h'
    injection e with e1 e2 e3
    subst e1; subst e3
    have hd := h.drop i (by omega) (some ⟨b, off + i * 3, none⟩) (.inr rfl)
    rw [hf] at hd
    obtain ⟨b2, off2, n2, C2, s, e, _, _, _, _, c0, c1, c2, hk, _⟩ := hd
    injection e with e1 e2 e3
    injection e1 with e1
    injection e1 with e4 e5
    subst e4; subst e5
    exact ⟨b, off, s, rfl, hS, hlen, c0, c1, c2, hk⟩
end

end Go.Proofs.Ytpankfbdlakmcaa.Doc
