/-
  Layer 5 (tree): how a row of trees lies in memory. Nothing of the program is imported.
-/
import Derived.Test.YtoecimgmghlfpaaDoorTreeMath
import Derived.WalkKit
import Derived.ProofKit
import Derived.OpenShut
import Derived.Below
import Derived.Lib.Hide
import Derived.Deep.QuietTactic
import Derived.BigQuiet
namespace Go.Proofs.YtoecimgmghlfpaaDoor.Tree
open Go.ChangeShapes Go.WideShapes Go.ChangeAt Go.RowKit
set_option linter.unusedVariables false

/-- The slice v reads as the row of trees f; every block that it goes through is one of S. -/
def Fs (w : World) (S : Nat → Prop) : Value → F → Prop
  | v, .nil => ∃ A C, v = .slice A 0 C ∧ C ≤ 9223372036854775807
  | v, .cons k x y c r => ∃ b off n C s, v = .slice (some ⟨b, off, none⟩) (n + 1) (C + 1) ∧ r.len = n ∧ n ≤ C ∧ C + 1 ≤ 9223372036854775807 ∧ S b ∧
      w.cell? ⟨b, off, none⟩ = some (.int .i64 k) ∧ w.cell? ⟨b, off + 1, none⟩ = some (.string x) ∧ w.cell? ⟨b, off + 2, none⟩ = some (.string y) ∧ w.cell? ⟨b, off + 3, none⟩ = some s ∧
      Fs w S s c ∧ ∀ A', (r = .nil ∨ A' = some ⟨b, off + 4, none⟩) → Fs w S (.slice A' n C) r

/-- The blocks below B. -/
def Lo (B : Nat) : Nat → Prop := fun b => b < B

section
variable {w w' : World} {S S' : Nat → Prop} {v : Value} {f : F}
theorem Fs.keep : ∀ {f : F} {v : Value}, Fs w S v f → (∀ b, S b → w'.heap[b]? = w.heap[b]?) → Fs w' S v f
  | .nil, v, h, _ => h
  | .cons k x y c r, v, ⟨b, off, n, C, s, e, h1, h2, h3, hS, c0, c1, c2, c3, hk, hr⟩, hh =>
    ⟨b, off, n, C, s, e, h1, h2, h3, hS, (World.cell?_of_block (w := w) (hh b hS)).trans c0, (World.cell?_of_block (w := w) (hh b hS)).trans c1, (World.cell?_of_block (w := w) (hh b hS)).trans c2, (World.cell?_of_block (w := w) (hh b hS)).trans c3,
      hk.keep hh, fun A' hA => (hr A' hA).keep hh⟩
theorem Fs.more : ∀ {f : F} {v : Value}, Fs w S v f → (∀ b, S b → S' b) → Fs w S' v f
  | .nil, v, h, _ => h
  | .cons k x y c r, v, ⟨b, off, n, C, s, e, h1, h2, h3, hS, c0, c1, c2, c3, hk, hr⟩, hh =>
    ⟨b, off, n, C, s, e, h1, h2, h3, hh b hS, c0, c1, c2, c3, hk.more hh, fun A' hA => (hr A' hA).more hh⟩
theorem Fs.below {B B0 : Nat} (h : Fs w (Lo B) v f) (hb : Below B0 w w') (hB : B ≤ B0) : Fs w' (Lo B) v f :=
  h.keep fun b hb' => hb.block b (Nat.lt_of_lt_of_le hb' hB)
theorem Fs.up {B B' : Nat} (h : Fs w (Lo B) v f) (hB : B ≤ B') : Fs w (Lo B') v f := h.more fun b hb => Nat.lt_of_lt_of_le hb hB
theorem Fs.drewN (h : Fs w S v f) (q : Nat) : Fs (w.drewN q) S v f := h.keep fun _ _ => rfl

theorem Fs.slice : ∀ {f : F} {v : Value}, Fs w S v f → ∃ A C, v = .slice A f.len C ∧ f.len ≤ C ∧ C ≤ 9223372036854775807
  | .nil, v, ⟨A, C, e, h⟩ => ⟨A, C, e, Nat.zero_le _, h⟩
  | .cons k x y c r, v, ⟨b, off, n, C, s, e, h1, h2, h3, _⟩ => ⟨some ⟨b, off, none⟩, C + 1, by rw [e, ← h1]; rfl, by simp only [F.len]; omega, h3⟩

theorem Fs.nil {A : Option Addr} {C : Nat} (hC : C ≤ 9223372036854775807) : Fs w S (.slice A 0 C) .nil := ⟨A, C, rfl, hC⟩

/-- What stands at place i. -/
structure At (w : World) (S : Nat → Prop) (b off i : Nat) (k : Int) (x y : ByteArray) (c : F) (s : Value) : Prop where
  c0 : w.cell? ⟨b, off + i * 4, none⟩ = some (.int .i64 k)
  c1 : w.cell? ⟨b, off + i * 4 + 1, none⟩ = some (.string x)
  c2 : w.cell? ⟨b, off + i * 4 + 2, none⟩ = some (.string y)
  c3 : w.cell? ⟨b, off + i * 4 + 3, none⟩ = some s
  kids : Fs w S s c

theorem Fs.drop : ∀ {f : F} {b off n C : Nat} (i : Nat), Fs w S (.slice (some ⟨b, off, none⟩) n C) f → i ≤ n → ∀ A', (i = n ∨ A' = some ⟨b, off + i * 4, none⟩) → Fs w S (.slice A' (n - i) (C - i)) (f.drop i)
  | .nil, b, off, n, C, i, ⟨A, C', e, h⟩, hi, A', hA => by
    injection e with e1 e2 e3
    subst e2
    rw [F.drop_nil]
    exact ⟨A', C - i, by rw [Nat.zero_sub], by omega⟩
  | .cons k x y c r, b, off, n, C, 0, h, hi, A', hA => by
    rcases hA with hA | hA
    · subst hA
      obtain ⟨b', off', n', C', s, e, _⟩ := h
      injection e with _ e2 _
      cases e2
    · subst hA
      simpa [F.drop] using h
  | .cons k x y c r, b, off, n, C, i + 1, ⟨b', off', n', C', s, e, h1, h2, h3, hS, c0, c1, c2, c3, hk, hr⟩, hi, A', hA => by
    injection e with e1 e2 e3
    injection e1 with e1
    injection e1 with e4 e5
    subst e2; subst e3; subst e4; subst e5
    by_cases hz : r = .nil
    · subst hz
      simp only [F.drop, F.drop_nil]
      simp only [F.len] at h1
      subst h1
      exact ⟨A', C' + 1 - (i + 1), by simp, by omega⟩
    · have := (hr (some ⟨b, off + 4, none⟩) (.inr rfl)).drop i (by omega) A' (by
        rcases hA with hA | hA
        · exact .inl (by omega)
        · exact .inr (by rw [hA, show off + (i + 1) * 4 = off + 4 + i * 4 by omega]))
      simpa [F.drop, Nat.add_sub_add_right] using this

theorem Fs.at_ {A : Option Addr} {n C : Nat} {i : Nat} {k : Int} {x y : ByteArray} {c r : F} (h : Fs w S (.slice A n C) f) (hf : f.drop i = .cons k x y c r) : ∃ b off s, A = some ⟨b, off, none⟩ ∧ S b ∧ i < n ∧ At w S b off i k x y c s := by
  have hlen : i < f.len := by
    have := F.drop_len i f
    rw [hf] at this
    simp only [F.len] at this
    omega
  obtain ⟨A', C', e, _⟩ := h.slice
  injection e with e1 e2 e3
  subst e1; subst e2; subst e3
  cases f with
  | nil => simp [F.len] at hlen
  | cons k' x' y' c' r' =>
    have h' := h
    obtain ⟨b, off, n', C'', s', e, _, _, _, hS, _⟩ := h'
    injection e with e1 e2 e3
    subst e1; subst e3
    have hd := h.drop i (by omega) (some ⟨b, off + i * 4, none⟩) (.inr rfl)
    rw [hf] at hd
    obtain ⟨b2, off2, n2, C2, s, e, _, _, _, _, c0, c1, c2, c3, hk, _⟩ := hd
    injection e with e1 e2 e3
    injection e1 with e1
    injection e1 with e4 e5
    subst e4; subst e5
    exact ⟨b, off, s, rfl, hS, hlen, c0, c1, c2, c3, hk⟩
end

/-- A node as a value, whose Kids lie at s. -/
def ndV (k : Int) (x y : ByteArray) (s : Value) : Value := .agg #[.int .i64 k, .string x, .string y, s]
end Go.Proofs.YtoecimgmghlfpaaDoor.Tree
