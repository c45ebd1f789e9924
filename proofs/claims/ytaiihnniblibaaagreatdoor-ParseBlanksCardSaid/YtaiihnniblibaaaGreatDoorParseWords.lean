/-
 Layer 6 (parse): what the laws' walks share: Parse's answer in one form, and the first bytes.
-/
import Derived.Test.YtaiihnniblibaaaGreatDoorParseKnown
import Derived.Test.YtaiihnniblibaaaGreatDoorJpK
import Derived.Test.YtaiihnniblibaaaGreatDoorJpA
namespace Go.Proofs.YtaiihnniblibaaaGreatDoor.Parse
open Go.ChangeShapes Go.WideShapes Go.ChangeAt Go.RowKit Tree MemT Mem Utf
set_option linter.unusedVariables false

def AnsB (b : Bool) (w : World) (e : Ending) (w' : World) : Prop := e = .returned (.bool b) ∧ Below w.heap.size w w'
abbrev nbx (k : Int) (x y : ByteArray) (A : Option Addr) (n C : Nat) : Obj := .cells #[.int .i64 k, .string x, .string y, .slice A n C] 24
theorem nbx_below (w : World) (k : Int) (x y : ByteArray) (A : Option Addr) (n C : Nat) : Below w.heap.size w (w.alloc (nbx k x y A n C)) := (Below.refl _ _).alloc (Nat.le_refl _) _
theorem nbx_new (w : World) (k : Int) (x y : ByteArray) (A : Option Addr) (n C : Nat) : Boxed (w.alloc (nbx k x y A n C)) w.heap.size k x y (.slice A n C) := heap_alloc_new w _
theorem parse_nz {xs : List Int} {p : Nat} {er : Int} (h : parseR xs = .bad p er) : er ≠ 0 := by
 unfold parseR at h
 split at h
 ·unfold fileN at h
  exact Nz.bind0 nz_fileR (fun _ _ => Nz.ok) p er h
 ·rename_i h0
  injection h with _ h
  rw [← h]; exact h0
/-- What Parse tells, in one form. -/
theorem parse_form {xs : List Int} {w w' : World} {e : Ending} (h : ParsePost xs w e w') : ∃ k x y A C c, ∃ (p : Nat) (er : Int), e = .returned (.tuple #[.agg #[.int .i64 k, .string x, .string y, .slice A c.len C], .int .i64 (p : Int), .int .i64 er]) ∧ Below w.heap.size w w' ∧
  Fs w' (Lo w'.heap.size) (.slice A c.len C) c ∧ ((er = 0 ∧ ∃ r, parseR xs = .ok ⟨k, x, y, c⟩ r) ∨ (er ≠ 0 ∧ parseR xs = .bad p er)) := by
 obtain ⟨hb, h⟩ := h
 cases hR : parseR xs with
 | ok n r =>
  rw [hR] at h
  obtain ⟨A, C, rfl, hf⟩ := h
  obtain ⟨k, x, y, c⟩ := n
  exact ⟨k, x, y, A, C, c, 0, 0, rfl, hb, hf.more fun b hb => hb.2, .inl ⟨rfl, r, rfl⟩⟩
 | bad p er =>
  rw [hR] at h
  have h : e = _ := h
  subst h
  exact ⟨0, ⟨#[]⟩, ⟨#[]⟩, none, 0, .nil, p, er, rfl, hb, ⟨none, 0, rfl, Nat.zero_le _⟩, .inr ⟨parse_nz hR, rfl⟩⟩
set_option maxRecDepth 100000 in
theorem fewB_any (A : Option Addr) (n cap : Nat) (w : World) (hcap : n ≤ cap) (hcap' : cap ≤ 9223372036854775807) :
  Calls Tryz.prog 12 #[.slice A n cap] w fun e w' => e = .returned (.slice A (min n 4000) cap) ∧ w' = w := by
 by_cases hl : n ≤ 4000
 ·have hl' : decide ((4000 : Int) < (n : Int)) = false := by rw [decide_eq_false_iff_not]; omega
  go_enter Tryz.func12, Tryz.ntmps12
  go_wp2
  go_ret
  exact ⟨by rw [Nat.min_eq_left hl]; rfl, rfl⟩
 ·have hl' : (4000 : Int) < (n : Int) := by omega
  have hcl : (4000 : Int) ≤ (cap : Int) := by omega
  go_enter Tryz.func12, Tryz.ntmps12
  go_wp2
  go_ret
  exact ⟨by rw [Nat.min_eq_right (by omega)]; rfl, rfl⟩

end Go.Proofs.YtaiihnniblibaaaGreatDoor.Parse
