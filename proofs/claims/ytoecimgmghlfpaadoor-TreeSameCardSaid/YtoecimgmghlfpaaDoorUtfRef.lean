/-
  Layer 1 (utf): the document's own Next answers the sign with which bytes begin, at every slice of bytes.
-/
import Derived.Test.YtoecimgmghlfpaaDoorUtfKnown
import Derived.Deep.QuietTactic
import Derived.BigQuiet
namespace Go.Proofs.YtoecimgmghlfpaaDoor.Utf
open Go.ChangeShapes Go.WideShapes Go.ChangeAt Go.RowKit
set_option linter.unusedVariables false

theorem below_drewN {B : Nat} {a w : World} (h : Below B a w) (n : Nat) : Below B a (w.drewN n) := ⟨h.os, h.tape, h.output, h.size, h.block⟩

theorem str_toList {a b : ByteArray} (h : a.toList = b.toList) : a = b := by
  rw [ByteArray.toList_eq, ByteArray.toList_eq] at h
  cases a; cases b; simp at h; rw [h]

/-- No sign of fewer than m bytes stands at the front. -/
def NoHit (xs : List Int) (m : Nat) : Prop := ∀ j, 1 ≤ j → j < m → j ≤ xs.length → ¬ hit j xs

theorem md_bd {m : Nat} {c : Int} (h0 : 0 ≤ c) (h1 : c < 256) : 0 ≤ md m c ∧ md m c < 256 := by
  unfold md; repeat' split
  all_goals omega

theorem acc_mid {m : Nat} {c : Int} {r : List Int} {k : Nat} (h0 : 0 ≤ c) (h1 : c < 256) (hk : k ≤ 3) : 0 ≤ acc (md m c) (r.take k) ∧ acc (md m c) (r.take k) < 67108864 := by
  have hl : (r.take k).length ≤ k := List.length_take_le _ _
  have hb := md_bd (m := m) h0 h1
  have := acc_bd (r.take k) (md m c) 256 hb.1 hb.2
  have e0 : (r.take k).length = 0 ∨ (r.take k).length = 1 ∨ (r.take k).length = 2 ∨ (r.take k).length = 3 := by omega
  rcases e0 with e0 | e0 | e0 | e0 <;> rw [e0] at this <;> omega

/-- utf.Next, its length by a name of its own. -/
theorem next_at (A : Option Addr) (n cap : Nat) (xs : List Int) (w : World) (B : Nat) (h : RB w B A xs) (hn : xs.length = n) (hcap : n ≤ cap) (hcap' : cap ≤ maxLen) :
    Calls Tryd.prog 70 #[.slice A n cap] w fun e w' => e = .returned (.tuple #[.int .i64 (nxt xs).1, .int .i64 ((nxt xs).2 : Nat)]) ∧ w = w' := by
  subst hn
  exact next_any A cap xs w B h hcap hcap'

/-- What the law's frame tells of a slice of integers that came in. -/
def Row (k : IntKind) (w : World) (a : Option Addr) (len cap : Nat) (zs : List Int) : Prop :=
  (a = none ∧ len = 0 ∧ cap = 0 ∧ zs = []) ∨
  ∃ x, a = some x ∧ len ≤ cap ∧ cap ≤ maxLen ∧ zs.length = cap ∧ (∀ i, i < zs.length → w.cell? (x.add i) = some (.int k (zs.getD i 0))) ∧ ∀ n ∈ zs, (Lit.int k n).wf = true

theorem block_lt {w : World} {a : Addr} {v : Value} (h : w.cell? a = some v) : a.block < w.heap.size := by
  rcases Nat.lt_or_ge a.block w.heap.size with h' | h'
  · exact h'
  · simp [World.cell?, Array.getElem?_eq_none h'] at h

theorem row_rb {w : World} {a : Option Addr} {len cap : Nat} {zs : List Int} (h : Row .u8 w a len cap zs) : ∃ xs, xs.length = len ∧ len ≤ cap ∧ cap ≤ maxLen ∧ RB w w.heap.size a xs := by
  rcases h with ⟨rfl, rfl, rfl, rfl⟩ | ⟨x, rfl, hl, hm, hz, hc, hw⟩
  · exact ⟨[], rfl, Nat.le_refl _, by simp [maxLen], RB.nil _ _ _⟩
  · refine ⟨zs.take len, by rw [List.length_take]; omega, hl, hm, ?_, ?_⟩
    · intro y hy
      have := bounds_u8 (hw y (List.mem_of_mem_take hy))
      omega
    · by_cases h0 : len = 0
      · subst h0; exact .inl rfl
      · obtain ⟨b, off, spot⟩ := x
        have hspot : spot = none := by simpa [Addr.add] using World.cell?_spot (hc 0 (by omega))
        subst hspot
        refine .inr ⟨b, off, rfl, by simpa [Addr.add] using block_lt (hc 0 (by omega)), fun i hi => ?_⟩
        rw [List.length_take] at hi
        have e : (⟨b, off, none⟩ : Addr).add i = ⟨b, off + i, none⟩ := by unfold Addr.add; split <;> simp_all
        rw [← e, hc i (by omega)]
        simp [List.getD, show i < len by omega]

end Go.Proofs.YtoecimgmghlfpaaDoor.Utf
