/-
  Layer 8 (layout): what laws of one plan share.
-/
import Derived.Test.YtpankfbdlakmcaaLayTools
import Derived.Test.YtpankfbdlakmcaaDocBoxes
import Derived.Test.YtpankfbdlakmcaaMemRel
namespace Go.Proofs.Ytpankfbdlakmcaa.Doc
open Go.ChangeShapes Go.WideShapes Go.ChangeAt Go.RowKit Mem
set_option linter.unusedVariables false

theorem plan_flat {k : Int} {x : ByteArray} {c : G} (h : c.size + 1 < 400) (ht : x.size + txt c ≤ 1048576) : (flB (plOne k x (plP c))).length ≤ 2000000 := by
  have h1 := flB_plOne k x (plP c); have h2 := flB_plP c; omega
/-- A layout for a page that page(n) tells. -/
def lyS (n : Int) (l : List Pc) : ByteArray := ⟨(layS (pg n) l).toArray⟩
theorem page_of {X : Nat → Prop} {w : World} {N : Nat} {l : List Pc} {k : Int} {x : ByteArray} {A : Option Addr} {m C : Nat} (n : Int) (h : IsD X w N l k x A m C) (hN : N ≤ 100000) (hBal : Bal l) (hll : l.length ≤ 10000) (hT : txL l ≤ 400000000) :
    Calls Try.prog 11 #[.agg #[.int .i64 k, .string x, .slice A m C], .int .i64 (pg n : Int)] w fun e w' => e = .returned (.tuple #[.string (lyS n l), .int .i64 0]) ∧ Below w.heap.size w w' :=
  of_good (pg n : Int) (pg n) rfl (pg_low n) (Nat.le_trans (pg_high n) (by decide)) h hN hBal hll hT
theorem bal_w5 {l : List Pc} (h : Bal l) : Bal (((5, emp) : Pc) :: (l ++ [((6, emp) : Pc)])) := h.nest
theorem bal_w7 {l : List Pc} (h : Bal l) : Bal (((7, emp) : Pc) :: (l ++ [((8, emp) : Pc)])) := h.group
theorem len_w (a b : Pc) (l : List Pc) : (a :: (l ++ [b])).length = l.length + 2 := by simp
theorem txL_w (a b : Int) (l : List Pc) : txL (((a, emp) : Pc) :: (l ++ [((b, emp) : Pc)])) = txL l := by
  show 0 + txL (l ++ [((b, emp) : Pc)]) = _
  rw [txL_app]
  show 0 + (txL l + (0 + 0)) = _
  omega
end Go.Proofs.Ytpankfbdlakmcaa.Doc
