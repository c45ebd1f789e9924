/-
  Layer 5 (tree): Right, at every tree whose texts are no longer than a million bytes.
-/
import Derived.Test.YtoecimgmghlfpaaDoorTreeRight
import Derived.Laws.EntriesVeiled
namespace Go.Proofs.YtoecimgmghlfpaaDoor.Tree
open Go.ChangeShapes Go.WideShapes Go.ChangeAt Go.RowKit Mem
set_option linter.unusedVariables false

theorem right1_any (N : Nat) : RightSpec N := by
  induction N using Nat.strongRecOn with
  | _ N ih => exact right1_step N ih

set_option maxRecDepth 100000 in
set_option maxHeartbeats 4000000 in
theorem right_any (k : Int) (x y : ByteArray) (A : Option Addr) (n C : Nat) (c : F) (w : World) (hf : Fs w (Lo w.heap.size) (.slice A n C) c) (hx : x.size ≤ 1000000) (hy : y.size ≤ 1000000) (hsm : Small c) (hT : Lex.Tab w) :
    Calls Tryd.prog 21 #[.agg #[.int .i64 k, .string x, .string y, .slice A n C]] w fun e w' => e = .returned (.bool (rightT nmB tkB k x y c)) ∧ Below w.heap.size w w' := by
  have b1 := below2 w (.cells #[.int .i64 k, .string x, .string y, .slice A n C] 24) (.cells #[.func (.func 30) #[] #[.pointer (some ⟨w.heap.size + 1, 0, none⟩)]] 47)
  have HC := Lib.hid (right1_any c.size (w.heap.size + 1) k x y A n C c false 0 _ (Nat.le_refl _) ((hf.below b1 (Nat.le_refl _)).up b1.size) hx hy hsm (by omega) (hT.below b1 hT.pos) (by simp) (by rw [World.cell?_alloc_at _ _ _ _ (by simp)]; rfl))
  have HB := Lib.hid b1
  clear b1 hf hx hy hsm hT
  by_cases hk : k = 1
  · subst hk
    rw [show rightT nmB tkB 1 x y c = nodeR nmB tkB 1 x y c false 0 from rfl]
    generalize nodeR nmB tkB 1 x y c false 0 = bb at *
    go_enter Tryd.func21, Tryd.ntmps21
    go_wp2_with fail
    refine HC.out.mono ?_
    rintro e w' ⟨rfl, hb⟩
    have HE := Lib.hid (HB.out.trans (hb.mono HB.out.size))
    clear hb
    go_wp2
    go_ret
    exact ⟨rfl, HE.out⟩
  · have k1 := kno hk
    rw [show rightT nmB tkB k x y c = false by unfold rightT; rw [k1]; rfl]
    clear hk HC
    go_enter Tryd.func21, Tryd.ntmps21
    go_wp2
    go_ret
    exact ⟨rfl, HB.out⟩
end Go.Proofs.YtoecimgmghlfpaaDoor.Tree
