/-
  Layer 5 (tree): many, and rows of parts.
-/
import Derived.Test.YtoecimgmghlfpaaDoorTreePart
namespace Go.Proofs.YtoecimgmghlfpaaDoor.Tree
open Go.ChangeShapes Go.WideShapes Go.ChangeAt Go.RowKit Mem
set_option linter.unusedVariables false

theorem enteredMany : Entered 57 := fun args w => by simp [go_sem]
theorem many_any (p : Int → ByteArray → Bool) (gf : Nat) (caps : Array Value) (w : World) (ht : TestOk w (.func (.func gf) #[] caps) p) :
    Calls Tryd.prog 43 #[.func (.func gf) #[] caps] w fun e w' => Below w.heap.size w w' ∧ ∃ v, e = .returned v ∧ PartOk w' v (.many p) := by
  have hb1 := below1 w (.cells #[.func (.func gf) #[] caps] 55)
  have HF : Hid (PartOk (w.alloc (.cells #[.func (.func gf) #[] caps] 55)) (.func (.func 57) #[] #[.pointer (some ⟨w.heap.size, 0, none⟩)]) (.many p)) := by
    refine ⟨_, _, rfl, enteredMany, fun W hW A n C f hf => many1_any p w.heap.size (.func (.func gf) #[] caps) A n C f W hf ?_ ?_ ?_⟩
    · exact (hW.cell (p := ⟨w.heap.size, 0, none⟩) (by simp)).trans (by rw [World.cell?_alloc_at _ _ _ _ rfl]; rfl)
    · have := hW.size; simp at this; omega
    · exact ht.later (hb1.trans (hW.mono hb1.size))
  have HB := Lib.hid hb1
  clear ht hb1
  go_enter Tryd.func43, Tryd.ntmps43
  go_wp2
  go_ret
  exact ⟨HB.out, _, rfl, HF.out⟩

/-- How far row has come. -/
structure RowAt (w wr : World) (pts : List Pt) (f : F) (k : Nat) (A : Option Addr) (n C : Nat) (g : F) : Prop where
  fs : Fs wr (Lo wr.heap.size) (.slice A n C) g
  eq : rowOK (pts.drop k) g = rowOK pts f
  bel : Below w.heap.size w wr

theorem rowOK_step {pts : List Pt} {k : Nat} {pt : Pt} (h : pts[k]? = some pt) (g : F) : rowOK (pts.drop k) g = (match pt.take g with
    | none => false
    | some g' => rowOK (pts.drop (k + 1)) g') := by
  have hk : k < pts.length := (List.getElem?_eq_some_iff.1 h).1
  have e : pts[k] = pt := by rw [List.getElem?_eq_getElem hk] at h; exact Option.some.inj h
  rw [List.drop_eq_getElem_cons hk, e, rowOK]
  cases pt.take g <;> rfl
theorem rowOK_nil : ∀ f : F, rowOK [] f = decide (f.len = 0)
  | .nil => rfl
  | .cons .. => by simp [rowOK, F.len]

set_option maxRecDepth 100000 in
set_option maxHeartbeats 4000000 in
theorem row_any (pts : List Pt) (g n0 : Nat) (A : Option Addr) (n C : Nat) (f : F) (w : World) (hf : Fs w (Lo w.heap.size) (.slice A n C) f) (hl : pts.length = n0) (hn : n0 ≤ 1000000) (hg : g < w.heap.size)
    (hts : ∀ i p, pts[i]? = some p → ∃ v, w.cell? ⟨g, i, none⟩ = some v ∧ PartOk w v p) :
    Calls Tryd.prog 42 #[.slice A n C, .slice (some ⟨g, 0, none⟩) n0 n0] w fun e w' => e = .returned (.bool (rowOK pts f)) ∧ Below w.heap.size w w' := by
  have Hl := Lib.hid hl; have Ht := Lib.hid hts; have HG := Lib.hid hg
  have HF : Hid (RowAt w w pts f 0 A n C f) := ⟨hf, rfl, Below.refl _ _⟩
  clear hl hts hg hf
  go_enter Tryd.func42, Tryd.ntmps42
  go_wp2
  go_loopw [0, 11] (fun s0 i wr => ∃ (k : Nat) (A : Option Addr) (n C : Nat) (g' : F), k ≤ n0 ∧ i = .int .i64 k ∧ s0 = .slice A n C ∧ Hid (RowAt w wr pts f k A n C g')) (fun _ i _ => n0 - (intOf i).toNat)
  case atStart => exact ⟨0, A, n, C, f, Nat.zero_le _, rfl, rfl, HF.out⟩
  case round =>
    obtain ⟨k, A, n, C, g', hk, rfl, rfl, HM⟩ := hrel
    by_cases hlt : k < n0
    · obtain ⟨pt, hp⟩ : ∃ p, pts[k]? = some p := ⟨_, List.getElem?_eq_getElem (by rw [Hl.out]; exact hlt)⟩
      obtain ⟨v, hv, hok⟩ := Ht.out k pt hp
      obtain ⟨gf, c, rfl, eg, hc⟩ := hok
      have hcell := (HM.out.bel.cell (p := ⟨g, k, none⟩) HG.out).trans hv
      have hlt' : (k : Int) < (n0 : Int) := by omega
      have hk00 : (0 : Int) ≤ (k : Int) := by omega
      have HC := Lib.hid (hc wr HM.out.bel A n C g' HM.out.fs)
      have HS := Lib.hid ((rowOK_step hp g').symm.trans HM.out.eq)
      unfold Entered at eg
      clear hv hc hp
      go_wp2_with fail
      refine HC.out.mono ?_
      rintro e w' ⟨hb1, hh⟩
      have HB1 := Lib.hid (HM.out.bel.trans (hb1.mono HM.out.bel.size))
      rcases hh with ⟨ht, v, rfl⟩ | ⟨g2, A2, n2, C2, ht, rfl, hf2⟩
      · have HE : Hid (rowOK pts f = false) := by show _ = _; rw [← HS.out, ht]
        clear ht hb1
        go_wp2
        go_ret
        exact ⟨by rw [HE.out]; rfl, HB1.out⟩
      · have HE : Hid (RowAt w w' pts f (k + 1) A2 n2 C2 g2) := ⟨(hf2.below hb1 (Nat.le_refl _)).up hb1.size, by rw [← HS.out, ht], HB1.out⟩
        clear ht hb1 hf2
        go_wp2
        go_roundw
        case rel => exact ⟨k + 1, A2, n2, C2, g2, by omega, by go_num, rfl, HE.out⟩
        case measure => simp [intOf]; omega
    · have hn' : ¬ (k : Int) < (n0 : Int) := by omega
      obtain rfl : k = n0 := by omega
      obtain ⟨A0, C0, e, _, _⟩ := HM.out.fs.slice
      injection e with e1 e2 e3
      have HE : Hid (rowOK pts f = decide (n = 0)) := by
        show _ = _
        rw [← HM.out.eq, List.drop_eq_nil_of_le (by rw [Hl.out]; exact Nat.le_refl _), rowOK_nil, e2]
      clear e1 e2 e3
      by_cases hz : n = 0
      · subst hz
        go_wp2
        go_ret
        exact ⟨by rw [HE.out]; rfl, HM.out.bel⟩
      · have hzz : ((n : Int) == 0) = false := kno (by omega)
        rw [decide_eq_false hz] at HE
        clear hz
        go_wp2
        go_ret
        exact ⟨by rw [HE.out]; rfl, HM.out.bel⟩
end Go.Proofs.YtoecimgmghlfpaaDoor.Tree
