/-
  Layer 5 (tree): Few: the trees that are gone through.
-/
import Derived.Test.YtoecimgmghlfpaaDoorTreeRows
namespace Go.Proofs.YtoecimgmghlfpaaDoor.Tree
open Go.ChangeShapes Go.WideShapes Go.ChangeAt Go.RowKit Mem
set_option linter.unusedVariables false

def wt (nd : Nd) : Nat := min nd.x.size 100000 + min nd.y.size 100000
def sumW (L : List Nd) : Nat := L.foldr (fun nd s => wt nd + s) 0
theorem sumW_cons (nd : Nd) (L : List Nd) : sumW (nd :: L) = wt nd + sumW L := rfl
theorem sumW_append : ∀ L1 L2 : List Nd, sumW (L1 ++ L2) = sumW L1 + sumW L2
  | [], L2 => by simp [sumW]
  | nd :: L, L2 => by rw [List.cons_append, sumW_cons, sumW_cons, sumW_append L L2]; omega
theorem sumW_take_step {L : List Nd} {i : Nat} {nd : Nd} (h : L[i]? = some nd) : sumW (L.take (i + 1)) = sumW (L.take i) + wt nd := by
  rw [List.take_add_one, h, sumW_append]; simp [sumW]
theorem sumW_take_le (L : List Nd) (i : Nat) : sumW (L.take i) ≤ sumW L := by
  have := sumW_append (L.take i) (L.drop i)
  rw [List.take_append_drop] at this
  omega
theorem sumW_mem {L : List Nd} {nd : Nd} (h : nd ∈ L) : wt nd ≤ sumW L := by
  induction L with
  | nil => cases h
  | cons a L ih =>
    rw [sumW_cons]
    rcases List.mem_cons.1 h with rfl | h
    · omega
    · have := ih h; omega

/-- Is a tree one that is gone through? -/
def fewB (k : Int) (x y : ByteArray) (c : F) : Bool := decide (sumW (((⟨k, x, y, c⟩ : Nd) :: nodes c).take 2001) ≤ 50000) && decide ((((⟨k, x, y, c⟩ : Nd) :: nodes c).take 2001).length ≤ 2000)

theorem small_of : ∀ (c : F), (∀ nd ∈ nodes c, wt nd ≤ 50000) → Small c
  | .nil, _ => trivial
  | .cons k x y c r, h => by
    have h0 := h ⟨k, x, y, c⟩ (by simp [nodes])
    simp only [wt] at h0
    exact ⟨by omega, by omega, small_of c fun nd hn => h nd (by simp [nodes, hn]), small_of r fun nd hn => h nd (by simp [nodes, hn])⟩
structure FewIs (x y : ByteArray) (c : F) : Prop where
  hx : x.size ≤ 50000
  hy : y.size ≤ 50000
  sm : Small c
  sz : c.size < 2000
theorem few_is {k : Int} {x y : ByteArray} {c : F} (h : fewB k x y c = true) : FewIs x y c := by
  unfold fewB at h
  rw [Bool.and_eq_true, decide_eq_true_eq, decide_eq_true_eq] at h
  obtain ⟨h1, h2⟩ := h
  have hl : (((⟨k, x, y, c⟩ : Nd) :: nodes c)).length = c.size + 1 := by rw [List.length_cons, nodes_len]
  rw [List.length_take, hl] at h2
  rw [List.take_of_length_le (by omega)] at h1
  have hm := fun nd (hn : nd ∈ (⟨k, x, y, c⟩ : Nd) :: nodes c) => Nat.le_trans (sumW_mem hn) h1
  have h0 := hm ⟨k, x, y, c⟩ (List.mem_cons_self ..)
  simp only [wt] at h0
  exact ⟨by omega, by omega, small_of c fun nd hn => hm nd (List.mem_cons_of_mem _ hn), by omega⟩

set_option maxRecDepth 100000 in
set_option maxHeartbeats 8000000 in
theorem few_any (k : Int) (x y : ByteArray) (A : Option Addr) (n C : Nat) (c : F) (w : World) (hf : Fs w (Lo w.heap.size) (.slice A n C) c) :
    Calls Tryd.prog 5 #[.agg #[.int .i64 k, .string x, .string y, .slice A n C]] w fun e w' => e = .returned (.bool (fewB k x y c)) ∧ Below w.heap.size w w' := by
  have b1 := below1 w (.cells #[.int .i64 k, .string x, .string y, .slice A n C] 24)
  have HC := Lib.hid (nodes_any c.size k x y A n C c 2001 w.heap.size (w.alloc (.cells #[.int .i64 k, .string x, .string y, .slice A n C] 24)) (Nat.le_refl _) (hf.below b1 (Nat.le_refl _)) b1.size (by omega) (by omega))
  have HV : Hid (fewB k x y c = (decide (sumW (((⟨k, x, y, c⟩ : Nd) :: nodes c).take 2001) ≤ 50000) && decide ((((⟨k, x, y, c⟩ : Nd) :: nodes c).take 2001).length ≤ 2000))) := rfl
  have HL : Hid ((((⟨k, x, y, c⟩ : Nd) :: nodes c).take 2001).length ≤ 2001) := by show _ ≤ _; rw [List.length_take]; omega
  have HB := Lib.hid b1
  generalize ((⟨k, x, y, c⟩ : Nd) :: nodes c).take 2001 = L at *
  generalize fewB k x y c = bb at *
  obtain ⟨ln, hln⟩ : ∃ ln, L.length = ln := ⟨_, rfl⟩
  rw [hln] at HV HL
  have HLN := Lib.hid hln
  have hl2 := HL.out
  clear b1 hf hln HL
  go_enter Tryd.func5, Tryd.ntmps5
  go_wp2_with fail
  refine HC.out.mono ?_
  rintro e w1 ⟨⟨v1, rfl, ho1⟩, hb1⟩
  obtain ⟨a1, c1, rfl, hc1, hc1'⟩ := ho1.slice
  rw [HLN.out] at hc1 ho1 ⊢
  have HO := Lib.hid ho1
  have HB1 := Lib.hid (HB.out.trans (hb1.mono HB.out.size))
  have hc1m : c1 ≤ 9223372036854775807 := hc1'
  clear ho1 hb1 HC hc1'
  go_wp2
  go_loopw [4, 5] (fun s4 s5 wr => ∃ i q m : Nat, i ≤ ln ∧ s5 = .int .i64 (i : Int) ∧ s4 = .int .i64 (m : Int) ∧ m ≤ 50000 ∧ Hid (m = sumW (L.take i)) ∧ wr = w1.drewN q) (fun _ s5 _ => ln - (intOf s5).toNat)
  case atStart => exact ⟨0, 0, 0, Nat.zero_le _, rfl, rfl, by omega, (by show _ = _; simp [sumW]), rfl⟩
  case round =>
    obtain ⟨i, q, m, hi, rfl, rfl, hm, hms, rfl⟩ := hrel
    by_cases hlt : i < ln
    · obtain ⟨nd, hnd⟩ : ∃ nd, L[i]? = some nd := ⟨_, List.getElem?_eq_getElem (by rw [HLN.out]; exact hlt)⟩
      obtain ⟨g, s, rfl, _, _, _, d1, d2, _, _⟩ := HO.out.at_ hnd
      have e1 : ∀ q, (w1.drewN q).cell? ⟨g, i * 4 + 1, none⟩ = some (.string nd.x) := fun _ => d1
      have e2 : ∀ q, (w1.drewN q).cell? ⟨g, i * 4 + 2, none⟩ = some (.string nd.y) := fun _ => d2
      have hlt' : (i : Int) < (ln : Int) := by omega
      have hi0 : (0 : Int) ≤ (i : Int) := by omega
      have HS : Hid (m + (min nd.x.size 100000 + min nd.y.size 100000) = sumW (L.take (i + 1))) := by
        show _ = _
        rw [sumW_take_step hnd, ← hms.out]; rfl
      have HLE := Lib.hid (sumW_take_le L (i + 1))
      clear hnd d1 d2 hms
      have hA : min ((nd.x.size : Nat) : Int) 100000 = ((min nd.x.size 100000 : Nat) : Int) := by omega
      have hAB : min ((nd.y.size : Nat) : Int) 100000 = ((min nd.y.size 100000 : Nat) : Int) := by omega
      generalize min nd.x.size 100000 = ta at *
      generalize min nd.y.size 100000 = tb at *
      generalize nd.x = tx at *
      generalize nd.y = ty at *
      by_cases hgt : 50000 < m + (ta + tb)
      · have hgt' : (50000 : Int) < (m : Int) + (ta : Int) + (tb : Int) := by omega
        have HE : Hid (bb = false) := by
          show _ = _
          rw [HV.out, decide_eq_false (by have := HS.out; have := HLE.out; omega)]; rfl
        clear hgt
        go_wp2
        go_quiet (fail)
        go_wp2
        go_ret
        exact ⟨by rw [HE.out]; rfl, drewNb HB1.out _⟩
      · have hgt' : ¬ (50000 : Int) < (m : Int) + (ta : Int) + (tb : Int) := by omega
        have hle : m + (ta + tb) ≤ 50000 := by omega
        clear hgt
        go_wp2
        go_quiet (fail)
        go_wp2
        go_roundw
        case rel => exact ⟨i + 1, _, m + (ta + tb), by omega, by go_num, by go_num, hle, HS.out, rfl⟩
        case measure => simp [intOf]; omega
    · have hlt' : ¬ (i : Int) < (ln : Int) := by omega
      obtain rfl : i = ln := by omega
      have HE : Hid (bb = decide (i ≤ 2000)) := by
        show _ = _
        rw [HV.out, decide_eq_true, Bool.true_and]
        rw [List.take_of_length_le (by rw [HLN.out]; exact Nat.le_refl _)] at hms
        rw [← hms.out]; exact hm
      clear hlt hms
      by_cases h2 : i ≤ 2000
      · have h2' : (i : Int) ≤ 2000 := by omega
        rw [decide_eq_true h2] at HE
        clear h2
        go_wp2
        go_ret
        exact ⟨by rw [HE.out]; rfl, drewNb HB1.out _⟩
      · have h2' : ¬ (i : Int) ≤ 2000 := by omega
        rw [decide_eq_false h2] at HE
        clear h2
        go_wp2
        go_ret
        exact ⟨by rw [HE.out]; rfl, drewNb HB1.out _⟩
end Go.Proofs.YtoecimgmghlfpaaDoor.Tree
