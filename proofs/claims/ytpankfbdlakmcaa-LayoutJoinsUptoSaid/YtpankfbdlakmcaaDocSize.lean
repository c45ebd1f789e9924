/-
  Layer 7 (doc): the document's size of a plan.
-/
import Derived.Test.YtpankfbdlakmcaaDocJoin
import Derived.Test.YtpankfbdlakmcaaDocOpen
namespace Go.Proofs.Ytpankfbdlakmcaa.Doc
open Go.ChangeShapes Go.WideShapes Go.ChangeAt Go.RowKit Mem
set_option linter.unusedVariables false

theorem ms_next' {i n : Nat} (h : i < n) : n - (intOf (.int .i64 ((i : Int) + 1))).toNat < n - (intOf (.int .i64 (i : Int))).toNat := by simp [intOf]; omega
theorem szL_cons (k : Int) (x : ByteArray) (c r : G) (m n : Nat) : szL (.cons k x c r) m n = if n < m then szL r m (n + szL c (m - n) 1) else n := rfl
def ZSpec (N : Nat) : Prop := ∀ (k : Int) (x : ByteArray) (A : Option Addr) (n C : Nat) (c : G) (m : Nat) (z : Int) (w : World), c.size ≤ N → z = (m : Int) → 1 ≤ m → m ≤ 1000 → Gs w (Lo w.heap.size) (.slice A n C) c →
  Calls Try.prog 25 #[.agg #[.int .i64 k, .string x, .slice A n C], .int .i64 z] w fun e w' => e = .returned (.int .i64 (szL c m 1 : Nat)) ∧ Below w.heap.size w w'
set_option maxHeartbeats 8000000 in
set_option maxRecDepth 100000 in
theorem size_step (N : Nat) (ih : ∀ M, M < N → ZSpec M) : ZSpec N := by
  intro k x A n C c m z w hN hz hm1 hm2 hs
  subst hz
  have hcl : n = c.len := by obtain ⟨_, _, e, _, _⟩ := hs.slice; injection e
  have HNM : Hid (n ≤ 9223372036854775807) := by
    show _ ≤ _
    obtain ⟨_, _, e, h1, h2⟩ := hs.slice
    injection e with _ e1 e2
    omega
  have b1 := (Below.refl w.heap.size w).alloc (Nat.le_refl _) (.cells #[.int .i64 k, .string x, .slice A n C] 24)
  have hx1 := heap_alloc_new w (.cells #[.int .i64 k, .string x, .slice A n C] 24)
  have hz1 : (w.alloc (.cells #[.int .i64 k, .string x, .slice A n C] 24)).heap.size = w.heap.size + 1 := World.size_alloc _ _
  have HIH := Lib.hid ih
  have HS := Lib.hid hs
  have HB1 := Lib.hid b1
  have HX1 := Lib.hid hx1
  have HCL := Lib.hid hcl
  clear ih hs b1 hx1 hcl
  go_enter Try.func25, Try.ntmps25
  go_wp2
  go_loopw [5, 6] (fun s5 s6 wr => ∃ (i q : Nat), i ≤ n ∧ s6 = .int .i64 (i : Int) ∧ s5 = .int .i64 (q : Int) ∧ q ≤ m ∧ Hid (szL (c.drop i) m q = szL c m 1) ∧ Hid (Below (w.heap.size + 1) (w.alloc (.cells #[.int .i64 k, .string x, .slice A n C] 24)) wr)) (fun _ s6 _ => n - (intOf s6).toNat)
  case atStart => exact ⟨0, 1, Nat.zero_le _, rfl, rfl, hm1, rfl, Below.refl _ _⟩
  case round =>
    obtain ⟨i, q, hi, rfl, rfl, hq, hE, hbel⟩ := hrel
    have hbw := HB1.out.trans (hbel.out.mono (Nat.le_succ _))
    obtain ⟨p0, p1, p2⟩ := cl3 ((hbel.out.block w.heap.size (Nat.lt_succ_self _)).trans HX1.out)
    by_cases hgo : i < n ∧ q < m
    · obtain ⟨hlt, hlm⟩ := hgo
      have HLT : Hid (i < n ∧ q < m) := ⟨hlt, hlm⟩
      obtain ⟨k', x', c', r', hd, hd2⟩ := G.drop_cons (n := i) (f := c) (by rw [← HCL.out]; exact hlt)
      obtain ⟨b, off, s, hA, hbS, _, hat⟩ := HS.out.at_ hd
      subst hA
      obtain ⟨As, Cs, rfl, _, _⟩ := hat.kids.slice
      have hbl : b < w.heap.size := hbS
      have y0 := (hbw.cell (p := ⟨b, off + i * 3, none⟩) hbl).trans hat.c0
      have y1 := (hbw.cell (p := ⟨b, off + i * 3 + 1, none⟩) hbl).trans hat.c1
      have y2 := (hbw.cell (p := ⟨b, off + i * 3 + 2, none⟩) hbl).trans hat.c2
      have hsz := G.kid_size hd
      have hlt1 : (i : Int) < (n : Int) := by omega
      have hlt0 : (0 : Int) ≤ (i : Int) := by omega
      have HWI : Hid (wrap64 ((i : Int) + 1) = (i : Int) + 1) := by show _ = _; have := HNM.out; unfold wrap64; omega
      have hlm1 : (q : Int) < (m : Int) := by omega
      have hkids : Gs wr (Lo wr.heap.size) (.slice As c'.len Cs) c' := (hat.kids.below hbw (Nat.le_refl _)).up hbw.size
      have HC := Lib.hid (HIH.out c'.size (by omega) k' x' As c'.len Cs c' (m - q) ((m : Int) - (q : Int)) wr (Nat.le_refl _) (by omega) (by omega) (by omega) hkids)
      have hle := szL_le c' (m - q) 1 (by omega)
      have HE2 : Hid (szL (c.drop (i + 1)) m (q + szL c' (m - q) 1) = szL c m 1) := by
        show _ = _
        have := hE.out
        rw [hd, szL_cons] at this
        rw [if_pos hlm] at this
        rw [hd2]
        exact this
      have hw : IntKind.i64.wrap ((m : Int) - (q : Int)) = (m : Int) - (q : Int) := by rw [IntKind.wrap_i64]; omega
      generalize c'.len = lc at *
      generalize szL c' (m - q) 1 = sq at *
      have hqs : q + sq ≤ m := by omega
      have HQS := Lib.hid hqs
      clear hd hd2 hat hbS hbl hkids hE hsz
      go_wp2_with fail
      refine HC.out.mono ?_
      rintro e w3 ⟨rfl, hb3⟩
      have HB3 := Lib.hid (hbel.out.trans (hb3.mono (by have := hbel.out.size; rw [hz1] at this; exact this)))
      clear hb3 p0 p1 p2 y0 y1 y2 hbw
      go_wp2
      go_roundw
      case rel => exact ⟨i + 1, q + sq, HLT.out.1, by rw [HWI.out]; rfl, by go_num, HQS.out, HE2.out, HB3.out⟩
      case measure => rw [HWI.out]; exact ms_next' HLT.out.1
    · have hfin : szL c m 1 = q := by
        have := hE.out
        by_cases hlt : i < n
        · obtain ⟨k', x', c', r', hd, _⟩ := G.drop_cons (n := i) (f := c) (by rw [← HCL.out]; exact hlt)
          rw [hd, szL_cons] at this
          rw [if_neg (by omega)] at this
          exact this.symm
        · rw [G.drop_all i c (by rw [← HCL.out]; omega)] at this
          exact this.symm
      have HFI := Lib.hid hfin
      have HBW := Lib.hid hbw
      clear hE hbw hfin
      by_cases hlt : i < n
      · have hlm : ¬ q < m := by omega
        have hlt1 : (i : Int) < (n : Int) := by omega
        have hlm1 : ¬ (q : Int) < (m : Int) := by omega
        go_wp2
        go_ret
        exact ⟨by rw [HFI.out]; rfl, HBW.out⟩
      · have hlt1 : ¬ (i : Int) < (n : Int) := by omega
        go_wp2
        go_ret
        exact ⟨by rw [HFI.out]; rfl, HBW.out⟩
theorem size_any : ∀ N, ZSpec N := fun N => Nat.strongRecOn N fun N ih => size_step N ih
end Go.Proofs.Ytpankfbdlakmcaa.Doc
