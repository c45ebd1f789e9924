/-
  Layer 10 (shape): the walk of ShapeKeeps.
-/
import Derived.Test.YtmknghhgcecafaaDoorShapeMarksLaw
import Derived.Test.YtmknghhgcecafaaDoorShapeOf
import Derived.Test.YtmknghhgcecafaaDoorShapeMarks
import Derived.StillTailTactics
import Derived.RegionTactic
import Derived.Deep.Draws
namespace Go.Proofs.YtmknghhgcecafaaDoor.Shape
open Go.ChangeShapes Go.WideShapes Go.ChangeAt Go.RowKit Mem Tree MemC
set_option linter.unusedVariables false

theorem cells_free {W : World} {b : Nat} {vals : Array Value} {T : TypeId} (h : W.heap[b]? = some (.cells vals T (0, 0))) (i : Nat) : W.frozen? ⟨b, i, none⟩ = false := by simp [World.frozen?, h]
/-- A Plan's box: its cells at all later worlds. -/
theorem plan_cl (w : World) (va vb vc vd : Value) : ∀ W, Below (w.alloc (.cells #[va, vb, vc, vd] 30)).heap.size (w.alloc (.cells #[va, vb, vc, vd] 30)) W →
    W.cell? ⟨w.heap.size, 0, none⟩ = some va ∧ W.cell? ⟨w.heap.size, 1, none⟩ = some vb ∧ W.cell? ⟨w.heap.size, 2, none⟩ = some vc ∧ W.cell? ⟨w.heap.size, 3, none⟩ = some vd := fun W hW => by
  have h : W.heap[w.heap.size]? = _ := (hW.block w.heap.size (by simp)).trans (heap_alloc_new w _)
  refine ⟨?_, ?_, ?_, ?_⟩ <;> simp [World.cell?, h]
theorem below_drew (w : World) : Below w.heap.size w w.drew := ⟨rfl, rfl, rfl, Nat.le_refl _, fun _ _ => rfl⟩
theorem below_set {B : Nat} {w w' : World} (h : Below B w w') {b : Nat} (hb : B ≤ b) (i : Nat) (v : Value) : Below B w (w'.setCell ⟨b, i, none⟩ v) := h.setCell (p := ⟨b, i, none⟩) hb v
/-- No nodes: no Marks. -/
theorem marks_none (w : World) (hP : Pow w) : Calls Tryd.prog 15 #[.slice none 0 0] w fun e w' => Below w.heap.size w w' ∧ ∃ A C, e = .returned (.slice A 0 C) :=
  (marksSpec none 0 0 .nil w hP (fs_empty _ _) (by decide) trivial trivial).mono fun e w' h => by
    obtain ⟨hb, v, he, us, hu, ⟨A, C, hv, _⟩, _⟩ := h
    refine ⟨hb, A, C, ?_⟩
    rw [he, hv, hu]
    rfl
/-- The row of the first Kids: none, or one at the least, which may be written. -/
theorem row_first {w : World} {S : Nat → Prop} {A : Option Addr} {n C : Nat} {c : F} (h : Fs w S (.slice A n C) c) (ht : TF w (.slice A n C)) :
    (n = 0 ∧ c = .nil) ∨ (0 < n ∧ ∃ b off k x y c1 r s vals, A = some ⟨b, off, none⟩ ∧ S b ∧ c = .cons k x y c1 r ∧ At w S b off 0 k x y c1 s ∧ w.heap[b]? = some (.cells vals 24 (0, 0))) := by
  have hn := fs_len' h
  cases c with
  | nil => exact .inl ⟨hn, rfl⟩
  | cons k x y c1 r =>
    obtain ⟨b, off, s, rfl, hS, hlt, hat⟩ := h.at_ (i := 0) rfl
    obtain ⟨vals, hv⟩ := ht b rfl
    exact .inr ⟨hlt, b, off, k, x, y, c1, r, s, vals, rfl, hS, rfl, hat, hv⟩
theorem plan_open {w : World} {S : Nat → Prop} {T : F} {va vb vc vd : Value} (h : PlanRd w S T (.agg #[va, vb, vc, vd])) : (∃ A n C, vb = .slice A n C) ∧ (∃ A n C, vc = .slice A n C) ∧ ∃ A n C, vd = .slice A n C := by
  obtain ⟨v1, v2, v3, v4, he, _, ⟨aP, cP, hvP, _⟩, ⟨aS, cS, hvS, _⟩, us, hus, ⟨aK, cK, hvK, _⟩, _⟩ := h
  simp only [Value.agg.injEq, Array.mk.injEq, List.cons.injEq, and_true] at he
  obtain ⟨rfl, rfl, rfl, rfl⟩ := he
  exact ⟨⟨_, _, _, hvP⟩, ⟨_, _, _, hvS⟩, ⟨_, _, _, hvK⟩⟩
set_option maxRecDepth 100000 in
set_option maxHeartbeats 16000000 in
theorem shapeKeeps_walk (k : Int) (x y : ByteArray) (A : Option Addr) (n C : Nat) (c : F) (w : World) (hf : Fs w (Lo w.heap.size) (.slice A n C) c) (hP : Pow w) :
    Calls Tryd.prog 6 #[.agg #[.int .i64 k, .string x, .string y, .slice A n C]] w fun e w' => e = .returned (.bool true) ∧ Below w.heap.size w w' := by
  have b1 := bel1 w (.cells #[.int .i64 k, .string x, .string y, .slice A n C] 24)
  have HX := Lib.hid (box_cl' w k x y (.slice A n C))
  have HF := Lib.hid (hf.later b1)
  have HFEW := Lib.hid (few10_any k x y A n C c 1000 _ (hf.later b1) (by decide))
  have HB1 := Lib.hid b1
  have HKN := Lib.hid (fun W hW => known_any ofSpec marksSpec treeSpec W hW)
  have HMN := Lib.hid (fun W hW => marks_none W hW)
  have HPW := Lib.hid hP
  clear hP
  obtain ⟨q0, q1, q2, q3⟩ := HX.out _ (Below.refl _ _)
  obtain ⟨fb, hfb⟩ : ∃ fb, fewS k x y c 1000 = fb := ⟨_, rfl⟩
  rw [hfb] at HFEW
  have HFB := Lib.hid hfb
  clear hf b1 hfb
  go_enter Tryd.func6, Tryd.ntmps6
  go_wp2_with fail
  obtain ⟨w0, hw0⟩ : ∃ w0, w.alloc (.cells #[.int .i64 k, .string x, .string y, .slice A n C] 24) = w0 := ⟨_, rfl⟩
  rw [hw0] at HX HF HFEW HB1 q0 q1 q2 q3 ⊢
  clear hw0
  refine HFEW.out.mono ?_
  rintro e w1 ⟨rfl, hb⟩
  have HB01 := Lib.hid hb
  have HB2 := Lib.hid (HB1.out.trans (hb.mono HB1.out.size))
  clear hb q0 q1 q2 q3 HFEW
  cases fb with
  | false =>
    go_wp2_with fail
    refine (HKN.out w1 (HPW.out.on HB2.out)).mono ?_
    rintro e w2 ⟨rfl, hb⟩
    have HB3 := Lib.hid (HB2.out.trans (hb.mono HB2.out.size))
    clear hb
    go_wp2
    go_ret
    exact ⟨rfl, HB3.out⟩
  | true =>
    obtain ⟨s0, x0, y0, t0⟩ := few_small HFB.out
    have HS := Lib.hid s0
    have HSM := Lib.hid t0
    have H2 := Lib.hid (copy_any c.size k x y A n C c w1 (Nat.le_refl _) (by omega) (HF.out.later HB01.out))
    obtain ⟨q0, q1, q2, q3⟩ := HX.out w1 HB01.out
    clear s0 x0 y0 t0 HFB
    go_wp2_with fail
    refine H2.out.mono ?_
    rintro e w2 ⟨hb2, A2, n2, C2, rfl, hn2⟩
    have hf2 := hn2.fs
    rw [ofL_toL] at hf2
    have hb3 := bel1 w2 (.cells #[.int .i64 k, .string x, .string y, .slice A2 n2 C2] 24)
    have hb03 := HB01.out.trans ((hb2.trans (hb3.mono hb2.size)).mono HB01.out.size)
    have HB03 := Lib.hid hb03
    have HB3 := Lib.hid (HB1.out.trans (hb03.mono HB1.out.size))
    have HZ := Lib.hid (box_cl' w2 k x y (.slice A2 n2 C2))
    have HFZ : Hid (Fs (w2.alloc (.cells #[.int .i64 k, .string x, .string y, .slice A2 n2 C2] 24)) (Lo (w2.alloc (.cells #[.int .i64 k, .string x, .string y, .slice A2 n2 C2] 24)).heap.size) (.slice A2 n2 C2) c) := (hf2.more fun b h => h.2 : Fs w2 (Lo w2.heap.size) (.slice A2 n2 C2) c).later hb3
    have H3 := Lib.hid (of_good k x y A n C c _ (HF.out.later hb03) (by have := HS.out; omega))
    obtain ⟨p0, p1, p2, p3⟩ := HX.out _ hb03
    obtain ⟨g3, hg3⟩ : ∃ g3, w2.heap.size = g3 := ⟨_, rfl⟩
    clear hb2 hn2 hf2 hb3 hb03 q0 q1 q2 q3 H2 HB2 HB01
    go_wp2_with fail
    refine H3.out.mono ?_
    rintro e w4 ⟨hb4, gN, cN, vP, vS, vK, s, rfl, hp, hgN, hcN, htf, hfs⟩
    obtain ⟨⟨aP, nP, cP, rfl⟩, ⟨aS, nS, cS, rfl⟩, ⟨aK, nK, cK, rfl⟩⟩ := plan_open hp
    clear p0 p1 p2 p3 H3
    generalize w2.alloc (.cells #[.int .i64 k, .string x, .string y, .slice A2 n2 C2] 24) = w3 at *
    rw [hg3] at HZ
    clear hg3
    have hb5 := bel1 w4 (.cells #[.slice (some ⟨gN, 0, none⟩) (c.size + 1) cN, .slice aP nP cP, .slice aS nS cS, .slice aK nK cK] 30)
    have HQ := Lib.hid (plan_cl w4 (.slice (some ⟨gN, 0, none⟩) (c.size + 1) cN) (.slice aP nP cP) (.slice aS nS cS) (.slice aK nK cK))
    obtain ⟨g5, hg5⟩ : ∃ g5, w4.heap.size = g5 := ⟨_, rfl⟩
    have HB35 := Lib.hid (hb4.trans (hb5.mono hb4.size))
    have HCN := Lib.hid ((hb5.cell (p := ⟨gN, 3, none⟩) (World.block_lt_of_cell? _ _ hcN)).trans hcN)
    have HTF := Lib.hid (htf.below hb5)
    have HFS := Lib.hid (hfs.keep fun b hb => hb5.block b hb.2)
    have HGN := Lib.hid hgN
    have H5 := Lib.hid (tree_good k x y c _ (w4.alloc (.cells #[.slice (some ⟨gN, 0, none⟩) (c.size + 1) cN, .slice aP nP cP, .slice aS nS cS, .slice aK nK cK] 30)) ((hp.keep fun b hb => hb5.block b hb.2).more fun b hb => Nat.lt_of_lt_of_le hb.2 hb5.size) (by have := HS.out; omega))
    obtain ⟨y0, y1, y2, y3⟩ := HQ.out _ (Below.refl _ _)
    have hz : ((c.size : Int) + 1 == 0) = false := by simp; omega
    clear hb4 hp hgN hcN htf hfs hb5
    go_wp2_with fail
    refine H5.out.mono ?_
    rintro e w6 ⟨hb6, A7, n7, C7, rfl, hf7, ht7⟩
    clear y0 y1 y2 y3 hz H5
    generalize w4.alloc (.cells #[.slice (some ⟨gN, 0, none⟩) (c.size + 1) cN, .slice aP nP cP, .slice aS nS cS, .slice aK nK cK] 30) = w5 at *
    rw [hg5] at HQ
    clear hg5
    obtain ⟨As, Cs, rfl, _, _⟩ := HFS.out.slice
    generalize c.len = ns at *
    have hb7 := bel1 w6 (.cells #[.int .i64 k, .string x, .string y, .slice A7 n7 C7] 24)
    have HU := Lib.hid (box_cl' w6 k x y (.slice A7 n7 C7))
    have HB57 := Lib.hid (hb6.trans (hb7.mono hb6.size))
    have HF7 := Lib.hid (hf7.keep fun b hb => hb7.block b hb.2)
    have HT7 := Lib.hid (ht7.below hb7)
    have HIN : Hid (∀ b, In w5.heap.size w6.heap.size b → w5.heap.size ≤ b) := fun b h => h.1
    obtain ⟨y0, y1, y2, y3⟩ := HU.out _ (Below.refl _ _)
    obtain ⟨q0, q1, q2, q3⟩ := HQ.out _ HB57.out
    have qN := (HB57.out.cell (p := ⟨gN, 3, none⟩) (World.block_lt_of_cell? _ _ HCN.out)).trans HCN.out
    have hN0 : 0 < c.size + 1 := Nat.succ_pos _
    obtain ⟨N, hN⟩ : ∃ N, c.size + 1 = N := ⟨_, rfl⟩
    have HNN := Lib.hid hN
    rw [show ((c.size : Int) + 1) = ((N : Nat) : Int) by rw [← hN]; simp]
    rw [hN] at HQ q0 hN0 ⊢
    clear hN
    obtain ⟨g7, hg7⟩ : ∃ g7, w6.heap.size = g7 := ⟨_, rfl⟩
    clear hb6 hf7 ht7 hb7
    rcases row_first HF7.out HT7.out with ⟨rfl, hc⟩ | ⟨hn7, b7, o7, k1, x1, z1, c1, r1, s7, vals7, rfl, hS7, hc, hat7, hv7⟩
    · have HC := Lib.hid hc
      clear hc
      obtain rfl : ns = 0 := by
        rcases row_first HFS.out HTF.out with ⟨h, _⟩ | ⟨_, _, _, _, _, _, _, _, _, _, _, _, hc, _, _⟩
        · exact h
        · rw [HC.out] at hc; cases hc
      go_wp2_with fail
      have HB39 := Lib.hid (HB35.out.trans (HB57.out.mono HB35.out.size))
      have HB09 := Lib.hid (HB03.out.trans (HB39.out.mono HB03.out.size))
      have HB9 := Lib.hid (HB3.out.trans (HB39.out.mono HB3.out.size))
      clear y0 y1 y2 y3 q0 q1 q2 q3 qN HB57 HF7 HT7 HU HIN
      generalize w6.alloc (.cells #[.int .i64 k, .string x, .string y, .slice A7 0 C7] 24) = w9 at *
      refine (HKN.out w9 (HPW.out.on HB9.out)).mono ?_
      rintro e w10 ⟨rfl, hb⟩
      have HB010 := Lib.hid (HB09.out.trans (hb.mono HB09.out.size))
      have HB310 := Lib.hid (HB39.out.trans (hb.mono HB39.out.size))
      have HB10 := Lib.hid (HB9.out.trans (hb.mono HB9.out.size))
      obtain ⟨p0, p1, p2, p3⟩ := HX.out w10 HB010.out
      obtain ⟨r0, r1, r2, r3⟩ := HZ.out w10 HB310.out
      have hsm := rsame_any c.size k x y A n C c k x y A2 n2 C2 c w10 (Nat.le_refl _) (by have := HS.out; omega) (HF.out.later HB010.out) (HFZ.out.later HB310.out)
      rw [sameT_refl] at hsm
      have HSA := Lib.hid hsm
      clear hsm hb HB9
      go_wp2_with fail
      refine HSA.out.mono ?_
      rintro e w11 ⟨rfl, hb⟩
      have HB11 := Lib.hid (HB10.out.trans (hb.mono HB10.out.size))
      clear p0 p1 p2 p3 r0 r1 r2 r3 hb HSA
      go_wp2_with fail
      refine (HMN.out w11 (HPW.out.on HB11.out)).mono ?_
      rintro e w12 ⟨hb, A5, C5, rfl⟩
      have HBF := Lib.hid (HB11.out.trans (hb.mono HB11.out.size))
      clear hb
      go_wp2
      go_ret
      exact ⟨rfl, HBF.out⟩
    · have HC := Lib.hid hc
      clear hc
      rcases row_first HFS.out HTF.out with ⟨_, hc⟩ | ⟨hns, bs, os, k2, x2, z2, c2, r2, s2, vals2, rfl, hS2, _, hat2, hv2⟩
      · rw [HC.out] at hc; cases hc
      have hn7' : (0 : Int) < (n7 : Int) := by omega
      have hns' : (0 : Int) < (ns : Int) := by omega
      have e71 := hat7.c1
      simp only [Nat.zero_mul, Nat.add_zero] at e71
      have z71 := cells_free hv7 (o7 + 1)
      go_wp2_with fail
      generalize w6.alloc (.cells #[.int .i64 k, .string x, .string y, .slice (some ⟨b7, o7, none⟩) n7 C7] 24) = w7 at *
      rw [hg7] at y3
      have hs5 : ¬ 9223372036854775807 < x1.size + 1 := by have := HSM.out; rw [HC.out] at this; have := this.1; omega
      go_still_tail 10, (by kernel_rfl)
      change wpList _ _ _ _ _ w7.drew
      have HD := Lib.hid (below_drew w7)
      replace e71 : w7.drew.cell? ⟨b7, o7 + 1, none⟩ = some (.string x1) := e71
      replace z71 : w7.drew.frozen? ⟨b7, o7 + 1, none⟩ = false := z71
      clear y0 y1 y2 y3 q0 q1 q2 q3 qN hs5
      replace HB57 := Lib.hid (HB57.out.trans (HD.out.mono HB57.out.size))
      replace hS7 := HIN.out b7 hS7
      clear HD HF7 HT7 HU hat7 hv7 HIN
      generalize w7.drew = w8 at *
      have HB58 := Lib.hid (below_set HB57.out hS7 (o7 + 1) (.string (x1 ++ ⟨#[63]⟩)))
      obtain ⟨q0, q1, q2, q3⟩ := HQ.out _ HB58.out
      have qN := (HB58.out.cell (p := ⟨gN, 3, none⟩) (World.block_lt_of_cell? _ _ HCN.out)).trans HCN.out
      have hbs := hS2.2
      have e20 := hat2.c0
      simp only [Nat.zero_mul, Nat.add_zero] at e20
      replace e20 := (HB58.out.cell (p := ⟨bs, os, none⟩) (World.block_lt_of_cell? _ _ e20)).trans e20
      have z20 := cells_free ((HB58.out.block bs (lt_of_block hv2)).trans hv2) os
      go_wp2_with fail
      have HB39 := Lib.hid (below_set (HB35.out.trans (HB58.out.mono HB35.out.size)) hS2.1 os (.int .i64 (-7)))
      have HB09 := Lib.hid (HB03.out.trans (HB39.out.mono HB03.out.size))
      have HB9 := Lib.hid (HB3.out.trans (HB39.out.mono HB3.out.size))
      clear q0 q1 q2 q3 qN HB57 HB58 e20 z20 hbs e71 z71
      generalize (w8.setCell ⟨b7, o7 + 1, none⟩ (.string (x1 ++ ⟨#[63]⟩))).setCell ⟨bs, os, none⟩ (.int .i64 (-7)) = w9 at *
      refine (HKN.out w9 (HPW.out.on HB9.out)).mono ?_
      rintro e w10 ⟨rfl, hb⟩
      have HB010 := Lib.hid (HB09.out.trans (hb.mono HB09.out.size))
      have HB310 := Lib.hid (HB39.out.trans (hb.mono HB39.out.size))
      have HB10 := Lib.hid (HB9.out.trans (hb.mono HB9.out.size))
      obtain ⟨p0, p1, p2, p3⟩ := HX.out w10 HB010.out
      obtain ⟨r0, r1, r2, r3⟩ := HZ.out w10 HB310.out
      have hsm := rsame_any c.size k x y A n C c k x y A2 n2 C2 c w10 (Nat.le_refl _) (by have := HS.out; omega) (HF.out.later HB010.out) (HFZ.out.later HB310.out)
      rw [sameT_refl] at hsm
      have HSA := Lib.hid hsm
      clear hsm hb HB9
      go_wp2_with fail
      refine HSA.out.mono ?_
      rintro e w11 ⟨rfl, hb⟩
      have HB11 := Lib.hid (HB10.out.trans (hb.mono HB10.out.size))
      clear p0 p1 p2 p3 r0 r1 r2 r3 hb HSA
      go_wp2_with fail
      refine (HMN.out w11 (HPW.out.on HB11.out)).mono ?_
      rintro e w12 ⟨hb, A5, C5, rfl⟩
      have HBF := Lib.hid (HB11.out.trans (hb.mono HB11.out.size))
      clear hb
      go_wp2
      go_ret
      exact ⟨rfl, HBF.out⟩
end Go.Proofs.YtmknghhgcecafaaDoor.Shape
