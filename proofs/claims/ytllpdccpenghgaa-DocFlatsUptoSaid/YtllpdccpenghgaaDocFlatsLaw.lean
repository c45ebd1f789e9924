/-
  Layer 7 (doc): the law DocFlats. Written by gen_docflats.py.
-/
import Derived.Test.YtllpdccpenghgaaDocBoxes
import Derived.Test.YtllpdccpenghgaaDocBulk
namespace Go.Proofs.Ytllpdccpenghgaa.Doc
open Go.ChangeShapes Go.WideShapes Go.ChangeAt Go.RowKit Mem
set_option linter.unusedVariables false

theorem flB_wrap (a b : Int) (l : List Pc) (ha : a ≠ 1 ∧ a ≠ 2) (hb : b ≠ 1 ∧ b ≠ 2) : flB (((a, emp) : Pc) :: (l ++ [((b, emp) : Pc)])) = flB l := by
  simp [flB, pB, ha.1, ha.2, hb.1, hb.2]
theorem noHard_wrap (a b : Int) (l : List Pc) (ha : a ≠ 4) (hb : b ≠ 4) : noHard (((a, emp) : Pc) :: (l ++ [((b, emp) : Pc)])) = noHard l := by
  have e1 : (a == 4) = false := by simpa using ha
  have e2 : (b == 4) = false := by simpa using hb
  simp [noHard, e1, e2]
theorem flS_wrap (a b : Int) (l : List Pc) (ha : a ≠ 1 ∧ a ≠ 2 ∧ a ≠ 4) (hb : b ≠ 1 ∧ b ≠ 2 ∧ b ≠ 4) : flS (((a, emp) : Pc) :: (l ++ [((b, emp) : Pc)])) = flS l := by
  unfold flS
  rw [noHard_wrap a b l ha.2.2 hb.2.2, flB_wrap a b l ⟨ha.1, ha.2.1⟩ ⟨hb.1, hb.2.1⟩]
theorem flS_app {l m : List Pc} (hl : noHard l = true) (hm : noHard m = true) : flS (l ++ m) = flS l ++ flS m := by
  unfold flS
  rw [noHard_app, hl, hm, flB_app]
  apply ByteArray.ext
  simp [ByteArray.data_append]
theorem flS_size (l : List Pc) : (flS l).size ≤ (flB l).length := by
  unfold flS
  split
  · exact Nat.le_refl _
  · exact Nat.zero_le _

set_option maxHeartbeats 32000000 in
set_option maxRecDepth 100000 in
theorem docFlats_any (k0 : Int) (x0 : ByteArray) (A0 : Option Addr) (n0 C0 : Nat) (c0 : G) (k1 : Int) (x1 : ByteArray) (A1 : Option Addr) (n1 C1 : Nat) (c1 : G) (w : World) (hs0 : Gs w (Lo w.heap.size) (.slice A0 n0 C0) c0) (hs1 : Gs w (Lo w.heap.size) (.slice A1 n1 C1) c1) (ht : x0.size + txt c0 + (x1.size + txt c1) ≤ 1048576) :
    Calls Try.prog 6 #[.agg #[.int .i64 k0, .string x0, .slice A0 n0 C0], .agg #[.int .i64 k1, .string x1, .slice A1 n1 C1]] w fun e w' => e = .returned (.bool true) ∧ Below w.heap.size w w' := by
  have HT := Lib.hid ht
  clear ht
  have b0 := (Below.refl w.heap.size w).alloc (Nat.le_refl _) (.cells #[.int .i64 k0, .string x0, .slice A0 n0 C0] 24)
  have hx0 := heap_alloc_new w (.cells #[.int .i64 k0, .string x0, .slice A0 n0 C0] 24)
  have hz0 : (w.alloc (.cells #[.int .i64 k0, .string x0, .slice A0 n0 C0] 24)).heap.size = w.heap.size + 1 := World.size_alloc _ _
  obtain ⟨v0, hw0⟩ : ∃ v0, w.alloc (.cells #[.int .i64 k0, .string x0, .slice A0 n0 C0] 24) = v0 := ⟨_, rfl⟩
  rw [hw0] at b0 hx0 hz0
  have b1 := (Below.refl v0.heap.size v0).alloc (Nat.le_refl _) (.cells #[.int .i64 k1, .string x1, .slice A1 n1 C1] 24)
  have hx1 := heap_alloc_new v0 (.cells #[.int .i64 k1, .string x1, .slice A1 n1 C1] 24)
  have hz1 : (v0.alloc (.cells #[.int .i64 k1, .string x1, .slice A1 n1 C1] 24)).heap.size = v0.heap.size + 1 := World.size_alloc _ _
  obtain ⟨v1, hw1⟩ : ∃ v1, v0.alloc (.cells #[.int .i64 k1, .string x1, .slice A1 n1 C1] 24) = v1 := ⟨_, rfl⟩
  rw [hw1] at b1 hx1 hz1
  replace hx0 := (b1.block w.heap.size (by omega)).trans hx0
  have HW : Hid ((w.alloc (.cells #[.int .i64 k0, .string x0, .slice A0 n0 C0] 24)).alloc (.cells #[.int .i64 k1, .string x1, .slice A1 n1 C1] 24) = v1) := by show _ = _; rw [hw0, hw1]
  have HBv1 : Hid (Below w.heap.size w v1) := (b0.trans (b1.mono (by omega)))
  obtain ⟨g0, hg0⟩ : ∃ g, w.heap.size = g := ⟨_, rfl⟩
  obtain ⟨g1, hg1⟩ : ∃ g, v0.heap.size = g := ⟨_, rfl⟩
  have hga0 : g0 = w.heap.size := by omega
  rw [hg0, hga0] at hx0
  have hga1 : g1 = w.heap.size + 1 := by omega
  rw [hg1, hga1] at hx1
  clear b0 hw0 b1 hw1
  obtain ⟨p00, p01, p02⟩ := cl3 hx0
  have HX0 := Lib.hid hx0
  have HS0 := Lib.hid hs0
  obtain ⟨p10, p11, p12⟩ := cl3 hx1
  have HX1 := Lib.hid hx1
  have HS1 := Lib.hid hs1
  have HF := Lib.hid (few_any k0 x0 A0 n0 C0 c0 _ (lo_later hs0 HBv1.out))
  clear hx0 hs0 hz0 hg0 hga0 g0 hx1 hs1 hz1 hg1 hga1 g1
  rw [← HW.out] at p00 p01 p02 p10 p11 p12
  go_enter Try.func6, Try.ntmps6
  go_wp2_with fail
  rw [HW.out]
  refine HF.out.mono ?_
  rintro e u0 ⟨⟨fb, rfl, hf0⟩, hb⟩
  have HBu0 := Lib.hid (HBv1.out.trans (hb.mono HBv1.out.size))
  have hx0 := (hb.block _ (lt_of HX0.out)).trans HX0.out
  replace HX0 := Lib.hid hx0
  have hx1 := (hb.block _ (lt_of HX1.out)).trans HX1.out
  replace HX1 := Lib.hid hx1
  clear hb p00 p01 p02 p10 p11 p12 HF
  obtain ⟨p00, p01, p02⟩ := cl3 hx0
  obtain ⟨p10, p11, p12⟩ := cl3 hx1
  clear hx0 hx1
  cases fb with
  | false =>
    go_wp2_with fail
    refine (known_any u0).mono ?_
    rintro e wk ⟨rfl, hbk⟩
    have HBK := Lib.hid (HBu0.out.trans (hbk.mono HBu0.out.size))
    clear hbk
    go_wp2
    go_ret
    exact ⟨rfl, HBK.out⟩
  | true =>
    replace hf0 := hf0 rfl
    have HF := Lib.hid (few_any k1 x1 A1 n1 C1 c1 _ (lo_later HS1.out HBu0.out))
    go_wp2_with fail
    refine HF.out.mono ?_
    rintro e u1 ⟨⟨fb, rfl, hf1⟩, hb⟩
    have HBu1 := Lib.hid (HBu0.out.trans (hb.mono HBu0.out.size))
    have hx0 := (hb.block _ (lt_of HX0.out)).trans HX0.out
    replace HX0 := Lib.hid hx0
    have hx1 := (hb.block _ (lt_of HX1.out)).trans HX1.out
    replace HX1 := Lib.hid hx1
    clear hb p00 p01 p02 p10 p11 p12 HF
    obtain ⟨p00, p01, p02⟩ := cl3 hx0
    obtain ⟨p10, p11, p12⟩ := cl3 hx1
    clear hx0 hx1
    cases fb with
    | false =>
      go_wp2_with fail
      refine (known_any u1).mono ?_
      rintro e wk ⟨rfl, hbk⟩
      have HBK := Lib.hid (HBu1.out.trans (hbk.mono HBu1.out.size))
      clear hbk
      go_wp2
      go_ret
      exact ⟨rfl, HBK.out⟩
    | true =>
      replace hf1 := hf1 rfl
      clear p00 p01 p02 p10 p11 p12
      have hsz0 := b1_size k0 x0 c0
      have hok0 := okN_b1 k0 x0 c0
      have hpc0 := pcs_b1 k0 x0 c0
      have HBT0 : Hid (∀ (X : Nat → Prop) W, (∀ b, X b → b < W.heap.size) → Below u1.heap.size u1 W → Calls Try.prog 10 #[.agg #[.int .i64 k0, .string x0, .slice A0 n0 C0]] W (DocPost X (b1 k0 x0 c0) W)) := fun X W hX hb => built_any c0.size (by omega) X k0 x0 A0 n0 C0 c0 W (Nat.le_refl _) hX (lo_later HS0.out (HBu1.out.trans (hb.mono HBu1.out.size)))
      obtain ⟨d0, hd0⟩ : ∃ d, b1 k0 x0 c0 = d := ⟨_, rfl⟩
      rw [hd0] at hsz0 hok0 hpc0 HBT0
      clear hd0
      have hsz1 := b1_size k1 x1 c1
      have hok1 := okN_b1 k1 x1 c1
      have hpc1 := pcs_b1 k1 x1 c1
      have HBT1 : Hid (∀ (X : Nat → Prop) W, (∀ b, X b → b < W.heap.size) → Below u1.heap.size u1 W → Calls Try.prog 10 #[.agg #[.int .i64 k1, .string x1, .slice A1 n1 C1]] W (DocPost X (b1 k1 x1 c1) W)) := fun X W hX hb => built_any c1.size (by omega) X k1 x1 A1 n1 C1 c1 W (Nat.le_refl _) hX (lo_later HS1.out (HBu1.out.trans (hb.mono HBu1.out.size)))
      obtain ⟨d1, hd1⟩ : ∃ d, b1 k1 x1 c1 = d := ⟨_, rfl⟩
      rw [hd1] at hsz1 hok1 hpc1 HBT1
      clear hd1
      go_wp2
      refine region_inv (IB 2 u1.drew (fun i => [.agg #[.int .i64 k0, .string x0, .slice A0 n0 C0], .agg #[.int .i64 k1, .string x1, .slice A1 n1 C1]].getD i undef) (fun i => [d0, d1].getD i ⟨0, emp, .nil⟩)) (by kernel_rfl) (by decide) (by kernel_rfl) IB.start ?steps ?done
      case steps =>
        intro L xv W hI a ha
        have hW : Below u1.heap.size u1 W := ⟨hI.bel.os, hI.bel.tape, hI.bel.output, hI.bel.size, hI.bel.block⟩
        simp only [fillA] at ha
        simp only [List.setIfInBounds_toArray, List.set_cons_succ, List.set_cons_zero, Nat.zero_add, Nat.reduceAdd] at ha
        subst ha
        refine ⟨fun hL hd K hK => ?s0, fun hL hd K hK => ?s1, fun hL hd K hK => ?s2, fun hL hd K hK => ?s3, fun hL hd K hK => ?s4, fun hL hd K hK => ?s5, fun hL hd K hK => ?s6, fun hL hd K hK => ?s7, trivial⟩
        case s0 =>
          clear hd
          simp only [Act.put, List.setIfInBounds_toArray, List.set_cons_succ, List.set_cons_zero] at hK
          refine (if_pos (by rfl)).mpr ?_
          obtain ⟨hq0, hq1, hq2⟩ := cl3 ((hW.block _ (lt_of HX0.out)).trans HX0.out)
          go_simp
          exact hK.out _ _ (hI.loadStep (i := 0) (by decide) hL)
        case s1 =>
          have hx : xv 0 = .agg #[.int .i64 k0, .string x0, .slice A0 n0 C0] := hI.load 0 (by decide) (hd 0 (by kernel_rfl))
          clear hd
          simp only [Act.put, List.setIfInBounds_toArray, List.set_cons_succ, List.set_cons_zero] at hK
          rw [hx] at hK ⊢
          refine (if_pos (by rfl)).mpr ?_
          go_simp
          go_at_call 10
          refine (HBT0.out _ W (fun b hb => hI.lt hb) hW).mono ?_
          rintro e w' ⟨s, rfl, hg, hb⟩
          exact hK.out _ _ (hI.callStep (i := 0) (by decide) hL hb hg)
        case s2 =>
          clear hd
          simp only [Act.put, List.setIfInBounds_toArray, List.set_cons_succ, List.set_cons_zero] at hK
          refine (if_pos (by rfl)).mpr ?_
          obtain ⟨hq0, hq1, hq2⟩ := cl3 ((hW.block _ (lt_of HX1.out)).trans HX1.out)
          go_simp
          exact hK.out _ _ (hI.loadStep (i := 1) (by decide) hL)
        case s3 =>
          have hx : xv 2 = .agg #[.int .i64 k1, .string x1, .slice A1 n1 C1] := hI.load 1 (by decide) (hd 2 (by kernel_rfl))
          clear hd
          simp only [Act.put, List.setIfInBounds_toArray, List.set_cons_succ, List.set_cons_zero] at hK
          rw [hx] at hK ⊢
          refine (if_pos (by rfl)).mpr ?_
          go_simp
          go_at_call 10
          refine (HBT1.out _ W (fun b hb => hI.lt hb) hW).mono ?_
          rintro e w' ⟨s, rfl, hg, hb⟩
          exact hK.out _ _ (hI.callStep (i := 1) (by decide) hL hb hg)
        case s4 =>
          clear hd
          simp only [Act.put, List.setIfInBounds_toArray, List.set_cons_succ, List.set_cons_zero] at hK
          refine (if_pos (by rfl)).mpr ?_
          go_simp
          exact hK.out _ _ (hI.boxStep (i := 0) (by decide) hL ((Below.refl _ _).alloc (Nat.le_refl _) _) (heap_alloc_new _ _))
        case s5 =>
          clear hd
          simp only [Act.put, List.setIfInBounds_toArray, List.set_cons_succ, List.set_cons_zero] at hK
          refine (if_pos (by rfl)).mpr ?_
          go_simp
          exact hK.out _ _ (hI.boxStep (i := 1) (by decide) hL ((Below.refl _ _).alloc (Nat.le_refl _) _) (heap_alloc_new _ _))
        case s6 =>
          obtain ⟨g, y0, y1, y2, A, C, e1, e2, hc, hst⟩ := hI.storeStep (i := 0) (by decide) (hd 1 (by kernel_rfl)) (hd 4 (by kernel_rfl))
          clear hd
          replace e1 : xv 4 = .pointer (some ⟨g, 0, none⟩) := e1
          replace e2 : xv 1 = .agg #[.int .i64 d0.k, .string d0.x, .slice A d0.c.len C] := e2
          simp only [Act.put] at hK
          rw [e1, e2] at hK ⊢
          refine (if_pos (by rfl)).mpr ?_
          obtain ⟨z0, z1, z2⟩ := cl3 hc
          have f0 := frz hc 0
          have f1 := frz hc 1
          have f2 := frz hc 2
          go_simp
          exact hK.out undef _ (hst undef)
        case s7 =>
          obtain ⟨g, y0, y1, y2, A, C, e1, e2, hc, hst⟩ := hI.storeStep (i := 1) (by decide) (hd 3 (by kernel_rfl)) (hd 5 (by kernel_rfl))
          clear hd
          replace e1 : xv 5 = .pointer (some ⟨g, 0, none⟩) := e1
          replace e2 : xv 3 = .agg #[.int .i64 d1.k, .string d1.x, .slice A d1.c.len C] := e2
          simp only [Act.put] at hK
          rw [e1, e2] at hK ⊢
          refine (if_pos (by rfl)).mpr ?_
          obtain ⟨z0, z1, z2⟩ := cl3 hc
          have f0 := frz hc 0
          have f1 := frz hc 1
          have f2 := frz hc 2
          go_simp
          exact hK.out undef _ (hst undef)
      case done =>
        intro L xv W hI hall a ha
        have hW : Below u1.heap.size u1 W := ⟨hI.bel.os, hI.bel.tape, hI.bel.output, hI.bel.size, hI.bel.block⟩
        simp only [fillA] at ha
        simp only [List.setIfInBounds_toArray, List.set_cons_succ, List.set_cons_zero, Nat.zero_add, Nat.reduceAdd] at ha
        subst ha
        obtain ⟨g0, y0, y1, y2, e1, hge, hc, hst⟩ := hI.box 0 (by decide) (hall 4 (by decide))
        obtain ⟨s, e2, hgs⟩ := hI.call 0 (by decide) (hall 1 (by decide))
        obtain ⟨Ad0, Cd0, rfl, _, _⟩ := hgs.slice
        have e3 := (hst (hall 6 (by decide))).symm.trans e2
        replace e1 : xv 4 = .pointer (some ⟨g0, 0, none⟩) := e1
        replace hgs : Gs W _ (.slice Ad0 d0.c.len Cd0) d0.c := hgs
        replace e3 : Value.agg #[y0, y1, y2] = .agg #[.int .i64 d0.k, .string d0.x, .slice Ad0 d0.c.len Cd0] := e3
        injection e3 with e3
        simp only [Array.mk.injEq, List.cons.injEq, and_true] at e3
        obtain ⟨rfl, rfl, rfl⟩ := e3
        have HD0 : Hid (IsD XF W 800 (plOne k0 x0 (plP c0)) d0.k d0.x Ad0 d0.c.len Cd0) := ⟨d0.c, hgs.more (fun b hb => ⟨hb.1, fun h => h.elim⟩), hpc0, by show nsize d0 ≤ 800; omega, hok0⟩
        replace HX0 := Lib.hid hc
        rw [e1]
        clear e1 e2 hge hc hst hgs hpc0 hok0 hsz0 HBT0
        obtain ⟨g1, y0, y1, y2, e1, hge, hc, hst⟩ := hI.box 1 (by decide) (hall 5 (by decide))
        obtain ⟨s, e2, hgs⟩ := hI.call 1 (by decide) (hall 3 (by decide))
        obtain ⟨Ad1, Cd1, rfl, _, _⟩ := hgs.slice
        have e3 := (hst (hall 7 (by decide))).symm.trans e2
        replace e1 : xv 5 = .pointer (some ⟨g1, 0, none⟩) := e1
        replace hgs : Gs W _ (.slice Ad1 d1.c.len Cd1) d1.c := hgs
        replace e3 : Value.agg #[y0, y1, y2] = .agg #[.int .i64 d1.k, .string d1.x, .slice Ad1 d1.c.len Cd1] := e3
        injection e3 with e3
        simp only [Array.mk.injEq, List.cons.injEq, and_true] at e3
        obtain ⟨rfl, rfl, rfl⟩ := e3
        have HD1 : Hid (IsD XF W 800 (plOne k1 x1 (plP c1)) d1.k d1.x Ad1 d1.c.len Cd1) := ⟨d1.c, hgs.more (fun b hb => ⟨hb.1, fun h => h.elim⟩), hpc1, by show nsize d1 ≤ 800; omega, hok1⟩
        replace HX1 := Lib.hid hc
        rw [e1]
        clear e1 e2 hge hc hst hgs hpc1 hok1 hsz1 HBT1
        have HB := Lib.hid (HBu1.out.trans (hW.mono HBu1.out.size))
        clear hW hI hall HBv1 HBu0 HBu1
        obtain ⟨kd0, xd0, cd0⟩ := d0
        obtain ⟨nd0, hnd0⟩ : ∃ nd, cd0.len = nd := ⟨_, rfl⟩
        obtain ⟨l0, hl0⟩ : ∃ l, plOne k0 x0 (plP c0) = l := ⟨_, rfl⟩
        dsimp only at HD0 HX0
        rw [hnd0] at HD0 HX0
        rw [hl0] at HD0
        have HL0 := Lib.hid hl0
        clear hnd0 hl0
        obtain ⟨kd1, xd1, cd1⟩ := d1
        obtain ⟨nd1, hnd1⟩ : ∃ nd, cd1.len = nd := ⟨_, rfl⟩
        obtain ⟨l1, hl1⟩ : ∃ l, plOne k1 x1 (plP c1) = l := ⟨_, rfl⟩
        dsimp only at HD1 HX1
        rw [hnd1] at HD1 HX1
        rw [hl1] at HD1
        have HL1 := Lib.hid hl1
        clear hnd1 hl1
        have hb0 := flB_plOne k0 x0 (plP c0)
        have hb1 := flB_plOne k1 x1 (plP c1)
        have hp0 := flB_plP c0
        have hp1 := flB_plP c1
        have htt := HT.out
        rw [HL0.out] at hb0
        rw [HL1.out] at hb1
        have hfb : (flB l0).length + (flB l1).length ≤ 2000000 := by omega
        have HFB := Lib.hid hfb
        clear hb0 hb1 hp0 hp1 htt hfb hf0 hf1
        obtain ⟨s0, hs0⟩ : ∃ s, flS l0 = s := ⟨_, rfl⟩
        obtain ⟨s1, hs1⟩ : ∃ s, flS l1 = s := ⟨_, rfl⟩
        obtain ⟨h0, hh0⟩ : ∃ h, noHard l0 = h := ⟨_, rfl⟩
        obtain ⟨h1, hh1⟩ : ∃ h, noHard l1 = h := ⟨_, rfl⟩
        have HS0' := Lib.hid hs0
        have HS1' := Lib.hid hs1
        have HH0 := Lib.hid hh0
        have HH1 := Lib.hid hh1
        clear hs0 hs1 hh0 hh1
        obtain ⟨z00, z01, z02⟩ := cl3 HX0.out
        have HC := Lib.hid (flat_is HD0.out (by omega) (by have := HFB.out; omega))
        unfold FlatPost at HC
        rw [HS0'.out, HH0.out] at HC
        go_wp2_with fail
        refine HC.out.mono ?_
        rintro e w4 ⟨rfl, hb⟩
        have HBw4 := Lib.hid (HB.out.trans (hb.mono HB.out.size))
        clear z00 z01 z02
        have hx0 := (hb.block _ (lt_of HX0.out)).trans HX0.out
        replace HX0 := Lib.hid hx0
        have hd0 := HD0.out.later hb
        replace HD0 := Lib.hid hd0
        have hx1 := (hb.block _ (lt_of HX1.out)).trans HX1.out
        replace HX1 := Lib.hid hx1
        have hd1 := HD1.out.later hb
        replace HD1 := Lib.hid hd1
        clear hx0 hx1 hd0 hd1 hb HC
        obtain ⟨z10, z11, z12⟩ := cl3 HX1.out
        have HC := Lib.hid (flat_is HD1.out (by omega) (by have := HFB.out; omega))
        unfold FlatPost at HC
        rw [HS1'.out, HH1.out] at HC
        go_wp2_with fail
        refine HC.out.mono ?_
        rintro e w5 ⟨rfl, hb⟩
        have HBw5 := Lib.hid (HBw4.out.trans (hb.mono HBw4.out.size))
        clear z10 z11 z12
        have hx0 := (hb.block _ (lt_of HX0.out)).trans HX0.out
        replace HX0 := Lib.hid hx0
        have hd0 := HD0.out.later hb
        replace HD0 := Lib.hid hd0
        have hx1 := (hb.block _ (lt_of HX1.out)).trans HX1.out
        replace HX1 := Lib.hid hx1
        have hd1 := HD1.out.later hb
        replace HD1 := Lib.hid hd1
        clear hx0 hx1 hd0 hd1 hb HC
        obtain ⟨z00, z01, z02⟩ := cl3 HX0.out
        obtain ⟨z10, z11, z12⟩ := cl3 HX1.out
        have hb6 := (Below.refl w5.heap.size w5).alloc (Nat.le_refl _) (.cells #[.int .i64 kd0, .string xd0, .slice Ad0 nd0 Cd0, .int .i64 kd1, .string xd1, .slice Ad1 nd1 Cd1] 29)
        have HC := Lib.hid (show Calls Try.prog 16 #[.slice (some ⟨w5.heap.size, 0, none⟩) 2 2] (w5.alloc (.cells #[.int .i64 kd0, .string xd0, .slice Ad0 nd0 Cd0, .int .i64 kd1, .string xd1, .slice Ad1 nd1 Cd1] 29)) (IdPost XF 1601 ([l0, l1] : List (List Pc)).flatten _) from row_new (xf w5) (Ds.cons HD0.out (Ds.cons HD1.out Ds.nil)) rfl (by omega))
        have HB6 := Lib.hid hb6
        clear hb6
        go_wp2_with fail
        refine HC.out.mono ?_
        rintro e w7 ⟨⟨kr, xr, Ar, nr, Cr, rfl, hr⟩, hb⟩
        replace hb := HB6.out.trans (hb.mono HB6.out.size)
        have HBw7 := Lib.hid (HBw5.out.trans (hb.mono HBw5.out.size))
        clear z00 z01 z02 z10 z11 z12 HB6
        have hx0 := (hb.block _ (lt_of HX0.out)).trans HX0.out
        replace HX0 := Lib.hid hx0
        have hd0 := HD0.out.later hb
        replace HD0 := Lib.hid hd0
        have hx1 := (hb.block _ (lt_of HX1.out)).trans HX1.out
        replace HX1 := Lib.hid hx1
        have hd1 := HD1.out.later hb
        replace HD1 := Lib.hid hd1
        clear hx0 hx1 hd0 hd1 hb HC
        have hfl : ([l0, l1] : List (List Pc)).flatten = l0 ++ l1 := by simp
        rw [hfl] at hr
        have HC := Lib.hid (flat_is hr (by omega) (by have := HFB.out; rw [flB_app, List.length_append]; omega))
        obtain ⟨sr, hsr⟩ : ∃ s, flS (l0 ++ l1) = s := ⟨_, rfl⟩
        have hh : noHard (l0 ++ l1) = (h0 && h1) := by rw [noHard_app, HH0.out, HH1.out]
        unfold FlatPost at HC
        rw [hsr, hh] at HC
        have HSR := Lib.hid hsr
        clear hsr hfl hr hh
        go_wp2_with fail
        refine HC.out.mono ?_
        rintro e w8 ⟨rfl, hb⟩
        have HBw8 := Lib.hid (HBw7.out.trans (hb.mono HBw7.out.size))
        have hx0 := (hb.block _ (lt_of HX0.out)).trans HX0.out
        replace HX0 := Lib.hid hx0
        have hd0 := HD0.out.later hb
        replace HD0 := Lib.hid hd0
        have hx1 := (hb.block _ (lt_of HX1.out)).trans HX1.out
        replace HX1 := Lib.hid hx1
        have hd1 := HD1.out.later hb
        replace HD1 := Lib.hid hd1
        clear hx0 hx1 hd0 hd1 hb HC
        obtain ⟨z00, z01, z02⟩ := cl3 HX0.out
        have HC := Lib.hid (nest_is (xf w8) HD0.out)
        go_wp2_with fail
        refine HC.out.mono ?_
        rintro e w9 ⟨⟨kw, xw, Aw, nw, Cw, rfl, hw⟩, hb⟩
        have HBw9 := Lib.hid (HBw8.out.trans (hb.mono HBw8.out.size))
        clear z00 z01 z02
        have hx0 := (hb.block _ (lt_of HX0.out)).trans HX0.out
        replace HX0 := Lib.hid hx0
        have hd0 := HD0.out.later hb
        replace HD0 := Lib.hid hd0
        have hx1 := (hb.block _ (lt_of HX1.out)).trans HX1.out
        replace HX1 := Lib.hid hx1
        have hd1 := HD1.out.later hb
        replace HD1 := Lib.hid hd1
        clear hx0 hx1 hd0 hd1 hb HC
        have HC := Lib.hid (flat_is hw (by omega) (by have := HFB.out; rw [flB_wrap 5 6 l0 (by decide) (by decide)]; omega))
        unfold FlatPost at HC
        rw [flS_wrap 5 6 l0 (by decide) (by decide), noHard_wrap 5 6 l0 (by decide) (by decide), HS0'.out, HH0.out] at HC
        clear hw
        go_wp2_with fail
        refine HC.out.mono ?_
        rintro e w10 ⟨rfl, hb⟩
        have HBw10 := Lib.hid (HBw9.out.trans (hb.mono HBw9.out.size))
        have hx0 := (hb.block _ (lt_of HX0.out)).trans HX0.out
        replace HX0 := Lib.hid hx0
        have hd0 := HD0.out.later hb
        replace HD0 := Lib.hid hd0
        have hx1 := (hb.block _ (lt_of HX1.out)).trans HX1.out
        replace HX1 := Lib.hid hx1
        have hd1 := HD1.out.later hb
        replace HD1 := Lib.hid hd1
        clear hx0 hx1 hd0 hd1 hb HC
        obtain ⟨z00, z01, z02⟩ := cl3 HX0.out
        have HC := Lib.hid (group_is (xf w10) HD0.out)
        go_wp2_with fail
        refine HC.out.mono ?_
        rintro e w11 ⟨⟨kw, xw, Aw, nw, Cw, rfl, hw⟩, hb⟩
        have HBw11 := Lib.hid (HBw10.out.trans (hb.mono HBw10.out.size))
        clear z00 z01 z02
        have hx0 := (hb.block _ (lt_of HX0.out)).trans HX0.out
        replace HX0 := Lib.hid hx0
        have hd0 := HD0.out.later hb
        replace HD0 := Lib.hid hd0
        have hx1 := (hb.block _ (lt_of HX1.out)).trans HX1.out
        replace HX1 := Lib.hid hx1
        have hd1 := HD1.out.later hb
        replace HD1 := Lib.hid hd1
        clear hx0 hx1 hd0 hd1 hb HC
        have HC := Lib.hid (flat_is hw (by omega) (by have := HFB.out; rw [flB_wrap 7 8 l0 (by decide) (by decide)]; omega))
        unfold FlatPost at HC
        rw [flS_wrap 7 8 l0 (by decide) (by decide), noHard_wrap 7 8 l0 (by decide) (by decide), HS0'.out, HH0.out] at HC
        clear hw
        go_wp2_with fail
        refine HC.out.mono ?_
        rintro e w12 ⟨rfl, hb⟩
        have HBw12 := Lib.hid (HBw11.out.trans (hb.mono HBw11.out.size))
        have hx0 := (hb.block _ (lt_of HX0.out)).trans HX0.out
        replace HX0 := Lib.hid hx0
        have hd0 := HD0.out.later hb
        replace HD0 := Lib.hid hd0
        have hx1 := (hb.block _ (lt_of HX1.out)).trans HX1.out
        replace HX1 := Lib.hid hx1
        have hd1 := HD1.out.later hb
        replace HD1 := Lib.hid hd1
        clear hx0 hx1 hd0 hd1 hb HC
        have HK := Lib.hid (known_any w12)
        have hsz0 := flS_size l0
        have hsz1 := flS_size l1
        rw [HS0'.out] at hsz0
        rw [HS1'.out] at hsz1
        have hfb := HFB.out
        have hsz : s0.size + s1.size ≤ 2000000 := by omega
        have hnz : ¬ 9223372036854775807 < s0.size + s1.size := by omega
        clear hsz0 hsz1 hfb hsz
        have HSS : Hid (h0 = true → h1 = true → sr = s0 ++ s1) := fun e0 e1 => by
          rw [← HSR.out, flS_app (HH0.out.trans e0) (HH1.out.trans e1), HS0'.out, HS1'.out]
        clear HX0 HX1 HD0 HD1 HS0' HS1' HSR HH0 HH1 HFB HL0 HL1 HT
        cases h0 with
        | false =>
          go_wp2_with fail
          refine HK.out.mono ?_
          rintro e w13 ⟨rfl, hb⟩
          go_wp2
          go_ret
          exact ⟨rfl, HBw12.out.trans (hb.mono HBw12.out.size)⟩
        | true =>
          cases h1 with
          | false =>
            go_wp2_with fail
            refine HK.out.mono ?_
            rintro e w13 ⟨rfl, hb⟩
            go_wp2
            go_ret
            exact ⟨rfl, HBw12.out.trans (hb.mono HBw12.out.size)⟩
          | true =>
            obtain rfl := HSS.out rfl rfl
            clear HSS
            go_wp2_with fail
            refine HK.out.mono ?_
            rintro e w13 ⟨rfl, hb⟩
            go_wp2
            go_ret
            exact ⟨rfl, HBw12.out.trans (hb.mono HBw12.out.size)⟩
end Go.Proofs.Ytllpdccpenghgaa.Doc
