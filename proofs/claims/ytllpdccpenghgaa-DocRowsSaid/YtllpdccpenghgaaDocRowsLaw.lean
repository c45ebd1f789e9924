/-
  Layer 7 (doc): the law DocRows. Written by gen_docrows.py.
-/
import Derived.Test.YtllpdccpenghgaaDocApp
import Derived.Test.YtllpdccpenghgaaDocAlike
namespace Go.Proofs.Ytllpdccpenghgaa.Doc
open Go.ChangeShapes Go.WideShapes Go.ChangeAt Go.RowKit Mem
set_option linter.unusedVariables false


set_option maxHeartbeats 32000000 in
set_option maxRecDepth 100000 in
theorem docRows_any (k0 : Int) (x0 : ByteArray) (A0 : Option Addr) (n0 C0 : Nat) (c0 : G) (k1 : Int) (x1 : ByteArray) (A1 : Option Addr) (n1 C1 : Nat) (c1 : G) (k2 : Int) (x2 : ByteArray) (A2 : Option Addr) (n2 C2 : Nat) (c2 : G) (k3 : Int) (x3 : ByteArray) (A3 : Option Addr) (n3 C3 : Nat) (c3 : G) (w : World) (hs0 : Gs w (Lo w.heap.size) (.slice A0 n0 C0) c0) (hs1 : Gs w (Lo w.heap.size) (.slice A1 n1 C1) c1) (hs2 : Gs w (Lo w.heap.size) (.slice A2 n2 C2) c2) (hs3 : Gs w (Lo w.heap.size) (.slice A3 n3 C3) c3) :
    Calls Try.prog 4 #[.agg #[.int .i64 k0, .string x0, .slice A0 n0 C0], .agg #[.int .i64 k1, .string x1, .slice A1 n1 C1], .agg #[.int .i64 k2, .string x2, .slice A2 n2 C2], .agg #[.int .i64 k3, .string x3, .slice A3 n3 C3]] w fun e w' => e = .returned (.bool true) ∧ Below w.heap.size w w' := by
  have b0 := (Below.refl w.heap.size w).alloc (Nat.le_refl _) (.cells #[.int .i64 k0, .string x0, .slice A0 n0 C0] 24)
  have hx0 := heap_alloc_new w (.cells #[.int .i64 k0, .string x0, .slice A0 n0 C0] 24)
  have hz0 : (w.alloc (.cells #[.int .i64 k0, .string x0, .slice A0 n0 C0] 24)).heap.size = w.heap.size + 1 := World.size_alloc _ _
  obtain ⟨v0, hw0⟩ : ∃ v0, w.alloc (.cells #[.int .i64 k0, .string x0, .slice A0 n0 C0] 24) = v0 := ⟨_, rfl⟩
  rw [hw0] at b0 hx0 hz0
  have b1 := (Below.refl v0.heap.size v0).alloc (Nat.le_refl _) (.cells #[.int .i64 k1, .string x1, .slice A1 n1 C1] 24)
  have hx1 := heap_alloc_new v0 (.cells #[.int .i64 k1, .string x1, .slice A1 n1 C1] 24)
  have hz1 : (v0.alloc (.cells #[.int .i64 k1, .string x1, .slice A1 n1 C1] 24)).heap.size = v0.heap.size + 1 := World.size_alloc _ _
  obtain ⟨v1, hw1⟩ : ∃ v1, v0.alloc (.cells #[.int .i64 k1, .string x1, .slice A1 n1 C1] 24) = v1 := ⟨_, rfl⟩
  rw [hw1] at b1 hx1 hz1
  have b2 := (Below.refl v1.heap.size v1).alloc (Nat.le_refl _) (.cells #[.int .i64 k2, .string x2, .slice A2 n2 C2] 24)
  have hx2 := heap_alloc_new v1 (.cells #[.int .i64 k2, .string x2, .slice A2 n2 C2] 24)
  have hz2 : (v1.alloc (.cells #[.int .i64 k2, .string x2, .slice A2 n2 C2] 24)).heap.size = v1.heap.size + 1 := World.size_alloc _ _
  obtain ⟨v2, hw2⟩ : ∃ v2, v1.alloc (.cells #[.int .i64 k2, .string x2, .slice A2 n2 C2] 24) = v2 := ⟨_, rfl⟩
  rw [hw2] at b2 hx2 hz2
  have b3 := (Below.refl v2.heap.size v2).alloc (Nat.le_refl _) (.cells #[.int .i64 k3, .string x3, .slice A3 n3 C3] 24)
  have hx3 := heap_alloc_new v2 (.cells #[.int .i64 k3, .string x3, .slice A3 n3 C3] 24)
  have hz3 : (v2.alloc (.cells #[.int .i64 k3, .string x3, .slice A3 n3 C3] 24)).heap.size = v2.heap.size + 1 := World.size_alloc _ _
  obtain ⟨v3, hw3⟩ : ∃ v3, v2.alloc (.cells #[.int .i64 k3, .string x3, .slice A3 n3 C3] 24) = v3 := ⟨_, rfl⟩
  rw [hw3] at b3 hx3 hz3
  replace hx0 := (b1.block w.heap.size (by omega)).trans hx0
  replace hx0 := (b2.block w.heap.size (by omega)).trans hx0
  replace hx0 := (b3.block w.heap.size (by omega)).trans hx0
  replace hx1 := (b2.block v0.heap.size (by omega)).trans hx1
  replace hx1 := (b3.block v0.heap.size (by omega)).trans hx1
  replace hx2 := (b3.block v1.heap.size (by omega)).trans hx2
  have HW : Hid ((((w.alloc (.cells #[.int .i64 k0, .string x0, .slice A0 n0 C0] 24)).alloc (.cells #[.int .i64 k1, .string x1, .slice A1 n1 C1] 24)).alloc (.cells #[.int .i64 k2, .string x2, .slice A2 n2 C2] 24)).alloc (.cells #[.int .i64 k3, .string x3, .slice A3 n3 C3] 24) = v3) := by show _ = _; rw [hw0, hw1, hw2, hw3]
  have HBv3 : Hid (Below w.heap.size w v3) := (b0.trans ((b1.trans ((b2.trans (b3.mono (by omega))).mono (by omega))).mono (by omega)))
  obtain ⟨g0, hg0⟩ : ∃ g, w.heap.size = g := ⟨_, rfl⟩
  obtain ⟨g1, hg1⟩ : ∃ g, v0.heap.size = g := ⟨_, rfl⟩
  obtain ⟨g2, hg2⟩ : ∃ g, v1.heap.size = g := ⟨_, rfl⟩
  obtain ⟨g3, hg3⟩ : ∃ g, v2.heap.size = g := ⟨_, rfl⟩
  have hga0 : g0 = w.heap.size := by omega
  rw [hg0, hga0] at hx0
  have hga1 : g1 = w.heap.size + 1 := by omega
  rw [hg1, hga1] at hx1
  have hga2 : g2 = w.heap.size + 1 + 1 := by omega
  rw [hg2, hga2] at hx2
  have hga3 : g3 = w.heap.size + 1 + 1 + 1 := by omega
  rw [hg3, hga3] at hx3
  clear b0 hw0 b1 hw1 b2 hw2 b3 hw3
  obtain ⟨p00, p01, p02⟩ := cl3 hx0
  have HX0 := Lib.hid hx0
  have HS0 := Lib.hid hs0
  obtain ⟨p10, p11, p12⟩ := cl3 hx1
  have HX1 := Lib.hid hx1
  have HS1 := Lib.hid hs1
  obtain ⟨p20, p21, p22⟩ := cl3 hx2
  have HX2 := Lib.hid hx2
  have HS2 := Lib.hid hs2
  obtain ⟨p30, p31, p32⟩ := cl3 hx3
  have HX3 := Lib.hid hx3
  have HS3 := Lib.hid hs3
  have HF := Lib.hid (few_any k0 x0 A0 n0 C0 c0 _ (lo_later hs0 HBv3.out))
  clear hx0 hs0 hz0 hg0 hga0 g0 hx1 hs1 hz1 hg1 hga1 g1 hx2 hs2 hz2 hg2 hga2 g2 hx3 hs3 hz3 hg3 hga3 g3
  rw [← HW.out] at p00 p01 p02 p10 p11 p12 p20 p21 p22 p30 p31 p32
  go_enter Try.func4, Try.ntmps4
  go_wp2_with fail
  rw [HW.out]
  refine HF.out.mono ?_
  rintro e u0 ⟨⟨fb, rfl, hf0⟩, hb⟩
  have HBu0 := Lib.hid (HBv3.out.trans (hb.mono HBv3.out.size))
  have hx0 := (hb.block _ (lt_of HX0.out)).trans HX0.out
  replace HX0 := Lib.hid hx0
  have hx1 := (hb.block _ (lt_of HX1.out)).trans HX1.out
  replace HX1 := Lib.hid hx1
  have hx2 := (hb.block _ (lt_of HX2.out)).trans HX2.out
  replace HX2 := Lib.hid hx2
  have hx3 := (hb.block _ (lt_of HX3.out)).trans HX3.out
  replace HX3 := Lib.hid hx3
  clear hb p00 p01 p02 p10 p11 p12 p20 p21 p22 p30 p31 p32 HF
  obtain ⟨p00, p01, p02⟩ := cl3 hx0
  obtain ⟨p10, p11, p12⟩ := cl3 hx1
  obtain ⟨p20, p21, p22⟩ := cl3 hx2
  obtain ⟨p30, p31, p32⟩ := cl3 hx3
  clear hx0 hx1 hx2 hx3
  cases fb with
  | false =>
    go_wp2_with fail
    refine (known_any u0).mono ?_
    rintro e wk ⟨rfl, hbk⟩
    have HBK := Lib.hid (HBu0.out.trans (hbk.mono HBu0.out.size))
    clear hbk
    go_wp2
    go_ret
    exact ⟨rfl, HBK.out⟩
  | true =>
    replace hf0 := hf0 rfl
    have HF := Lib.hid (few_any k1 x1 A1 n1 C1 c1 _ (lo_later HS1.out HBu0.out))
    go_wp2_with fail
    refine HF.out.mono ?_
    rintro e u1 ⟨⟨fb, rfl, hf1⟩, hb⟩
    have HBu1 := Lib.hid (HBu0.out.trans (hb.mono HBu0.out.size))
    have hx0 := (hb.block _ (lt_of HX0.out)).trans HX0.out
    replace HX0 := Lib.hid hx0
    have hx1 := (hb.block _ (lt_of HX1.out)).trans HX1.out
    replace HX1 := Lib.hid hx1
    have hx2 := (hb.block _ (lt_of HX2.out)).trans HX2.out
    replace HX2 := Lib.hid hx2
    have hx3 := (hb.block _ (lt_of HX3.out)).trans HX3.out
    replace HX3 := Lib.hid hx3
    clear hb p00 p01 p02 p10 p11 p12 p20 p21 p22 p30 p31 p32 HF
    obtain ⟨p00, p01, p02⟩ := cl3 hx0
    obtain ⟨p10, p11, p12⟩ := cl3 hx1
    obtain ⟨p20, p21, p22⟩ := cl3 hx2
    obtain ⟨p30, p31, p32⟩ := cl3 hx3
    clear hx0 hx1 hx2 hx3
    cases fb with
    | false =>
      go_wp2_with fail
      refine (known_any u1).mono ?_
      rintro e wk ⟨rfl, hbk⟩
      have HBK := Lib.hid (HBu1.out.trans (hbk.mono HBu1.out.size))
      clear hbk
      go_wp2
      go_ret
      exact ⟨rfl, HBK.out⟩
    | true =>
      replace hf1 := hf1 rfl
      have HF := Lib.hid (few_any k2 x2 A2 n2 C2 c2 _ (lo_later HS2.out HBu1.out))
      go_wp2_with fail
      refine HF.out.mono ?_
      rintro e u2 ⟨⟨fb, rfl, hf2⟩, hb⟩
      have HBu2 := Lib.hid (HBu1.out.trans (hb.mono HBu1.out.size))
      have hx0 := (hb.block _ (lt_of HX0.out)).trans HX0.out
      replace HX0 := Lib.hid hx0
      have hx1 := (hb.block _ (lt_of HX1.out)).trans HX1.out
      replace HX1 := Lib.hid hx1
      have hx2 := (hb.block _ (lt_of HX2.out)).trans HX2.out
      replace HX2 := Lib.hid hx2
      have hx3 := (hb.block _ (lt_of HX3.out)).trans HX3.out
      replace HX3 := Lib.hid hx3
      clear hb p00 p01 p02 p10 p11 p12 p20 p21 p22 p30 p31 p32 HF
      obtain ⟨p00, p01, p02⟩ := cl3 hx0
      obtain ⟨p10, p11, p12⟩ := cl3 hx1
      obtain ⟨p20, p21, p22⟩ := cl3 hx2
      obtain ⟨p30, p31, p32⟩ := cl3 hx3
      clear hx0 hx1 hx2 hx3
      cases fb with
      | false =>
        go_wp2_with fail
        refine (known_any u2).mono ?_
        rintro e wk ⟨rfl, hbk⟩
        have HBK := Lib.hid (HBu2.out.trans (hbk.mono HBu2.out.size))
        clear hbk
        go_wp2
        go_ret
        exact ⟨rfl, HBK.out⟩
      | true =>
        replace hf2 := hf2 rfl
        have HF := Lib.hid (few_any k3 x3 A3 n3 C3 c3 _ (lo_later HS3.out HBu2.out))
        go_wp2_with fail
        refine HF.out.mono ?_
        rintro e u3 ⟨⟨fb, rfl, hf3⟩, hb⟩
        have HBu3 := Lib.hid (HBu2.out.trans (hb.mono HBu2.out.size))
        have hx0 := (hb.block _ (lt_of HX0.out)).trans HX0.out
        replace HX0 := Lib.hid hx0
        have hx1 := (hb.block _ (lt_of HX1.out)).trans HX1.out
        replace HX1 := Lib.hid hx1
        have hx2 := (hb.block _ (lt_of HX2.out)).trans HX2.out
        replace HX2 := Lib.hid hx2
        have hx3 := (hb.block _ (lt_of HX3.out)).trans HX3.out
        replace HX3 := Lib.hid hx3
        clear hb p00 p01 p02 p10 p11 p12 p20 p21 p22 p30 p31 p32 HF
        obtain ⟨p00, p01, p02⟩ := cl3 hx0
        obtain ⟨p10, p11, p12⟩ := cl3 hx1
        obtain ⟨p20, p21, p22⟩ := cl3 hx2
        obtain ⟨p30, p31, p32⟩ := cl3 hx3
        clear hx0 hx1 hx2 hx3
        cases fb with
        | false =>
          go_wp2_with fail
          refine (known_any u3).mono ?_
          rintro e wk ⟨rfl, hbk⟩
          have HBK := Lib.hid (HBu3.out.trans (hbk.mono HBu3.out.size))
          clear hbk
          go_wp2
          go_ret
          exact ⟨rfl, HBK.out⟩
        | true =>
          replace hf3 := hf3 rfl
          clear p00 p01 p02 p10 p11 p12 p20 p21 p22 p30 p31 p32
          have hsz0 := b1_size k0 x0 c0
          have hok0 := okN_b1 k0 x0 c0
          have hpc0 := pcs_b1 k0 x0 c0
          have HBT0 : Hid (∀ (X : Nat → Prop) W, (∀ b, X b → b < W.heap.size) → Below u3.heap.size u3 W → Calls Try.prog 10 #[.agg #[.int .i64 k0, .string x0, .slice A0 n0 C0]] W (DocPost X (b1 k0 x0 c0) W)) := fun X W hX hb => built_any c0.size (by omega) X k0 x0 A0 n0 C0 c0 W (Nat.le_refl _) hX (lo_later HS0.out (HBu3.out.trans (hb.mono HBu3.out.size)))
          obtain ⟨d0, hd0⟩ : ∃ d, b1 k0 x0 c0 = d := ⟨_, rfl⟩
          rw [hd0] at hsz0 hok0 hpc0 HBT0
          clear hd0
          have hsz1 := b1_size k1 x1 c1
          have hok1 := okN_b1 k1 x1 c1
          have hpc1 := pcs_b1 k1 x1 c1
          have HBT1 : Hid (∀ (X : Nat → Prop) W, (∀ b, X b → b < W.heap.size) → Below u3.heap.size u3 W → Calls Try.prog 10 #[.agg #[.int .i64 k1, .string x1, .slice A1 n1 C1]] W (DocPost X (b1 k1 x1 c1) W)) := fun X W hX hb => built_any c1.size (by omega) X k1 x1 A1 n1 C1 c1 W (Nat.le_refl _) hX (lo_later HS1.out (HBu3.out.trans (hb.mono HBu3.out.size)))
          obtain ⟨d1, hd1⟩ : ∃ d, b1 k1 x1 c1 = d := ⟨_, rfl⟩
          rw [hd1] at hsz1 hok1 hpc1 HBT1
          clear hd1
          have hsz2 := b1_size k2 x2 c2
          have hok2 := okN_b1 k2 x2 c2
          have hpc2 := pcs_b1 k2 x2 c2
          have HBT2 : Hid (∀ (X : Nat → Prop) W, (∀ b, X b → b < W.heap.size) → Below u3.heap.size u3 W → Calls Try.prog 10 #[.agg #[.int .i64 k2, .string x2, .slice A2 n2 C2]] W (DocPost X (b1 k2 x2 c2) W)) := fun X W hX hb => built_any c2.size (by omega) X k2 x2 A2 n2 C2 c2 W (Nat.le_refl _) hX (lo_later HS2.out (HBu3.out.trans (hb.mono HBu3.out.size)))
          obtain ⟨d2, hd2⟩ : ∃ d, b1 k2 x2 c2 = d := ⟨_, rfl⟩
          rw [hd2] at hsz2 hok2 hpc2 HBT2
          clear hd2
          have hsz3 := b1_size k3 x3 c3
          have hok3 := okN_b1 k3 x3 c3
          have hpc3 := pcs_b1 k3 x3 c3
          have HBT3 : Hid (∀ (X : Nat → Prop) W, (∀ b, X b → b < W.heap.size) → Below u3.heap.size u3 W → Calls Try.prog 10 #[.agg #[.int .i64 k3, .string x3, .slice A3 n3 C3]] W (DocPost X (b1 k3 x3 c3) W)) := fun X W hX hb => built_any c3.size (by omega) X k3 x3 A3 n3 C3 c3 W (Nat.le_refl _) hX (lo_later HS3.out (HBu3.out.trans (hb.mono HBu3.out.size)))
          obtain ⟨d3, hd3⟩ : ∃ d, b1 k3 x3 c3 = d := ⟨_, rfl⟩
          rw [hd3] at hsz3 hok3 hpc3 HBT3
          clear hd3
          go_wp2
          refine region_inv (IB 4 u3.drew (fun i => [.agg #[.int .i64 k0, .string x0, .slice A0 n0 C0], .agg #[.int .i64 k1, .string x1, .slice A1 n1 C1], .agg #[.int .i64 k2, .string x2, .slice A2 n2 C2], .agg #[.int .i64 k3, .string x3, .slice A3 n3 C3]].getD i undef) (fun i => [d0, d1, d2, d3].getD i ⟨0, emp, .nil⟩)) (by kernel_rfl) (by decide) (by kernel_rfl) IB.start ?steps ?done
          case steps =>
            intro L xv W hI a ha
            have hW : Below u3.heap.size u3 W := ⟨hI.bel.os, hI.bel.tape, hI.bel.output, hI.bel.size, hI.bel.block⟩
            simp only [fillA] at ha
            simp only [List.setIfInBounds_toArray, List.set_cons_succ, List.set_cons_zero, Nat.zero_add, Nat.reduceAdd] at ha
            subst ha
            refine ⟨fun hL hd K hK => ?s0, fun hL hd K hK => ?s1, fun hL hd K hK => ?s2, fun hL hd K hK => ?s3, fun hL hd K hK => ?s4, fun hL hd K hK => ?s5, fun hL hd K hK => ?s6, fun hL hd K hK => ?s7, fun hL hd K hK => ?s8, fun hL hd K hK => ?s9, fun hL hd K hK => ?s10, fun hL hd K hK => ?s11, fun hL hd K hK => ?s12, fun hL hd K hK => ?s13, fun hL hd K hK => ?s14, fun hL hd K hK => ?s15, trivial⟩
            case s0 =>
              clear hd
              simp only [Act.put, List.setIfInBounds_toArray, List.set_cons_succ, List.set_cons_zero] at hK
              refine (if_pos (by rfl)).mpr ?_
              obtain ⟨hq0, hq1, hq2⟩ := cl3 ((hW.block _ (lt_of HX0.out)).trans HX0.out)
              go_simp
              exact hK.out _ _ (hI.loadStep (i := 0) (by decide) hL)
            case s1 =>
              have hx : xv 0 = .agg #[.int .i64 k0, .string x0, .slice A0 n0 C0] := hI.load 0 (by decide) (hd 0 (by kernel_rfl))
              clear hd
              simp only [Act.put, List.setIfInBounds_toArray, List.set_cons_succ, List.set_cons_zero] at hK
              rw [hx] at hK ⊢
              refine (if_pos (by rfl)).mpr ?_
              go_simp
              go_at_call 10
              refine (HBT0.out _ W (fun b hb => hI.lt hb) hW).mono ?_
              rintro e w' ⟨s, rfl, hg, hb⟩
              exact hK.out _ _ (hI.callStep (i := 0) (by decide) hL hb hg)
            case s2 =>
              clear hd
              simp only [Act.put, List.setIfInBounds_toArray, List.set_cons_succ, List.set_cons_zero] at hK
              refine (if_pos (by rfl)).mpr ?_
              obtain ⟨hq0, hq1, hq2⟩ := cl3 ((hW.block _ (lt_of HX1.out)).trans HX1.out)
              go_simp
              exact hK.out _ _ (hI.loadStep (i := 1) (by decide) hL)
            case s3 =>
              have hx : xv 2 = .agg #[.int .i64 k1, .string x1, .slice A1 n1 C1] := hI.load 1 (by decide) (hd 2 (by kernel_rfl))
              clear hd
              simp only [Act.put, List.setIfInBounds_toArray, List.set_cons_succ, List.set_cons_zero] at hK
              rw [hx] at hK ⊢
              refine (if_pos (by rfl)).mpr ?_
              go_simp
              go_at_call 10
              refine (HBT1.out _ W (fun b hb => hI.lt hb) hW).mono ?_
              rintro e w' ⟨s, rfl, hg, hb⟩
              exact hK.out _ _ (hI.callStep (i := 1) (by decide) hL hb hg)
            case s4 =>
              clear hd
              simp only [Act.put, List.setIfInBounds_toArray, List.set_cons_succ, List.set_cons_zero] at hK
              refine (if_pos (by rfl)).mpr ?_
              obtain ⟨hq0, hq1, hq2⟩ := cl3 ((hW.block _ (lt_of HX2.out)).trans HX2.out)
              go_simp
              exact hK.out _ _ (hI.loadStep (i := 2) (by decide) hL)
            case s5 =>
              have hx : xv 4 = .agg #[.int .i64 k2, .string x2, .slice A2 n2 C2] := hI.load 2 (by decide) (hd 4 (by kernel_rfl))
              clear hd
              simp only [Act.put, List.setIfInBounds_toArray, List.set_cons_succ, List.set_cons_zero] at hK
              rw [hx] at hK ⊢
              refine (if_pos (by rfl)).mpr ?_
              go_simp
              go_at_call 10
              refine (HBT2.out _ W (fun b hb => hI.lt hb) hW).mono ?_
              rintro e w' ⟨s, rfl, hg, hb⟩
              exact hK.out _ _ (hI.callStep (i := 2) (by decide) hL hb hg)
            case s6 =>
              clear hd
              simp only [Act.put, List.setIfInBounds_toArray, List.set_cons_succ, List.set_cons_zero] at hK
              refine (if_pos (by rfl)).mpr ?_
              obtain ⟨hq0, hq1, hq2⟩ := cl3 ((hW.block _ (lt_of HX3.out)).trans HX3.out)
              go_simp
              exact hK.out _ _ (hI.loadStep (i := 3) (by decide) hL)
            case s7 =>
              have hx : xv 6 = .agg #[.int .i64 k3, .string x3, .slice A3 n3 C3] := hI.load 3 (by decide) (hd 6 (by kernel_rfl))
              clear hd
              simp only [Act.put, List.setIfInBounds_toArray, List.set_cons_succ, List.set_cons_zero] at hK
              rw [hx] at hK ⊢
              refine (if_pos (by rfl)).mpr ?_
              go_simp
              go_at_call 10
              refine (HBT3.out _ W (fun b hb => hI.lt hb) hW).mono ?_
              rintro e w' ⟨s, rfl, hg, hb⟩
              exact hK.out _ _ (hI.callStep (i := 3) (by decide) hL hb hg)
            case s8 =>
              clear hd
              simp only [Act.put, List.setIfInBounds_toArray, List.set_cons_succ, List.set_cons_zero] at hK
              refine (if_pos (by rfl)).mpr ?_
              go_simp
              exact hK.out _ _ (hI.boxStep (i := 0) (by decide) hL ((Below.refl _ _).alloc (Nat.le_refl _) _) (heap_alloc_new _ _))
            case s9 =>
              clear hd
              simp only [Act.put, List.setIfInBounds_toArray, List.set_cons_succ, List.set_cons_zero] at hK
              refine (if_pos (by rfl)).mpr ?_
              go_simp
              exact hK.out _ _ (hI.boxStep (i := 1) (by decide) hL ((Below.refl _ _).alloc (Nat.le_refl _) _) (heap_alloc_new _ _))
            case s10 =>
              clear hd
              simp only [Act.put, List.setIfInBounds_toArray, List.set_cons_succ, List.set_cons_zero] at hK
              refine (if_pos (by rfl)).mpr ?_
              go_simp
              exact hK.out _ _ (hI.boxStep (i := 2) (by decide) hL ((Below.refl _ _).alloc (Nat.le_refl _) _) (heap_alloc_new _ _))
            case s11 =>
              clear hd
              simp only [Act.put, List.setIfInBounds_toArray, List.set_cons_succ, List.set_cons_zero] at hK
              refine (if_pos (by rfl)).mpr ?_
              go_simp
              exact hK.out _ _ (hI.boxStep (i := 3) (by decide) hL ((Below.refl _ _).alloc (Nat.le_refl _) _) (heap_alloc_new _ _))
            case s12 =>
              obtain ⟨g, y0, y1, y2, A, C, e1, e2, hc, hst⟩ := hI.storeStep (i := 0) (by decide) (hd 1 (by kernel_rfl)) (hd 8 (by kernel_rfl))
              clear hd
              replace e1 : xv 8 = .pointer (some ⟨g, 0, none⟩) := e1
              replace e2 : xv 1 = .agg #[.int .i64 d0.k, .string d0.x, .slice A d0.c.len C] := e2
              simp only [Act.put] at hK
              rw [e1, e2] at hK ⊢
              refine (if_pos (by rfl)).mpr ?_
              obtain ⟨z0, z1, z2⟩ := cl3 hc
              have f0 := frz hc 0
              have f1 := frz hc 1
              have f2 := frz hc 2
              go_simp
              exact hK.out undef _ (hst undef)
            case s13 =>
              obtain ⟨g, y0, y1, y2, A, C, e1, e2, hc, hst⟩ := hI.storeStep (i := 1) (by decide) (hd 3 (by kernel_rfl)) (hd 9 (by kernel_rfl))
              clear hd
              replace e1 : xv 9 = .pointer (some ⟨g, 0, none⟩) := e1
              replace e2 : xv 3 = .agg #[.int .i64 d1.k, .string d1.x, .slice A d1.c.len C] := e2
              simp only [Act.put] at hK
              rw [e1, e2] at hK ⊢
              refine (if_pos (by rfl)).mpr ?_
              obtain ⟨z0, z1, z2⟩ := cl3 hc
              have f0 := frz hc 0
              have f1 := frz hc 1
              have f2 := frz hc 2
              go_simp
              exact hK.out undef _ (hst undef)
            case s14 =>
              obtain ⟨g, y0, y1, y2, A, C, e1, e2, hc, hst⟩ := hI.storeStep (i := 2) (by decide) (hd 5 (by kernel_rfl)) (hd 10 (by kernel_rfl))
              clear hd
              replace e1 : xv 10 = .pointer (some ⟨g, 0, none⟩) := e1
              replace e2 : xv 5 = .agg #[.int .i64 d2.k, .string d2.x, .slice A d2.c.len C] := e2
              simp only [Act.put] at hK
              rw [e1, e2] at hK ⊢
              refine (if_pos (by rfl)).mpr ?_
              obtain ⟨z0, z1, z2⟩ := cl3 hc
              have f0 := frz hc 0
              have f1 := frz hc 1
              have f2 := frz hc 2
              go_simp
              exact hK.out undef _ (hst undef)
            case s15 =>
              obtain ⟨g, y0, y1, y2, A, C, e1, e2, hc, hst⟩ := hI.storeStep (i := 3) (by decide) (hd 7 (by kernel_rfl)) (hd 11 (by kernel_rfl))
              clear hd
              replace e1 : xv 11 = .pointer (some ⟨g, 0, none⟩) := e1
              replace e2 : xv 7 = .agg #[.int .i64 d3.k, .string d3.x, .slice A d3.c.len C] := e2
              simp only [Act.put] at hK
              rw [e1, e2] at hK ⊢
              refine (if_pos (by rfl)).mpr ?_
              obtain ⟨z0, z1, z2⟩ := cl3 hc
              have f0 := frz hc 0
              have f1 := frz hc 1
              have f2 := frz hc 2
              go_simp
              exact hK.out undef _ (hst undef)
          case done =>
            intro L xv W hI hall a ha
            have hW : Below u3.heap.size u3 W := ⟨hI.bel.os, hI.bel.tape, hI.bel.output, hI.bel.size, hI.bel.block⟩
            simp only [fillA] at ha
            simp only [List.setIfInBounds_toArray, List.set_cons_succ, List.set_cons_zero, Nat.zero_add, Nat.reduceAdd] at ha
            subst ha
            obtain ⟨g0, y0, y1, y2, e1, hge, hc, hst⟩ := hI.box 0 (by decide) (hall 8 (by decide))
            obtain ⟨s, e2, hgs⟩ := hI.call 0 (by decide) (hall 1 (by decide))
            obtain ⟨Ad0, Cd0, rfl, _, _⟩ := hgs.slice
            have e3 := (hst (hall 12 (by decide))).symm.trans e2
            replace e1 : xv 8 = .pointer (some ⟨g0, 0, none⟩) := e1
            replace hgs : Gs W _ (.slice Ad0 d0.c.len Cd0) d0.c := hgs
            replace e3 : Value.agg #[y0, y1, y2] = .agg #[.int .i64 d0.k, .string d0.x, .slice Ad0 d0.c.len Cd0] := e3
            injection e3 with e3
            simp only [Array.mk.injEq, List.cons.injEq, and_true] at e3
            obtain ⟨rfl, rfl, rfl⟩ := e3
            have HD0 : Hid (IsD XF W 800 (plOne k0 x0 (plP c0)) d0.k d0.x Ad0 d0.c.len Cd0) := ⟨d0.c, hgs.more (fun b hb => ⟨hb.1, fun h => h.elim⟩), hpc0, by show nsize d0 ≤ 800; omega, hok0⟩
            replace HX0 := Lib.hid hc
            rw [e1]
            clear e1 e2 hge hc hst hgs hpc0 hok0 hsz0 HBT0
            obtain ⟨g1, y0, y1, y2, e1, hge, hc, hst⟩ := hI.box 1 (by decide) (hall 9 (by decide))
            obtain ⟨s, e2, hgs⟩ := hI.call 1 (by decide) (hall 3 (by decide))
            obtain ⟨Ad1, Cd1, rfl, _, _⟩ := hgs.slice
            have e3 := (hst (hall 13 (by decide))).symm.trans e2
            replace e1 : xv 9 = .pointer (some ⟨g1, 0, none⟩) := e1
            replace hgs : Gs W _ (.slice Ad1 d1.c.len Cd1) d1.c := hgs
            replace e3 : Value.agg #[y0, y1, y2] = .agg #[.int .i64 d1.k, .string d1.x, .slice Ad1 d1.c.len Cd1] := e3
            injection e3 with e3
            simp only [Array.mk.injEq, List.cons.injEq, and_true] at e3
            obtain ⟨rfl, rfl, rfl⟩ := e3
            have HD1 : Hid (IsD XF W 800 (plOne k1 x1 (plP c1)) d1.k d1.x Ad1 d1.c.len Cd1) := ⟨d1.c, hgs.more (fun b hb => ⟨hb.1, fun h => h.elim⟩), hpc1, by show nsize d1 ≤ 800; omega, hok1⟩
            replace HX1 := Lib.hid hc
            rw [e1]
            clear e1 e2 hge hc hst hgs hpc1 hok1 hsz1 HBT1
            obtain ⟨g2, y0, y1, y2, e1, hge, hc, hst⟩ := hI.box 2 (by decide) (hall 10 (by decide))
            obtain ⟨s, e2, hgs⟩ := hI.call 2 (by decide) (hall 5 (by decide))
            obtain ⟨Ad2, Cd2, rfl, _, _⟩ := hgs.slice
            have e3 := (hst (hall 14 (by decide))).symm.trans e2
            replace e1 : xv 10 = .pointer (some ⟨g2, 0, none⟩) := e1
            replace hgs : Gs W _ (.slice Ad2 d2.c.len Cd2) d2.c := hgs
            replace e3 : Value.agg #[y0, y1, y2] = .agg #[.int .i64 d2.k, .string d2.x, .slice Ad2 d2.c.len Cd2] := e3
            injection e3 with e3
            simp only [Array.mk.injEq, List.cons.injEq, and_true] at e3
            obtain ⟨rfl, rfl, rfl⟩ := e3
            have HD2 : Hid (IsD XF W 800 (plOne k2 x2 (plP c2)) d2.k d2.x Ad2 d2.c.len Cd2) := ⟨d2.c, hgs.more (fun b hb => ⟨hb.1, fun h => h.elim⟩), hpc2, by show nsize d2 ≤ 800; omega, hok2⟩
            replace HX2 := Lib.hid hc
            rw [e1]
            clear e1 e2 hge hc hst hgs hpc2 hok2 hsz2 HBT2
            obtain ⟨g3, y0, y1, y2, e1, hge, hc, hst⟩ := hI.box 3 (by decide) (hall 11 (by decide))
            obtain ⟨s, e2, hgs⟩ := hI.call 3 (by decide) (hall 7 (by decide))
            obtain ⟨Ad3, Cd3, rfl, _, _⟩ := hgs.slice
            have e3 := (hst (hall 15 (by decide))).symm.trans e2
            replace e1 : xv 11 = .pointer (some ⟨g3, 0, none⟩) := e1
            replace hgs : Gs W _ (.slice Ad3 d3.c.len Cd3) d3.c := hgs
            replace e3 : Value.agg #[y0, y1, y2] = .agg #[.int .i64 d3.k, .string d3.x, .slice Ad3 d3.c.len Cd3] := e3
            injection e3 with e3
            simp only [Array.mk.injEq, List.cons.injEq, and_true] at e3
            obtain ⟨rfl, rfl, rfl⟩ := e3
            have HD3 : Hid (IsD XF W 800 (plOne k3 x3 (plP c3)) d3.k d3.x Ad3 d3.c.len Cd3) := ⟨d3.c, hgs.more (fun b hb => ⟨hb.1, fun h => h.elim⟩), hpc3, by show nsize d3 ≤ 800; omega, hok3⟩
            replace HX3 := Lib.hid hc
            rw [e1]
            clear e1 e2 hge hc hst hgs hpc3 hok3 hsz3 HBT3
            have HB := Lib.hid (HBu3.out.trans (hW.mono HBu3.out.size))
            clear hW hI hall HBv3 HBu0 HBu1 HBu2 HBu3
            obtain ⟨kd0, xd0, cd0⟩ := d0
            obtain ⟨nd0, hnd0⟩ : ∃ nd, cd0.len = nd := ⟨_, rfl⟩
            obtain ⟨l0, hl0⟩ : ∃ l, plOne k0 x0 (plP c0) = l := ⟨_, rfl⟩
            dsimp only at HD0 HX0
            rw [hnd0] at HD0 HX0
            rw [hl0] at HD0
            have HL0 := Lib.hid hl0
            clear hnd0 hl0
            obtain ⟨kd1, xd1, cd1⟩ := d1
            obtain ⟨nd1, hnd1⟩ : ∃ nd, cd1.len = nd := ⟨_, rfl⟩
            obtain ⟨l1, hl1⟩ : ∃ l, plOne k1 x1 (plP c1) = l := ⟨_, rfl⟩
            dsimp only at HD1 HX1
            rw [hnd1] at HD1 HX1
            rw [hl1] at HD1
            have HL1 := Lib.hid hl1
            clear hnd1 hl1
            obtain ⟨kd2, xd2, cd2⟩ := d2
            obtain ⟨nd2, hnd2⟩ : ∃ nd, cd2.len = nd := ⟨_, rfl⟩
            obtain ⟨l2, hl2⟩ : ∃ l, plOne k2 x2 (plP c2) = l := ⟨_, rfl⟩
            dsimp only at HD2 HX2
            rw [hnd2] at HD2 HX2
            rw [hl2] at HD2
            have HL2 := Lib.hid hl2
            clear hnd2 hl2
            obtain ⟨kd3, xd3, cd3⟩ := d3
            obtain ⟨nd3, hnd3⟩ : ∃ nd, cd3.len = nd := ⟨_, rfl⟩
            obtain ⟨l3, hl3⟩ : ∃ l, plOne k3 x3 (plP c3) = l := ⟨_, rfl⟩
            dsimp only at HD3 HX3
            rw [hnd3] at HD3 HX3
            rw [hl3] at HD3
            have HL3 := Lib.hid hl3
            clear hnd3 hl3
            have HBW := Lib.hid HB.out
            clear HB hf0 hf1 hf2 hf3 HL0 HL1 HL2 HL3 HS0 HS1 HS2 HS3
            have hn0 := HD0.out.len
            have hn1 := HD1.out.len
            have hn2 := HD2.out.len
            have hn3 := HD3.out.len
            obtain ⟨L3, hL3⟩ : ∃ L, l0 ++ (l1 ++ l2) = L := ⟨_, rfl⟩
            obtain ⟨m3, hm3⟩ : ∃ m, L3.length = m := ⟨_, rfl⟩
            obtain ⟨J5, hJ5⟩ : ∃ L, l0 ++ (l3 ++ (l1 ++ (l3 ++ l2))) = L := ⟨_, rfl⟩
            obtain ⟨m5, hm5⟩ : ∃ m, J5.length = m := ⟨_, rfl⟩
            have hb3 : m3 ≤ 10000 := by rw [← hm3, ← hL3]; simp only [List.length_append]; omega
            have hb5 : m5 ≤ 10000 := by rw [← hm5, ← hJ5]; simp only [List.length_append]; omega
            obtain ⟨m0, hm0⟩ : ∃ m, l0.length = m := ⟨_, rfl⟩
            have hb0 : m0 ≤ 10000 := by omega
            have HM3 := Lib.hid hm3
            have HM5 := Lib.hid hm5
            have HM0 := Lib.hid hm0
            have HL3 := Lib.hid hL3
            have HJ5 := Lib.hid hJ5
            have HE1 : Hid (([l0, l1] : List (List Pc)).flatten = l0 ++ l1) := by show _ = _; simp
            have HE2 : Hid (([l0 ++ l1, l2] : List (List Pc)).flatten = L3) := by show _ = _; rw [← hL3]; simp
            have HE3 : Hid (([l1, l2] : List (List Pc)).flatten = l1 ++ l2) := by show _ = _; simp
            have HE4 : Hid (([l0, [], l1 ++ l2, []] : List (List Pc)).flatten = L3) := by show _ = _; rw [← hL3]; simp
            have HE5 : Hid (([l0, l3, l1, l3, l2] : List (List Pc)).flatten = J5) := by show _ = _; rw [← hJ5]; simp
            have HE6 : Hid (jnP l3 ([l0, l1, l2] : List (List Pc)) = J5) := by show _ = _; rw [← hJ5]; simp [jnP]
            have HE7 : Hid (jnP l3 ([l0] : List (List Pc)) = l0) := by show _ = _; simp [jnP]
            have HE8 : Hid ((l0 ++ l1) ++ l2 = L3) := by show _ = _; rw [← hL3]; simp
            have HN : Hid (l0.length + l1.length + l2.length + l3.length ≤ 10000) := by show _ ≤ _; omega
            clear hm3 hm5 hm0 hL3 hJ5 hn0 hn1 hn2 hn3
            go_wp2
            obtain ⟨Wa, hWa⟩ : ∃ Wa, Wa = W := ⟨W, rfl⟩
            subst hWa
            have HBWa := HBW
            clear HBW
            refine region_rel (fun W W' => Below W.heap.size W W') [Cd.is (Value.agg #[.int .i64 kd0, .string xd0, .slice Ad0 nd0 Cd0]), Cd.is (Value.agg #[.int .i64 kd1, .string xd1, .slice Ad1 nd1 Cd1]), ⟨fun v W => ∃ (g : Nat) , v = Value.slice (some ⟨g, 0, none⟩) 2 2 ∧ W.heap[g]? = some (Obj.cells #[.int .i64 kd0, .string xd0, .slice Ad0 nd0 Cd0, .int .i64 kd1, .string xd1, .slice Ad1 nd1 Cd1] 29 (0, 0)), fun v W W' hU h => by obtain ⟨g, e, hc⟩ := h; exact ⟨g, e, (hU.block g (lt_of hc)).trans hc⟩⟩, ⟨fun v W => ∃ (k : Int) (x : ByteArray) (A : Option Addr) (n C : Nat), v = Value.agg #[.int .i64 k, .string x, .slice A n C] ∧ IsD XF W 1601 (l0 ++ l1) k x A n C, fun v W W' hU h => by obtain ⟨k, x, A, n, C, e, hd⟩ := h; exact ⟨k, x, A, n, C, e, hd.later hU⟩⟩, Cd.is (Value.agg #[.int .i64 kd2, .string xd2, .slice Ad2 nd2 Cd2]), ⟨fun v W => ∃ (g : Nat) (kr : Int) (xr : ByteArray) (Ar : Option Addr) (nr Cr : Nat), v = Value.slice (some ⟨g, 0, none⟩) 2 2 ∧ W.heap[g]? = some (Obj.cells #[.int .i64 kr, .string xr, .slice Ar nr Cr, .int .i64 kd2, .string xd2, .slice Ad2 nd2 Cd2] 29 (0, 0)) ∧ IsD XF W 1601 (l0 ++ l1) kr xr Ar nr Cr, fun v W W' hU h => by obtain ⟨g, kr, xr, Ar, nr, Cr, e, hc, hdr⟩ := h; exact ⟨g, kr, xr, Ar, nr, Cr, e, (hU.block g (lt_of hc)).trans hc, hdr.later hU⟩⟩, ⟨fun v W => ∃ (k : Int) (x : ByteArray) (A : Option Addr) (n C : Nat), v = Value.agg #[.int .i64 k, .string x, .slice A n C] ∧ IsD XF W 2402 L3 k x A n C, fun v W W' hU h => by obtain ⟨k, x, A, n, C, e, hd⟩ := h; exact ⟨k, x, A, n, C, e, hd.later hU⟩⟩, ⟨fun v W => ∃ (A : Option Addr) (C : Nat), v = Value.slice A m3 C ∧ m3 ≤ C ∧ C ≤ maxLen ∧ RdP W A L3, fun v W W' hU h => by obtain ⟨A, C, e, h1, h2, h3⟩ := h; exact ⟨A, C, e, h1, h2, h3.below hU⟩⟩, ⟨fun v W => ∃ (A : Option Addr) (C : Nat), v = Value.slice A m3 C ∧ m3 ≤ C ∧ C ≤ maxLen ∧ RdP W A L3, fun v W W' hU h => by obtain ⟨A, C, e, h1, h2, h3⟩ := h; exact ⟨A, C, e, h1, h2, h3.below hU⟩⟩] (by kernel_rfl) (by decide) (by kernel_rfl) (Below.refl _ _) (fun _ _ _ h k => h.trans (k.mono h.size)) ?steps ?behind
            case steps =>
              intro xv W hW a ha
              replace hW : Below Wa.heap.size Wa W := ⟨hW.os, hW.tape, hW.output, hW.size, hW.block⟩
              simp only [fillA] at ha
              simp only [List.setIfInBounds_toArray, List.set_cons_succ, List.set_cons_zero, Nat.zero_add, Nat.reduceAdd] at ha
              subst ha
              refine ⟨fun hd K hK => ?s0, fun hd K hK => ?s1, fun hd K hK => ?s2, fun hd K hK => ?s3, fun hd K hK => ?s4, fun hd K hK => ?s5, fun hd K hK => ?s6, fun hd K hK => ?s7, fun hd K hK => ?s8, trivial⟩
              case s0 =>
                clear hd
                simp only [Act.put, List.setIfInBounds_toArray, List.set_cons_succ, List.set_cons_zero] at hK
                refine (if_pos (by rfl)).mpr ?_
                obtain ⟨hq0, hq1, hq2⟩ := cl3 ((hW.block _ (lt_of HX0.out)).trans HX0.out)
                go_simp
                exact hK.out _ _ (Below.refl _ _) rfl
              case s1 =>
                clear hd
                simp only [Act.put, List.setIfInBounds_toArray, List.set_cons_succ, List.set_cons_zero] at hK
                refine (if_pos (by rfl)).mpr ?_
                obtain ⟨hq0, hq1, hq2⟩ := cl3 ((hW.block _ (lt_of HX1.out)).trans HX1.out)
                go_simp
                exact hK.out _ _ (Below.refl _ _) rfl
              case s2 =>
                have hx0 : xv 0 = Value.agg #[.int .i64 kd0, .string xd0, .slice Ad0 nd0 Cd0] := hd 0 (by kernel_rfl)
                have hx1 : xv 1 = Value.agg #[.int .i64 kd1, .string xd1, .slice Ad1 nd1 Cd1] := hd 1 (by kernel_rfl)
                clear hd
                simp only [Act.put, List.setIfInBounds_toArray, List.set_cons_succ, List.set_cons_zero] at hK
                rw [hx0] at hK ⊢
                rw [hx1] at hK ⊢
                refine (if_pos (by rfl)).mpr ?_
                go_simp
                exact hK.out _ _ ((Below.refl _ _).alloc (Nat.le_refl _) _) ⟨W.heap.size, rfl, heap_alloc_new _ _⟩
              case s3 =>
                have hx2 : ∃ (g : Nat) , xv 2 = Value.slice (some ⟨g, 0, none⟩) 2 2 ∧ W.heap[g]? = some (Obj.cells #[.int .i64 kd0, .string xd0, .slice Ad0 nd0 Cd0, .int .i64 kd1, .string xd1, .slice Ad1 nd1 Cd1] 29 (0, 0)) := hd 2 (by kernel_rfl)
                clear hd
                simp only [Act.put, List.setIfInBounds_toArray, List.set_cons_succ, List.set_cons_zero] at hK
                refine (if_pos (by rfl)).mpr ?_
                obtain ⟨g, eg, hc⟩ := hx2
                rw [eg] at hK ⊢
                go_simp
                go_at_call 16
                refine (show Calls Try.prog 16 _ W (IdPost XF 1601 (l0 ++ l1) W) from (HE1.out ▸ row_at (xf W) (Ds.cons (HD0.out.later hW) (Ds.cons (HD1.out.later hW) Ds.nil)) rfl (by omega) hc)).mono ?_
                rintro e w' ⟨⟨k, x, A, n, C, rfl, hd⟩, hb⟩
                exact hK.out _ _ hb ⟨k, x, A, n, C, rfl, hd⟩
              case s4 =>
                clear hd
                simp only [Act.put, List.setIfInBounds_toArray, List.set_cons_succ, List.set_cons_zero] at hK
                refine (if_pos (by rfl)).mpr ?_
                obtain ⟨hq0, hq1, hq2⟩ := cl3 ((hW.block _ (lt_of HX2.out)).trans HX2.out)
                go_simp
                exact hK.out _ _ (Below.refl _ _) rfl
              case s5 =>
                have hx3 : ∃ (k : Int) (x : ByteArray) (A : Option Addr) (n C : Nat), xv 3 = Value.agg #[.int .i64 k, .string x, .slice A n C] ∧ IsD XF W 1601 (l0 ++ l1) k x A n C := hd 3 (by kernel_rfl)
                have hx4 : xv 4 = Value.agg #[.int .i64 kd2, .string xd2, .slice Ad2 nd2 Cd2] := hd 4 (by kernel_rfl)
                clear hd
                simp only [Act.put, List.setIfInBounds_toArray, List.set_cons_succ, List.set_cons_zero] at hK
                rw [hx4] at hK ⊢
                refine (if_pos (by rfl)).mpr ?_
                obtain ⟨kr, xr, Ar, nr, Cr, eqr, hdr⟩ := hx3
                rw [eqr] at hK ⊢
                go_simp
                exact hK.out _ _ ((Below.refl _ _).alloc (Nat.le_refl _) _) ⟨W.heap.size, kr, xr, Ar, nr, Cr, rfl, heap_alloc_new _ _, hdr.later ((Below.refl _ _).alloc (Nat.le_refl _) _)⟩
              case s6 =>
                have hx5 : ∃ (g : Nat) (kr : Int) (xr : ByteArray) (Ar : Option Addr) (nr Cr : Nat), xv 5 = Value.slice (some ⟨g, 0, none⟩) 2 2 ∧ W.heap[g]? = some (Obj.cells #[.int .i64 kr, .string xr, .slice Ar nr Cr, .int .i64 kd2, .string xd2, .slice Ad2 nd2 Cd2] 29 (0, 0)) ∧ IsD XF W 1601 (l0 ++ l1) kr xr Ar nr Cr := hd 5 (by kernel_rfl)
                clear hd
                simp only [Act.put, List.setIfInBounds_toArray, List.set_cons_succ, List.set_cons_zero] at hK
                refine (if_pos (by rfl)).mpr ?_
                obtain ⟨g, kr, xr, Ar, nr, Cr, eg, hc, hdr⟩ := hx5
                rw [eg] at hK ⊢
                go_simp
                go_at_call 16
                refine (show Calls Try.prog 16 _ W (IdPost XF 2402 L3 W) from (HE2.out ▸ row_at (xf W) (Ds.cons hdr (Ds.cons (HD2.out.later hW) Ds.nil)) rfl (by omega) hc)).mono ?_
                rintro e w' ⟨⟨k, x, A, n, C, rfl, hd⟩, hb⟩
                exact hK.out _ _ hb ⟨k, x, A, n, C, rfl, hd⟩
              case s7 =>
                have hx6 : ∃ (k : Int) (x : ByteArray) (A : Option Addr) (n C : Nat), xv 6 = Value.agg #[.int .i64 k, .string x, .slice A n C] ∧ IsD XF W 2402 L3 k x A n C := hd 6 (by kernel_rfl)
                clear hd
                simp only [Act.put, List.setIfInBounds_toArray, List.set_cons_succ, List.set_cons_zero] at hK
                refine (if_pos (by rfl)).mpr ?_
                obtain ⟨k, x, A, n, C, eg, hd⟩ := hx6
                rw [eg] at hK ⊢
                go_simp
                go_at_call 15
                refine (plain_is hd (by omega) HM3.out).mono ?_
                rintro e w' ⟨⟨A', C', rfl, h1, h2, h3⟩, hb⟩
                exact hK.out _ _ hb ⟨A', C', rfl, h1, h2, h3⟩
              case s8 =>
                have hx7 : ∃ (A : Option Addr) (C : Nat), xv 7 = Value.slice A m3 C ∧ m3 ≤ C ∧ C ≤ maxLen ∧ RdP W A L3 := hd 7 (by kernel_rfl)
                clear hd
                simp only [Act.put, List.setIfInBounds_toArray, List.set_cons_succ, List.set_cons_zero] at hK
                refine (if_pos (by rfl)).mpr ?_
                obtain ⟨A, C, eg, h1, h2, h3⟩ := hx7
                rw [eg] at hK ⊢
                go_simp
                exact hK.out _ _ (Below.refl _ _) ⟨A, C, rfl, h1, h2, h3⟩
            case behind =>
              intro xv W hW hx a ha
              replace hW : Below Wa.heap.size Wa W := ⟨hW.os, hW.tape, hW.output, hW.size, hW.block⟩
              simp only [fillA] at ha
              simp only [List.setIfInBounds_toArray, List.set_cons_succ, List.set_cons_zero, Nat.zero_add, Nat.reduceAdd] at ha
              subst ha
              obtain ⟨Aa, Ca, e1, hca, hma, hr⟩ : ∃ (A : Option Addr) (C : Nat), xv 8 = Value.slice A m3 C ∧ m3 ≤ C ∧ C ≤ maxLen ∧ RdP W A L3 := hx 8 (by decide)
              rw [e1]
              clear hx e1
              have HBW := Lib.hid (HBWa.out.trans (hW.mono HBWa.out.size))
              have hq := (hW.block _ (lt_of HX0.out)).trans HX0.out
              replace HX0 := Lib.hid hq
              clear hq
              have hq := HD0.out.later hW
              replace HD0 := Lib.hid hq
              clear hq
              have hq := (hW.block _ (lt_of HX1.out)).trans HX1.out
              replace HX1 := Lib.hid hq
              clear hq
              have hq := HD1.out.later hW
              replace HD1 := Lib.hid hq
              clear hq
              have hq := (hW.block _ (lt_of HX2.out)).trans HX2.out
              replace HX2 := Lib.hid hq
              clear hq
              have hq := HD2.out.later hW
              replace HD2 := Lib.hid hq
              clear hq
              have hq := (hW.block _ (lt_of HX3.out)).trans HX3.out
              replace HX3 := Lib.hid hq
              clear hq
              have hq := HD3.out.later hW
              replace HD3 := Lib.hid hq
              clear hq
              have HRa := Lib.hid hr
              clear hr hW
              clear HBWa
              go_wp2
              obtain ⟨Wa, hWa⟩ : ∃ Wa, Wa = W := ⟨W, rfl⟩
              subst hWa
              have HBWa := HBW
              clear HBW
              refine region_rel (fun W W' => Below W.heap.size W W') [Cd.is (Value.agg #[.int .i64 kd0, .string xd0, .slice Ad0 nd0 Cd0]), Cd.is (Value.agg #[.int .i64 0, .string ⟨#[]⟩, .slice none 0 0]), Cd.is (Value.agg #[.int .i64 kd1, .string xd1, .slice Ad1 nd1 Cd1]), Cd.is (Value.agg #[.int .i64 kd2, .string xd2, .slice Ad2 nd2 Cd2]), ⟨fun v W => ∃ (g : Nat) , v = Value.slice (some ⟨g, 0, none⟩) 2 2 ∧ W.heap[g]? = some (Obj.cells #[.int .i64 kd1, .string xd1, .slice Ad1 nd1 Cd1, .int .i64 kd2, .string xd2, .slice Ad2 nd2 Cd2] 29 (0, 0)), fun v W W' hU h => by obtain ⟨g, e, hc⟩ := h; exact ⟨g, e, (hU.block g (lt_of hc)).trans hc⟩⟩, ⟨fun v W => ∃ (k : Int) (x : ByteArray) (A : Option Addr) (n C : Nat), v = Value.agg #[.int .i64 k, .string x, .slice A n C] ∧ IsD XF W 1601 (l1 ++ l2) k x A n C, fun v W W' hU h => by obtain ⟨k, x, A, n, C, e, hd⟩ := h; exact ⟨k, x, A, n, C, e, hd.later hU⟩⟩, ⟨fun v W => ∃ (k : Int) (x : ByteArray) (A : Option Addr) (n C : Nat), v = Value.agg #[.int .i64 k, .string x, .slice A n C] ∧ IsD XF W 1 [] k x A n C, fun v W W' hU h => by obtain ⟨k, x, A, n, C, e, hd⟩ := h; exact ⟨k, x, A, n, C, e, hd.later hU⟩⟩, ⟨fun v W => ∃ (g : Nat) (kr : Int) (xr : ByteArray) (Ar : Option Addr) (nr Cr : Nat) (kq : Int) (xq : ByteArray) (Aq : Option Addr) (nq Cq : Nat), v = Value.slice (some ⟨g, 0, none⟩) 4 4 ∧ W.heap[g]? = some (Obj.cells #[.int .i64 kd0, .string xd0, .slice Ad0 nd0 Cd0, .int .i64 0, .string ⟨#[]⟩, .slice none 0 0, .int .i64 kr, .string xr, .slice Ar nr Cr, .int .i64 kq, .string xq, .slice Aq nq Cq] 29 (0, 0)) ∧ IsD XF W 1601 (l1 ++ l2) kr xr Ar nr Cr ∧ IsD XF W 1 [] kq xq Aq nq Cq, fun v W W' hU h => by obtain ⟨g, kr, xr, Ar, nr, Cr, kq, xq, Aq, nq, Cq, e, hc, hdr, hdq⟩ := h; exact ⟨g, kr, xr, Ar, nr, Cr, kq, xq, Aq, nq, Cq, e, (hU.block g (lt_of hc)).trans hc, hdr.later hU, hdq.later hU⟩⟩, ⟨fun v W => ∃ (k : Int) (x : ByteArray) (A : Option Addr) (n C : Nat), v = Value.agg #[.int .i64 k, .string x, .slice A n C] ∧ IsD XF W 2404 L3 k x A n C, fun v W W' hU h => by obtain ⟨k, x, A, n, C, e, hd⟩ := h; exact ⟨k, x, A, n, C, e, hd.later hU⟩⟩, ⟨fun v W => ∃ (A : Option Addr) (C : Nat), v = Value.slice A m3 C ∧ m3 ≤ C ∧ C ≤ maxLen ∧ RdP W A L3, fun v W W' hU h => by obtain ⟨A, C, e, h1, h2, h3⟩ := h; exact ⟨A, C, e, h1, h2, h3.below hU⟩⟩, ⟨fun v W => ∃ (A : Option Addr) (C : Nat), v = Value.slice A m3 C ∧ m3 ≤ C ∧ C ≤ maxLen ∧ RdP W A L3, fun v W W' hU h => by obtain ⟨A, C, e, h1, h2, h3⟩ := h; exact ⟨A, C, e, h1, h2, h3.below hU⟩⟩] (by kernel_rfl) (by decide) (by kernel_rfl) (Below.refl _ _) (fun _ _ _ h k => h.trans (k.mono h.size)) ?steps ?behind
              case steps =>
                intro xv W hW a ha
                replace hW : Below Wa.heap.size Wa W := ⟨hW.os, hW.tape, hW.output, hW.size, hW.block⟩
                simp only [fillA] at ha
                simp only [List.setIfInBounds_toArray, List.set_cons_succ, List.set_cons_zero, Nat.zero_add, Nat.reduceAdd] at ha
                subst ha
                refine ⟨fun hd K hK => ?s0, fun hd K hK => ?s1, fun hd K hK => ?s2, fun hd K hK => ?s3, fun hd K hK => ?s4, fun hd K hK => ?s5, fun hd K hK => ?s6, fun hd K hK => ?s7, fun hd K hK => ?s8, fun hd K hK => ?s9, fun hd K hK => ?s10, trivial⟩
                case s0 =>
                  clear hd
                  simp only [Act.put, List.setIfInBounds_toArray, List.set_cons_succ, List.set_cons_zero] at hK
                  refine (if_pos (by rfl)).mpr ?_
                  obtain ⟨hq0, hq1, hq2⟩ := cl3 ((hW.block _ (lt_of HX0.out)).trans HX0.out)
                  go_simp
                  exact hK.out _ _ (Below.refl _ _) rfl
                case s1 =>
                  clear hd
                  simp only [Act.put, List.setIfInBounds_toArray, List.set_cons_succ, List.set_cons_zero] at hK
                  refine (if_pos (by rfl)).mpr ?_
                  go_simp
                  exact hK.out _ _ (Below.refl _ _) rfl
                case s2 =>
                  clear hd
                  simp only [Act.put, List.setIfInBounds_toArray, List.set_cons_succ, List.set_cons_zero] at hK
                  refine (if_pos (by rfl)).mpr ?_
                  obtain ⟨hq0, hq1, hq2⟩ := cl3 ((hW.block _ (lt_of HX1.out)).trans HX1.out)
                  go_simp
                  exact hK.out _ _ (Below.refl _ _) rfl
                case s3 =>
                  clear hd
                  simp only [Act.put, List.setIfInBounds_toArray, List.set_cons_succ, List.set_cons_zero] at hK
                  refine (if_pos (by rfl)).mpr ?_
                  obtain ⟨hq0, hq1, hq2⟩ := cl3 ((hW.block _ (lt_of HX2.out)).trans HX2.out)
                  go_simp
                  exact hK.out _ _ (Below.refl _ _) rfl
                case s4 =>
                  have hx2 : xv 2 = Value.agg #[.int .i64 kd1, .string xd1, .slice Ad1 nd1 Cd1] := hd 2 (by kernel_rfl)
                  have hx3 : xv 3 = Value.agg #[.int .i64 kd2, .string xd2, .slice Ad2 nd2 Cd2] := hd 3 (by kernel_rfl)
                  clear hd
                  simp only [Act.put, List.setIfInBounds_toArray, List.set_cons_succ, List.set_cons_zero] at hK
                  rw [hx2] at hK ⊢
                  rw [hx3] at hK ⊢
                  refine (if_pos (by rfl)).mpr ?_
                  go_simp
                  exact hK.out _ _ ((Below.refl _ _).alloc (Nat.le_refl _) _) ⟨W.heap.size, rfl, heap_alloc_new _ _⟩
                case s5 =>
                  have hx4 : ∃ (g : Nat) , xv 4 = Value.slice (some ⟨g, 0, none⟩) 2 2 ∧ W.heap[g]? = some (Obj.cells #[.int .i64 kd1, .string xd1, .slice Ad1 nd1 Cd1, .int .i64 kd2, .string xd2, .slice Ad2 nd2 Cd2] 29 (0, 0)) := hd 4 (by kernel_rfl)
                  clear hd
                  simp only [Act.put, List.setIfInBounds_toArray, List.set_cons_succ, List.set_cons_zero] at hK
                  refine (if_pos (by rfl)).mpr ?_
                  obtain ⟨g, eg, hc⟩ := hx4
                  rw [eg] at hK ⊢
                  go_simp
                  go_at_call 16
                  refine (show Calls Try.prog 16 _ W (IdPost XF 1601 (l1 ++ l2) W) from (HE3.out ▸ row_at (xf W) (Ds.cons (HD1.out.later hW) (Ds.cons (HD2.out.later hW) Ds.nil)) rfl (by omega) hc)).mono ?_
                  rintro e w' ⟨⟨k, x, A, n, C, rfl, hd⟩, hb⟩
                  exact hK.out _ _ hb ⟨k, x, A, n, C, rfl, hd⟩
                case s6 =>
                  clear hd
                  simp only [Act.put, List.setIfInBounds_toArray, List.set_cons_succ, List.set_cons_zero] at hK
                  refine (if_pos (by rfl)).mpr ?_
                  go_simp
                  go_at_call 16
                  refine (row_none (xf W)).mono ?_
                  rintro e w' ⟨⟨k, x, A, n, C, rfl, hd⟩, hb⟩
                  exact hK.out _ _ hb ⟨k, x, A, n, C, rfl, hd⟩
                case s7 =>
                  have hx0 : xv 0 = Value.agg #[.int .i64 kd0, .string xd0, .slice Ad0 nd0 Cd0] := hd 0 (by kernel_rfl)
                  have hx1 : xv 1 = Value.agg #[.int .i64 0, .string ⟨#[]⟩, .slice none 0 0] := hd 1 (by kernel_rfl)
                  have hx5 : ∃ (k : Int) (x : ByteArray) (A : Option Addr) (n C : Nat), xv 5 = Value.agg #[.int .i64 k, .string x, .slice A n C] ∧ IsD XF W 1601 (l1 ++ l2) k x A n C := hd 5 (by kernel_rfl)
                  have hx6 : ∃ (k : Int) (x : ByteArray) (A : Option Addr) (n C : Nat), xv 6 = Value.agg #[.int .i64 k, .string x, .slice A n C] ∧ IsD XF W 1 [] k x A n C := hd 6 (by kernel_rfl)
                  clear hd
                  simp only [Act.put, List.setIfInBounds_toArray, List.set_cons_succ, List.set_cons_zero] at hK
                  rw [hx0] at hK ⊢
                  rw [hx1] at hK ⊢
                  refine (if_pos (by rfl)).mpr ?_
                  obtain ⟨kr, xr, Ar, nr, Cr, eqr, hdr⟩ := hx5
                  rw [eqr] at hK ⊢
                  obtain ⟨kq, xq, Aq, nq, Cq, eqq, hdq⟩ := hx6
                  rw [eqq] at hK ⊢
                  go_simp
                  exact hK.out _ _ ((Below.refl _ _).alloc (Nat.le_refl _) _) ⟨W.heap.size, kr, xr, Ar, nr, Cr, kq, xq, Aq, nq, Cq, rfl, heap_alloc_new _ _, hdr.later ((Below.refl _ _).alloc (Nat.le_refl _) _), hdq.later ((Below.refl _ _).alloc (Nat.le_refl _) _)⟩
                case s8 =>
                  have hx7 : ∃ (g : Nat) (kr : Int) (xr : ByteArray) (Ar : Option Addr) (nr Cr : Nat) (kq : Int) (xq : ByteArray) (Aq : Option Addr) (nq Cq : Nat), xv 7 = Value.slice (some ⟨g, 0, none⟩) 4 4 ∧ W.heap[g]? = some (Obj.cells #[.int .i64 kd0, .string xd0, .slice Ad0 nd0 Cd0, .int .i64 0, .string ⟨#[]⟩, .slice none 0 0, .int .i64 kr, .string xr, .slice Ar nr Cr, .int .i64 kq, .string xq, .slice Aq nq Cq] 29 (0, 0)) ∧ IsD XF W 1601 (l1 ++ l2) kr xr Ar nr Cr ∧ IsD XF W 1 [] kq xq Aq nq Cq := hd 7 (by kernel_rfl)
                  clear hd
                  simp only [Act.put, List.setIfInBounds_toArray, List.set_cons_succ, List.set_cons_zero] at hK
                  refine (if_pos (by rfl)).mpr ?_
                  obtain ⟨g, kr, xr, Ar, nr, Cr, kq, xq, Aq, nq, Cq, eg, hc, hdr, hdq⟩ := hx7
                  rw [eg] at hK ⊢
                  go_simp
                  go_at_call 16
                  refine (show Calls Try.prog 16 _ W (IdPost XF 2404 L3 W) from (HE4.out ▸ row_at (xf W) (Ds.cons (HD0.out.later hW) (Ds.cons (zero_is XF W) (Ds.cons hdr (Ds.cons hdq Ds.nil)))) rfl (by omega) hc)).mono ?_
                  rintro e w' ⟨⟨k, x, A, n, C, rfl, hd⟩, hb⟩
                  exact hK.out _ _ hb ⟨k, x, A, n, C, rfl, hd⟩
                case s9 =>
                  have hx8 : ∃ (k : Int) (x : ByteArray) (A : Option Addr) (n C : Nat), xv 8 = Value.agg #[.int .i64 k, .string x, .slice A n C] ∧ IsD XF W 2404 L3 k x A n C := hd 8 (by kernel_rfl)
                  clear hd
                  simp only [Act.put, List.setIfInBounds_toArray, List.set_cons_succ, List.set_cons_zero] at hK
                  refine (if_pos (by rfl)).mpr ?_
                  obtain ⟨k, x, A, n, C, eg, hd⟩ := hx8
                  rw [eg] at hK ⊢
                  go_simp
                  go_at_call 15
                  refine (plain_is hd (by omega) HM3.out).mono ?_
                  rintro e w' ⟨⟨A', C', rfl, h1, h2, h3⟩, hb⟩
                  exact hK.out _ _ hb ⟨A', C', rfl, h1, h2, h3⟩
                case s10 =>
                  have hx9 : ∃ (A : Option Addr) (C : Nat), xv 9 = Value.slice A m3 C ∧ m3 ≤ C ∧ C ≤ maxLen ∧ RdP W A L3 := hd 9 (by kernel_rfl)
                  clear hd
                  simp only [Act.put, List.setIfInBounds_toArray, List.set_cons_succ, List.set_cons_zero] at hK
                  refine (if_pos (by rfl)).mpr ?_
                  obtain ⟨A, C, eg, h1, h2, h3⟩ := hx9
                  rw [eg] at hK ⊢
                  go_simp
                  exact hK.out _ _ (Below.refl _ _) ⟨A, C, rfl, h1, h2, h3⟩
              case behind =>
                intro xv W hW hx a ha
                replace hW : Below Wa.heap.size Wa W := ⟨hW.os, hW.tape, hW.output, hW.size, hW.block⟩
                simp only [fillA] at ha
                simp only [List.setIfInBounds_toArray, List.set_cons_succ, List.set_cons_zero, Nat.zero_add, Nat.reduceAdd] at ha
                subst ha
                obtain ⟨Ab, Cb, e1, hcb, hmb, hr⟩ : ∃ (A : Option Addr) (C : Nat), xv 10 = Value.slice A m3 C ∧ m3 ≤ C ∧ C ≤ maxLen ∧ RdP W A L3 := hx 10 (by decide)
                rw [e1]
                clear hx e1
                have HBW := Lib.hid (HBWa.out.trans (hW.mono HBWa.out.size))
                have hq := (hW.block _ (lt_of HX0.out)).trans HX0.out
                replace HX0 := Lib.hid hq
                clear hq
                have hq := HD0.out.later hW
                replace HD0 := Lib.hid hq
                clear hq
                have hq := (hW.block _ (lt_of HX1.out)).trans HX1.out
                replace HX1 := Lib.hid hq
                clear hq
                have hq := HD1.out.later hW
                replace HD1 := Lib.hid hq
                clear hq
                have hq := (hW.block _ (lt_of HX2.out)).trans HX2.out
                replace HX2 := Lib.hid hq
                clear hq
                have hq := HD2.out.later hW
                replace HD2 := Lib.hid hq
                clear hq
                have hq := (hW.block _ (lt_of HX3.out)).trans HX3.out
                replace HX3 := Lib.hid hq
                clear hq
                have hq := HD3.out.later hW
                replace HD3 := Lib.hid hq
                clear hq
                have hq := HRa.out.below hW
                replace HRa := Lib.hid hq
                clear hq
                have HRb := Lib.hid hr
                clear hr hW
                clear HBWa
                go_wp2
                obtain ⟨Wa, hWa⟩ : ∃ Wa, Wa = W := ⟨W, rfl⟩
                subst hWa
                have HBWa := HBW
                clear HBW
                refine region_inv (IA Wa.drew l0 l1 l2 (l0 ++ l1) L3 (Value.agg #[.int .i64 kd0, .string xd0, .slice Ad0 nd0 Cd0]) (Value.agg #[.int .i64 kd1, .string xd1, .slice Ad1 nd1 Cd1]) (Value.agg #[.int .i64 kd2, .string xd2, .slice Ad2 nd2 Cd2])) (by kernel_rfl) (by decide) (by kernel_rfl) IA.start ?steps ?done
                case steps =>
                  intro L xv W hI a ha
                  have hW : Below Wa.heap.size Wa W := ⟨hI.bel.os, hI.bel.tape, hI.bel.output, hI.bel.size, hI.bel.block⟩
                  have hbs : Wa.drew.heap.size ≤ W.heap.size := hI.bel.size
                  simp only [fillA] at ha
                  simp only [List.setIfInBounds_toArray, List.set_cons_succ, List.set_cons_zero, Nat.zero_add, Nat.reduceAdd] at ha
                  subst ha
                  refine ⟨fun hL hd K hK => ?s0, fun hL hd K hK => ?s1, fun hL hd K hK => ?s2, fun hL hd K hK => ?s3, fun hL hd K hK => ?s4, fun hL hd K hK => ?s5, fun hL hd K hK => ?s6, fun hL hd K hK => ?s7, fun hL hd K hK => ?s8, fun hL hd K hK => ?s9, fun hL hd K hK => ?s10, trivial⟩
                  case s0 =>
                    clear hd
                    simp only [Act.put, List.setIfInBounds_toArray, List.set_cons_succ, List.set_cons_zero] at hK
                    refine (if_pos (by rfl)).mpr ?_
                    go_simp
                    exact hK.out _ _ (hI.new ((Below.refl _ _).alloc (Nat.le_refl _) _) ⟨rfl, .inr ⟨W.heap.size, 0, #[], rfl, hbs, heap_alloc_new _ _, Nat.le_refl _, Nat.zero_le _, rfl, rfl⟩⟩)
                  case s1 =>
                    clear hd
                    simp only [Act.put, List.setIfInBounds_toArray, List.set_cons_succ, List.set_cons_zero] at hK
                    refine (if_pos (by rfl)).mpr ?_
                    obtain ⟨hq0, hq1, hq2⟩ := cl3 ((hW.block _ (lt_of HX0.out)).trans HX0.out)
                    go_simp
                    exact hK.out _ _ hI.load1
                  case s2 =>
                    have hx : xv 1 = Value.agg #[.int .i64 kd0, .string xd0, .slice Ad0 nd0 Cd0] := hI.l1 (hd 1 (by kernel_rfl))
                    simp only [Act.put, List.setIfInBounds_toArray, List.set_cons_succ, List.set_cons_zero] at hK
                    rw [hx] at hK ⊢
                    refine (if_pos (by rfl)).mpr ?_
                    go_simp
                    go_at_call 15
                    refine (plain_own (HD0.out.later hW) (by omega)).mono ?_
                    rintro e w' ⟨A, C, rfl, ho, hb⟩
                    exact hK.out _ _ (hI.plain2 hb (own_low ho hbs))
                  case s4 =>
                    clear hd
                    simp only [Act.put, List.setIfInBounds_toArray, List.set_cons_succ, List.set_cons_zero] at hK
                    refine (if_pos (by rfl)).mpr ?_
                    obtain ⟨hq0, hq1, hq2⟩ := cl3 ((hW.block _ (lt_of HX1.out)).trans HX1.out)
                    go_simp
                    exact hK.out _ _ hI.load4
                  case s5 =>
                    have hx : xv 4 = Value.agg #[.int .i64 kd1, .string xd1, .slice Ad1 nd1 Cd1] := hI.l4 (hd 4 (by kernel_rfl))
                    simp only [Act.put, List.setIfInBounds_toArray, List.set_cons_succ, List.set_cons_zero] at hK
                    rw [hx] at hK ⊢
                    refine (if_pos (by rfl)).mpr ?_
                    go_simp
                    go_at_call 15
                    refine (plain_own (HD1.out.later hW) (by omega)).mono ?_
                    rintro e w' ⟨A, C, rfl, ho, hb⟩
                    exact hK.out _ _ (hI.plain5 (hd 3 (by kernel_rfl)) hb (own_low ho hbs))
                  case s7 =>
                    clear hd
                    simp only [Act.put, List.setIfInBounds_toArray, List.set_cons_succ, List.set_cons_zero] at hK
                    refine (if_pos (by rfl)).mpr ?_
                    obtain ⟨hq0, hq1, hq2⟩ := cl3 ((hW.block _ (lt_of HX2.out)).trans HX2.out)
                    go_simp
                    exact hK.out _ _ hI.load7
                  case s8 =>
                    have hx : xv 7 = Value.agg #[.int .i64 kd2, .string xd2, .slice Ad2 nd2 Cd2] := hI.l7 (hd 7 (by kernel_rfl))
                    simp only [Act.put, List.setIfInBounds_toArray, List.set_cons_succ, List.set_cons_zero] at hK
                    rw [hx] at hK ⊢
                    refine (if_pos (by rfl)).mpr ?_
                    go_simp
                    go_at_call 15
                    refine (plain_own (HD2.out.later hW) (by omega)).mono ?_
                    rintro e w' ⟨A, C, rfl, ho, hb⟩
                    exact hK.out _ _ (hI.plain8 (hd 6 (by kernel_rfl)) hb (own_low ho hbs))
                  case s3 =>
                    simp only [Act.put, List.setIfInBounds_toArray, List.set_cons_succ, List.set_cons_zero] at hK
                    refine (if_pos (by rfl)).mpr ?_
                    obtain ⟨v', W', hr, ho, hb⟩ := app_run _ (hI.r0 (hd 0 (by kernel_rfl)) hL) (hI.p2 (hd 2 (by kernel_rfl)) hL) (by have := HN.out; simp only [List.length_nil]; omega) hbs
                    refine op_append rfl rfl rfl hr ?_
                    exact hK.out _ _ (hI.app3 hL hb ho)
                  case s6 =>
                    simp only [Act.put, List.setIfInBounds_toArray, List.set_cons_succ, List.set_cons_zero] at hK
                    refine (if_pos (by rfl)).mpr ?_
                    obtain ⟨v', W', hr, ho, hb⟩ := app_run _ (hI.r3 (hd 3 (by kernel_rfl)) hL) (hI.p5 (hd 5 (by kernel_rfl)) hL) (by have := HN.out; omega) hbs
                    refine op_append rfl rfl rfl hr ?_
                    exact hK.out _ _ (hI.app6 hL (hd 3 (by kernel_rfl)) hb ho)
                  case s9 =>
                    simp only [Act.put, List.setIfInBounds_toArray, List.set_cons_succ, List.set_cons_zero] at hK
                    refine (if_pos (by rfl)).mpr ?_
                    obtain ⟨v', W', hr, ho, hb⟩ := app_run _ (hI.r6 (hd 6 (by kernel_rfl)) hL) (hI.p8 (hd 8 (by kernel_rfl)) hL) (by have := HN.out; simp only [List.length_append]; omega) hbs
                    refine op_append rfl rfl rfl hr ?_
                    exact hK.out _ _ (hI.app9 hL (hI.d6 (hd 6 (by kernel_rfl))) (hd 6 (by kernel_rfl)) hb (HE8.out ▸ ho))
                  case s10 =>
                    simp only [Act.put, List.setIfInBounds_toArray, List.set_cons_succ, List.set_cons_zero] at hK
                    refine (if_pos (by rfl)).mpr ?_
                    go_simp
                    exact hK.out _ _ (hI.last (hd 9 (by kernel_rfl)))
                case done =>
                  intro L xv W hI hall a ha
                  have hW : Below Wa.heap.size Wa W := ⟨hI.bel.os, hI.bel.tape, hI.bel.output, hI.bel.size, hI.bel.block⟩
                  have hbs : Wa.drew.heap.size ≤ W.heap.size := hI.bel.size
                  simp only [fillA] at ha
                  simp only [List.setIfInBounds_toArray, List.set_cons_succ, List.set_cons_zero, Nat.zero_add, Nat.reduceAdd] at ha
                  subst ha
                  have e1 := hI.rA (hall 10 (by decide))
                  obtain ⟨Ac, Cc, e2, hcc, hmc, hr⟩ := ow_form HM3.out (hI.r9 (hall 9 (by decide)))
                  rw [e1, e2]
                  clear e1 e2 hI hall hbs
                  have HBW := Lib.hid (HBWa.out.trans (hW.mono HBWa.out.size))
                  have hq := (hW.block _ (lt_of HX0.out)).trans HX0.out
                  replace HX0 := Lib.hid hq
                  clear hq
                  have hq := HD0.out.later hW
                  replace HD0 := Lib.hid hq
                  clear hq
                  have hq := (hW.block _ (lt_of HX1.out)).trans HX1.out
                  replace HX1 := Lib.hid hq
                  clear hq
                  have hq := HD1.out.later hW
                  replace HD1 := Lib.hid hq
                  clear hq
                  have hq := (hW.block _ (lt_of HX2.out)).trans HX2.out
                  replace HX2 := Lib.hid hq
                  clear hq
                  have hq := HD2.out.later hW
                  replace HD2 := Lib.hid hq
                  clear hq
                  have hq := (hW.block _ (lt_of HX3.out)).trans HX3.out
                  replace HX3 := Lib.hid hq
                  clear hq
                  have hq := HD3.out.later hW
                  replace HD3 := Lib.hid hq
                  clear hq
                  have hq := HRa.out.below hW
                  replace HRa := Lib.hid hq
                  clear hq
                  have hq := HRb.out.below hW
                  replace HRb := Lib.hid hq
                  clear hq
                  have HRc := Lib.hid hr
                  clear hr hW HBWa
                  obtain ⟨z00, z01, z02⟩ := cl3 HX0.out
                  obtain ⟨z10, z11, z12⟩ := cl3 HX1.out
                  obtain ⟨z20, z21, z22⟩ := cl3 HX2.out
                  obtain ⟨z30, z31, z32⟩ := cl3 HX3.out
                  have HA := Lib.hid ((Below.refl W.heap.size W).alloc (Nat.le_refl _) (.cells #[.int .i64 kd0, .string xd0, .slice Ad0 nd0 Cd0, .int .i64 kd1, .string xd1, .slice Ad1 nd1 Cd1, .int .i64 kd2, .string xd2, .slice Ad2 nd2 Cd2] 29))
                  have HC := Lib.hid (show Calls Try.prog 17 #[Value.agg #[.int .i64 kd3, .string xd3, .slice Ad3 nd3 Cd3], .slice (some ⟨W.heap.size, 0, none⟩) 3 3] (W.alloc (.cells #[.int .i64 kd0, .string xd0, .slice Ad0 nd0 Cd0, .int .i64 kd1, .string xd1, .slice Ad1 nd1 Cd1, .int .i64 kd2, .string xd2, .slice Ad2 nd2 Cd2] 29)) (IdPost XF 4801 J5 (W.alloc (.cells #[.int .i64 kd0, .string xd0, .slice Ad0 nd0 Cd0, .int .i64 kd1, .string xd1, .slice Ad1 nd1 Cd1, .int .i64 kd2, .string xd2, .slice Ad2 nd2 Cd2] 29))) from (HE6.out ▸ join_new (xf W) HD3.out (Ds.cons HD0.out (Ds.cons HD1.out (Ds.cons HD2.out Ds.nil))) rfl (by omega)))
                  go_wp2_with fail
                  refine HC.out.mono ?_
                  rintro e w6 ⟨⟨k, x, A, n, C, rfl, hd⟩, hb⟩
                  replace hb := HA.out.trans (hb.mono HA.out.size)
                  have HP := Lib.hid (plain_is hd (by omega) HM5.out)
                  clear hd HC HA z00 z01 z02 z10 z11 z12 z20 z21 z22 z30 z31 z32
                  have HB6 := Lib.hid hb
                  clear hb
                  go_wp2_with fail
                  refine HP.out.mono ?_
                  rintro e w7 ⟨⟨As, Cs, rfl, hcs, hms, hr⟩, hb⟩
                  replace hb := HB6.out.trans (hb.mono HB6.out.size)
                  clear HB6 HP
                  have HBw7 := Lib.hid (HBW.out.trans (hb.mono HBW.out.size))
                  have hq := (hb.block _ (lt_of HX0.out)).trans HX0.out
                  replace HX0 := Lib.hid hq
                  clear hq
                  have hq := HD0.out.later hb
                  replace HD0 := Lib.hid hq
                  clear hq
                  have hq := (hb.block _ (lt_of HX1.out)).trans HX1.out
                  replace HX1 := Lib.hid hq
                  clear hq
                  have hq := HD1.out.later hb
                  replace HD1 := Lib.hid hq
                  clear hq
                  have hq := (hb.block _ (lt_of HX2.out)).trans HX2.out
                  replace HX2 := Lib.hid hq
                  clear hq
                  have hq := HD2.out.later hb
                  replace HD2 := Lib.hid hq
                  clear hq
                  have hq := (hb.block _ (lt_of HX3.out)).trans HX3.out
                  replace HX3 := Lib.hid hq
                  clear hq
                  have hq := HD3.out.later hb
                  replace HD3 := Lib.hid hq
                  clear hq
                  have hq := HRa.out.below hb
                  replace HRa := Lib.hid hq
                  clear hq
                  have hq := HRb.out.below hb
                  replace HRb := Lib.hid hq
                  clear hq
                  have hq := HRc.out.below hb
                  replace HRc := Lib.hid hq
                  clear hq
                  have HRs := Lib.hid hr
                  clear hr hb HBW
                  obtain ⟨Wb, hWb⟩ : ∃ Wb, Wb = w7 := ⟨w7, rfl⟩
                  subst hWb
                  have HBW := HBw7
                  clear HBw7

                  obtain ⟨W, hWb⟩ : ∃ W, W = Wb := ⟨Wb, rfl⟩
                  subst hWb
                  obtain ⟨z00, z01, z02⟩ := cl3 HX0.out
                  obtain ⟨z10, z11, z12⟩ := cl3 HX1.out
                  obtain ⟨z20, z21, z22⟩ := cl3 HX2.out
                  obtain ⟨z30, z31, z32⟩ := cl3 HX3.out
                  have HA := Lib.hid ((Below.refl W.heap.size W).alloc (Nat.le_refl _) (.cells #[.int .i64 kd0, .string xd0, .slice Ad0 nd0 Cd0, .int .i64 kd3, .string xd3, .slice Ad3 nd3 Cd3, .int .i64 kd1, .string xd1, .slice Ad1 nd1 Cd1, .int .i64 kd3, .string xd3, .slice Ad3 nd3 Cd3, .int .i64 kd2, .string xd2, .slice Ad2 nd2 Cd2] 29))
                  have HC := Lib.hid (show Calls Try.prog 16 #[.slice (some ⟨W.heap.size, 0, none⟩) 5 5] (W.alloc (.cells #[.int .i64 kd0, .string xd0, .slice Ad0 nd0 Cd0, .int .i64 kd3, .string xd3, .slice Ad3 nd3 Cd3, .int .i64 kd1, .string xd1, .slice Ad1 nd1 Cd1, .int .i64 kd3, .string xd3, .slice Ad3 nd3 Cd3, .int .i64 kd2, .string xd2, .slice Ad2 nd2 Cd2] 29)) (IdPost XF 4001 J5 (W.alloc (.cells #[.int .i64 kd0, .string xd0, .slice Ad0 nd0 Cd0, .int .i64 kd3, .string xd3, .slice Ad3 nd3 Cd3, .int .i64 kd1, .string xd1, .slice Ad1 nd1 Cd1, .int .i64 kd3, .string xd3, .slice Ad3 nd3 Cd3, .int .i64 kd2, .string xd2, .slice Ad2 nd2 Cd2] 29))) from (HE5.out ▸ row_new (xf W) (Ds.cons HD0.out (Ds.cons HD3.out (Ds.cons HD1.out (Ds.cons HD3.out (Ds.cons HD2.out Ds.nil))))) rfl (by omega)))
                  go_wp2_with fail
                  refine HC.out.mono ?_
                  rintro e w6 ⟨⟨k, x, A, n, C, rfl, hd⟩, hb⟩
                  replace hb := HA.out.trans (hb.mono HA.out.size)
                  have HP := Lib.hid (plain_is hd (by omega) HM5.out)
                  clear hd HC HA z00 z01 z02 z10 z11 z12 z20 z21 z22 z30 z31 z32
                  have HB6 := Lib.hid hb
                  clear hb
                  go_wp2_with fail
                  refine HP.out.mono ?_
                  rintro e w7 ⟨⟨At, Ct, rfl, hct, hmt, hr⟩, hb⟩
                  replace hb := HB6.out.trans (hb.mono HB6.out.size)
                  clear HB6 HP
                  have HBw7 := Lib.hid (HBW.out.trans (hb.mono HBW.out.size))
                  have hq := (hb.block _ (lt_of HX0.out)).trans HX0.out
                  replace HX0 := Lib.hid hq
                  clear hq
                  have hq := HD0.out.later hb
                  replace HD0 := Lib.hid hq
                  clear hq
                  have hq := (hb.block _ (lt_of HX1.out)).trans HX1.out
                  replace HX1 := Lib.hid hq
                  clear hq
                  have hq := HD1.out.later hb
                  replace HD1 := Lib.hid hq
                  clear hq
                  have hq := (hb.block _ (lt_of HX2.out)).trans HX2.out
                  replace HX2 := Lib.hid hq
                  clear hq
                  have hq := HD2.out.later hb
                  replace HD2 := Lib.hid hq
                  clear hq
                  have hq := (hb.block _ (lt_of HX3.out)).trans HX3.out
                  replace HX3 := Lib.hid hq
                  clear hq
                  have hq := HD3.out.later hb
                  replace HD3 := Lib.hid hq
                  clear hq
                  have hq := HRa.out.below hb
                  replace HRa := Lib.hid hq
                  clear hq
                  have hq := HRb.out.below hb
                  replace HRb := Lib.hid hq
                  clear hq
                  have hq := HRc.out.below hb
                  replace HRc := Lib.hid hq
                  clear hq
                  have hq := HRs.out.below hb
                  replace HRs := Lib.hid hq
                  clear hq
                  have HRt := Lib.hid hr
                  clear hr hb HBW
                  obtain ⟨Wb, hWb⟩ : ∃ Wb, Wb = w7 := ⟨w7, rfl⟩
                  subst hWb
                  have HBW := HBw7
                  clear HBw7

                  obtain ⟨W, hWb⟩ : ∃ W, W = Wb := ⟨Wb, rfl⟩
                  subst hWb
                  go_wp2
                  obtain ⟨Wa, hWa⟩ : ∃ Wa, Wa = W := ⟨W, rfl⟩
                  subst hWa
                  have HBWa := HBW
                  clear HBW
                  refine region_rel (fun W W' => Below W.heap.size W W') [Cd.is (Value.bool true), Cd.is (Value.bool true), Cd.is (Value.slice Aa m3 Ca), Cd.is (Value.slice Ab m3 Cb), Cd.is (Value.bool true), Cd.is (Value.bool true), Cd.is (Value.bool true), Cd.is (Value.slice Aa m3 Ca), Cd.is (Value.slice Ac m3 Cc), Cd.is (Value.bool true), Cd.is (Value.bool true), Cd.is (Value.bool true), Cd.is (Value.slice As m5 Cs), Cd.is (Value.slice At m5 Ct), Cd.is (Value.bool true), Cd.is (Value.bool true), Cd.is (Value.bool true), Cd.is (Value.agg #[.int .i64 kd3, .string xd3, .slice Ad3 nd3 Cd3]), ⟨fun v W => ∃ (k : Int) (x : ByteArray) (A : Option Addr) (n C : Nat), v = Value.agg #[.int .i64 k, .string x, .slice A n C] ∧ IsD XF W 1 [] k x A n C, fun v W W' hU h => by obtain ⟨k, x, A, n, C, e, hd⟩ := h; exact ⟨k, x, A, n, C, e, hd.later hU⟩⟩, ⟨fun v W => ∃ (A : Option Addr) (C : Nat), v = Value.slice A 0 C ∧ 0 ≤ C ∧ C ≤ maxLen ∧ RdP W A [], fun v W W' hU h => by obtain ⟨A, C, e, h1, h2, h3⟩ := h; exact ⟨A, C, e, h1, h2, h3.below hU⟩⟩, Cd.is (Value.int .i64 0), Cd.is (Value.bool true), Cd.is (Value.bool true), Cd.is (Value.bool true), Cd.is (Value.agg #[.int .i64 kd3, .string xd3, .slice Ad3 nd3 Cd3]), Cd.is (Value.agg #[.int .i64 kd0, .string xd0, .slice Ad0 nd0 Cd0]), ⟨fun v W => ∃ (g : Nat) , v = Value.slice (some ⟨g, 0, none⟩) 1 1 ∧ W.heap[g]? = some (Obj.cells #[.int .i64 kd0, .string xd0, .slice Ad0 nd0 Cd0] 29 (0, 0)), fun v W W' hU h => by obtain ⟨g, e, hc⟩ := h; exact ⟨g, e, (hU.block g (lt_of hc)).trans hc⟩⟩, ⟨fun v W => ∃ (k : Int) (x : ByteArray) (A : Option Addr) (n C : Nat), v = Value.agg #[.int .i64 k, .string x, .slice A n C] ∧ IsD XF W 1601 l0 k x A n C, fun v W W' hU h => by obtain ⟨k, x, A, n, C, e, hd⟩ := h; exact ⟨k, x, A, n, C, e, hd.later hU⟩⟩, ⟨fun v W => ∃ (A : Option Addr) (C : Nat), v = Value.slice A m0 C ∧ m0 ≤ C ∧ C ≤ maxLen ∧ RdP W A l0, fun v W W' hU h => by obtain ⟨A, C, e, h1, h2, h3⟩ := h; exact ⟨A, C, e, h1, h2, h3.below hU⟩⟩, Cd.is (Value.agg #[.int .i64 kd0, .string xd0, .slice Ad0 nd0 Cd0]), ⟨fun v W => ∃ (A : Option Addr) (C : Nat), v = Value.slice A m0 C ∧ m0 ≤ C ∧ C ≤ maxLen ∧ RdP W A l0, fun v W W' hU h => by obtain ⟨A, C, e, h1, h2, h3⟩ := h; exact ⟨A, C, e, h1, h2, h3.below hU⟩⟩, Cd.is (Value.bool true), Cd.is (Value.bool true), Cd.is (Value.bool true)] (by kernel_rfl) (by decide) (by kernel_rfl) (Below.refl _ _) (fun _ _ _ h k => h.trans (k.mono h.size)) ?steps ?behind
                  case steps =>
                    intro xv W hW a ha
                    replace hW : Below Wa.heap.size Wa W := ⟨hW.os, hW.tape, hW.output, hW.size, hW.block⟩
                    simp only [fillA] at ha
                    simp only [List.setIfInBounds_toArray, List.set_cons_succ, List.set_cons_zero, Nat.zero_add, Nat.reduceAdd] at ha
                    subst ha
                    refine ⟨fun hd K hK => ?s0, fun hd K hK => ?s1, fun hd K hK => ?s2, fun hd K hK => ?s3, fun hd K hK => ?s4, fun hd K hK => ?s5, fun hd K hK => ?s6, fun hd K hK => ?s7, fun hd K hK => ?s8, fun hd K hK => ?s9, fun hd K hK => ?s10, fun hd K hK => ?s11, fun hd K hK => ?s12, fun hd K hK => ?s13, fun hd K hK => ?s14, fun hd K hK => ?s15, fun hd K hK => ?s16, fun hd K hK => ?s17, fun hd K hK => ?s18, fun hd K hK => ?s19, fun hd K hK => ?s20, fun hd K hK => ?s21, fun hd K hK => ?s22, fun hd K hK => ?s23, fun hd K hK => ?s24, fun hd K hK => ?s25, fun hd K hK => ?s26, fun hd K hK => ?s27, fun hd K hK => ?s28, fun hd K hK => ?s29, fun hd K hK => ?s30, fun hd K hK => ?s31, fun hd K hK => ?s32, fun hd K hK => ?s33, trivial⟩
                    case s0 =>
                      clear hd
                      simp only [Act.put, List.setIfInBounds_toArray, List.set_cons_succ, List.set_cons_zero] at hK
                      refine (if_pos (by rfl)).mpr ?_
                      go_simp
                      go_at_call 9
                      refine (known_any W).mono ?_
                      rintro e w' ⟨rfl, hb⟩
                      exact hK.out _ _ hb rfl
                    case s1 =>
                      have hx0 : xv 0 = Value.bool true := hd 0 (by kernel_rfl)
                      clear hd
                      simp only [Act.put, List.setIfInBounds_toArray, List.set_cons_succ, List.set_cons_zero] at hK
                      rw [hx0] at hK ⊢
                      refine (if_pos (by rfl)).mpr ?_
                      go_simp
                      exact hK.out _ _ (Below.refl _ _) rfl
                    case s2 =>
                      have hx1 : xv 1 = Value.bool true := hd 1 (by kernel_rfl)
                      clear hd
                      simp only [Act.put, List.setIfInBounds_toArray, List.set_cons_succ, List.set_cons_zero] at hK
                      rw [hx1] at hK ⊢
                      refine (if_pos (by rfl)).mpr ?_
                      go_simp
                      exact hK.out _ _ (Below.refl _ _) rfl
                    case s3 =>
                      have hx1 : xv 1 = Value.bool true := hd 1 (by kernel_rfl)
                      clear hd
                      simp only [Act.put, List.setIfInBounds_toArray, List.set_cons_succ, List.set_cons_zero] at hK
                      rw [hx1] at hK ⊢
                      refine (if_pos (by rfl)).mpr ?_
                      go_simp
                      exact hK.out _ _ (Below.refl _ _) rfl
                    case s4 =>
                      have hx1 : xv 1 = Value.bool true := hd 1 (by kernel_rfl)
                      have hx2 : xv 2 = Value.slice Aa m3 Ca := hd 2 (by kernel_rfl)
                      have hx3 : xv 3 = Value.slice Ab m3 Cb := hd 3 (by kernel_rfl)
                      clear hd
                      simp only [Act.put, List.setIfInBounds_toArray, List.set_cons_succ, List.set_cons_zero] at hK
                      rw [hx1] at hK ⊢
                      rw [hx2] at hK ⊢
                      rw [hx3] at hK ⊢
                      refine (if_pos (by rfl)).mpr ?_
                      go_simp
                      go_at_call 18
                      refine (alike_any Aa Ab m3 Ca Cb L3 W HM3.out (by omega) hca hcb (HRa.out.below hW) (HRb.out.below hW)).mono ?_
                      rintro e w' ⟨rfl, hb⟩
                      exact hK.out _ _ hb rfl
                    case s5 =>
                      have hx1 : xv 1 = Value.bool true := hd 1 (by kernel_rfl)
                      have hx4 : xv 4 = Value.bool true := hd 4 (by kernel_rfl)
                      clear hd
                      simp only [Act.put, List.setIfInBounds_toArray, List.set_cons_succ, List.set_cons_zero] at hK
                      rw [hx1] at hK ⊢
                      rw [hx4] at hK ⊢
                      refine (if_pos (by rfl)).mpr ?_
                      go_simp
                      exact hK.out _ _ (Below.refl _ _) rfl
                    case s6 =>
                      have hx5 : xv 5 = Value.bool true := hd 5 (by kernel_rfl)
                      clear hd
                      simp only [Act.put, List.setIfInBounds_toArray, List.set_cons_succ, List.set_cons_zero] at hK
                      rw [hx5] at hK ⊢
                      refine (if_pos (by rfl)).mpr ?_
                      go_simp
                      exact hK.out _ _ (Below.refl _ _) rfl
                    case s7 =>
                      have hx6 : xv 6 = Value.bool true := hd 6 (by kernel_rfl)
                      clear hd
                      simp only [Act.put, List.setIfInBounds_toArray, List.set_cons_succ, List.set_cons_zero] at hK
                      rw [hx6] at hK ⊢
                      refine (if_pos (by rfl)).mpr ?_
                      go_simp
                      exact hK.out _ _ (Below.refl _ _) rfl
                    case s8 =>
                      have hx6 : xv 6 = Value.bool true := hd 6 (by kernel_rfl)
                      clear hd
                      simp only [Act.put, List.setIfInBounds_toArray, List.set_cons_succ, List.set_cons_zero] at hK
                      rw [hx6] at hK ⊢
                      refine (if_pos (by rfl)).mpr ?_
                      go_simp
                      exact hK.out _ _ (Below.refl _ _) rfl
                    case s9 =>
                      have hx6 : xv 6 = Value.bool true := hd 6 (by kernel_rfl)
                      have hx7 : xv 7 = Value.slice Aa m3 Ca := hd 7 (by kernel_rfl)
                      have hx8 : xv 8 = Value.slice Ac m3 Cc := hd 8 (by kernel_rfl)
                      clear hd
                      simp only [Act.put, List.setIfInBounds_toArray, List.set_cons_succ, List.set_cons_zero] at hK
                      rw [hx6] at hK ⊢
                      rw [hx7] at hK ⊢
                      rw [hx8] at hK ⊢
                      refine (if_pos (by rfl)).mpr ?_
                      go_simp
                      go_at_call 18
                      refine (alike_any Aa Ac m3 Ca Cc L3 W HM3.out (by omega) hca hcc (HRa.out.below hW) (HRc.out.below hW)).mono ?_
                      rintro e w' ⟨rfl, hb⟩
                      exact hK.out _ _ hb rfl
                    case s10 =>
                      have hx6 : xv 6 = Value.bool true := hd 6 (by kernel_rfl)
                      have hx9 : xv 9 = Value.bool true := hd 9 (by kernel_rfl)
                      clear hd
                      simp only [Act.put, List.setIfInBounds_toArray, List.set_cons_succ, List.set_cons_zero] at hK
                      rw [hx6] at hK ⊢
                      rw [hx9] at hK ⊢
                      refine (if_pos (by rfl)).mpr ?_
                      go_simp
                      exact hK.out _ _ (Below.refl _ _) rfl
                    case s11 =>
                      have hx10 : xv 10 = Value.bool true := hd 10 (by kernel_rfl)
                      clear hd
                      simp only [Act.put, List.setIfInBounds_toArray, List.set_cons_succ, List.set_cons_zero] at hK
                      rw [hx10] at hK ⊢
                      refine (if_pos (by rfl)).mpr ?_
                      go_simp
                      exact hK.out _ _ (Below.refl _ _) rfl
                    case s12 =>
                      have hx11 : xv 11 = Value.bool true := hd 11 (by kernel_rfl)
                      clear hd
                      simp only [Act.put, List.setIfInBounds_toArray, List.set_cons_succ, List.set_cons_zero] at hK
                      rw [hx11] at hK ⊢
                      refine (if_pos (by rfl)).mpr ?_
                      go_simp
                      exact hK.out _ _ (Below.refl _ _) rfl
                    case s13 =>
                      have hx11 : xv 11 = Value.bool true := hd 11 (by kernel_rfl)
                      clear hd
                      simp only [Act.put, List.setIfInBounds_toArray, List.set_cons_succ, List.set_cons_zero] at hK
                      rw [hx11] at hK ⊢
                      refine (if_pos (by rfl)).mpr ?_
                      go_simp
                      exact hK.out _ _ (Below.refl _ _) rfl
                    case s14 =>
                      have hx11 : xv 11 = Value.bool true := hd 11 (by kernel_rfl)
                      have hx12 : xv 12 = Value.slice As m5 Cs := hd 12 (by kernel_rfl)
                      have hx13 : xv 13 = Value.slice At m5 Ct := hd 13 (by kernel_rfl)
                      clear hd
                      simp only [Act.put, List.setIfInBounds_toArray, List.set_cons_succ, List.set_cons_zero] at hK
                      rw [hx11] at hK ⊢
                      rw [hx12] at hK ⊢
                      rw [hx13] at hK ⊢
                      refine (if_pos (by rfl)).mpr ?_
                      go_simp
                      go_at_call 18
                      refine (alike_any As At m5 Cs Ct J5 W HM5.out (by omega) hcs hct (HRs.out.below hW) (HRt.out.below hW)).mono ?_
                      rintro e w' ⟨rfl, hb⟩
                      exact hK.out _ _ hb rfl
                    case s15 =>
                      have hx11 : xv 11 = Value.bool true := hd 11 (by kernel_rfl)
                      have hx14 : xv 14 = Value.bool true := hd 14 (by kernel_rfl)
                      clear hd
                      simp only [Act.put, List.setIfInBounds_toArray, List.set_cons_succ, List.set_cons_zero] at hK
                      rw [hx11] at hK ⊢
                      rw [hx14] at hK ⊢
                      refine (if_pos (by rfl)).mpr ?_
                      go_simp
                      exact hK.out _ _ (Below.refl _ _) rfl
                    case s16 =>
                      have hx15 : xv 15 = Value.bool true := hd 15 (by kernel_rfl)
                      clear hd
                      simp only [Act.put, List.setIfInBounds_toArray, List.set_cons_succ, List.set_cons_zero] at hK
                      rw [hx15] at hK ⊢
                      refine (if_pos (by rfl)).mpr ?_
                      go_simp
                      exact hK.out _ _ (Below.refl _ _) rfl
                    case s17 =>
                      have hx16 : xv 16 = Value.bool true := hd 16 (by kernel_rfl)
                      clear hd
                      simp only [Act.put, List.setIfInBounds_toArray, List.set_cons_succ, List.set_cons_zero] at hK
                      rw [hx16] at hK ⊢
                      refine (if_pos (by rfl)).mpr ?_
                      obtain ⟨hq0, hq1, hq2⟩ := cl3 ((hW.block _ (lt_of HX3.out)).trans HX3.out)
                      go_simp
                      exact hK.out _ _ (Below.refl _ _) rfl
                    case s18 =>
                      have hx16 : xv 16 = Value.bool true := hd 16 (by kernel_rfl)
                      have hx17 : xv 17 = Value.agg #[.int .i64 kd3, .string xd3, .slice Ad3 nd3 Cd3] := hd 17 (by kernel_rfl)
                      clear hd
                      simp only [Act.put, List.setIfInBounds_toArray, List.set_cons_succ, List.set_cons_zero] at hK
                      rw [hx16] at hK ⊢
                      rw [hx17] at hK ⊢
                      refine (if_pos (by rfl)).mpr ?_
                      go_simp
                      go_at_call 17
                      refine (show Calls Try.prog 17 _ W (IdPost XF 1 [] W) from (by have := join_none (xf W) (HD3.out.later hW); simpa using this)).mono ?_
                      rintro e w' ⟨⟨k, x, A, n, C, rfl, hd⟩, hb⟩
                      exact hK.out _ _ hb ⟨k, x, A, n, C, rfl, hd⟩
                    case s19 =>
                      have hx16 : xv 16 = Value.bool true := hd 16 (by kernel_rfl)
                      have hx18 : ∃ (k : Int) (x : ByteArray) (A : Option Addr) (n C : Nat), xv 18 = Value.agg #[.int .i64 k, .string x, .slice A n C] ∧ IsD XF W 1 [] k x A n C := hd 18 (by kernel_rfl)
                      clear hd
                      simp only [Act.put, List.setIfInBounds_toArray, List.set_cons_succ, List.set_cons_zero] at hK
                      rw [hx16] at hK ⊢
                      refine (if_pos (by rfl)).mpr ?_
                      obtain ⟨k, x, A, n, C, eg, hd⟩ := hx18
                      rw [eg] at hK ⊢
                      go_simp
                      go_at_call 15
                      refine (plain_is (m := 0) hd (by omega) rfl).mono ?_
                      rintro e w' ⟨⟨A', C', rfl, h1, h2, h3⟩, hb⟩
                      exact hK.out _ _ hb ⟨A', C', rfl, h1, h2, h3⟩
                    case s20 =>
                      have hx16 : xv 16 = Value.bool true := hd 16 (by kernel_rfl)
                      have hx19 : ∃ (A : Option Addr) (C : Nat), xv 19 = Value.slice A 0 C ∧ 0 ≤ C ∧ C ≤ maxLen ∧ RdP W A [] := hd 19 (by kernel_rfl)
                      clear hd
                      simp only [Act.put, List.setIfInBounds_toArray, List.set_cons_succ, List.set_cons_zero] at hK
                      rw [hx16] at hK ⊢
                      refine (if_pos (by rfl)).mpr ?_
                      obtain ⟨A, C, eg, h1, h2, h3⟩ := hx19
                      rw [eg] at hK ⊢
                      go_simp
                      exact hK.out _ _ (Below.refl _ _) rfl
                    case s21 =>
                      have hx16 : xv 16 = Value.bool true := hd 16 (by kernel_rfl)
                      have hx20 : xv 20 = Value.int .i64 0 := hd 20 (by kernel_rfl)
                      clear hd
                      simp only [Act.put, List.setIfInBounds_toArray, List.set_cons_succ, List.set_cons_zero] at hK
                      rw [hx16] at hK ⊢
                      rw [hx20] at hK ⊢
                      refine (if_pos (by rfl)).mpr ?_
                      go_simp
                      exact hK.out _ _ (Below.refl _ _) rfl
                    case s22 =>
                      have hx16 : xv 16 = Value.bool true := hd 16 (by kernel_rfl)
                      have hx21 : xv 21 = Value.bool true := hd 21 (by kernel_rfl)
                      clear hd
                      simp only [Act.put, List.setIfInBounds_toArray, List.set_cons_succ, List.set_cons_zero] at hK
                      rw [hx16] at hK ⊢
                      rw [hx21] at hK ⊢
                      refine (if_pos (by rfl)).mpr ?_
                      go_simp
                      exact hK.out _ _ (Below.refl _ _) rfl
                    case s23 =>
                      have hx22 : xv 22 = Value.bool true := hd 22 (by kernel_rfl)
                      clear hd
                      simp only [Act.put, List.setIfInBounds_toArray, List.set_cons_succ, List.set_cons_zero] at hK
                      rw [hx22] at hK ⊢
                      refine (if_pos (by rfl)).mpr ?_
                      go_simp
                      exact hK.out _ _ (Below.refl _ _) rfl
                    case s24 =>
                      have hx23 : xv 23 = Value.bool true := hd 23 (by kernel_rfl)
                      clear hd
                      simp only [Act.put, List.setIfInBounds_toArray, List.set_cons_succ, List.set_cons_zero] at hK
                      rw [hx23] at hK ⊢
                      refine (if_pos (by rfl)).mpr ?_
                      obtain ⟨hq0, hq1, hq2⟩ := cl3 ((hW.block _ (lt_of HX3.out)).trans HX3.out)
                      go_simp
                      exact hK.out _ _ (Below.refl _ _) rfl
                    case s25 =>
                      have hx23 : xv 23 = Value.bool true := hd 23 (by kernel_rfl)
                      clear hd
                      simp only [Act.put, List.setIfInBounds_toArray, List.set_cons_succ, List.set_cons_zero] at hK
                      rw [hx23] at hK ⊢
                      refine (if_pos (by rfl)).mpr ?_
                      obtain ⟨hq0, hq1, hq2⟩ := cl3 ((hW.block _ (lt_of HX0.out)).trans HX0.out)
                      go_simp
                      exact hK.out _ _ (Below.refl _ _) rfl
                    case s26 =>
                      have hx23 : xv 23 = Value.bool true := hd 23 (by kernel_rfl)
                      have hx25 : xv 25 = Value.agg #[.int .i64 kd0, .string xd0, .slice Ad0 nd0 Cd0] := hd 25 (by kernel_rfl)
                      clear hd
                      simp only [Act.put, List.setIfInBounds_toArray, List.set_cons_succ, List.set_cons_zero] at hK
                      rw [hx23] at hK ⊢
                      rw [hx25] at hK ⊢
                      refine (if_pos (by rfl)).mpr ?_
                      go_simp
                      exact hK.out _ _ ((Below.refl _ _).alloc (Nat.le_refl _) _) ⟨W.heap.size, rfl, heap_alloc_new _ _⟩
                    case s27 =>
                      have hx26 : ∃ (g : Nat) , xv 26 = Value.slice (some ⟨g, 0, none⟩) 1 1 ∧ W.heap[g]? = some (Obj.cells #[.int .i64 kd0, .string xd0, .slice Ad0 nd0 Cd0] 29 (0, 0)) := hd 26 (by kernel_rfl)
                      have hx23 : xv 23 = Value.bool true := hd 23 (by kernel_rfl)
                      have hx24 : xv 24 = Value.agg #[.int .i64 kd3, .string xd3, .slice Ad3 nd3 Cd3] := hd 24 (by kernel_rfl)
                      clear hd
                      simp only [Act.put, List.setIfInBounds_toArray, List.set_cons_succ, List.set_cons_zero] at hK
                      rw [hx23] at hK ⊢
                      rw [hx24] at hK ⊢
                      refine (if_pos (by rfl)).mpr ?_
                      obtain ⟨g, eg, hc⟩ := hx26
                      rw [eg] at hK ⊢
                      go_simp
                      go_at_call 17
                      refine (show Calls Try.prog 17 _ W (IdPost XF 1601 l0 W) from (HE7.out ▸ join_at (xf W) (HD3.out.later hW) (Ds.cons (HD0.out.later hW) Ds.nil) rfl (by omega) hc)).mono ?_
                      rintro e w' ⟨⟨k, x, A, n, C, rfl, hd⟩, hb⟩
                      exact hK.out _ _ hb ⟨k, x, A, n, C, rfl, hd⟩
                    case s28 =>
                      have hx27 : ∃ (k : Int) (x : ByteArray) (A : Option Addr) (n C : Nat), xv 27 = Value.agg #[.int .i64 k, .string x, .slice A n C] ∧ IsD XF W 1601 l0 k x A n C := hd 27 (by kernel_rfl)
                      have hx23 : xv 23 = Value.bool true := hd 23 (by kernel_rfl)
                      clear hd
                      simp only [Act.put, List.setIfInBounds_toArray, List.set_cons_succ, List.set_cons_zero] at hK
                      rw [hx23] at hK ⊢
                      refine (if_pos (by rfl)).mpr ?_
                      obtain ⟨k, x, A, n, C, eg, hd⟩ := hx27
                      rw [eg] at hK ⊢
                      go_simp
                      go_at_call 15
                      refine (plain_is hd (by omega) HM0.out).mono ?_
                      rintro e w' ⟨⟨A', C', rfl, h1, h2, h3⟩, hb⟩
                      exact hK.out _ _ hb ⟨A', C', rfl, h1, h2, h3⟩
                    case s29 =>
                      have hx23 : xv 23 = Value.bool true := hd 23 (by kernel_rfl)
                      clear hd
                      simp only [Act.put, List.setIfInBounds_toArray, List.set_cons_succ, List.set_cons_zero] at hK
                      rw [hx23] at hK ⊢
                      refine (if_pos (by rfl)).mpr ?_
                      obtain ⟨hq0, hq1, hq2⟩ := cl3 ((hW.block _ (lt_of HX0.out)).trans HX0.out)
                      go_simp
                      exact hK.out _ _ (Below.refl _ _) rfl
                    case s30 =>
                      have hx23 : xv 23 = Value.bool true := hd 23 (by kernel_rfl)
                      have hx29 : xv 29 = Value.agg #[.int .i64 kd0, .string xd0, .slice Ad0 nd0 Cd0] := hd 29 (by kernel_rfl)
                      clear hd
                      simp only [Act.put, List.setIfInBounds_toArray, List.set_cons_succ, List.set_cons_zero] at hK
                      rw [hx23] at hK ⊢
                      rw [hx29] at hK ⊢
                      refine (if_pos (by rfl)).mpr ?_
                      go_simp
                      go_at_call 15
                      refine (plain_is (HD0.out.later hW) (by omega) HM0.out).mono ?_
                      rintro e w' ⟨⟨A', C', rfl, h1, h2, h3⟩, hb⟩
                      exact hK.out _ _ hb ⟨A', C', rfl, h1, h2, h3⟩
                    case s31 =>
                      have hx23 : xv 23 = Value.bool true := hd 23 (by kernel_rfl)
                      have hx28 : ∃ (A : Option Addr) (C : Nat), xv 28 = Value.slice A m0 C ∧ m0 ≤ C ∧ C ≤ maxLen ∧ RdP W A l0 := hd 28 (by kernel_rfl)
                      have hx30 : ∃ (A : Option Addr) (C : Nat), xv 30 = Value.slice A m0 C ∧ m0 ≤ C ∧ C ≤ maxLen ∧ RdP W A l0 := hd 30 (by kernel_rfl)
                      clear hd
                      simp only [Act.put, List.setIfInBounds_toArray, List.set_cons_succ, List.set_cons_zero] at hK
                      rw [hx23] at hK ⊢
                      refine (if_pos (by rfl)).mpr ?_
                      obtain ⟨A, C, eg, h1, h2, h3⟩ := hx28
                      obtain ⟨A2, C2, eg2, g1, g2, g3⟩ := hx30
                      rw [eg, eg2] at hK ⊢
                      go_simp
                      go_at_call 18
                      refine (alike_any A A2 m0 C C2 l0 W HM0.out (by omega) h1 g1 h3 g3).mono ?_
                      rintro e w' ⟨rfl, hb⟩
                      exact hK.out _ _ hb rfl
                    case s32 =>
                      have hx23 : xv 23 = Value.bool true := hd 23 (by kernel_rfl)
                      have hx31 : xv 31 = Value.bool true := hd 31 (by kernel_rfl)
                      clear hd
                      simp only [Act.put, List.setIfInBounds_toArray, List.set_cons_succ, List.set_cons_zero] at hK
                      rw [hx23] at hK ⊢
                      rw [hx31] at hK ⊢
                      refine (if_pos (by rfl)).mpr ?_
                      go_simp
                      exact hK.out _ _ (Below.refl _ _) rfl
                    case s33 =>
                      have hx32 : xv 32 = Value.bool true := hd 32 (by kernel_rfl)
                      clear hd
                      simp only [Act.put, List.setIfInBounds_toArray, List.set_cons_succ, List.set_cons_zero] at hK
                      rw [hx32] at hK ⊢
                      refine (if_pos (by rfl)).mpr ?_
                      go_simp
                      exact hK.out _ _ (Below.refl _ _) rfl
                  case behind =>
                    intro xv W hW hx a ha
                    replace hW : Below Wa.heap.size Wa W := ⟨hW.os, hW.tape, hW.output, hW.size, hW.block⟩
                    simp only [fillA] at ha
                    simp only [List.setIfInBounds_toArray, List.set_cons_succ, List.set_cons_zero, Nat.zero_add, Nat.reduceAdd] at ha
                    subst ha
                    have e1 : xv 33 = Value.bool true := hx 33 (by decide)
                    rw [e1]
                    have HBF := Lib.hid (HBWa.out.trans (hW.mono HBWa.out.size))
                    clear hx e1 hW
                    go_wp2
                    go_ret
                    exact ⟨rfl, HBF.out⟩
end Go.Proofs.Ytllpdccpenghgaa.Doc
