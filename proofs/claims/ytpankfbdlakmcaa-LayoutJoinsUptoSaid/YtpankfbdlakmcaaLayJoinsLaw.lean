/-
  Layer 8 (layout): the law LayoutJoins. Written by gen_layjoins.py.
-/
import Derived.Test.YtpankfbdlakmcaaLayWordsLaw
import Derived.Test.YtpankfbdlakmcaaDocBulk
namespace Go.Proofs.Ytpankfbdlakmcaa.Doc
open Go.ChangeShapes Go.WideShapes Go.ChangeAt Go.RowKit Mem
set_option linter.unusedVariables false

theorem lyS_hard (n : Int) {a : List Pc} (ha : Bal a) (b : List Pc) : lyS n (a ++ ((4, emp) : Pc) :: b) = lyS n (a ++ [((4, emp) : Pc)]) ++ lyS n b := by
  unfold lyS
  rw [lay_hard _ ha]
  apply ByteArray.ext
  simp [ByteArray.data_append]
theorem lyS_size {n : Int} {l : List Pc} (h : l.length ≤ 10000) : (lyS n l).size ≤ txL l + 100010000 := by
  show (layS (pg n) l).toArray.size ≤ _
  rw [List.size_toArray]
  exact lay_size h
theorem cells_of {w : World} {b : Nat} {cs : Array Value} {T : TypeId} (h : w.heap[b]? = some (Obj.cells cs T (0, 0))) : ∀ (j : Nat) u, cs.toList[j]? = some u → w.cell? ⟨b, 0 + j, none⟩ = some u := fun j u hu => by
  simp only [World.cell?, h, Nat.zero_add]
  simpa using hu
theorem row_box {X : Nat → Prop} {w : World} {b n M : Nat} {cs : Array Value} {T : TypeId} {ls : List (List Pc)} (hX : ∀ b, X b → b < w.heap.size) (h : Ds X w cs.toList ls M) (hl : cs.size = n * 3) (hM : M ≤ 50000) (hn : n ≤ 50000) (hc : w.heap[b]? = some (Obj.cells cs T (0, 0))) :
    Calls Try.prog 22 #[.slice (some ⟨b, 0, none⟩) n n] w (IdPost X (M + 1) ls.flatten w) :=
  row_ds hX h (by rw [Array.length_toList]; exact hl) hM (.inr ⟨b, 0, rfl, cells_of hc⟩) (Nat.le_refl _) (by unfold maxLen; omega)

set_option maxHeartbeats 32000000 in
set_option maxRecDepth 100000 in
theorem layoutJoins_walk (k0 : Int) (x0 : ByteArray) (A0 : Option Addr) (n0 C0 : Nat) (c0 : G) (k1 : Int) (x1 : ByteArray) (A1 : Option Addr) (n1 C1 : Nat) (c1 : G) (ni : Int) (w : World) (hs0 : Gs w (Lo w.heap.size) (.slice A0 n0 C0) c0) (hs1 : Gs w (Lo w.heap.size) (.slice A1 n1 C1) c1) (ht : x0.size + txt c0 + (x1.size + txt c1) ≤ 1048576) :
    Calls Try.prog 7 #[.agg #[.int .i64 k0, .string x0, .slice A0 n0 C0], .agg #[.int .i64 k1, .string x1, .slice A1 n1 C1], .int .i64 ni] w fun e w' => e = .returned (.bool true) ∧ Below w.heap.size w w' := by
  have HT := Lib.hid ht
  clear ht
  have b0 := (Below.refl w.heap.size w).alloc (Nat.le_refl _) (.cells #[.int .i64 k0, .string x0, .slice A0 n0 C0] 24)
  have hx0 := heap_alloc_new w (.cells #[.int .i64 k0, .string x0, .slice A0 n0 C0] 24)
  have hz0 : (w.alloc (.cells #[.int .i64 k0, .string x0, .slice A0 n0 C0] 24)).heap.size = w.heap.size + 1 := World.size_alloc _ _
  obtain ⟨v0, hw0⟩ : ∃ v0, w.alloc (.cells #[.int .i64 k0, .string x0, .slice A0 n0 C0] 24) = v0 := ⟨_, rfl⟩
  rw [hw0] at b0 hx0 hz0
  have b1 := (Below.refl v0.heap.size v0).alloc (Nat.le_refl _) (.cells #[.int .i64 k1, .string x1, .slice A1 n1 C1] 24)
  have hx1 := heap_alloc_new v0 (.cells #[.int .i64 k1, .string x1, .slice A1 n1 C1] 24)
  have hz1 : (v0.alloc (.cells #[.int .i64 k1, .string x1, .slice A1 n1 C1] 24)).heap.size = v0.heap.size + 1 := World.size_alloc _ _
  obtain ⟨v1, hw1⟩ : ∃ v1, v0.alloc (.cells #[.int .i64 k1, .string x1, .slice A1 n1 C1] 24) = v1 := ⟨_, rfl⟩
  rw [hw1] at b1 hx1 hz1
  replace hx0 := (b1.block w.heap.size (by omega)).trans hx0
  have HW : Hid ((w.alloc (.cells #[.int .i64 k0, .string x0, .slice A0 n0 C0] 24)).alloc (.cells #[.int .i64 k1, .string x1, .slice A1 n1 C1] 24) = v1) := by show _ = _; rw [hw0, hw1]
  have HBv1 : Hid (Below w.heap.size w v1) := (b0.trans (b1.mono (by omega)))
  obtain ⟨g0, hg0⟩ : ∃ g, w.heap.size = g := ⟨_, rfl⟩
  obtain ⟨g1, hg1⟩ : ∃ g, v0.heap.size = g := ⟨_, rfl⟩
  have hga0 : g0 = w.heap.size := by omega
  rw [hg0, hga0] at hx0
  have hga1 : g1 = w.heap.size + 1 := by omega
  rw [hg1, hga1] at hx1
  clear b0 hw0 b1 hw1
  obtain ⟨p00, p01, p02⟩ := cl3 hx0
  have HX0 := Lib.hid hx0
  have HS0 := Lib.hid hs0
  obtain ⟨p10, p11, p12⟩ := cl3 hx1
  have HX1 := Lib.hid hx1
  have HS1 := Lib.hid hs1
  have HF := Lib.hid (few_any k0 x0 A0 n0 C0 c0 _ (lo_later hs0 HBv1.out))
  clear hx0 hs0 hz0 hg0 hga0 g0 hx1 hs1 hz1 hg1 hga1 g1
  rw [← HW.out] at p00 p01 p02 p10 p11 p12
  go_enter Try.func7, Try.ntmps7
  go_wp2_with fail
  rw [HW.out]
  refine HF.out.mono ?_
  rintro e u0 ⟨⟨fb, rfl, hf0⟩, hb⟩
  have HBu0 := Lib.hid (HBv1.out.trans (hb.mono HBv1.out.size))
  have hx0 := (hb.block _ (lt_of HX0.out)).trans HX0.out
  replace HX0 := Lib.hid hx0
  have hx1 := (hb.block _ (lt_of HX1.out)).trans HX1.out
  replace HX1 := Lib.hid hx1
  clear hb p00 p01 p02 p10 p11 p12 HF
  obtain ⟨p00, p01, p02⟩ := cl3 hx0
  obtain ⟨p10, p11, p12⟩ := cl3 hx1
  clear hx0 hx1
  cases fb with
  | false =>
    go_wp2_with fail
    refine (known_any u0).mono ?_
    rintro e wk ⟨rfl, hbk⟩
    have HBK := Lib.hid (HBu0.out.trans (hbk.mono HBu0.out.size))
    clear hbk
    go_wp2
    go_ret
    exact ⟨rfl, HBK.out⟩
  | true =>
    replace hf0 := hf0 rfl
    have HF := Lib.hid (few_any k1 x1 A1 n1 C1 c1 _ (lo_later HS1.out HBu0.out))
    go_wp2_with fail
    refine HF.out.mono ?_
    rintro e u1 ⟨⟨fb, rfl, hf1⟩, hb⟩
    have HBu1 := Lib.hid (HBu0.out.trans (hb.mono HBu0.out.size))
    have hx0 := (hb.block _ (lt_of HX0.out)).trans HX0.out
    replace HX0 := Lib.hid hx0
    have hx1 := (hb.block _ (lt_of HX1.out)).trans HX1.out
    replace HX1 := Lib.hid hx1
    clear hb p00 p01 p02 p10 p11 p12 HF
    obtain ⟨p00, p01, p02⟩ := cl3 hx0
    obtain ⟨p10, p11, p12⟩ := cl3 hx1
    clear hx0 hx1
    cases fb with
    | false =>
      go_wp2_with fail
      refine (known_any u1).mono ?_
      rintro e wk ⟨rfl, hbk⟩
      have HBK := Lib.hid (HBu1.out.trans (hbk.mono HBu1.out.size))
      clear hbk
      go_wp2
      go_ret
      exact ⟨rfl, HBK.out⟩
    | true =>
      replace hf1 := hf1 rfl
      clear p00 p01 p02 p10 p11 p12
      have hsz0 := b1_size k0 x0 c0
      have hok0 := okN_b1 k0 x0 c0
      have hpc0 := pcs_b1 k0 x0 c0
      have HBT0 : Hid (∀ (X : Nat → Prop) W, (∀ b, X b → b < W.heap.size) → Below u1.heap.size u1 W → Calls Try.prog 12 #[.agg #[.int .i64 k0, .string x0, .slice A0 n0 C0]] W (DocPost X (b1 k0 x0 c0) W)) := fun X W hX hb => built_any c0.size (by omega) X k0 x0 A0 n0 C0 c0 W (Nat.le_refl _) hX (lo_later HS0.out (HBu1.out.trans (hb.mono HBu1.out.size)))
      obtain ⟨d0, hd0⟩ : ∃ d, b1 k0 x0 c0 = d := ⟨_, rfl⟩
      rw [hd0] at hsz0 hok0 hpc0 HBT0
      clear hd0
      have hsz1 := b1_size k1 x1 c1
      have hok1 := okN_b1 k1 x1 c1
      have hpc1 := pcs_b1 k1 x1 c1
      have HBT1 : Hid (∀ (X : Nat → Prop) W, (∀ b, X b → b < W.heap.size) → Below u1.heap.size u1 W → Calls Try.prog 12 #[.agg #[.int .i64 k1, .string x1, .slice A1 n1 C1]] W (DocPost X (b1 k1 x1 c1) W)) := fun X W hX hb => built_any c1.size (by omega) X k1 x1 A1 n1 C1 c1 W (Nat.le_refl _) hX (lo_later HS1.out (HBu1.out.trans (hb.mono HBu1.out.size)))
      obtain ⟨d1, hd1⟩ : ∃ d, b1 k1 x1 c1 = d := ⟨_, rfl⟩
      rw [hd1] at hsz1 hok1 hpc1 HBT1
      clear hd1
      go_wp2
      refine region_inv (IB 2 u1.drew (fun i => [.agg #[.int .i64 k0, .string x0, .slice A0 n0 C0], .agg #[.int .i64 k1, .string x1, .slice A1 n1 C1]].getD i undef) (fun i => [d0, d1].getD i ⟨0, emp, .nil⟩)) (by kernel_rfl) (by decide) (by kernel_rfl) IB.start ?steps ?done
      case steps =>
        intro L xv W hI a ha
        have hW : Below u1.heap.size u1 W := ⟨hI.bel.os, hI.bel.tape, hI.bel.output, hI.bel.size, hI.bel.block⟩
        simp only [fillA] at ha
        simp only [List.setIfInBounds_toArray, List.set_cons_succ, List.set_cons_zero, Nat.zero_add, Nat.reduceAdd] at ha
        subst ha
        refine ⟨fun hL hd K hK => ?s0, fun hL hd K hK => ?s1, fun hL hd K hK => ?s2, fun hL hd K hK => ?s3, fun hL hd K hK => ?s4, fun hL hd K hK => ?s5, fun hL hd K hK => ?s6, fun hL hd K hK => ?s7, trivial⟩
        case s0 =>
          clear hd
          simp only [Act.put, List.setIfInBounds_toArray, List.set_cons_succ, List.set_cons_zero] at hK
          refine (if_pos (by rfl)).mpr ?_
          obtain ⟨hq0, hq1, hq2⟩ := cl3 ((hW.block _ (lt_of HX0.out)).trans HX0.out)
          go_simp
          exact hK.out _ _ (hI.loadStep (i := 0) (by decide) hL)
        case s1 =>
          have hx : xv 0 = .agg #[.int .i64 k0, .string x0, .slice A0 n0 C0] := hI.load 0 (by decide) (hd 0 (by kernel_rfl))
          clear hd
          simp only [Act.put, List.setIfInBounds_toArray, List.set_cons_succ, List.set_cons_zero] at hK
          rw [hx] at hK ⊢
          refine (if_pos (by rfl)).mpr ?_
          go_simp
          go_at_call 12
          refine (HBT0.out _ W (fun b hb => hI.lt hb) hW).mono ?_
          rintro e w' ⟨s, rfl, hg, hb⟩
          exact hK.out _ _ (hI.callStep (i := 0) (by decide) hL hb hg)
        case s2 =>
          clear hd
          simp only [Act.put, List.setIfInBounds_toArray, List.set_cons_succ, List.set_cons_zero] at hK
          refine (if_pos (by rfl)).mpr ?_
          obtain ⟨hq0, hq1, hq2⟩ := cl3 ((hW.block _ (lt_of HX1.out)).trans HX1.out)
          go_simp
          exact hK.out _ _ (hI.loadStep (i := 1) (by decide) hL)
        case s3 =>
          have hx : xv 2 = .agg #[.int .i64 k1, .string x1, .slice A1 n1 C1] := hI.load 1 (by decide) (hd 2 (by kernel_rfl))
          clear hd
          simp only [Act.put, List.setIfInBounds_toArray, List.set_cons_succ, List.set_cons_zero] at hK
          rw [hx] at hK ⊢
          refine (if_pos (by rfl)).mpr ?_
          go_simp
          go_at_call 12
          refine (HBT1.out _ W (fun b hb => hI.lt hb) hW).mono ?_
          rintro e w' ⟨s, rfl, hg, hb⟩
          exact hK.out _ _ (hI.callStep (i := 1) (by decide) hL hb hg)
        case s4 =>
          clear hd
          simp only [Act.put, List.setIfInBounds_toArray, List.set_cons_succ, List.set_cons_zero] at hK
          refine (if_pos (by rfl)).mpr ?_
          go_simp
          exact hK.out _ _ (hI.boxStep (i := 0) (by decide) hL ((Below.refl _ _).alloc (Nat.le_refl _) _) (heap_alloc_new _ _))
        case s5 =>
          clear hd
          simp only [Act.put, List.setIfInBounds_toArray, List.set_cons_succ, List.set_cons_zero] at hK
          refine (if_pos (by rfl)).mpr ?_
          go_simp
          exact hK.out _ _ (hI.boxStep (i := 1) (by decide) hL ((Below.refl _ _).alloc (Nat.le_refl _) _) (heap_alloc_new _ _))
        case s6 =>
          obtain ⟨g, y0, y1, y2, A, C, e1, e2, hc, hst⟩ := hI.storeStep (i := 0) (by decide) (hd 1 (by kernel_rfl)) (hd 4 (by kernel_rfl))
          clear hd
          replace e1 : xv 4 = .pointer (some ⟨g, 0, none⟩) := e1
          replace e2 : xv 1 = .agg #[.int .i64 d0.k, .string d0.x, .slice A d0.c.len C] := e2
          simp only [Act.put] at hK
          rw [e1, e2] at hK ⊢
          refine (if_pos (by rfl)).mpr ?_
          obtain ⟨z0, z1, z2⟩ := cl3 hc
          have f0 := frz hc 0
          have f1 := frz hc 1
          have f2 := frz hc 2
          go_simp
          exact hK.out undef _ (hst undef)
        case s7 =>
          obtain ⟨g, y0, y1, y2, A, C, e1, e2, hc, hst⟩ := hI.storeStep (i := 1) (by decide) (hd 3 (by kernel_rfl)) (hd 5 (by kernel_rfl))
          clear hd
          replace e1 : xv 5 = .pointer (some ⟨g, 0, none⟩) := e1
          replace e2 : xv 3 = .agg #[.int .i64 d1.k, .string d1.x, .slice A d1.c.len C] := e2
          simp only [Act.put] at hK
          rw [e1, e2] at hK ⊢
          refine (if_pos (by rfl)).mpr ?_
          obtain ⟨z0, z1, z2⟩ := cl3 hc
          have f0 := frz hc 0
          have f1 := frz hc 1
          have f2 := frz hc 2
          go_simp
          exact hK.out undef _ (hst undef)
      case done =>
        intro L xv W hI hall a ha
        have hW : Below u1.heap.size u1 W := ⟨hI.bel.os, hI.bel.tape, hI.bel.output, hI.bel.size, hI.bel.block⟩
        simp only [fillA] at ha
        simp only [List.setIfInBounds_toArray, List.set_cons_succ, List.set_cons_zero, Nat.zero_add, Nat.reduceAdd] at ha
        subst ha
        obtain ⟨g0, y0, y1, y2, e1, hge, hc, hst⟩ := hI.box 0 (by decide) (hall 4 (by decide))
        obtain ⟨s, e2, hgs⟩ := hI.call 0 (by decide) (hall 1 (by decide))
        obtain ⟨Ad0, Cd0, rfl, _, _⟩ := hgs.slice
        have e3 := (hst (hall 6 (by decide))).symm.trans e2
        replace e1 : xv 4 = .pointer (some ⟨g0, 0, none⟩) := e1
        replace hgs : Gs W _ (.slice Ad0 d0.c.len Cd0) d0.c := hgs
        replace e3 : Value.agg #[y0, y1, y2] = .agg #[.int .i64 d0.k, .string d0.x, .slice Ad0 d0.c.len Cd0] := e3
        injection e3 with e3
        simp only [Array.mk.injEq, List.cons.injEq, and_true] at e3
        obtain ⟨rfl, rfl, rfl⟩ := e3
        have HD0 : Hid (IsD XF W 800 (plOne k0 x0 (plP c0)) d0.k d0.x Ad0 d0.c.len Cd0) := ⟨d0.c, hgs.more (fun b hb => ⟨hb.1, fun h => h.elim⟩), hpc0, by show nsize d0 ≤ 800; omega, hok0⟩
        replace HX0 := Lib.hid hc
        rw [e1]
        clear e1 e2 hge hc hst hgs hpc0 hok0 hsz0 HBT0
        obtain ⟨g1, y0, y1, y2, e1, hge, hc, hst⟩ := hI.box 1 (by decide) (hall 5 (by decide))
        obtain ⟨s, e2, hgs⟩ := hI.call 1 (by decide) (hall 3 (by decide))
        obtain ⟨Ad1, Cd1, rfl, _, _⟩ := hgs.slice
        have e3 := (hst (hall 7 (by decide))).symm.trans e2
        replace e1 : xv 5 = .pointer (some ⟨g1, 0, none⟩) := e1
        replace hgs : Gs W _ (.slice Ad1 d1.c.len Cd1) d1.c := hgs
        replace e3 : Value.agg #[y0, y1, y2] = .agg #[.int .i64 d1.k, .string d1.x, .slice Ad1 d1.c.len Cd1] := e3
        injection e3 with e3
        simp only [Array.mk.injEq, List.cons.injEq, and_true] at e3
        obtain ⟨rfl, rfl, rfl⟩ := e3
        have HD1 : Hid (IsD XF W 800 (plOne k1 x1 (plP c1)) d1.k d1.x Ad1 d1.c.len Cd1) := ⟨d1.c, hgs.more (fun b hb => ⟨hb.1, fun h => h.elim⟩), hpc1, by show nsize d1 ≤ 800; omega, hok1⟩
        replace HX1 := Lib.hid hc
        rw [e1]
        clear e1 e2 hge hc hst hgs hpc1 hok1 hsz1 HBT1
        have HB := Lib.hid (HBu1.out.trans (hW.mono HBu1.out.size))
        clear hW hI hall HBv1 HBu0 HBu1
        obtain ⟨kd0, xd0, cd0⟩ := d0
        obtain ⟨nd0, hnd0⟩ : ∃ nd, cd0.len = nd := ⟨_, rfl⟩
        obtain ⟨l0, hl0⟩ : ∃ l, plOne k0 x0 (plP c0) = l := ⟨_, rfl⟩
        dsimp only at HD0 HX0
        rw [hnd0] at HD0 HX0
        rw [hl0] at HD0
        have HL0 := Lib.hid hl0
        clear hnd0 hl0
        obtain ⟨kd1, xd1, cd1⟩ := d1
        obtain ⟨nd1, hnd1⟩ : ∃ nd, cd1.len = nd := ⟨_, rfl⟩
        obtain ⟨l1, hl1⟩ : ∃ l, plOne k1 x1 (plP c1) = l := ⟨_, rfl⟩
        dsimp only at HD1 HX1
        rw [hnd1] at HD1 HX1
        rw [hl1] at HD1
        have HL1 := Lib.hid hl1
        clear hnd1 hl1
        have HBAL0 : Hid (Bal l0) := by show Bal l0; rw [← HL0.out]; exact plan_bal k0 x0 c0
        have HBAL1 : Hid (Bal l1) := by show Bal l1; rw [← HL1.out]; exact plan_bal k1 x1 c1
        have hn0 : l0.length ≤ 802 := by rw [← HL0.out]; exact plan_len hf0
        have hn1 : l1.length ≤ 802 := by rw [← HL1.out]; exact plan_len hf1
        have htt := HT.out
        have ht0 : txL l0 ≤ 1048576 := by rw [← HL0.out]; exact plan_txt (by omega)
        have ht1 : txL l1 ≤ 1048576 := by rw [← HL1.out]; exact plan_txt (by omega)
        obtain ⟨LX, hLX⟩ : ∃ L, l0 ++ ((4, emp) : Pc) :: l1 = L := ⟨_, rfl⟩
        obtain ⟨LT, hLT⟩ : ∃ L, l0 ++ [((4, emp) : Pc)] = L := ⟨_, rfl⟩
        have HE1 : Hid (([l0, [((4, emp) : Pc)], l1] : List (List Pc)).flatten = LX) := by show _ = _; rw [← hLX]; simp
        have HE2 : Hid (([l0, [((4, emp) : Pc)]] : List (List Pc)).flatten = LT) := by show _ = _; rw [← hLT]; simp
        have hy : lyS ni LX = lyS ni LT ++ lyS ni l1 := by rw [← hLX, ← hLT]; exact lyS_hard ni HBAL0.out l1
        have hB4 : Bal [((4, emp) : Pc)] := Bal.leaf (by decide)
        have hBX : Bal LX := by rw [← hLX]; exact HBAL0.out.app (hB4.app HBAL1.out)
        have hBT : Bal LT := by rw [← hLT]; exact HBAL0.out.app hB4
        have hLXl : LX.length ≤ 10000 := by rw [← hLX, List.length_append, List.length_cons]; omega
        have hLTl : LT.length ≤ 10000 := by rw [← hLT, List.length_append, List.length_cons, List.length_nil]; omega
        have e4 : txL [((4, emp) : Pc)] = 0 := rfl
        have e4b : txL (((4, emp) : Pc) :: l1) = txL l1 := by show 0 + txL l1 = _; omega
        have hLXt : txL LX ≤ 400000000 := by rw [← hLX, txL_app, e4b]; omega
        have hLTt : txL LT ≤ 1048576 := by rw [← hLT, txL_app, e4]; omega
        obtain ⟨yt, hyt⟩ : ∃ y, lyS ni LT = y := ⟨_, rfl⟩
        obtain ⟨yu, hyu⟩ : ∃ y, lyS ni l1 = y := ⟨_, rfl⟩
        rw [hyt, hyu] at hy
        have hst : yt.size ≤ txL LT + 100010000 := by rw [← hyt]; exact lyS_size hLTl
        have hsu : yu.size ≤ txL l1 + 100010000 := by rw [← hyu]; exact lyS_size (Nat.le_trans hn1 (by omega))
        have HADD : Hid (yt.size + yu.size ≤ 1000000000) := by show _ ≤ _; omega
        obtain ⟨ys, hys⟩ : ∃ y, lyS ni LX = y := ⟨_, rfl⟩
        have HYS : Hid (ys = yt ++ yu) := by show _ = _; rw [← hys]; exact hy
        have HOX : Hid (∀ W' k x A n C, IsD XF W' 1602 LX k x A n C → Calls Try.prog 11 #[.agg #[.int .i64 k, .string x, .slice A n C], .int .i64 (pg ni : Int)] W' fun e w' => e = .returned (.tuple #[.string ys, .int .i64 0]) ∧ Below W'.heap.size W' w') := fun W' k x A n C h => by
          rw [← hys]; exact page_of ni h (by omega) hBX hLXl hLXt
        have HOT : Hid (∀ W' k x A n C, IsD XF W' 802 LT k x A n C → Calls Try.prog 11 #[.agg #[.int .i64 k, .string x, .slice A n C], .int .i64 (pg ni : Int)] W' fun e w' => e = .returned (.tuple #[.string yt, .int .i64 0]) ∧ Below W'.heap.size W' w') := fun W' k x A n C h => by
          rw [← hyt]; exact page_of ni h (by omega) hBT hLTl (by omega)
        have HOU : Hid (∀ W' k x A n C, IsD XF W' 800 l1 k x A n C → Calls Try.prog 11 #[.agg #[.int .i64 k, .string x, .slice A n C], .int .i64 (pg ni : Int)] W' fun e w' => e = .returned (.tuple #[.string yu, .int .i64 0]) ∧ Below W'.heap.size W' w') := fun W' k x A n C h => by
          rw [← hyu]; exact page_of ni h (by omega) HBAL1.out (Nat.le_trans hn1 (by omega)) (by omega)
        have HBW := Lib.hid HB.out
        clear HB hf0 hf1 HL0 HL1 HS0 HS1 hn0 hn1 htt ht0 ht1 hLX hLT hy hB4 hBX hBT hLXl hLTl e4 e4b hLXt hLTt hst hsu hyt hyu hys HBAL0 HBAL1
        go_wp2
        obtain ⟨Wa, hWa⟩ : ∃ Wa, Wa = W := ⟨W, rfl⟩
        subst hWa
        refine region_rel (fun W W' => Below W.heap.size W W') [Cd.is (Value.agg #[.int .i64 kd0, .string xd0, .slice Ad0 nd0 Cd0]), ⟨fun v W => ∃ (k : Int) (x : ByteArray) (A : Option Addr) (n C : Nat), v = Value.agg #[.int .i64 k, .string x, .slice A n C] ∧ IsD XF W 1 [((4, emp) : Pc)] k x A n C, fun v W W' hU h => by obtain ⟨k, x, A, n, C, e, hd⟩ := h; exact ⟨k, x, A, n, C, e, hd.later hU⟩⟩, Cd.is (Value.agg #[.int .i64 kd1, .string xd1, .slice Ad1 nd1 Cd1]), ⟨fun v W => ∃ (g : Nat) (kh : Int) (xh : ByteArray) (Ah : Option Addr) (nh Ch : Nat), v = Value.slice (some ⟨g, 0, none⟩) 3 3 ∧ W.heap[g]? = some (Obj.cells #[.int .i64 kd0, .string xd0, .slice Ad0 nd0 Cd0, .int .i64 kh, .string xh, .slice Ah nh Ch, .int .i64 kd1, .string xd1, .slice Ad1 nd1 Cd1] 32 (0, 0)) ∧ IsD XF W 1 [((4, emp) : Pc)] kh xh Ah nh Ch, fun v W W' hU h => by obtain ⟨g, kh, xh, Ah, nh, Ch, e, hc, hdh⟩ := h; exact ⟨g, kh, xh, Ah, nh, Ch, e, (hU.block g (lt_of hc)).trans hc, hdh.later hU⟩⟩, ⟨fun v W => ∃ (k : Int) (x : ByteArray) (A : Option Addr) (n C : Nat), v = Value.agg #[.int .i64 k, .string x, .slice A n C] ∧ IsD XF W 1602 LX k x A n C, fun v W W' hU h => by obtain ⟨k, x, A, n, C, e, hd⟩ := h; exact ⟨k, x, A, n, C, e, hd.later hU⟩⟩, Cd.is (Value.int .i64 ni), Cd.is (Value.int .i64 (pg ni : Int)), Cd.is (Value.tuple #[.string ys, .int .i64 0]), Cd.is (Value.tuple #[.string ys, .int .i64 0]), Cd.is (Value.string ys), Cd.is (Value.int .i64 0), Cd.is (Value.string ys), Cd.is (Value.int .i64 0)] (by kernel_rfl) (by decide) (by kernel_rfl) (Below.refl _ _) (fun _ _ _ h k => h.trans (k.mono h.size)) ?steps ?behind
        case steps =>
          intro xv W hW a ha
          replace hW : Below Wa.heap.size Wa W := ⟨hW.os, hW.tape, hW.output, hW.size, hW.block⟩
          simp only [fillA] at ha
          simp only [List.setIfInBounds_toArray, List.set_cons_succ, List.set_cons_zero, Nat.zero_add, Nat.reduceAdd] at ha
          subst ha
          refine ⟨fun hd K hK => ?s0, fun hd K hK => ?s1, fun hd K hK => ?s2, fun hd K hK => ?s3, fun hd K hK => ?s4, fun hd K hK => ?s5, fun hd K hK => ?s6, fun hd K hK => ?s7, fun hd K hK => ?s8, fun hd K hK => ?s9, fun hd K hK => ?s10, fun hd K hK => ?s11, fun hd K hK => ?s12, trivial⟩
          case s0 =>
            clear hd
            simp only [Act.put, List.setIfInBounds_toArray, List.set_cons_succ, List.set_cons_zero] at hK
            refine (if_pos (by rfl)).mpr ?_
            obtain ⟨hq0, hq1, hq2⟩ := cl3 ((hW.block _ (lt_of HX0.out)).trans HX0.out)
            go_simp
            exact hK.out _ _ (Below.refl _ _) rfl
          case s1 =>
            clear hd
            simp only [Act.put, List.setIfInBounds_toArray, List.set_cons_succ, List.set_cons_zero] at hK
            refine (if_pos (by rfl)).mpr ?_
            go_simp
            go_at_call 23
            refine (hard_is XF W).mono ?_
            rintro e w' ⟨⟨k, x, A, n, C, rfl, hd⟩, hb⟩
            exact hK.out _ _ hb ⟨k, x, A, n, C, rfl, hd⟩
          case s2 =>
            clear hd
            simp only [Act.put, List.setIfInBounds_toArray, List.set_cons_succ, List.set_cons_zero] at hK
            refine (if_pos (by rfl)).mpr ?_
            obtain ⟨hq0, hq1, hq2⟩ := cl3 ((hW.block _ (lt_of HX1.out)).trans HX1.out)
            go_simp
            exact hK.out _ _ (Below.refl _ _) rfl
          case s3 =>
            have hx0 : xv 0 = Value.agg #[.int .i64 kd0, .string xd0, .slice Ad0 nd0 Cd0] := hd 0 (by kernel_rfl)
            have hx1 : ∃ (k : Int) (x : ByteArray) (A : Option Addr) (n C : Nat), xv 1 = Value.agg #[.int .i64 k, .string x, .slice A n C] ∧ IsD XF W 1 [((4, emp) : Pc)] k x A n C := hd 1 (by kernel_rfl)
            have hx2 : xv 2 = Value.agg #[.int .i64 kd1, .string xd1, .slice Ad1 nd1 Cd1] := hd 2 (by kernel_rfl)
            clear hd
            simp only [Act.put, List.setIfInBounds_toArray, List.set_cons_succ, List.set_cons_zero] at hK
            rw [hx0] at hK ⊢
            rw [hx2] at hK ⊢
            refine (if_pos (by rfl)).mpr ?_
            obtain ⟨kh, xh, Ah, nh, Ch, eqh, hdh⟩ := hx1
            rw [eqh] at hK ⊢
            go_simp
            exact hK.out _ _ ((Below.refl _ _).alloc (Nat.le_refl _) _) ⟨W.heap.size, kh, xh, Ah, nh, Ch, rfl, heap_alloc_new _ _, hdh.later ((Below.refl _ _).alloc (Nat.le_refl _) _)⟩
          case s4 =>
            have hx3 : ∃ (g : Nat) (kh : Int) (xh : ByteArray) (Ah : Option Addr) (nh Ch : Nat), xv 3 = Value.slice (some ⟨g, 0, none⟩) 3 3 ∧ W.heap[g]? = some (Obj.cells #[.int .i64 kd0, .string xd0, .slice Ad0 nd0 Cd0, .int .i64 kh, .string xh, .slice Ah nh Ch, .int .i64 kd1, .string xd1, .slice Ad1 nd1 Cd1] 32 (0, 0)) ∧ IsD XF W 1 [((4, emp) : Pc)] kh xh Ah nh Ch := hd 3 (by kernel_rfl)
            clear hd
            simp only [Act.put, List.setIfInBounds_toArray, List.set_cons_succ, List.set_cons_zero] at hK
            refine (if_pos (by rfl)).mpr ?_
            obtain ⟨g, kh, xh, Ah, nh, Ch, eg, hc, hdh⟩ := hx3
            rw [eg] at hK ⊢
            go_simp
            go_at_call 22
            refine (show Calls Try.prog 22 _ W (IdPost XF 1602 LX W) from (HE1.out ▸ row_box (xf W) (Ds.cons (HD0.out.later hW) (Ds.cons hdh (Ds.cons (HD1.out.later hW) Ds.nil))) rfl (by omega) (by omega) hc)).mono ?_
            rintro e w' ⟨⟨k, x, A, n, C, rfl, hd⟩, hb⟩
            exact hK.out _ _ hb ⟨k, x, A, n, C, rfl, hd⟩
          case s5 =>
            clear hd
            simp only [Act.put, List.setIfInBounds_toArray, List.set_cons_succ, List.set_cons_zero] at hK
            refine (if_pos (by rfl)).mpr ?_
            go_simp
            exact hK.out _ _ (Below.refl _ _) rfl
          case s6 =>
            have hx5 : xv 5 = Value.int .i64 ni := hd 5 (by kernel_rfl)
            clear hd
            simp only [Act.put, List.setIfInBounds_toArray, List.set_cons_succ, List.set_cons_zero] at hK
            rw [hx5] at hK ⊢
            refine (if_pos (by rfl)).mpr ?_
            go_simp
            refine (page_any ni W).mono ?_
            rintro e W' ⟨rfl, rfl⟩
            exact hK.out _ _ (Below.refl _ _) rfl
          case s7 =>
            have hx4 : ∃ (k : Int) (x : ByteArray) (A : Option Addr) (n C : Nat), xv 4 = Value.agg #[.int .i64 k, .string x, .slice A n C] ∧ IsD XF W 1602 LX k x A n C := hd 4 (by kernel_rfl)
            have hx6 : xv 6 = Value.int .i64 (pg ni : Int) := hd 6 (by kernel_rfl)
            clear hd
            simp only [Act.put, List.setIfInBounds_toArray, List.set_cons_succ, List.set_cons_zero] at hK
            rw [hx6] at hK ⊢
            refine (if_pos (by rfl)).mpr ?_
            obtain ⟨k, x, A, n, C, eg, hd⟩ := hx4
            rw [eg] at hK ⊢
            go_simp
            go_at_call 11
            refine (HOX.out W k x A n C hd).mono ?_
            rintro e W' ⟨rfl, hb⟩
            exact hK.out _ _ hb rfl
          case s8 =>
            have hx7 : xv 7 = Value.tuple #[.string ys, .int .i64 0] := hd 7 (by kernel_rfl)
            clear hd
            simp only [Act.put, List.setIfInBounds_toArray, List.set_cons_succ, List.set_cons_zero] at hK
            rw [hx7] at hK ⊢
            refine (if_pos (by rfl)).mpr ?_
            go_simp
            exact hK.out _ _ (Below.refl _ _) rfl
          case s9 =>
            have hx8 : xv 8 = Value.tuple #[.string ys, .int .i64 0] := hd 8 (by kernel_rfl)
            clear hd
            simp only [Act.put, List.setIfInBounds_toArray, List.set_cons_succ, List.set_cons_zero] at hK
            rw [hx8] at hK ⊢
            refine (if_pos (by rfl)).mpr ?_
            go_simp
            exact hK.out _ _ (Below.refl _ _) rfl
          case s10 =>
            have hx8 : xv 8 = Value.tuple #[.string ys, .int .i64 0] := hd 8 (by kernel_rfl)
            clear hd
            simp only [Act.put, List.setIfInBounds_toArray, List.set_cons_succ, List.set_cons_zero] at hK
            rw [hx8] at hK ⊢
            refine (if_pos (by rfl)).mpr ?_
            go_simp
            exact hK.out _ _ (Below.refl _ _) rfl
          case s11 =>
            have hx9 : xv 9 = Value.string ys := hd 9 (by kernel_rfl)
            clear hd
            simp only [Act.put, List.setIfInBounds_toArray, List.set_cons_succ, List.set_cons_zero] at hK
            rw [hx9] at hK ⊢
            refine (if_pos (by rfl)).mpr ?_
            go_simp
            exact hK.out _ _ (Below.refl _ _) rfl
          case s12 =>
            have hx10 : xv 10 = Value.int .i64 0 := hd 10 (by kernel_rfl)
            clear hd
            simp only [Act.put, List.setIfInBounds_toArray, List.set_cons_succ, List.set_cons_zero] at hK
            rw [hx10] at hK ⊢
            refine (if_pos (by rfl)).mpr ?_
            go_simp
            exact hK.out _ _ (Below.refl _ _) rfl
        case behind =>
          intro xv W hW hx a ha
          replace hW : Below Wa.heap.size Wa W := ⟨hW.os, hW.tape, hW.output, hW.size, hW.block⟩
          simp only [fillA] at ha
          simp only [List.setIfInBounds_toArray, List.set_cons_succ, List.set_cons_zero, Nat.zero_add, Nat.reduceAdd] at ha
          subst ha
          have e1 : xv 11 = Value.string ys := hx 11 (by decide)
          have e2 : xv 12 = Value.int .i64 0 := hx 12 (by decide)
          rw [e1, e2]
          clear hx e1 e2
          have HBW2 := Lib.hid (HBW.out.trans (hW.mono HBW.out.size))
          clear HBW
          have HBW := HBW2
          clear HBW2
          have hq := (hW.block _ (lt_of HX0.out)).trans HX0.out
          replace HX0 := Lib.hid hq
          clear hq
          have hq := HD0.out.later hW
          replace HD0 := Lib.hid hq
          clear hq
          have hq := (hW.block _ (lt_of HX1.out)).trans HX1.out
          replace HX1 := Lib.hid hq
          clear hq
          have hq := HD1.out.later hW
          replace HD1 := Lib.hid hq
          clear hq
          obtain ⟨Wb, hWb⟩ : ∃ Wb, W = Wb := ⟨_, rfl⟩
          rw [hWb] at HBW HX0 HX1 HD0 HD1 ⊢
          clear hWb hW
          clear HOX
          go_wp2
          refine region_rel (fun W W' => Below W.heap.size W W') [Cd.is (Value.agg #[.int .i64 kd0, .string xd0, .slice Ad0 nd0 Cd0]), ⟨fun v W => ∃ (k : Int) (x : ByteArray) (A : Option Addr) (n C : Nat), v = Value.agg #[.int .i64 k, .string x, .slice A n C] ∧ IsD XF W 1 [((4, emp) : Pc)] k x A n C, fun v W W' hU h => by obtain ⟨k, x, A, n, C, e, hd⟩ := h; exact ⟨k, x, A, n, C, e, hd.later hU⟩⟩, ⟨fun v W => ∃ (g : Nat) (kh : Int) (xh : ByteArray) (Ah : Option Addr) (nh Ch : Nat), v = Value.slice (some ⟨g, 0, none⟩) 2 2 ∧ W.heap[g]? = some (Obj.cells #[.int .i64 kd0, .string xd0, .slice Ad0 nd0 Cd0, .int .i64 kh, .string xh, .slice Ah nh Ch] 32 (0, 0)) ∧ IsD XF W 1 [((4, emp) : Pc)] kh xh Ah nh Ch, fun v W W' hU h => by obtain ⟨g, kh, xh, Ah, nh, Ch, e, hc, hdh⟩ := h; exact ⟨g, kh, xh, Ah, nh, Ch, e, (hU.block g (lt_of hc)).trans hc, hdh.later hU⟩⟩, ⟨fun v W => ∃ (k : Int) (x : ByteArray) (A : Option Addr) (n C : Nat), v = Value.agg #[.int .i64 k, .string x, .slice A n C] ∧ IsD XF W 802 LT k x A n C, fun v W W' hU h => by obtain ⟨k, x, A, n, C, e, hd⟩ := h; exact ⟨k, x, A, n, C, e, hd.later hU⟩⟩, Cd.is (Value.int .i64 ni), Cd.is (Value.int .i64 (pg ni : Int)), Cd.is (Value.tuple #[.string yt, .int .i64 0]), Cd.is (Value.tuple #[.string yt, .int .i64 0]), Cd.is (Value.string yt), Cd.is (Value.int .i64 0), Cd.is (Value.string yt), Cd.is (Value.int .i64 0)] (by kernel_rfl) (by decide) (by kernel_rfl) (Below.refl _ _) (fun _ _ _ h k => h.trans (k.mono h.size)) ?steps ?behind
          case steps =>
            intro xv W hW a ha
            replace hW : Below Wb.heap.size Wb W := ⟨hW.os, hW.tape, hW.output, hW.size, hW.block⟩
            simp only [fillA] at ha
            simp only [List.setIfInBounds_toArray, List.set_cons_succ, List.set_cons_zero, Nat.zero_add, Nat.reduceAdd] at ha
            subst ha
            refine ⟨fun hd K hK => ?s0, fun hd K hK => ?s1, fun hd K hK => ?s2, fun hd K hK => ?s3, fun hd K hK => ?s4, fun hd K hK => ?s5, fun hd K hK => ?s6, fun hd K hK => ?s7, fun hd K hK => ?s8, fun hd K hK => ?s9, fun hd K hK => ?s10, fun hd K hK => ?s11, trivial⟩
            case s0 =>
              clear hd
              simp only [Act.put, List.setIfInBounds_toArray, List.set_cons_succ, List.set_cons_zero] at hK
              refine (if_pos (by rfl)).mpr ?_
              obtain ⟨hq0, hq1, hq2⟩ := cl3 ((hW.block _ (lt_of HX0.out)).trans HX0.out)
              go_simp
              exact hK.out _ _ (Below.refl _ _) rfl
            case s1 =>
              clear hd
              simp only [Act.put, List.setIfInBounds_toArray, List.set_cons_succ, List.set_cons_zero] at hK
              refine (if_pos (by rfl)).mpr ?_
              go_simp
              go_at_call 23
              refine (hard_is XF W).mono ?_
              rintro e w' ⟨⟨k, x, A, n, C, rfl, hd⟩, hb⟩
              exact hK.out _ _ hb ⟨k, x, A, n, C, rfl, hd⟩
            case s2 =>
              have hx0 : xv 0 = Value.agg #[.int .i64 kd0, .string xd0, .slice Ad0 nd0 Cd0] := hd 0 (by kernel_rfl)
              have hx1 : ∃ (k : Int) (x : ByteArray) (A : Option Addr) (n C : Nat), xv 1 = Value.agg #[.int .i64 k, .string x, .slice A n C] ∧ IsD XF W 1 [((4, emp) : Pc)] k x A n C := hd 1 (by kernel_rfl)
              clear hd
              simp only [Act.put, List.setIfInBounds_toArray, List.set_cons_succ, List.set_cons_zero] at hK
              rw [hx0] at hK ⊢
              refine (if_pos (by rfl)).mpr ?_
              obtain ⟨kh, xh, Ah, nh, Ch, eqh, hdh⟩ := hx1
              rw [eqh] at hK ⊢
              go_simp
              exact hK.out _ _ ((Below.refl _ _).alloc (Nat.le_refl _) _) ⟨W.heap.size, kh, xh, Ah, nh, Ch, rfl, heap_alloc_new _ _, hdh.later ((Below.refl _ _).alloc (Nat.le_refl _) _)⟩
            case s3 =>
              have hx2 : ∃ (g : Nat) (kh : Int) (xh : ByteArray) (Ah : Option Addr) (nh Ch : Nat), xv 2 = Value.slice (some ⟨g, 0, none⟩) 2 2 ∧ W.heap[g]? = some (Obj.cells #[.int .i64 kd0, .string xd0, .slice Ad0 nd0 Cd0, .int .i64 kh, .string xh, .slice Ah nh Ch] 32 (0, 0)) ∧ IsD XF W 1 [((4, emp) : Pc)] kh xh Ah nh Ch := hd 2 (by kernel_rfl)
              clear hd
              simp only [Act.put, List.setIfInBounds_toArray, List.set_cons_succ, List.set_cons_zero] at hK
              refine (if_pos (by rfl)).mpr ?_
              obtain ⟨g, kh, xh, Ah, nh, Ch, eg, hc, hdh⟩ := hx2
              rw [eg] at hK ⊢
              go_simp
              go_at_call 22
              refine (show Calls Try.prog 22 _ W (IdPost XF 802 LT W) from (HE2.out ▸ row_box (xf W) (Ds.cons (HD0.out.later hW) (Ds.cons hdh Ds.nil)) rfl (by omega) (by omega) hc)).mono ?_
              rintro e w' ⟨⟨k, x, A, n, C, rfl, hd⟩, hb⟩
              exact hK.out _ _ hb ⟨k, x, A, n, C, rfl, hd⟩
            case s4 =>
              clear hd
              simp only [Act.put, List.setIfInBounds_toArray, List.set_cons_succ, List.set_cons_zero] at hK
              refine (if_pos (by rfl)).mpr ?_
              go_simp
              exact hK.out _ _ (Below.refl _ _) rfl
            case s5 =>
              have hx4 : xv 4 = Value.int .i64 ni := hd 4 (by kernel_rfl)
              clear hd
              simp only [Act.put, List.setIfInBounds_toArray, List.set_cons_succ, List.set_cons_zero] at hK
              rw [hx4] at hK ⊢
              refine (if_pos (by rfl)).mpr ?_
              go_simp
              refine (page_any ni W).mono ?_
              rintro e W' ⟨rfl, rfl⟩
              exact hK.out _ _ (Below.refl _ _) rfl
            case s6 =>
              have hx3 : ∃ (k : Int) (x : ByteArray) (A : Option Addr) (n C : Nat), xv 3 = Value.agg #[.int .i64 k, .string x, .slice A n C] ∧ IsD XF W 802 LT k x A n C := hd 3 (by kernel_rfl)
              have hx5 : xv 5 = Value.int .i64 (pg ni : Int) := hd 5 (by kernel_rfl)
              clear hd
              simp only [Act.put, List.setIfInBounds_toArray, List.set_cons_succ, List.set_cons_zero] at hK
              rw [hx5] at hK ⊢
              refine (if_pos (by rfl)).mpr ?_
              obtain ⟨k, x, A, n, C, eg, hd⟩ := hx3
              rw [eg] at hK ⊢
              go_simp
              go_at_call 11
              refine (HOT.out W k x A n C hd).mono ?_
              rintro e W' ⟨rfl, hb⟩
              exact hK.out _ _ hb rfl
            case s7 =>
              have hx6 : xv 6 = Value.tuple #[.string yt, .int .i64 0] := hd 6 (by kernel_rfl)
              clear hd
              simp only [Act.put, List.setIfInBounds_toArray, List.set_cons_succ, List.set_cons_zero] at hK
              rw [hx6] at hK ⊢
              refine (if_pos (by rfl)).mpr ?_
              go_simp
              exact hK.out _ _ (Below.refl _ _) rfl
            case s8 =>
              have hx7 : xv 7 = Value.tuple #[.string yt, .int .i64 0] := hd 7 (by kernel_rfl)
              clear hd
              simp only [Act.put, List.setIfInBounds_toArray, List.set_cons_succ, List.set_cons_zero] at hK
              rw [hx7] at hK ⊢
              refine (if_pos (by rfl)).mpr ?_
              go_simp
              exact hK.out _ _ (Below.refl _ _) rfl
            case s9 =>
              have hx7 : xv 7 = Value.tuple #[.string yt, .int .i64 0] := hd 7 (by kernel_rfl)
              clear hd
              simp only [Act.put, List.setIfInBounds_toArray, List.set_cons_succ, List.set_cons_zero] at hK
              rw [hx7] at hK ⊢
              refine (if_pos (by rfl)).mpr ?_
              go_simp
              exact hK.out _ _ (Below.refl _ _) rfl
            case s10 =>
              have hx8 : xv 8 = Value.string yt := hd 8 (by kernel_rfl)
              clear hd
              simp only [Act.put, List.setIfInBounds_toArray, List.set_cons_succ, List.set_cons_zero] at hK
              rw [hx8] at hK ⊢
              refine (if_pos (by rfl)).mpr ?_
              go_simp
              exact hK.out _ _ (Below.refl _ _) rfl
            case s11 =>
              have hx9 : xv 9 = Value.int .i64 0 := hd 9 (by kernel_rfl)
              clear hd
              simp only [Act.put, List.setIfInBounds_toArray, List.set_cons_succ, List.set_cons_zero] at hK
              rw [hx9] at hK ⊢
              refine (if_pos (by rfl)).mpr ?_
              go_simp
              exact hK.out _ _ (Below.refl _ _) rfl
          case behind =>
            intro xv W hW hx a ha
            replace hW : Below Wb.heap.size Wb W := ⟨hW.os, hW.tape, hW.output, hW.size, hW.block⟩
            simp only [fillA] at ha
            simp only [List.setIfInBounds_toArray, List.set_cons_succ, List.set_cons_zero, Nat.zero_add, Nat.reduceAdd] at ha
            subst ha
            have e1 : xv 10 = Value.string yt := hx 10 (by decide)
            have e2 : xv 11 = Value.int .i64 0 := hx 11 (by decide)
            rw [e1, e2]
            clear hx e1 e2
            have HBW2 := Lib.hid (HBW.out.trans (hW.mono HBW.out.size))
            clear HBW
            have HBW := HBW2
            clear HBW2
            have hq := (hW.block _ (lt_of HX0.out)).trans HX0.out
            replace HX0 := Lib.hid hq
            clear hq
            have hq := HD0.out.later hW
            replace HD0 := Lib.hid hq
            clear hq
            have hq := (hW.block _ (lt_of HX1.out)).trans HX1.out
            replace HX1 := Lib.hid hq
            clear hq
            have hq := HD1.out.later hW
            replace HD1 := Lib.hid hq
            clear hq
            obtain ⟨Wc, hWc⟩ : ∃ Wc, W = Wc := ⟨_, rfl⟩
            rw [hWc] at HBW HX0 HX1 HD0 HD1 ⊢
            clear hWc hW
            clear HOT
            go_wp2
            refine region_rel (fun W W' => Below W.heap.size W W') [Cd.is (Value.agg #[.int .i64 kd1, .string xd1, .slice Ad1 nd1 Cd1]), Cd.is (Value.int .i64 ni), Cd.is (Value.int .i64 (pg ni : Int)), Cd.is (Value.tuple #[.string yu, .int .i64 0]), Cd.is (Value.tuple #[.string yu, .int .i64 0]), Cd.is (Value.string yu), Cd.is (Value.int .i64 0), Cd.is (Value.string yu), Cd.is (Value.int .i64 0)] (by kernel_rfl) (by decide) (by kernel_rfl) (Below.refl _ _) (fun _ _ _ h k => h.trans (k.mono h.size)) ?steps ?behind
            case steps =>
              intro xv W hW a ha
              replace hW : Below Wc.heap.size Wc W := ⟨hW.os, hW.tape, hW.output, hW.size, hW.block⟩
              simp only [fillA] at ha
              simp only [List.setIfInBounds_toArray, List.set_cons_succ, List.set_cons_zero, Nat.zero_add, Nat.reduceAdd] at ha
              subst ha
              refine ⟨fun hd K hK => ?s0, fun hd K hK => ?s1, fun hd K hK => ?s2, fun hd K hK => ?s3, fun hd K hK => ?s4, fun hd K hK => ?s5, fun hd K hK => ?s6, fun hd K hK => ?s7, fun hd K hK => ?s8, trivial⟩
              case s0 =>
                clear hd
                simp only [Act.put, List.setIfInBounds_toArray, List.set_cons_succ, List.set_cons_zero] at hK
                refine (if_pos (by rfl)).mpr ?_
                obtain ⟨hq0, hq1, hq2⟩ := cl3 ((hW.block _ (lt_of HX1.out)).trans HX1.out)
                go_simp
                exact hK.out _ _ (Below.refl _ _) rfl
              case s1 =>
                clear hd
                simp only [Act.put, List.setIfInBounds_toArray, List.set_cons_succ, List.set_cons_zero] at hK
                refine (if_pos (by rfl)).mpr ?_
                go_simp
                exact hK.out _ _ (Below.refl _ _) rfl
              case s2 =>
                have hx1 : xv 1 = Value.int .i64 ni := hd 1 (by kernel_rfl)
                clear hd
                simp only [Act.put, List.setIfInBounds_toArray, List.set_cons_succ, List.set_cons_zero] at hK
                rw [hx1] at hK ⊢
                refine (if_pos (by rfl)).mpr ?_
                go_simp
                refine (page_any ni W).mono ?_
                rintro e W' ⟨rfl, rfl⟩
                exact hK.out _ _ (Below.refl _ _) rfl
              case s3 =>
                have hx0 : xv 0 = Value.agg #[.int .i64 kd1, .string xd1, .slice Ad1 nd1 Cd1] := hd 0 (by kernel_rfl)
                have hx2 : xv 2 = Value.int .i64 (pg ni : Int) := hd 2 (by kernel_rfl)
                clear hd
                simp only [Act.put, List.setIfInBounds_toArray, List.set_cons_succ, List.set_cons_zero] at hK
                rw [hx0] at hK ⊢
                rw [hx2] at hK ⊢
                refine (if_pos (by rfl)).mpr ?_
                go_simp
                go_at_call 11
                refine (HOU.out W _ _ _ _ _ (HD1.out.later hW)).mono ?_
                rintro e W' ⟨rfl, hb⟩
                exact hK.out _ _ hb rfl
              case s4 =>
                have hx3 : xv 3 = Value.tuple #[.string yu, .int .i64 0] := hd 3 (by kernel_rfl)
                clear hd
                simp only [Act.put, List.setIfInBounds_toArray, List.set_cons_succ, List.set_cons_zero] at hK
                rw [hx3] at hK ⊢
                refine (if_pos (by rfl)).mpr ?_
                go_simp
                exact hK.out _ _ (Below.refl _ _) rfl
              case s5 =>
                have hx4 : xv 4 = Value.tuple #[.string yu, .int .i64 0] := hd 4 (by kernel_rfl)
                clear hd
                simp only [Act.put, List.setIfInBounds_toArray, List.set_cons_succ, List.set_cons_zero] at hK
                rw [hx4] at hK ⊢
                refine (if_pos (by rfl)).mpr ?_
                go_simp
                exact hK.out _ _ (Below.refl _ _) rfl
              case s6 =>
                have hx4 : xv 4 = Value.tuple #[.string yu, .int .i64 0] := hd 4 (by kernel_rfl)
                clear hd
                simp only [Act.put, List.setIfInBounds_toArray, List.set_cons_succ, List.set_cons_zero] at hK
                rw [hx4] at hK ⊢
                refine (if_pos (by rfl)).mpr ?_
                go_simp
                exact hK.out _ _ (Below.refl _ _) rfl
              case s7 =>
                have hx5 : xv 5 = Value.string yu := hd 5 (by kernel_rfl)
                clear hd
                simp only [Act.put, List.setIfInBounds_toArray, List.set_cons_succ, List.set_cons_zero] at hK
                rw [hx5] at hK ⊢
                refine (if_pos (by rfl)).mpr ?_
                go_simp
                exact hK.out _ _ (Below.refl _ _) rfl
              case s8 =>
                have hx6 : xv 6 = Value.int .i64 0 := hd 6 (by kernel_rfl)
                clear hd
                simp only [Act.put, List.setIfInBounds_toArray, List.set_cons_succ, List.set_cons_zero] at hK
                rw [hx6] at hK ⊢
                refine (if_pos (by rfl)).mpr ?_
                go_simp
                exact hK.out _ _ (Below.refl _ _) rfl
            case behind =>
              intro xv W hW hx a ha
              replace hW : Below Wc.heap.size Wc W := ⟨hW.os, hW.tape, hW.output, hW.size, hW.block⟩
              simp only [fillA] at ha
              simp only [List.setIfInBounds_toArray, List.set_cons_succ, List.set_cons_zero, Nat.zero_add, Nat.reduceAdd] at ha
              subst ha
              have e1 : xv 7 = Value.string yu := hx 7 (by decide)
              have e2 : xv 8 = Value.int .i64 0 := hx 8 (by decide)
              rw [e1, e2]
              clear hx e1 e2
              have HBW2 := Lib.hid (HBW.out.trans (hW.mono HBW.out.size))
              clear HBW
              have HBW := HBW2
              clear HBW2
              have hq := (hW.block _ (lt_of HX0.out)).trans HX0.out
              replace HX0 := Lib.hid hq
              clear hq
              have hq := HD0.out.later hW
              replace HD0 := Lib.hid hq
              clear hq
              have hq := (hW.block _ (lt_of HX1.out)).trans HX1.out
              replace HX1 := Lib.hid hq
              clear hq
              have hq := HD1.out.later hW
              replace HD1 := Lib.hid hq
              clear hq
              have HK := Lib.hid (known_any W)
              obtain rfl := HYS.out
              have hadd : ¬ 9223372036854775807 < yt.size + yu.size := by have := HADD.out; omega
              clear HOU HYS HADD hW
              go_wp2_with fail
              refine HK.out.mono ?_
              rintro e v1 ⟨rfl, hb⟩
              have HB9 := Lib.hid (HBW.out.trans (hb.mono HBW.out.size))
              clear hb HK
              go_wp2
              go_ret
              exact ⟨rfl, HB9.out⟩
end Go.Proofs.Ytpankfbdlakmcaa.Doc
