/-
  Layer 5 (tree): kidsFit, some of the kinds. Written by gen_treekids.py.
-/
import Derived.Test.YtoecimgmghlfpaaDoorTreeKids
namespace Go.Proofs.YtoecimgmghlfpaaDoor.Tree
open Go.ChangeShapes Go.WideShapes Go.ChangeAt Go.RowKit Mem
set_option linter.unusedVariables false

set_option maxRecDepth 100000 in
set_option maxHeartbeats 8000000 in
theorem kids_1 (x y : ByteArray) (A : Option Addr) (n C : Nat) (f : F) (w : World) (hf : Fs w (Lo w.heap.size) (.slice A n C) f) : Calls Tryd.prog 37 #[.agg #[.int .i64 1, .string x, .string y, .slice A n C]] w fun e w' => e = .returned (.bool (kidsOK 1 x f)) ∧ Below w.heap.size w w' := by
  have HFS := Lib.hid hf
  have HOF := Lib.hid (of_any [33] (w.heap.size + 1) 1 ((w.alloc (.cells #[.int .i64 1, .string x, .string y, .slice A n C] 24)).alloc (.cells #[.int .i64 33] 3)) rfl (by decide) (by simp) (fun i u hu => by rw [World.cell?_alloc_at _ _ _ _ (by simp)]; match i, hu with | 0, hu => (cases hu; rfl)))
  rw [show kidsOK 1 x f = rowOK [.many (isOf [8]), .one [isOf [2]], .many (isOf [3, 8]), .many isDecl] f by simp [kidsOK]]
  clear hf
  go_enter Tryd.func37, Tryd.ntmps37
  go_wp2_with fail
  refine (HOF.out).mono ?_
  rintro e w3 ⟨hb3, v3, rfl, ht3⟩
  obtain ⟨g3, c3, rfl, hrest⟩ := ht3
  have HKA := Lib.hid (kidsAt_new w w3 1 x y A n C f g3 c3 HFS.out hb3 ⟨_, _, rfl, hrest⟩)
  have HB : Hid (Below w3.heap.size w3 w3) := Below.refl _ _
  have T3 := Lib.hid HKA.out.t3
  have HF := Lib.hid HKA.out.fs
  have HBOX : Hid (∀ W, Below w3.heap.size w3 W → W.cell? ⟨w.heap.size, 3, none⟩ = some (.slice A n C)) := fun W hW => (HKA.out.box W hW).2.2
  obtain ⟨hk0, hk1, hk3⟩ := HKA.out.box w3 (Below.refl _ _)
  clear hb3 hrest HFS HOF
  go_wp2
  refine region_rel (fun W W' => Below W.heap.size W W') [Cd.is (Value.pointer (some ⟨w.heap.size, 3, none⟩)), Cd.is (Value.slice A n C), cInts [8], cTest (isOf [8]), cPart (.many (isOf [8])), cInts [2], cTest (isOf [2]), cTests [isOf [2]], cPart (.one [isOf [2]]), cInts [3, 8], cTest (isOf [3, 8]), cPart (.many (isOf [3, 8])), cPart (.many isDecl), cParts [.many (isOf [8]), .one [isOf [2]], .many (isOf [3, 8]), .many isDecl], Cd.is (Value.bool (rowOK [.many (isOf [8]), .one [isOf [2]], .many (isOf [3, 8]), .many isDecl] f)), Cd.is (Value.bool (rowOK [.many (isOf [8]), .one [isOf [2]], .many (isOf [3, 8]), .many isDecl] f))] (by kernel_rfl) (by decide) (by kernel_rfl) (Below.refl _ _) (fun _ _ _ h k => h.trans (k.mono h.size)) ?steps ?behind
  case steps =>
    intro xv W hW a ha
    replace hW := undrew hW
    simp only [fillA] at ha
    simp only [List.setIfInBounds_toArray, List.set_cons_succ, List.set_cons_zero, Nat.zero_add, Nat.reduceAdd] at ha
    subst ha
    refine ⟨fun hd K hK => ?s0, fun hd K hK => ?s1, fun hd K hK => ?s2, fun hd K hK => ?s3, fun hd K hK => ?s4, fun hd K hK => ?s5, fun hd K hK => ?s6, fun hd K hK => ?s7, fun hd K hK => ?s8, fun hd K hK => ?s9, fun hd K hK => ?s10, fun hd K hK => ?s11, fun hd K hK => ?s12, fun hd K hK => ?s13, fun hd K hK => ?s14, fun hd K hK => ?s15, trivial⟩
    case s0 =>
      clear hd
      simp only [Act.put, List.setIfInBounds_toArray, List.set_cons_succ, List.set_cons_zero] at hK
      refine (if_pos (by rfl)).mpr ?_
      go_simp
      exact hK.out _ _ (Below.refl _ _) rfl
    case s1 =>
      have hx0 : xv 0 = Value.pointer (some ⟨w.heap.size, 3, none⟩) := hd 0 (by kernel_rfl)
      clear hd
      simp only [Act.put, List.setIfInBounds_toArray, List.set_cons_succ, List.set_cons_zero] at hK
      rw [hx0] at hK ⊢
      refine (if_pos (by rfl)).mpr ?_
      have hcell := HBOX.out W (HB.out.trans (hW.mono HB.out.size))
      go_simp
      exact hK.out _ _ (Below.refl _ _) rfl
    case s2 =>
      clear hd
      simp only [Act.put, List.setIfInBounds_toArray, List.set_cons_succ, List.set_cons_zero] at hK
      refine (if_pos (by rfl)).mpr ?_
      go_simp
      exact hK.out _ _ (below1 _ _) (ints_new [8] W)
    case s3 =>
      have hx2 : Ints [8] (xv 2) W := hd 2 (by kernel_rfl)
      clear hd
      simp only [Act.put, List.setIfInBounds_toArray, List.set_cons_succ, List.set_cons_zero] at hK
      refine (if_pos (by rfl)).mpr ?_
      obtain ⟨g2, e2, hg2, hc2⟩ := hx2
      rw [e2]
      rw [e2] at hK
      have HO := Lib.hid (of_any [8] g2 _ W rfl (by decide) hg2 hc2)
      clear e2 hg2 hc2
      go_simp
      go_at_call 41
      refine HO.out.mono ?_
      rintro e w' ⟨hb, v, rfl, ht⟩
      exact hK.out _ _ hb ht
    case s4 =>
      have hx3 : TestOk W (xv 3) (isOf [8]) := hd 3 (by kernel_rfl)
      clear hd
      simp only [Act.put, List.setIfInBounds_toArray, List.set_cons_succ, List.set_cons_zero] at hK
      refine (if_pos (by rfl)).mpr ?_
      obtain ⟨gf3, cp3, e3, hg3⟩ := hx3
      rw [e3]
      rw [e3] at hK
      have HO := Lib.hid (many_any (isOf [8]) gf3 cp3 W ⟨_, _, rfl, hg3⟩)
      clear e3 hg3
      go_simp
      go_at_call 43
      refine HO.out.mono ?_
      rintro e w' ⟨hb, v, rfl, ht⟩
      exact hK.out _ _ hb ht
    case s5 =>
      clear hd
      simp only [Act.put, List.setIfInBounds_toArray, List.set_cons_succ, List.set_cons_zero] at hK
      refine (if_pos (by rfl)).mpr ?_
      go_simp
      exact hK.out _ _ (below1 _ _) (ints_new [2] W)
    case s6 =>
      have hx5 : Ints [2] (xv 5) W := hd 5 (by kernel_rfl)
      clear hd
      simp only [Act.put, List.setIfInBounds_toArray, List.set_cons_succ, List.set_cons_zero] at hK
      refine (if_pos (by rfl)).mpr ?_
      obtain ⟨g5, e5, hg5, hc5⟩ := hx5
      rw [e5]
      rw [e5] at hK
      have HO := Lib.hid (of_any [2] g5 _ W rfl (by decide) hg5 hc5)
      clear e5 hg5 hc5
      go_simp
      go_at_call 41
      refine HO.out.mono ?_
      rintro e w' ⟨hb, v, rfl, ht⟩
      exact hK.out _ _ hb ht
    case s7 =>
      have hx6 : TestOk W (xv 6) (isOf [2]) := hd 6 (by kernel_rfl)
      clear hd
      simp only [Act.put, List.setIfInBounds_toArray, List.set_cons_succ, List.set_cons_zero] at hK
      refine (if_pos (by rfl)).mpr ?_
      obtain ⟨gf6, cp6, e6, hg6⟩ := hx6
      have hx6' : TestOk W (.func (.func gf6) #[] cp6) (isOf [2]) := ⟨gf6, cp6, rfl, hg6⟩
      clear hg6
      rw [e6] at hK ⊢
      have hx6 := Lib.hid hx6'
      clear hx6' e6
      go_simp
      exact hK.out _ _ (below1 _ _) (tests_new1 W hx6.out)
    case s8 =>
      have hx7 : Tests [isOf [2]] (xv 7) W := hd 7 (by kernel_rfl)
      clear hd
      simp only [Act.put, List.setIfInBounds_toArray, List.set_cons_succ, List.set_cons_zero] at hK
      refine (if_pos (by rfl)).mpr ?_
      obtain ⟨g7, e7, hg7, hc7⟩ := hx7
      rw [e7]
      rw [e7] at hK
      have HO := Lib.hid (one_any [isOf [2]] g7 _ W rfl (by decide) hg7 hc7)
      clear e7 hg7 hc7
      go_simp
      go_at_call 44
      refine HO.out.mono ?_
      rintro e w' ⟨hb, v, rfl, ht⟩
      exact hK.out _ _ hb ht
    case s9 =>
      clear hd
      simp only [Act.put, List.setIfInBounds_toArray, List.set_cons_succ, List.set_cons_zero] at hK
      refine (if_pos (by rfl)).mpr ?_
      go_simp
      exact hK.out _ _ (below1 _ _) (ints_new [3, 8] W)
    case s10 =>
      have hx9 : Ints [3, 8] (xv 9) W := hd 9 (by kernel_rfl)
      clear hd
      simp only [Act.put, List.setIfInBounds_toArray, List.set_cons_succ, List.set_cons_zero] at hK
      refine (if_pos (by rfl)).mpr ?_
      obtain ⟨g9, e9, hg9, hc9⟩ := hx9
      rw [e9]
      rw [e9] at hK
      have HO := Lib.hid (of_any [3, 8] g9 _ W rfl (by decide) hg9 hc9)
      clear e9 hg9 hc9
      go_simp
      go_at_call 41
      refine HO.out.mono ?_
      rintro e w' ⟨hb, v, rfl, ht⟩
      exact hK.out _ _ hb ht
    case s11 =>
      have hx10 : TestOk W (xv 10) (isOf [3, 8]) := hd 10 (by kernel_rfl)
      clear hd
      simp only [Act.put, List.setIfInBounds_toArray, List.set_cons_succ, List.set_cons_zero] at hK
      refine (if_pos (by rfl)).mpr ?_
      obtain ⟨gf10, cp10, e10, hg10⟩ := hx10
      rw [e10]
      rw [e10] at hK
      have HO := Lib.hid (many_any (isOf [3, 8]) gf10 cp10 W ⟨_, _, rfl, hg10⟩)
      clear e10 hg10
      go_simp
      go_at_call 43
      refine HO.out.mono ?_
      rintro e w' ⟨hb, v, rfl, ht⟩
      exact hK.out _ _ hb ht
    case s12 =>
      clear hd
      simp only [Act.put, List.setIfInBounds_toArray, List.set_cons_succ, List.set_cons_zero] at hK
      refine (if_pos (by rfl)).mpr ?_
      go_simp
      go_at_call 43
      refine (many_any isDecl _ _ W (test_isDecl W)).mono ?_
      rintro e w' ⟨hb, v, rfl, ht⟩
      exact hK.out _ _ hb ht
    case s13 =>
      have hx4 : PartOk W (xv 4) (.many (isOf [8])) := hd 4 (by kernel_rfl)
      have hx8 : PartOk W (xv 8) (.one [isOf [2]]) := hd 8 (by kernel_rfl)
      have hx11 : PartOk W (xv 11) (.many (isOf [3, 8])) := hd 11 (by kernel_rfl)
      have hx12 : PartOk W (xv 12) (.many isDecl) := hd 12 (by kernel_rfl)
      clear hd
      simp only [Act.put, List.setIfInBounds_toArray, List.set_cons_succ, List.set_cons_zero] at hK
      refine (if_pos (by rfl)).mpr ?_
      obtain ⟨gf4, c4, e4, hg4⟩ := hx4
      have hx4' : PartOk W (.func (.func gf4) #[] #[.pointer (some ⟨c4, 0, none⟩)]) (.many (isOf [8])) := ⟨gf4, c4, rfl, hg4⟩
      clear hg4
      rw [e4] at hK ⊢
      have hx4 := Lib.hid hx4'
      clear hx4' e4
      obtain ⟨gf8, c8, e8, hg8⟩ := hx8
      have hx8' : PartOk W (.func (.func gf8) #[] #[.pointer (some ⟨c8, 0, none⟩)]) (.one [isOf [2]]) := ⟨gf8, c8, rfl, hg8⟩
      clear hg8
      rw [e8] at hK ⊢
      have hx8 := Lib.hid hx8'
      clear hx8' e8
      obtain ⟨gf11, c11, e11, hg11⟩ := hx11
      have hx11' : PartOk W (.func (.func gf11) #[] #[.pointer (some ⟨c11, 0, none⟩)]) (.many (isOf [3, 8])) := ⟨gf11, c11, rfl, hg11⟩
      clear hg11
      rw [e11] at hK ⊢
      have hx11 := Lib.hid hx11'
      clear hx11' e11
      obtain ⟨gf12, c12, e12, hg12⟩ := hx12
      have hx12' : PartOk W (.func (.func gf12) #[] #[.pointer (some ⟨c12, 0, none⟩)]) (.many isDecl) := ⟨gf12, c12, rfl, hg12⟩
      clear hg12
      rw [e12] at hK ⊢
      have hx12 := Lib.hid hx12'
      clear hx12' e12
      go_simp
      exact hK.out _ _ (below1 _ _) (parts_new4 W hx4.out hx8.out hx11.out hx12.out)
    case s14 =>
      have hx1 : xv 1 = Value.slice A n C := hd 1 (by kernel_rfl)
      have hx13 : Parts [.many (isOf [8]), .one [isOf [2]], .many (isOf [3, 8]), .many isDecl] (xv 13) W := hd 13 (by kernel_rfl)
      clear hd
      simp only [Act.put, List.setIfInBounds_toArray, List.set_cons_succ, List.set_cons_zero] at hK
      rw [hx1] at hK ⊢
      refine (if_pos (by rfl)).mpr ?_
      obtain ⟨g13, e13, hg13, hc13⟩ := hx13
      rw [e13]
      rw [e13] at hK
      have HO := Lib.hid (row_any [.many (isOf [8]), .one [isOf [2]], .many (isOf [3, 8]), .many isDecl] g13 _ A n C f W (HF.out.later (HB.out.trans (hW.mono HB.out.size))) rfl (by decide) hg13 hc13)
      clear e13 hg13 hc13
      go_simp
      go_at_call 42
      refine HO.out.mono ?_
      rintro e w' ⟨rfl, hb⟩
      exact hK.out _ _ hb rfl
    case s15 =>
      have hx14 : xv 14 = Value.bool (rowOK [.many (isOf [8]), .one [isOf [2]], .many (isOf [3, 8]), .many isDecl] f) := hd 14 (by kernel_rfl)
      clear hd
      simp only [Act.put, List.setIfInBounds_toArray, List.set_cons_succ, List.set_cons_zero] at hK
      rw [hx14] at hK ⊢
      refine (if_pos (by rfl)).mpr ?_
      go_simp
      exact hK.out _ _ (Below.refl _ _) rfl
  case behind =>
    intro xv W hW hx a ha
    replace hW := undrew hW
    simp only [fillA] at ha
    simp only [List.setIfInBounds_toArray, List.set_cons_succ, List.set_cons_zero, Nat.zero_add, Nat.reduceAdd] at ha
    subst ha
    have hl : xv 15 = Value.bool (rowOK [.many (isOf [8]), .one [isOf [2]], .many (isOf [3, 8]), .many isDecl] f) := hx 15 (by decide)
    rw [hl]
    clear hx hl
    have HE := Lib.hid (HKA.out.bel.trans (hW.mono HKA.out.bel.size))
    go_wp2
    go_ret
    exact ⟨rfl, HE.out⟩

set_option maxRecDepth 100000 in
set_option maxHeartbeats 8000000 in
theorem kids_18 (x y : ByteArray) (A : Option Addr) (n C : Nat) (f : F) (w : World) (hf : Fs w (Lo w.heap.size) (.slice A n C) f) : Calls Tryd.prog 37 #[.agg #[.int .i64 18, .string x, .string y, .slice A n C]] w fun e w' => e = .returned (.bool (kidsOK 18 x f)) ∧ Below w.heap.size w w' := by
  have HFS := Lib.hid hf
  have HOF := Lib.hid (of_any [33] (w.heap.size + 1) 1 ((w.alloc (.cells #[.int .i64 18, .string x, .string y, .slice A n C] 24)).alloc (.cells #[.int .i64 33] 3)) rfl (by decide) (by simp) (fun i u hu => by rw [World.cell?_alloc_at _ _ _ _ (by simp)]; match i, hu with | 0, hu => (cases hu; rfl)))
  rw [show kidsOK 18 x f = rowOK [.one [isVal], .one [isOf [17]], .one [isOf [17, 18], isOf [33]]] f by simp [kidsOK]]
  clear hf
  go_enter Tryd.func37, Tryd.ntmps37
  go_wp2_with fail
  refine (HOF.out).mono ?_
  rintro e w3 ⟨hb3, v3, rfl, ht3⟩
  obtain ⟨g3, c3, rfl, hrest⟩ := ht3
  have HKA := Lib.hid (kidsAt_new w w3 18 x y A n C f g3 c3 HFS.out hb3 ⟨_, _, rfl, hrest⟩)
  have HB : Hid (Below w3.heap.size w3 w3) := Below.refl _ _
  have T3 := Lib.hid HKA.out.t3
  have HF := Lib.hid HKA.out.fs
  have HBOX : Hid (∀ W, Below w3.heap.size w3 W → W.cell? ⟨w.heap.size, 3, none⟩ = some (.slice A n C)) := fun W hW => (HKA.out.box W hW).2.2
  obtain ⟨hk0, hk1, hk3⟩ := HKA.out.box w3 (Below.refl _ _)
  clear hb3 hrest HFS HOF
  go_wp2
  refine region_rel (fun W W' => Below W.heap.size W W') [Cd.is (Value.pointer (some ⟨w.heap.size, 3, none⟩)), Cd.is (Value.slice A n C), cTests [isVal], cPart (.one [isVal]), cInts [17], cTest (isOf [17]), cTests [isOf [17]], cPart (.one [isOf [17]]), cInts [17, 18], cTest (isOf [17, 18]), Cd.is (Value.func (.func g3) #[] c3), cTests [isOf [17, 18], isOf [33]], cPart (.one [isOf [17, 18], isOf [33]]), cParts [.one [isVal], .one [isOf [17]], .one [isOf [17, 18], isOf [33]]], Cd.is (Value.bool (rowOK [.one [isVal], .one [isOf [17]], .one [isOf [17, 18], isOf [33]]] f)), Cd.is (Value.bool (rowOK [.one [isVal], .one [isOf [17]], .one [isOf [17, 18], isOf [33]]] f))] (by kernel_rfl) (by decide) (by kernel_rfl) (Below.refl _ _) (fun _ _ _ h k => h.trans (k.mono h.size)) ?steps ?behind
  case steps =>
    intro xv W hW a ha
    replace hW := undrew hW
    simp only [fillA] at ha
    simp only [List.setIfInBounds_toArray, List.set_cons_succ, List.set_cons_zero, Nat.zero_add, Nat.reduceAdd] at ha
    subst ha
    refine ⟨fun hd K hK => ?s0, fun hd K hK => ?s1, fun hd K hK => ?s2, fun hd K hK => ?s3, fun hd K hK => ?s4, fun hd K hK => ?s5, fun hd K hK => ?s6, fun hd K hK => ?s7, fun hd K hK => ?s8, fun hd K hK => ?s9, fun hd K hK => ?s10, fun hd K hK => ?s11, fun hd K hK => ?s12, fun hd K hK => ?s13, fun hd K hK => ?s14, fun hd K hK => ?s15, trivial⟩
    case s0 =>
      clear hd
      simp only [Act.put, List.setIfInBounds_toArray, List.set_cons_succ, List.set_cons_zero] at hK
      refine (if_pos (by rfl)).mpr ?_
      go_simp
      exact hK.out _ _ (Below.refl _ _) rfl
    case s1 =>
      have hx0 : xv 0 = Value.pointer (some ⟨w.heap.size, 3, none⟩) := hd 0 (by kernel_rfl)
      clear hd
      simp only [Act.put, List.setIfInBounds_toArray, List.set_cons_succ, List.set_cons_zero] at hK
      rw [hx0] at hK ⊢
      refine (if_pos (by rfl)).mpr ?_
      have hcell := HBOX.out W (HB.out.trans (hW.mono HB.out.size))
      go_simp
      exact hK.out _ _ (Below.refl _ _) rfl
    case s2 =>
      clear hd
      simp only [Act.put, List.setIfInBounds_toArray, List.set_cons_succ, List.set_cons_zero] at hK
      refine (if_pos (by rfl)).mpr ?_
      go_simp
      exact hK.out _ _ (below1 _ _) (tests_new1 W (test_isVal W))
    case s3 =>
      have hx2 : Tests [isVal] (xv 2) W := hd 2 (by kernel_rfl)
      clear hd
      simp only [Act.put, List.setIfInBounds_toArray, List.set_cons_succ, List.set_cons_zero] at hK
      refine (if_pos (by rfl)).mpr ?_
      obtain ⟨g2, e2, hg2, hc2⟩ := hx2
      rw [e2]
      rw [e2] at hK
      have HO := Lib.hid (one_any [isVal] g2 _ W rfl (by decide) hg2 hc2)
      clear e2 hg2 hc2
      go_simp
      go_at_call 44
      refine HO.out.mono ?_
      rintro e w' ⟨hb, v, rfl, ht⟩
      exact hK.out _ _ hb ht
    case s4 =>
      clear hd
      simp only [Act.put, List.setIfInBounds_toArray, List.set_cons_succ, List.set_cons_zero] at hK
      refine (if_pos (by rfl)).mpr ?_
      go_simp
      exact hK.out _ _ (below1 _ _) (ints_new [17] W)
    case s5 =>
      have hx4 : Ints [17] (xv 4) W := hd 4 (by kernel_rfl)
      clear hd
      simp only [Act.put, List.setIfInBounds_toArray, List.set_cons_succ, List.set_cons_zero] at hK
      refine (if_pos (by rfl)).mpr ?_
      obtain ⟨g4, e4, hg4, hc4⟩ := hx4
      rw [e4]
      rw [e4] at hK
      have HO := Lib.hid (of_any [17] g4 _ W rfl (by decide) hg4 hc4)
      clear e4 hg4 hc4
      go_simp
      go_at_call 41
      refine HO.out.mono ?_
      rintro e w' ⟨hb, v, rfl, ht⟩
      exact hK.out _ _ hb ht
    case s6 =>
      have hx5 : TestOk W (xv 5) (isOf [17]) := hd 5 (by kernel_rfl)
      clear hd
      simp only [Act.put, List.setIfInBounds_toArray, List.set_cons_succ, List.set_cons_zero] at hK
      refine (if_pos (by rfl)).mpr ?_
      obtain ⟨gf5, cp5, e5, hg5⟩ := hx5
      have hx5' : TestOk W (.func (.func gf5) #[] cp5) (isOf [17]) := ⟨gf5, cp5, rfl, hg5⟩
      clear hg5
      rw [e5] at hK ⊢
      have hx5 := Lib.hid hx5'
      clear hx5' e5
      go_simp
      exact hK.out _ _ (below1 _ _) (tests_new1 W hx5.out)
    case s7 =>
      have hx6 : Tests [isOf [17]] (xv 6) W := hd 6 (by kernel_rfl)
      clear hd
      simp only [Act.put, List.setIfInBounds_toArray, List.set_cons_succ, List.set_cons_zero] at hK
      refine (if_pos (by rfl)).mpr ?_
      obtain ⟨g6, e6, hg6, hc6⟩ := hx6
      rw [e6]
      rw [e6] at hK
      have HO := Lib.hid (one_any [isOf [17]] g6 _ W rfl (by decide) hg6 hc6)
      clear e6 hg6 hc6
      go_simp
      go_at_call 44
      refine HO.out.mono ?_
      rintro e w' ⟨hb, v, rfl, ht⟩
      exact hK.out _ _ hb ht
    case s8 =>
      clear hd
      simp only [Act.put, List.setIfInBounds_toArray, List.set_cons_succ, List.set_cons_zero] at hK
      refine (if_pos (by rfl)).mpr ?_
      go_simp
      exact hK.out _ _ (below1 _ _) (ints_new [17, 18] W)
    case s9 =>
      have hx8 : Ints [17, 18] (xv 8) W := hd 8 (by kernel_rfl)
      clear hd
      simp only [Act.put, List.setIfInBounds_toArray, List.set_cons_succ, List.set_cons_zero] at hK
      refine (if_pos (by rfl)).mpr ?_
      obtain ⟨g8, e8, hg8, hc8⟩ := hx8
      rw [e8]
      rw [e8] at hK
      have HO := Lib.hid (of_any [17, 18] g8 _ W rfl (by decide) hg8 hc8)
      clear e8 hg8 hc8
      go_simp
      go_at_call 41
      refine HO.out.mono ?_
      rintro e w' ⟨hb, v, rfl, ht⟩
      exact hK.out _ _ hb ht
    case s10 =>
      clear hd
      simp only [Act.put, List.setIfInBounds_toArray, List.set_cons_succ, List.set_cons_zero] at hK
      refine (if_pos (by rfl)).mpr ?_
      go_simp
      exact hK.out _ _ (Below.refl _ _) rfl
    case s11 =>
      have hx9 : TestOk W (xv 9) (isOf [17, 18]) := hd 9 (by kernel_rfl)
      have hx10 : xv 10 = Value.func (.func g3) #[] c3 := hd 10 (by kernel_rfl)
      clear hd
      simp only [Act.put, List.setIfInBounds_toArray, List.set_cons_succ, List.set_cons_zero] at hK
      rw [hx10] at hK ⊢
      refine (if_pos (by rfl)).mpr ?_
      obtain ⟨gf9, cp9, e9, hg9⟩ := hx9
      have hx9' : TestOk W (.func (.func gf9) #[] cp9) (isOf [17, 18]) := ⟨gf9, cp9, rfl, hg9⟩
      clear hg9
      rw [e9] at hK ⊢
      have hx9 := Lib.hid hx9'
      clear hx9' e9
      go_simp
      exact hK.out _ _ (below1 _ _) (tests_new2 W hx9.out (T3.out.later hW))
    case s12 =>
      have hx11 : Tests [isOf [17, 18], isOf [33]] (xv 11) W := hd 11 (by kernel_rfl)
      clear hd
      simp only [Act.put, List.setIfInBounds_toArray, List.set_cons_succ, List.set_cons_zero] at hK
      refine (if_pos (by rfl)).mpr ?_
      obtain ⟨g11, e11, hg11, hc11⟩ := hx11
      rw [e11]
      rw [e11] at hK
      have HO := Lib.hid (one_any [isOf [17, 18], isOf [33]] g11 _ W rfl (by decide) hg11 hc11)
      clear e11 hg11 hc11
      go_simp
      go_at_call 44
      refine HO.out.mono ?_
      rintro e w' ⟨hb, v, rfl, ht⟩
      exact hK.out _ _ hb ht
    case s13 =>
      have hx3 : PartOk W (xv 3) (.one [isVal]) := hd 3 (by kernel_rfl)
      have hx7 : PartOk W (xv 7) (.one [isOf [17]]) := hd 7 (by kernel_rfl)
      have hx12 : PartOk W (xv 12) (.one [isOf [17, 18], isOf [33]]) := hd 12 (by kernel_rfl)
      clear hd
      simp only [Act.put, List.setIfInBounds_toArray, List.set_cons_succ, List.set_cons_zero] at hK
      refine (if_pos (by rfl)).mpr ?_
      obtain ⟨gf3, c3, e3, hg3⟩ := hx3
      have hx3' : PartOk W (.func (.func gf3) #[] #[.pointer (some ⟨c3, 0, none⟩)]) (.one [isVal]) := ⟨gf3, c3, rfl, hg3⟩
      clear hg3
      rw [e3] at hK ⊢
      have hx3 := Lib.hid hx3'
      clear hx3' e3
      obtain ⟨gf7, c7, e7, hg7⟩ := hx7
      have hx7' : PartOk W (.func (.func gf7) #[] #[.pointer (some ⟨c7, 0, none⟩)]) (.one [isOf [17]]) := ⟨gf7, c7, rfl, hg7⟩
      clear hg7
      rw [e7] at hK ⊢
      have hx7 := Lib.hid hx7'
      clear hx7' e7
      obtain ⟨gf12, c12, e12, hg12⟩ := hx12
      have hx12' : PartOk W (.func (.func gf12) #[] #[.pointer (some ⟨c12, 0, none⟩)]) (.one [isOf [17, 18], isOf [33]]) := ⟨gf12, c12, rfl, hg12⟩
      clear hg12
      rw [e12] at hK ⊢
      have hx12 := Lib.hid hx12'
      clear hx12' e12
      go_simp
      exact hK.out _ _ (below1 _ _) (parts_new3 W hx3.out hx7.out hx12.out)
    case s14 =>
      have hx1 : xv 1 = Value.slice A n C := hd 1 (by kernel_rfl)
      have hx13 : Parts [.one [isVal], .one [isOf [17]], .one [isOf [17, 18], isOf [33]]] (xv 13) W := hd 13 (by kernel_rfl)
      clear hd
      simp only [Act.put, List.setIfInBounds_toArray, List.set_cons_succ, List.set_cons_zero] at hK
      rw [hx1] at hK ⊢
      refine (if_pos (by rfl)).mpr ?_
      obtain ⟨g13, e13, hg13, hc13⟩ := hx13
      rw [e13]
      rw [e13] at hK
      have HO := Lib.hid (row_any [.one [isVal], .one [isOf [17]], .one [isOf [17, 18], isOf [33]]] g13 _ A n C f W (HF.out.later (HB.out.trans (hW.mono HB.out.size))) rfl (by decide) hg13 hc13)
      clear e13 hg13 hc13
      go_simp
      go_at_call 42
      refine HO.out.mono ?_
      rintro e w' ⟨rfl, hb⟩
      exact hK.out _ _ hb rfl
    case s15 =>
      have hx14 : xv 14 = Value.bool (rowOK [.one [isVal], .one [isOf [17]], .one [isOf [17, 18], isOf [33]]] f) := hd 14 (by kernel_rfl)
      clear hd
      simp only [Act.put, List.setIfInBounds_toArray, List.set_cons_succ, List.set_cons_zero] at hK
      rw [hx14] at hK ⊢
      refine (if_pos (by rfl)).mpr ?_
      go_simp
      exact hK.out _ _ (Below.refl _ _) rfl
  case behind =>
    intro xv W hW hx a ha
    replace hW := undrew hW
    simp only [fillA] at ha
    simp only [List.setIfInBounds_toArray, List.set_cons_succ, List.set_cons_zero, Nat.zero_add, Nat.reduceAdd] at ha
    subst ha
    have hl : xv 15 = Value.bool (rowOK [.one [isVal], .one [isOf [17]], .one [isOf [17, 18], isOf [33]]] f) := hx 15 (by decide)
    rw [hl]
    clear hx hl
    have HE := Lib.hid (HKA.out.bel.trans (hW.mono HKA.out.bel.size))
    go_wp2
    go_ret
    exact ⟨rfl, HE.out⟩

set_option maxRecDepth 100000 in
set_option maxHeartbeats 8000000 in
theorem kids_21true (x y : ByteArray) (A : Option Addr) (n C : Nat) (f : F) (w : World) (hf : Fs w (Lo w.heap.size) (.slice A n C) f) (hx21 : (x.toList == [58, 61]) = true) : Calls Tryd.prog 37 #[.agg #[.int .i64 21, .string x, .string y, .slice A n C]] w fun e w' => e = .returned (.bool (kidsOK 21 x f)) ∧ Below w.heap.size w w' := by
  have HFS := Lib.hid hf
  have HOF := Lib.hid (of_any [33] (w.heap.size + 1) 1 ((w.alloc (.cells #[.int .i64 21, .string x, .string y, .slice A n C] 24)).alloc (.cells #[.int .i64 33] 3)) rfl (by decide) (by simp) (fun i u hu => by rw [World.cell?_alloc_at _ _ _ _ (by simp)]; match i, hu with | 0, hu => (cases hu; rfl)))
  rw [show kidsOK 21 x f = rowOK [.one [isOf [9]], .one [isVal]] f by simp [kidsOK, hx21]]
  clear hf
  go_enter Tryd.func37, Tryd.ntmps37
  go_wp2_with fail
  refine (HOF.out).mono ?_
  rintro e w3 ⟨hb3, v3, rfl, ht3⟩
  obtain ⟨g3, c3, rfl, hrest⟩ := ht3
  have HKA := Lib.hid (kidsAt_new w w3 21 x y A n C f g3 c3 HFS.out hb3 ⟨_, _, rfl, hrest⟩)
  have HB : Hid (Below w3.heap.size w3 w3) := Below.refl _ _
  have T3 := Lib.hid HKA.out.t3
  have HF := Lib.hid HKA.out.fs
  have HBOX : Hid (∀ W, Below w3.heap.size w3 W → W.cell? ⟨w.heap.size, 3, none⟩ = some (.slice A n C)) := fun W hW => (HKA.out.box W hW).2.2
  obtain ⟨hk0, hk1, hk3⟩ := HKA.out.box w3 (Below.refl _ _)
  clear hb3 hrest HFS HOF
  go_wp2
  refine region_rel (fun W W' => Below W.heap.size W W') [Cd.is (Value.pointer (some ⟨w.heap.size, 3, none⟩)), Cd.is (Value.slice A n C), cInts [9], cTest (isOf [9]), cTests [isOf [9]], cPart (.one [isOf [9]]), cTests [isVal], cPart (.one [isVal]), cParts [.one [isOf [9]], .one [isVal]], Cd.is (Value.bool (rowOK [.one [isOf [9]], .one [isVal]] f)), Cd.is (Value.bool (rowOK [.one [isOf [9]], .one [isVal]] f))] (by kernel_rfl) (by decide) (by kernel_rfl) (Below.refl _ _) (fun _ _ _ h k => h.trans (k.mono h.size)) ?steps ?behind
  case steps =>
    intro xv W hW a ha
    replace hW := undrew hW
    simp only [fillA] at ha
    simp only [List.setIfInBounds_toArray, List.set_cons_succ, List.set_cons_zero, Nat.zero_add, Nat.reduceAdd] at ha
    subst ha
    refine ⟨fun hd K hK => ?s0, fun hd K hK => ?s1, fun hd K hK => ?s2, fun hd K hK => ?s3, fun hd K hK => ?s4, fun hd K hK => ?s5, fun hd K hK => ?s6, fun hd K hK => ?s7, fun hd K hK => ?s8, fun hd K hK => ?s9, fun hd K hK => ?s10, trivial⟩
    case s0 =>
      clear hd
      simp only [Act.put, List.setIfInBounds_toArray, List.set_cons_succ, List.set_cons_zero] at hK
      refine (if_pos (by rfl)).mpr ?_
      go_simp
      exact hK.out _ _ (Below.refl _ _) rfl
    case s1 =>
      have hx0 : xv 0 = Value.pointer (some ⟨w.heap.size, 3, none⟩) := hd 0 (by kernel_rfl)
      clear hd
      simp only [Act.put, List.setIfInBounds_toArray, List.set_cons_succ, List.set_cons_zero] at hK
      rw [hx0] at hK ⊢
      refine (if_pos (by rfl)).mpr ?_
      have hcell := HBOX.out W (HB.out.trans (hW.mono HB.out.size))
      go_simp
      exact hK.out _ _ (Below.refl _ _) rfl
    case s2 =>
      clear hd
      simp only [Act.put, List.setIfInBounds_toArray, List.set_cons_succ, List.set_cons_zero] at hK
      refine (if_pos (by rfl)).mpr ?_
      go_simp
      exact hK.out _ _ (below1 _ _) (ints_new [9] W)
    case s3 =>
      have hx2 : Ints [9] (xv 2) W := hd 2 (by kernel_rfl)
      clear hd
      simp only [Act.put, List.setIfInBounds_toArray, List.set_cons_succ, List.set_cons_zero] at hK
      refine (if_pos (by rfl)).mpr ?_
      obtain ⟨g2, e2, hg2, hc2⟩ := hx2
      rw [e2]
      rw [e2] at hK
      have HO := Lib.hid (of_any [9] g2 _ W rfl (by decide) hg2 hc2)
      clear e2 hg2 hc2
      go_simp
      go_at_call 41
      refine HO.out.mono ?_
      rintro e w' ⟨hb, v, rfl, ht⟩
      exact hK.out _ _ hb ht
    case s4 =>
      have hx3 : TestOk W (xv 3) (isOf [9]) := hd 3 (by kernel_rfl)
      clear hd
      simp only [Act.put, List.setIfInBounds_toArray, List.set_cons_succ, List.set_cons_zero] at hK
      refine (if_pos (by rfl)).mpr ?_
      obtain ⟨gf3, cp3, e3, hg3⟩ := hx3
      have hx3' : TestOk W (.func (.func gf3) #[] cp3) (isOf [9]) := ⟨gf3, cp3, rfl, hg3⟩
      clear hg3
      rw [e3] at hK ⊢
      have hx3 := Lib.hid hx3'
      clear hx3' e3
      go_simp
      exact hK.out _ _ (below1 _ _) (tests_new1 W hx3.out)
    case s5 =>
      have hx4 : Tests [isOf [9]] (xv 4) W := hd 4 (by kernel_rfl)
      clear hd
      simp only [Act.put, List.setIfInBounds_toArray, List.set_cons_succ, List.set_cons_zero] at hK
      refine (if_pos (by rfl)).mpr ?_
      obtain ⟨g4, e4, hg4, hc4⟩ := hx4
      rw [e4]
      rw [e4] at hK
      have HO := Lib.hid (one_any [isOf [9]] g4 _ W rfl (by decide) hg4 hc4)
      clear e4 hg4 hc4
      go_simp
      go_at_call 44
      refine HO.out.mono ?_
      rintro e w' ⟨hb, v, rfl, ht⟩
      exact hK.out _ _ hb ht
    case s6 =>
      clear hd
      simp only [Act.put, List.setIfInBounds_toArray, List.set_cons_succ, List.set_cons_zero] at hK
      refine (if_pos (by rfl)).mpr ?_
      go_simp
      exact hK.out _ _ (below1 _ _) (tests_new1 W (test_isVal W))
    case s7 =>
      have hx6 : Tests [isVal] (xv 6) W := hd 6 (by kernel_rfl)
      clear hd
      simp only [Act.put, List.setIfInBounds_toArray, List.set_cons_succ, List.set_cons_zero] at hK
      refine (if_pos (by rfl)).mpr ?_
      obtain ⟨g6, e6, hg6, hc6⟩ := hx6
      rw [e6]
      rw [e6] at hK
      have HO := Lib.hid (one_any [isVal] g6 _ W rfl (by decide) hg6 hc6)
      clear e6 hg6 hc6
      go_simp
      go_at_call 44
      refine HO.out.mono ?_
      rintro e w' ⟨hb, v, rfl, ht⟩
      exact hK.out _ _ hb ht
    case s8 =>
      have hx5 : PartOk W (xv 5) (.one [isOf [9]]) := hd 5 (by kernel_rfl)
      have hx7 : PartOk W (xv 7) (.one [isVal]) := hd 7 (by kernel_rfl)
      clear hd
      simp only [Act.put, List.setIfInBounds_toArray, List.set_cons_succ, List.set_cons_zero] at hK
      refine (if_pos (by rfl)).mpr ?_
      obtain ⟨gf5, c5, e5, hg5⟩ := hx5
      have hx5' : PartOk W (.func (.func gf5) #[] #[.pointer (some ⟨c5, 0, none⟩)]) (.one [isOf [9]]) := ⟨gf5, c5, rfl, hg5⟩
      clear hg5
      rw [e5] at hK ⊢
      have hx5 := Lib.hid hx5'
      clear hx5' e5
      obtain ⟨gf7, c7, e7, hg7⟩ := hx7
      have hx7' : PartOk W (.func (.func gf7) #[] #[.pointer (some ⟨c7, 0, none⟩)]) (.one [isVal]) := ⟨gf7, c7, rfl, hg7⟩
      clear hg7
      rw [e7] at hK ⊢
      have hx7 := Lib.hid hx7'
      clear hx7' e7
      go_simp
      exact hK.out _ _ (below1 _ _) (parts_new2 W hx5.out hx7.out)
    case s9 =>
      have hx1 : xv 1 = Value.slice A n C := hd 1 (by kernel_rfl)
      have hx8 : Parts [.one [isOf [9]], .one [isVal]] (xv 8) W := hd 8 (by kernel_rfl)
      clear hd
      simp only [Act.put, List.setIfInBounds_toArray, List.set_cons_succ, List.set_cons_zero] at hK
      rw [hx1] at hK ⊢
      refine (if_pos (by rfl)).mpr ?_
      obtain ⟨g8, e8, hg8, hc8⟩ := hx8
      rw [e8]
      rw [e8] at hK
      have HO := Lib.hid (row_any [.one [isOf [9]], .one [isVal]] g8 _ A n C f W (HF.out.later (HB.out.trans (hW.mono HB.out.size))) rfl (by decide) hg8 hc8)
      clear e8 hg8 hc8
      go_simp
      go_at_call 42
      refine HO.out.mono ?_
      rintro e w' ⟨rfl, hb⟩
      exact hK.out _ _ hb rfl
    case s10 =>
      have hx9 : xv 9 = Value.bool (rowOK [.one [isOf [9]], .one [isVal]] f) := hd 9 (by kernel_rfl)
      clear hd
      simp only [Act.put, List.setIfInBounds_toArray, List.set_cons_succ, List.set_cons_zero] at hK
      rw [hx9] at hK ⊢
      refine (if_pos (by rfl)).mpr ?_
      go_simp
      exact hK.out _ _ (Below.refl _ _) rfl
  case behind =>
    intro xv W hW hx a ha
    replace hW := undrew hW
    simp only [fillA] at ha
    simp only [List.setIfInBounds_toArray, List.set_cons_succ, List.set_cons_zero, Nat.zero_add, Nat.reduceAdd] at ha
    subst ha
    have hl : xv 10 = Value.bool (rowOK [.one [isOf [9]], .one [isVal]] f) := hx 10 (by decide)
    rw [hl]
    clear hx hl
    have HE := Lib.hid (HKA.out.bel.trans (hW.mono HKA.out.bel.size))
    go_wp2
    go_ret
    exact ⟨rfl, HE.out⟩

set_option maxRecDepth 100000 in
set_option maxHeartbeats 8000000 in
theorem kids_31 (x y : ByteArray) (A : Option Addr) (n C : Nat) (f : F) (w : World) (hf : Fs w (Lo w.heap.size) (.slice A n C) f) : Calls Tryd.prog 37 #[.agg #[.int .i64 31, .string x, .string y, .slice A n C]] w fun e w' => e = .returned (.bool (kidsOK 31 x f)) ∧ Below w.heap.size w w' := by
  have HFS := Lib.hid hf
  have HOF := Lib.hid (of_any [33] (w.heap.size + 1) 1 ((w.alloc (.cells #[.int .i64 31, .string x, .string y, .slice A n C] 24)).alloc (.cells #[.int .i64 33] 3)) rfl (by decide) (by simp) (fun i u hu => by rw [World.cell?_alloc_at _ _ _ _ (by simp)]; match i, hu with | 0, hu => (cases hu; rfl)))
  rw [show kidsOK 31 x f = rowOK [.one [isVal], .one [isVal]] f by simp [kidsOK]]
  clear hf
  go_enter Tryd.func37, Tryd.ntmps37
  go_wp2_with fail
  refine (HOF.out).mono ?_
  rintro e w3 ⟨hb3, v3, rfl, ht3⟩
  obtain ⟨g3, c3, rfl, hrest⟩ := ht3
  have HKA := Lib.hid (kidsAt_new w w3 31 x y A n C f g3 c3 HFS.out hb3 ⟨_, _, rfl, hrest⟩)
  have HB : Hid (Below w3.heap.size w3 w3) := Below.refl _ _
  have T3 := Lib.hid HKA.out.t3
  have HF := Lib.hid HKA.out.fs
  have HBOX : Hid (∀ W, Below w3.heap.size w3 W → W.cell? ⟨w.heap.size, 3, none⟩ = some (.slice A n C)) := fun W hW => (HKA.out.box W hW).2.2
  obtain ⟨hk0, hk1, hk3⟩ := HKA.out.box w3 (Below.refl _ _)
  clear hb3 hrest HFS HOF
  go_wp2
  refine region_rel (fun W W' => Below W.heap.size W W') [Cd.is (Value.pointer (some ⟨w.heap.size, 3, none⟩)), Cd.is (Value.slice A n C), cTests [isVal], cPart (.one [isVal]), cTests [isVal], cPart (.one [isVal]), cParts [.one [isVal], .one [isVal]], Cd.is (Value.bool (rowOK [.one [isVal], .one [isVal]] f)), Cd.is (Value.bool (rowOK [.one [isVal], .one [isVal]] f))] (by kernel_rfl) (by decide) (by kernel_rfl) (Below.refl _ _) (fun _ _ _ h k => h.trans (k.mono h.size)) ?steps ?behind
  case steps =>
    intro xv W hW a ha
    replace hW := undrew hW
    simp only [fillA] at ha
    simp only [List.setIfInBounds_toArray, List.set_cons_succ, List.set_cons_zero, Nat.zero_add, Nat.reduceAdd] at ha
    subst ha
    refine ⟨fun hd K hK => ?s0, fun hd K hK => ?s1, fun hd K hK => ?s2, fun hd K hK => ?s3, fun hd K hK => ?s4, fun hd K hK => ?s5, fun hd K hK => ?s6, fun hd K hK => ?s7, fun hd K hK => ?s8, trivial⟩
    case s0 =>
      clear hd
      simp only [Act.put, List.setIfInBounds_toArray, List.set_cons_succ, List.set_cons_zero] at hK
      refine (if_pos (by rfl)).mpr ?_
      go_simp
      exact hK.out _ _ (Below.refl _ _) rfl
    case s1 =>
      have hx0 : xv 0 = Value.pointer (some ⟨w.heap.size, 3, none⟩) := hd 0 (by kernel_rfl)
      clear hd
      simp only [Act.put, List.setIfInBounds_toArray, List.set_cons_succ, List.set_cons_zero] at hK
      rw [hx0] at hK ⊢
      refine (if_pos (by rfl)).mpr ?_
      have hcell := HBOX.out W (HB.out.trans (hW.mono HB.out.size))
      go_simp
      exact hK.out _ _ (Below.refl _ _) rfl
    case s2 =>
      clear hd
      simp only [Act.put, List.setIfInBounds_toArray, List.set_cons_succ, List.set_cons_zero] at hK
      refine (if_pos (by rfl)).mpr ?_
      go_simp
      exact hK.out _ _ (below1 _ _) (tests_new1 W (test_isVal W))
    case s3 =>
      have hx2 : Tests [isVal] (xv 2) W := hd 2 (by kernel_rfl)
      clear hd
      simp only [Act.put, List.setIfInBounds_toArray, List.set_cons_succ, List.set_cons_zero] at hK
      refine (if_pos (by rfl)).mpr ?_
      obtain ⟨g2, e2, hg2, hc2⟩ := hx2
      rw [e2]
      rw [e2] at hK
      have HO := Lib.hid (one_any [isVal] g2 _ W rfl (by decide) hg2 hc2)
      clear e2 hg2 hc2
      go_simp
      go_at_call 44
      refine HO.out.mono ?_
      rintro e w' ⟨hb, v, rfl, ht⟩
      exact hK.out _ _ hb ht
    case s4 =>
      clear hd
      simp only [Act.put, List.setIfInBounds_toArray, List.set_cons_succ, List.set_cons_zero] at hK
      refine (if_pos (by rfl)).mpr ?_
      go_simp
      exact hK.out _ _ (below1 _ _) (tests_new1 W (test_isVal W))
    case s5 =>
      have hx4 : Tests [isVal] (xv 4) W := hd 4 (by kernel_rfl)
      clear hd
      simp only [Act.put, List.setIfInBounds_toArray, List.set_cons_succ, List.set_cons_zero] at hK
      refine (if_pos (by rfl)).mpr ?_
      obtain ⟨g4, e4, hg4, hc4⟩ := hx4
      rw [e4]
      rw [e4] at hK
      have HO := Lib.hid (one_any [isVal] g4 _ W rfl (by decide) hg4 hc4)
      clear e4 hg4 hc4
      go_simp
      go_at_call 44
      refine HO.out.mono ?_
      rintro e w' ⟨hb, v, rfl, ht⟩
      exact hK.out _ _ hb ht
    case s6 =>
      have hx3 : PartOk W (xv 3) (.one [isVal]) := hd 3 (by kernel_rfl)
      have hx5 : PartOk W (xv 5) (.one [isVal]) := hd 5 (by kernel_rfl)
      clear hd
      simp only [Act.put, List.setIfInBounds_toArray, List.set_cons_succ, List.set_cons_zero] at hK
      refine (if_pos (by rfl)).mpr ?_
      obtain ⟨gf3, c3, e3, hg3⟩ := hx3
      have hx3' : PartOk W (.func (.func gf3) #[] #[.pointer (some ⟨c3, 0, none⟩)]) (.one [isVal]) := ⟨gf3, c3, rfl, hg3⟩
      clear hg3
      rw [e3] at hK ⊢
      have hx3 := Lib.hid hx3'
      clear hx3' e3
      obtain ⟨gf5, c5, e5, hg5⟩ := hx5
      have hx5' : PartOk W (.func (.func gf5) #[] #[.pointer (some ⟨c5, 0, none⟩)]) (.one [isVal]) := ⟨gf5, c5, rfl, hg5⟩
      clear hg5
      rw [e5] at hK ⊢
      have hx5 := Lib.hid hx5'
      clear hx5' e5
      go_simp
      exact hK.out _ _ (below1 _ _) (parts_new2 W hx3.out hx5.out)
    case s7 =>
      have hx1 : xv 1 = Value.slice A n C := hd 1 (by kernel_rfl)
      have hx6 : Parts [.one [isVal], .one [isVal]] (xv 6) W := hd 6 (by kernel_rfl)
      clear hd
      simp only [Act.put, List.setIfInBounds_toArray, List.set_cons_succ, List.set_cons_zero] at hK
      rw [hx1] at hK ⊢
      refine (if_pos (by rfl)).mpr ?_
      obtain ⟨g6, e6, hg6, hc6⟩ := hx6
      rw [e6]
      rw [e6] at hK
      have HO := Lib.hid (row_any [.one [isVal], .one [isVal]] g6 _ A n C f W (HF.out.later (HB.out.trans (hW.mono HB.out.size))) rfl (by decide) hg6 hc6)
      clear e6 hg6 hc6
      go_simp
      go_at_call 42
      refine HO.out.mono ?_
      rintro e w' ⟨rfl, hb⟩
      exact hK.out _ _ hb rfl
    case s8 =>
      have hx7 : xv 7 = Value.bool (rowOK [.one [isVal], .one [isVal]] f) := hd 7 (by kernel_rfl)
      clear hd
      simp only [Act.put, List.setIfInBounds_toArray, List.set_cons_succ, List.set_cons_zero] at hK
      rw [hx7] at hK ⊢
      refine (if_pos (by rfl)).mpr ?_
      go_simp
      exact hK.out _ _ (Below.refl _ _) rfl
  case behind =>
    intro xv W hW hx a ha
    replace hW := undrew hW
    simp only [fillA] at ha
    simp only [List.setIfInBounds_toArray, List.set_cons_succ, List.set_cons_zero, Nat.zero_add, Nat.reduceAdd] at ha
    subst ha
    have hl : xv 8 = Value.bool (rowOK [.one [isVal], .one [isVal]] f) := hx 8 (by decide)
    rw [hl]
    clear hx hl
    have HE := Lib.hid (HKA.out.bel.trans (hW.mono HKA.out.bel.size))
    go_wp2
    go_ret
    exact ⟨rfl, HE.out⟩

set_option maxRecDepth 100000 in
set_option maxHeartbeats 8000000 in
theorem kids_13 (x y : ByteArray) (A : Option Addr) (n C : Nat) (f : F) (w : World) (hf : Fs w (Lo w.heap.size) (.slice A n C) f) : Calls Tryd.prog 37 #[.agg #[.int .i64 13, .string x, .string y, .slice A n C]] w fun e w' => e = .returned (.bool (kidsOK 13 x f)) ∧ Below w.heap.size w w' := by
  have HFS := Lib.hid hf
  have HOF := Lib.hid (of_any [33] (w.heap.size + 1) 1 ((w.alloc (.cells #[.int .i64 13, .string x, .string y, .slice A n C] 24)).alloc (.cells #[.int .i64 33] 3)) rfl (by decide) (by simp) (fun i u hu => by rw [World.cell?_alloc_at _ _ _ _ (by simp)]; match i, hu with | 0, hu => (cases hu; rfl)))
  rw [show kidsOK 13 x f = rowOK [.many (isOf [14, 8])] f by simp [kidsOK]]
  clear hf
  go_enter Tryd.func37, Tryd.ntmps37
  go_wp2_with fail
  refine (HOF.out).mono ?_
  rintro e w3 ⟨hb3, v3, rfl, ht3⟩
  obtain ⟨g3, c3, rfl, hrest⟩ := ht3
  have HKA := Lib.hid (kidsAt_new w w3 13 x y A n C f g3 c3 HFS.out hb3 ⟨_, _, rfl, hrest⟩)
  have HB : Hid (Below w3.heap.size w3 w3) := Below.refl _ _
  have T3 := Lib.hid HKA.out.t3
  have HF := Lib.hid HKA.out.fs
  have HBOX : Hid (∀ W, Below w3.heap.size w3 W → W.cell? ⟨w.heap.size, 3, none⟩ = some (.slice A n C)) := fun W hW => (HKA.out.box W hW).2.2
  obtain ⟨hk0, hk1, hk3⟩ := HKA.out.box w3 (Below.refl _ _)
  clear hb3 hrest HFS HOF
  go_wp2
  refine region_rel (fun W W' => Below W.heap.size W W') [Cd.is (Value.pointer (some ⟨w.heap.size, 3, none⟩)), Cd.is (Value.slice A n C), cInts [14, 8], cTest (isOf [14, 8]), cPart (.many (isOf [14, 8])), cParts [.many (isOf [14, 8])], Cd.is (Value.bool (rowOK [.many (isOf [14, 8])] f)), Cd.is (Value.bool (rowOK [.many (isOf [14, 8])] f))] (by kernel_rfl) (by decide) (by kernel_rfl) (Below.refl _ _) (fun _ _ _ h k => h.trans (k.mono h.size)) ?steps ?behind
  case steps =>
    intro xv W hW a ha
    replace hW := undrew hW
    simp only [fillA] at ha
    simp only [List.setIfInBounds_toArray, List.set_cons_succ, List.set_cons_zero, Nat.zero_add, Nat.reduceAdd] at ha
    subst ha
    refine ⟨fun hd K hK => ?s0, fun hd K hK => ?s1, fun hd K hK => ?s2, fun hd K hK => ?s3, fun hd K hK => ?s4, fun hd K hK => ?s5, fun hd K hK => ?s6, fun hd K hK => ?s7, trivial⟩
    case s0 =>
      clear hd
      simp only [Act.put, List.setIfInBounds_toArray, List.set_cons_succ, List.set_cons_zero] at hK
      refine (if_pos (by rfl)).mpr ?_
      go_simp
      exact hK.out _ _ (Below.refl _ _) rfl
    case s1 =>
      have hx0 : xv 0 = Value.pointer (some ⟨w.heap.size, 3, none⟩) := hd 0 (by kernel_rfl)
      clear hd
      simp only [Act.put, List.setIfInBounds_toArray, List.set_cons_succ, List.set_cons_zero] at hK
      rw [hx0] at hK ⊢
      refine (if_pos (by rfl)).mpr ?_
      have hcell := HBOX.out W (HB.out.trans (hW.mono HB.out.size))
      go_simp
      exact hK.out _ _ (Below.refl _ _) rfl
    case s2 =>
      clear hd
      simp only [Act.put, List.setIfInBounds_toArray, List.set_cons_succ, List.set_cons_zero] at hK
      refine (if_pos (by rfl)).mpr ?_
      go_simp
      exact hK.out _ _ (below1 _ _) (ints_new [14, 8] W)
    case s3 =>
      have hx2 : Ints [14, 8] (xv 2) W := hd 2 (by kernel_rfl)
      clear hd
      simp only [Act.put, List.setIfInBounds_toArray, List.set_cons_succ, List.set_cons_zero] at hK
      refine (if_pos (by rfl)).mpr ?_
      obtain ⟨g2, e2, hg2, hc2⟩ := hx2
      rw [e2]
      rw [e2] at hK
      have HO := Lib.hid (of_any [14, 8] g2 _ W rfl (by decide) hg2 hc2)
      clear e2 hg2 hc2
      go_simp
      go_at_call 41
      refine HO.out.mono ?_
      rintro e w' ⟨hb, v, rfl, ht⟩
      exact hK.out _ _ hb ht
    case s4 =>
      have hx3 : TestOk W (xv 3) (isOf [14, 8]) := hd 3 (by kernel_rfl)
      clear hd
      simp only [Act.put, List.setIfInBounds_toArray, List.set_cons_succ, List.set_cons_zero] at hK
      refine (if_pos (by rfl)).mpr ?_
      obtain ⟨gf3, cp3, e3, hg3⟩ := hx3
      rw [e3]
      rw [e3] at hK
      have HO := Lib.hid (many_any (isOf [14, 8]) gf3 cp3 W ⟨_, _, rfl, hg3⟩)
      clear e3 hg3
      go_simp
      go_at_call 43
      refine HO.out.mono ?_
      rintro e w' ⟨hb, v, rfl, ht⟩
      exact hK.out _ _ hb ht
    case s5 =>
      have hx4 : PartOk W (xv 4) (.many (isOf [14, 8])) := hd 4 (by kernel_rfl)
      clear hd
      simp only [Act.put, List.setIfInBounds_toArray, List.set_cons_succ, List.set_cons_zero] at hK
      refine (if_pos (by rfl)).mpr ?_
      obtain ⟨gf4, c4, e4, hg4⟩ := hx4
      have hx4' : PartOk W (.func (.func gf4) #[] #[.pointer (some ⟨c4, 0, none⟩)]) (.many (isOf [14, 8])) := ⟨gf4, c4, rfl, hg4⟩
      clear hg4
      rw [e4] at hK ⊢
      have hx4 := Lib.hid hx4'
      clear hx4' e4
      go_simp
      exact hK.out _ _ (below1 _ _) (parts_new1 W hx4.out)
    case s6 =>
      have hx1 : xv 1 = Value.slice A n C := hd 1 (by kernel_rfl)
      have hx5 : Parts [.many (isOf [14, 8])] (xv 5) W := hd 5 (by kernel_rfl)
      clear hd
      simp only [Act.put, List.setIfInBounds_toArray, List.set_cons_succ, List.set_cons_zero] at hK
      rw [hx1] at hK ⊢
      refine (if_pos (by rfl)).mpr ?_
      obtain ⟨g5, e5, hg5, hc5⟩ := hx5
      rw [e5]
      rw [e5] at hK
      have HO := Lib.hid (row_any [.many (isOf [14, 8])] g5 _ A n C f W (HF.out.later (HB.out.trans (hW.mono HB.out.size))) rfl (by decide) hg5 hc5)
      clear e5 hg5 hc5
      go_simp
      go_at_call 42
      refine HO.out.mono ?_
      rintro e w' ⟨rfl, hb⟩
      exact hK.out _ _ hb rfl
    case s7 =>
      have hx6 : xv 6 = Value.bool (rowOK [.many (isOf [14, 8])] f) := hd 6 (by kernel_rfl)
      clear hd
      simp only [Act.put, List.setIfInBounds_toArray, List.set_cons_succ, List.set_cons_zero] at hK
      rw [hx6] at hK ⊢
      refine (if_pos (by rfl)).mpr ?_
      go_simp
      exact hK.out _ _ (Below.refl _ _) rfl
  case behind =>
    intro xv W hW hx a ha
    replace hW := undrew hW
    simp only [fillA] at ha
    simp only [List.setIfInBounds_toArray, List.set_cons_succ, List.set_cons_zero, Nat.zero_add, Nat.reduceAdd] at ha
    subst ha
    have hl : xv 7 = Value.bool (rowOK [.many (isOf [14, 8])] f) := hx 7 (by decide)
    rw [hl]
    clear hx hl
    have HE := Lib.hid (HKA.out.bel.trans (hW.mono HKA.out.bel.size))
    go_wp2
    go_ret
    exact ⟨rfl, HE.out⟩

set_option maxRecDepth 100000 in
set_option maxHeartbeats 8000000 in
theorem kids_32 (x y : ByteArray) (A : Option Addr) (n C : Nat) (f : F) (w : World) (hf : Fs w (Lo w.heap.size) (.slice A n C) f) : Calls Tryd.prog 37 #[.agg #[.int .i64 32, .string x, .string y, .slice A n C]] w fun e w' => e = .returned (.bool (kidsOK 32 x f)) ∧ Below w.heap.size w w' := by
  have HFS := Lib.hid hf
  have HOF := Lib.hid (of_any [33] (w.heap.size + 1) 1 ((w.alloc (.cells #[.int .i64 32, .string x, .string y, .slice A n C] 24)).alloc (.cells #[.int .i64 33] 3)) rfl (by decide) (by simp) (fun i u hu => by rw [World.cell?_alloc_at _ _ _ _ (by simp)]; match i, hu with | 0, hu => (cases hu; rfl)))
  rw [show kidsOK 32 x f = rowOK [.one [isVal]] f by simp [kidsOK]]
  clear hf
  go_enter Tryd.func37, Tryd.ntmps37
  go_wp2_with fail
  refine (HOF.out).mono ?_
  rintro e w3 ⟨hb3, v3, rfl, ht3⟩
  obtain ⟨g3, c3, rfl, hrest⟩ := ht3
  have HKA := Lib.hid (kidsAt_new w w3 32 x y A n C f g3 c3 HFS.out hb3 ⟨_, _, rfl, hrest⟩)
  have HB : Hid (Below w3.heap.size w3 w3) := Below.refl _ _
  have T3 := Lib.hid HKA.out.t3
  have HF := Lib.hid HKA.out.fs
  have HBOX : Hid (∀ W, Below w3.heap.size w3 W → W.cell? ⟨w.heap.size, 3, none⟩ = some (.slice A n C)) := fun W hW => (HKA.out.box W hW).2.2
  obtain ⟨hk0, hk1, hk3⟩ := HKA.out.box w3 (Below.refl _ _)
  clear hb3 hrest HFS HOF
  go_wp2
  refine region_rel (fun W W' => Below W.heap.size W W') [Cd.is (Value.pointer (some ⟨w.heap.size, 3, none⟩)), Cd.is (Value.slice A n C), cTests [isVal], cPart (.one [isVal]), cParts [.one [isVal]], Cd.is (Value.bool (rowOK [.one [isVal]] f)), Cd.is (Value.bool (rowOK [.one [isVal]] f))] (by kernel_rfl) (by decide) (by kernel_rfl) (Below.refl _ _) (fun _ _ _ h k => h.trans (k.mono h.size)) ?steps ?behind
  case steps =>
    intro xv W hW a ha
    replace hW := undrew hW
    simp only [fillA] at ha
    simp only [List.setIfInBounds_toArray, List.set_cons_succ, List.set_cons_zero, Nat.zero_add, Nat.reduceAdd] at ha
    subst ha
    refine ⟨fun hd K hK => ?s0, fun hd K hK => ?s1, fun hd K hK => ?s2, fun hd K hK => ?s3, fun hd K hK => ?s4, fun hd K hK => ?s5, fun hd K hK => ?s6, trivial⟩
    case s0 =>
      clear hd
      simp only [Act.put, List.setIfInBounds_toArray, List.set_cons_succ, List.set_cons_zero] at hK
      refine (if_pos (by rfl)).mpr ?_
      go_simp
      exact hK.out _ _ (Below.refl _ _) rfl
    case s1 =>
      have hx0 : xv 0 = Value.pointer (some ⟨w.heap.size, 3, none⟩) := hd 0 (by kernel_rfl)
      clear hd
      simp only [Act.put, List.setIfInBounds_toArray, List.set_cons_succ, List.set_cons_zero] at hK
      rw [hx0] at hK ⊢
      refine (if_pos (by rfl)).mpr ?_
      have hcell := HBOX.out W (HB.out.trans (hW.mono HB.out.size))
      go_simp
      exact hK.out _ _ (Below.refl _ _) rfl
    case s2 =>
      clear hd
      simp only [Act.put, List.setIfInBounds_toArray, List.set_cons_succ, List.set_cons_zero] at hK
      refine (if_pos (by rfl)).mpr ?_
      go_simp
      exact hK.out _ _ (below1 _ _) (tests_new1 W (test_isVal W))
    case s3 =>
      have hx2 : Tests [isVal] (xv 2) W := hd 2 (by kernel_rfl)
      clear hd
      simp only [Act.put, List.setIfInBounds_toArray, List.set_cons_succ, List.set_cons_zero] at hK
      refine (if_pos (by rfl)).mpr ?_
      obtain ⟨g2, e2, hg2, hc2⟩ := hx2
      rw [e2]
      rw [e2] at hK
      have HO := Lib.hid (one_any [isVal] g2 _ W rfl (by decide) hg2 hc2)
      clear e2 hg2 hc2
      go_simp
      go_at_call 44
      refine HO.out.mono ?_
      rintro e w' ⟨hb, v, rfl, ht⟩
      exact hK.out _ _ hb ht
    case s4 =>
      have hx3 : PartOk W (xv 3) (.one [isVal]) := hd 3 (by kernel_rfl)
      clear hd
      simp only [Act.put, List.setIfInBounds_toArray, List.set_cons_succ, List.set_cons_zero] at hK
      refine (if_pos (by rfl)).mpr ?_
      obtain ⟨gf3, c3, e3, hg3⟩ := hx3
      have hx3' : PartOk W (.func (.func gf3) #[] #[.pointer (some ⟨c3, 0, none⟩)]) (.one [isVal]) := ⟨gf3, c3, rfl, hg3⟩
      clear hg3
      rw [e3] at hK ⊢
      have hx3 := Lib.hid hx3'
      clear hx3' e3
      go_simp
      exact hK.out _ _ (below1 _ _) (parts_new1 W hx3.out)
    case s5 =>
      have hx1 : xv 1 = Value.slice A n C := hd 1 (by kernel_rfl)
      have hx4 : Parts [.one [isVal]] (xv 4) W := hd 4 (by kernel_rfl)
      clear hd
      simp only [Act.put, List.setIfInBounds_toArray, List.set_cons_succ, List.set_cons_zero] at hK
      rw [hx1] at hK ⊢
      refine (if_pos (by rfl)).mpr ?_
      obtain ⟨g4, e4, hg4, hc4⟩ := hx4
      rw [e4]
      rw [e4] at hK
      have HO := Lib.hid (row_any [.one [isVal]] g4 _ A n C f W (HF.out.later (HB.out.trans (hW.mono HB.out.size))) rfl (by decide) hg4 hc4)
      clear e4 hg4 hc4
      go_simp
      go_at_call 42
      refine HO.out.mono ?_
      rintro e w' ⟨rfl, hb⟩
      exact hK.out _ _ hb rfl
    case s6 =>
      have hx5 : xv 5 = Value.bool (rowOK [.one [isVal]] f) := hd 5 (by kernel_rfl)
      clear hd
      simp only [Act.put, List.setIfInBounds_toArray, List.set_cons_succ, List.set_cons_zero] at hK
      rw [hx5] at hK ⊢
      refine (if_pos (by rfl)).mpr ?_
      go_simp
      exact hK.out _ _ (Below.refl _ _) rfl
  case behind =>
    intro xv W hW hx a ha
    replace hW := undrew hW
    simp only [fillA] at ha
    simp only [List.setIfInBounds_toArray, List.set_cons_succ, List.set_cons_zero, Nat.zero_add, Nat.reduceAdd] at ha
    subst ha
    have hl : xv 6 = Value.bool (rowOK [.one [isVal]] f) := hx 6 (by decide)
    rw [hl]
    clear hx hl
    have HE := Lib.hid (HKA.out.bel.trans (hW.mono HKA.out.bel.size))
    go_wp2
    go_ret
    exact ⟨rfl, HE.out⟩

set_option maxRecDepth 100000 in
set_option maxHeartbeats 8000000 in
theorem kids_14 (x y : ByteArray) (A : Option Addr) (n C : Nat) (f : F) (w : World) (hf : Fs w (Lo w.heap.size) (.slice A n C) f) : Calls Tryd.prog 37 #[.agg #[.int .i64 14, .string x, .string y, .slice A n C]] w fun e w' => e = .returned (.bool (kidsOK 14 x f)) ∧ Below w.heap.size w w' := by
  have HFS := Lib.hid hf
  have HOF := Lib.hid (of_any [33] (w.heap.size + 1) 1 ((w.alloc (.cells #[.int .i64 14, .string x, .string y, .slice A n C] 24)).alloc (.cells #[.int .i64 33] 3)) rfl (by decide) (by simp) (fun i u hu => by rw [World.cell?_alloc_at _ _ _ _ (by simp)]; match i, hu with | 0, hu => (cases hu; rfl)))
  rw [show kidsOK 14 x f = rowOK [.one [isTyp]] f by simp [kidsOK]]
  clear hf
  go_enter Tryd.func37, Tryd.ntmps37
  go_wp2_with fail
  refine (HOF.out).mono ?_
  rintro e w3 ⟨hb3, v3, rfl, ht3⟩
  obtain ⟨g3, c3, rfl, hrest⟩ := ht3
  have HKA := Lib.hid (kidsAt_new w w3 14 x y A n C f g3 c3 HFS.out hb3 ⟨_, _, rfl, hrest⟩)
  have HB : Hid (Below w3.heap.size w3 w3) := Below.refl _ _
  have T3 := Lib.hid HKA.out.t3
  have HF := Lib.hid HKA.out.fs
  have HBOX : Hid (∀ W, Below w3.heap.size w3 W → W.cell? ⟨w.heap.size, 3, none⟩ = some (.slice A n C)) := fun W hW => (HKA.out.box W hW).2.2
  obtain ⟨hk0, hk1, hk3⟩ := HKA.out.box w3 (Below.refl _ _)
  clear hb3 hrest HFS HOF
  go_wp2
  refine region_rel (fun W W' => Below W.heap.size W W') [Cd.is (Value.pointer (some ⟨w.heap.size, 3, none⟩)), Cd.is (Value.slice A n C), cTests [isTyp], cPart (.one [isTyp]), cParts [.one [isTyp]], Cd.is (Value.bool (rowOK [.one [isTyp]] f)), Cd.is (Value.bool (rowOK [.one [isTyp]] f))] (by kernel_rfl) (by decide) (by kernel_rfl) (Below.refl _ _) (fun _ _ _ h k => h.trans (k.mono h.size)) ?steps ?behind
  case steps =>
    intro xv W hW a ha
    replace hW := undrew hW
    simp only [fillA] at ha
    simp only [List.setIfInBounds_toArray, List.set_cons_succ, List.set_cons_zero, Nat.zero_add, Nat.reduceAdd] at ha
    subst ha
    refine ⟨fun hd K hK => ?s0, fun hd K hK => ?s1, fun hd K hK => ?s2, fun hd K hK => ?s3, fun hd K hK => ?s4, fun hd K hK => ?s5, fun hd K hK => ?s6, trivial⟩
    case s0 =>
      clear hd
      simp only [Act.put, List.setIfInBounds_toArray, List.set_cons_succ, List.set_cons_zero] at hK
      refine (if_pos (by rfl)).mpr ?_
      go_simp
      exact hK.out _ _ (Below.refl _ _) rfl
    case s1 =>
      have hx0 : xv 0 = Value.pointer (some ⟨w.heap.size, 3, none⟩) := hd 0 (by kernel_rfl)
      clear hd
      simp only [Act.put, List.setIfInBounds_toArray, List.set_cons_succ, List.set_cons_zero] at hK
      rw [hx0] at hK ⊢
      refine (if_pos (by rfl)).mpr ?_
      have hcell := HBOX.out W (HB.out.trans (hW.mono HB.out.size))
      go_simp
      exact hK.out _ _ (Below.refl _ _) rfl
    case s2 =>
      clear hd
      simp only [Act.put, List.setIfInBounds_toArray, List.set_cons_succ, List.set_cons_zero] at hK
      refine (if_pos (by rfl)).mpr ?_
      go_simp
      exact hK.out _ _ (below1 _ _) (tests_new1 W (test_isTyp W))
    case s3 =>
      have hx2 : Tests [isTyp] (xv 2) W := hd 2 (by kernel_rfl)
      clear hd
      simp only [Act.put, List.setIfInBounds_toArray, List.set_cons_succ, List.set_cons_zero] at hK
      refine (if_pos (by rfl)).mpr ?_
      obtain ⟨g2, e2, hg2, hc2⟩ := hx2
      rw [e2]
      rw [e2] at hK
      have HO := Lib.hid (one_any [isTyp] g2 _ W rfl (by decide) hg2 hc2)
      clear e2 hg2 hc2
      go_simp
      go_at_call 44
      refine HO.out.mono ?_
      rintro e w' ⟨hb, v, rfl, ht⟩
      exact hK.out _ _ hb ht
    case s4 =>
      have hx3 : PartOk W (xv 3) (.one [isTyp]) := hd 3 (by kernel_rfl)
      clear hd
      simp only [Act.put, List.setIfInBounds_toArray, List.set_cons_succ, List.set_cons_zero] at hK
      refine (if_pos (by rfl)).mpr ?_
      obtain ⟨gf3, c3, e3, hg3⟩ := hx3
      have hx3' : PartOk W (.func (.func gf3) #[] #[.pointer (some ⟨c3, 0, none⟩)]) (.one [isTyp]) := ⟨gf3, c3, rfl, hg3⟩
      clear hg3
      rw [e3] at hK ⊢
      have hx3 := Lib.hid hx3'
      clear hx3' e3
      go_simp
      exact hK.out _ _ (below1 _ _) (parts_new1 W hx3.out)
    case s5 =>
      have hx1 : xv 1 = Value.slice A n C := hd 1 (by kernel_rfl)
      have hx4 : Parts [.one [isTyp]] (xv 4) W := hd 4 (by kernel_rfl)
      clear hd
      simp only [Act.put, List.setIfInBounds_toArray, List.set_cons_succ, List.set_cons_zero] at hK
      rw [hx1] at hK ⊢
      refine (if_pos (by rfl)).mpr ?_
      obtain ⟨g4, e4, hg4, hc4⟩ := hx4
      rw [e4]
      rw [e4] at hK
      have HO := Lib.hid (row_any [.one [isTyp]] g4 _ A n C f W (HF.out.later (HB.out.trans (hW.mono HB.out.size))) rfl (by decide) hg4 hc4)
      clear e4 hg4 hc4
      go_simp
      go_at_call 42
      refine HO.out.mono ?_
      rintro e w' ⟨rfl, hb⟩
      exact hK.out _ _ hb rfl
    case s6 =>
      have hx5 : xv 5 = Value.bool (rowOK [.one [isTyp]] f) := hd 5 (by kernel_rfl)
      clear hd
      simp only [Act.put, List.setIfInBounds_toArray, List.set_cons_succ, List.set_cons_zero] at hK
      rw [hx5] at hK ⊢
      refine (if_pos (by rfl)).mpr ?_
      go_simp
      exact hK.out _ _ (Below.refl _ _) rfl
  case behind =>
    intro xv W hW hx a ha
    replace hW := undrew hW
    simp only [fillA] at ha
    simp only [List.setIfInBounds_toArray, List.set_cons_succ, List.set_cons_zero, Nat.zero_add, Nat.reduceAdd] at ha
    subst ha
    have hl : xv 6 = Value.bool (rowOK [.one [isTyp]] f) := hx 6 (by decide)
    rw [hl]
    clear hx hl
    have HE := Lib.hid (HKA.out.bel.trans (hW.mono HKA.out.bel.size))
    go_wp2
    go_ret
    exact ⟨rfl, HE.out⟩

set_option maxRecDepth 100000 in
set_option maxHeartbeats 8000000 in
theorem kids_4 (x y : ByteArray) (A : Option Addr) (n C : Nat) (f : F) (w : World) (hf : Fs w (Lo w.heap.size) (.slice A n C) f) : Calls Tryd.prog 37 #[.agg #[.int .i64 4, .string x, .string y, .slice A n C]] w fun e w' => e = .returned (.bool (kidsOK 4 x f)) ∧ Below w.heap.size w w' := by
  have HFS := Lib.hid hf
  have HOF := Lib.hid (of_any [33] (w.heap.size + 1) 1 ((w.alloc (.cells #[.int .i64 4, .string x, .string y, .slice A n C] 24)).alloc (.cells #[.int .i64 33] 3)) rfl (by decide) (by simp) (fun i u hu => by rw [World.cell?_alloc_at _ _ _ _ (by simp)]; match i, hu with | 0, hu => (cases hu; rfl)))
  rw [show kidsOK 4 x f = rowOK [.one [isVal]] f by simp [kidsOK]]
  clear hf
  go_enter Tryd.func37, Tryd.ntmps37
  go_wp2_with fail
  refine (HOF.out).mono ?_
  rintro e w3 ⟨hb3, v3, rfl, ht3⟩
  obtain ⟨g3, c3, rfl, hrest⟩ := ht3
  have HKA := Lib.hid (kidsAt_new w w3 4 x y A n C f g3 c3 HFS.out hb3 ⟨_, _, rfl, hrest⟩)
  have HB : Hid (Below w3.heap.size w3 w3) := Below.refl _ _
  have T3 := Lib.hid HKA.out.t3
  have HF := Lib.hid HKA.out.fs
  have HBOX : Hid (∀ W, Below w3.heap.size w3 W → W.cell? ⟨w.heap.size, 3, none⟩ = some (.slice A n C)) := fun W hW => (HKA.out.box W hW).2.2
  obtain ⟨hk0, hk1, hk3⟩ := HKA.out.box w3 (Below.refl _ _)
  clear hb3 hrest HFS HOF
  go_wp2
  refine region_rel (fun W W' => Below W.heap.size W W') [Cd.is (Value.pointer (some ⟨w.heap.size, 3, none⟩)), Cd.is (Value.slice A n C), cTests [isVal], cPart (.one [isVal]), cParts [.one [isVal]], Cd.is (Value.bool (rowOK [.one [isVal]] f)), Cd.is (Value.bool (rowOK [.one [isVal]] f))] (by kernel_rfl) (by decide) (by kernel_rfl) (Below.refl _ _) (fun _ _ _ h k => h.trans (k.mono h.size)) ?steps ?behind
  case steps =>
    intro xv W hW a ha
    replace hW := undrew hW
    simp only [fillA] at ha
    simp only [List.setIfInBounds_toArray, List.set_cons_succ, List.set_cons_zero, Nat.zero_add, Nat.reduceAdd] at ha
    subst ha
    refine ⟨fun hd K hK => ?s0, fun hd K hK => ?s1, fun hd K hK => ?s2, fun hd K hK => ?s3, fun hd K hK => ?s4, fun hd K hK => ?s5, fun hd K hK => ?s6, trivial⟩
    case s0 =>
      clear hd
      simp only [Act.put, List.setIfInBounds_toArray, List.set_cons_succ, List.set_cons_zero] at hK
      refine (if_pos (by rfl)).mpr ?_
      go_simp
      exact hK.out _ _ (Below.refl _ _) rfl
    case s1 =>
      have hx0 : xv 0 = Value.pointer (some ⟨w.heap.size, 3, none⟩) := hd 0 (by kernel_rfl)
      clear hd
      simp only [Act.put, List.setIfInBounds_toArray, List.set_cons_succ, List.set_cons_zero] at hK
      rw [hx0] at hK ⊢
      refine (if_pos (by rfl)).mpr ?_
      have hcell := HBOX.out W (HB.out.trans (hW.mono HB.out.size))
      go_simp
      exact hK.out _ _ (Below.refl _ _) rfl
    case s2 =>
      clear hd
      simp only [Act.put, List.setIfInBounds_toArray, List.set_cons_succ, List.set_cons_zero] at hK
      refine (if_pos (by rfl)).mpr ?_
      go_simp
      exact hK.out _ _ (below1 _ _) (tests_new1 W (test_isVal W))
    case s3 =>
      have hx2 : Tests [isVal] (xv 2) W := hd 2 (by kernel_rfl)
      clear hd
      simp only [Act.put, List.setIfInBounds_toArray, List.set_cons_succ, List.set_cons_zero] at hK
      refine (if_pos (by rfl)).mpr ?_
      obtain ⟨g2, e2, hg2, hc2⟩ := hx2
      rw [e2]
      rw [e2] at hK
      have HO := Lib.hid (one_any [isVal] g2 _ W rfl (by decide) hg2 hc2)
      clear e2 hg2 hc2
      go_simp
      go_at_call 44
      refine HO.out.mono ?_
      rintro e w' ⟨hb, v, rfl, ht⟩
      exact hK.out _ _ hb ht
    case s4 =>
      have hx3 : PartOk W (xv 3) (.one [isVal]) := hd 3 (by kernel_rfl)
      clear hd
      simp only [Act.put, List.setIfInBounds_toArray, List.set_cons_succ, List.set_cons_zero] at hK
      refine (if_pos (by rfl)).mpr ?_
      obtain ⟨gf3, c3, e3, hg3⟩ := hx3
      have hx3' : PartOk W (.func (.func gf3) #[] #[.pointer (some ⟨c3, 0, none⟩)]) (.one [isVal]) := ⟨gf3, c3, rfl, hg3⟩
      clear hg3
      rw [e3] at hK ⊢
      have hx3 := Lib.hid hx3'
      clear hx3' e3
      go_simp
      exact hK.out _ _ (below1 _ _) (parts_new1 W hx3.out)
    case s5 =>
      have hx1 : xv 1 = Value.slice A n C := hd 1 (by kernel_rfl)
      have hx4 : Parts [.one [isVal]] (xv 4) W := hd 4 (by kernel_rfl)
      clear hd
      simp only [Act.put, List.setIfInBounds_toArray, List.set_cons_succ, List.set_cons_zero] at hK
      rw [hx1] at hK ⊢
      refine (if_pos (by rfl)).mpr ?_
      obtain ⟨g4, e4, hg4, hc4⟩ := hx4
      rw [e4]
      rw [e4] at hK
      have HO := Lib.hid (row_any [.one [isVal]] g4 _ A n C f W (HF.out.later (HB.out.trans (hW.mono HB.out.size))) rfl (by decide) hg4 hc4)
      clear e4 hg4 hc4
      go_simp
      go_at_call 42
      refine HO.out.mono ?_
      rintro e w' ⟨rfl, hb⟩
      exact hK.out _ _ hb rfl
    case s6 =>
      have hx5 : xv 5 = Value.bool (rowOK [.one [isVal]] f) := hd 5 (by kernel_rfl)
      clear hd
      simp only [Act.put, List.setIfInBounds_toArray, List.set_cons_succ, List.set_cons_zero] at hK
      rw [hx5] at hK ⊢
      refine (if_pos (by rfl)).mpr ?_
      go_simp
      exact hK.out _ _ (Below.refl _ _) rfl
  case behind =>
    intro xv W hW hx a ha
    replace hW := undrew hW
    simp only [fillA] at ha
    simp only [List.setIfInBounds_toArray, List.set_cons_succ, List.set_cons_zero, Nat.zero_add, Nat.reduceAdd] at ha
    subst ha
    have hl : xv 6 = Value.bool (rowOK [.one [isVal]] f) := hx 6 (by decide)
    rw [hl]
    clear hx hl
    have HE := Lib.hid (HKA.out.bel.trans (hW.mono HKA.out.bel.size))
    go_wp2
    go_ret
    exact ⟨rfl, HE.out⟩

set_option maxRecDepth 100000 in
set_option maxHeartbeats 8000000 in
theorem kids_20 (x y : ByteArray) (A : Option Addr) (n C : Nat) (f : F) (w : World) (hf : Fs w (Lo w.heap.size) (.slice A n C) f) : Calls Tryd.prog 37 #[.agg #[.int .i64 20, .string x, .string y, .slice A n C]] w fun e w' => e = .returned (.bool (kidsOK 20 x f)) ∧ Below w.heap.size w w' := by
  have HFS := Lib.hid hf
  have HOF := Lib.hid (of_any [33] (w.heap.size + 1) 1 ((w.alloc (.cells #[.int .i64 20, .string x, .string y, .slice A n C] 24)).alloc (.cells #[.int .i64 33] 3)) rfl (by decide) (by simp) (fun i u hu => by rw [World.cell?_alloc_at _ _ _ _ (by simp)]; match i, hu with | 0, hu => (cases hu; rfl)))
  rw [show kidsOK 20 x f = rowOK [.many isVal] f by simp [kidsOK]]
  clear hf
  go_enter Tryd.func37, Tryd.ntmps37
  go_wp2_with fail
  refine (HOF.out).mono ?_
  rintro e w3 ⟨hb3, v3, rfl, ht3⟩
  obtain ⟨g3, c3, rfl, hrest⟩ := ht3
  have HKA := Lib.hid (kidsAt_new w w3 20 x y A n C f g3 c3 HFS.out hb3 ⟨_, _, rfl, hrest⟩)
  have HB : Hid (Below w3.heap.size w3 w3) := Below.refl _ _
  have T3 := Lib.hid HKA.out.t3
  have HF := Lib.hid HKA.out.fs
  have HBOX : Hid (∀ W, Below w3.heap.size w3 W → W.cell? ⟨w.heap.size, 3, none⟩ = some (.slice A n C)) := fun W hW => (HKA.out.box W hW).2.2
  obtain ⟨hk0, hk1, hk3⟩ := HKA.out.box w3 (Below.refl _ _)
  clear hb3 hrest HFS HOF
  go_wp2
  refine region_rel (fun W W' => Below W.heap.size W W') [Cd.is (Value.pointer (some ⟨w.heap.size, 3, none⟩)), Cd.is (Value.slice A n C), cPart (.many isVal), cParts [.many isVal], Cd.is (Value.bool (rowOK [.many isVal] f)), Cd.is (Value.bool (rowOK [.many isVal] f))] (by kernel_rfl) (by decide) (by kernel_rfl) (Below.refl _ _) (fun _ _ _ h k => h.trans (k.mono h.size)) ?steps ?behind
  case steps =>
    intro xv W hW a ha
    replace hW := undrew hW
    simp only [fillA] at ha
    simp only [List.setIfInBounds_toArray, List.set_cons_succ, List.set_cons_zero, Nat.zero_add, Nat.reduceAdd] at ha
    subst ha
    refine ⟨fun hd K hK => ?s0, fun hd K hK => ?s1, fun hd K hK => ?s2, fun hd K hK => ?s3, fun hd K hK => ?s4, fun hd K hK => ?s5, trivial⟩
    case s0 =>
      clear hd
      simp only [Act.put, List.setIfInBounds_toArray, List.set_cons_succ, List.set_cons_zero] at hK
      refine (if_pos (by rfl)).mpr ?_
      go_simp
      exact hK.out _ _ (Below.refl _ _) rfl
    case s1 =>
      have hx0 : xv 0 = Value.pointer (some ⟨w.heap.size, 3, none⟩) := hd 0 (by kernel_rfl)
      clear hd
      simp only [Act.put, List.setIfInBounds_toArray, List.set_cons_succ, List.set_cons_zero] at hK
      rw [hx0] at hK ⊢
      refine (if_pos (by rfl)).mpr ?_
      have hcell := HBOX.out W (HB.out.trans (hW.mono HB.out.size))
      go_simp
      exact hK.out _ _ (Below.refl _ _) rfl
    case s2 =>
      clear hd
      simp only [Act.put, List.setIfInBounds_toArray, List.set_cons_succ, List.set_cons_zero] at hK
      refine (if_pos (by rfl)).mpr ?_
      go_simp
      go_at_call 43
      refine (many_any isVal _ _ W (test_isVal W)).mono ?_
      rintro e w' ⟨hb, v, rfl, ht⟩
      exact hK.out _ _ hb ht
    case s3 =>
      have hx2 : PartOk W (xv 2) (.many isVal) := hd 2 (by kernel_rfl)
      clear hd
      simp only [Act.put, List.setIfInBounds_toArray, List.set_cons_succ, List.set_cons_zero] at hK
      refine (if_pos (by rfl)).mpr ?_
      obtain ⟨gf2, c2, e2, hg2⟩ := hx2
      have hx2' : PartOk W (.func (.func gf2) #[] #[.pointer (some ⟨c2, 0, none⟩)]) (.many isVal) := ⟨gf2, c2, rfl, hg2⟩
      clear hg2
      rw [e2] at hK ⊢
      have hx2 := Lib.hid hx2'
      clear hx2' e2
      go_simp
      exact hK.out _ _ (below1 _ _) (parts_new1 W hx2.out)
    case s4 =>
      have hx1 : xv 1 = Value.slice A n C := hd 1 (by kernel_rfl)
      have hx3 : Parts [.many isVal] (xv 3) W := hd 3 (by kernel_rfl)
      clear hd
      simp only [Act.put, List.setIfInBounds_toArray, List.set_cons_succ, List.set_cons_zero] at hK
      rw [hx1] at hK ⊢
      refine (if_pos (by rfl)).mpr ?_
      obtain ⟨g3, e3, hg3, hc3⟩ := hx3
      rw [e3]
      rw [e3] at hK
      have HO := Lib.hid (row_any [.many isVal] g3 _ A n C f W (HF.out.later (HB.out.trans (hW.mono HB.out.size))) rfl (by decide) hg3 hc3)
      clear e3 hg3 hc3
      go_simp
      go_at_call 42
      refine HO.out.mono ?_
      rintro e w' ⟨rfl, hb⟩
      exact hK.out _ _ hb rfl
    case s5 =>
      have hx4 : xv 4 = Value.bool (rowOK [.many isVal] f) := hd 4 (by kernel_rfl)
      clear hd
      simp only [Act.put, List.setIfInBounds_toArray, List.set_cons_succ, List.set_cons_zero] at hK
      rw [hx4] at hK ⊢
      refine (if_pos (by rfl)).mpr ?_
      go_simp
      exact hK.out _ _ (Below.refl _ _) rfl
  case behind =>
    intro xv W hW hx a ha
    replace hW := undrew hW
    simp only [fillA] at ha
    simp only [List.setIfInBounds_toArray, List.set_cons_succ, List.set_cons_zero, Nat.zero_add, Nat.reduceAdd] at ha
    subst ha
    have hl : xv 5 = Value.bool (rowOK [.many isVal] f) := hx 5 (by decide)
    rw [hl]
    clear hx hl
    have HE := Lib.hid (HKA.out.bel.trans (hW.mono HKA.out.bel.size))
    go_wp2
    go_ret
    exact ⟨rfl, HE.out⟩

set_option maxRecDepth 100000 in
set_option maxHeartbeats 8000000 in
theorem kids_24 (x y : ByteArray) (A : Option Addr) (n C : Nat) (f : F) (w : World) (hf : Fs w (Lo w.heap.size) (.slice A n C) f) : Calls Tryd.prog 37 #[.agg #[.int .i64 24, .string x, .string y, .slice A n C]] w fun e w' => e = .returned (.bool (kidsOK 24 x f)) ∧ Below w.heap.size w w' := by
  have HFS := Lib.hid hf
  have HOF := Lib.hid (of_any [33] (w.heap.size + 1) 1 ((w.alloc (.cells #[.int .i64 24, .string x, .string y, .slice A n C] 24)).alloc (.cells #[.int .i64 33] 3)) rfl (by decide) (by simp) (fun i u hu => by rw [World.cell?_alloc_at _ _ _ _ (by simp)]; match i, hu with | 0, hu => (cases hu; rfl)))
  rw [show kidsOK 24 x f = decide (f.len = 0) by simp [kidsOK]]
  obtain ⟨A0, C0, e, _, _⟩ := hf.slice
  injection e with e1 e2 e3
  subst e2
  clear hf e1 e3
  by_cases hz : f.len = 0
  · have hzz : ((f.len : Int) == 0) = true := by rw [hz]; rfl
    rw [show decide (f.len = 0) = true from decide_eq_true hz]
    clear hz
    go_enter Tryd.func37, Tryd.ntmps37
    go_wp2_with fail
    refine (HOF.out).mono ?_
    rintro e w3 ⟨hb3, v3, rfl, ht3⟩
    obtain ⟨g3, c3, rfl, hrest⟩ := ht3
    have HKA := Lib.hid (kidsAt_new w w3 24 x y A f.len C f g3 c3 HFS.out hb3 ⟨_, _, rfl, hrest⟩)
    have HB : Hid (Below w3.heap.size w3 w3) := Below.refl _ _
    have T3 := Lib.hid HKA.out.t3
    have HF := Lib.hid HKA.out.fs
    have HBOX : Hid (∀ W, Below w3.heap.size w3 W → W.cell? ⟨w.heap.size, 3, none⟩ = some (.slice A f.len C)) := fun W hW => (HKA.out.box W hW).2.2
    obtain ⟨hk0, hk1, hk3⟩ := HKA.out.box w3 (Below.refl _ _)
    clear hb3 hrest HFS HOF
    go_wp2
    go_ret
    exact ⟨rfl, HKA.out.bel⟩
  · have hzz : ((f.len : Int) == 0) = false := kno (by omega)
    rw [show decide (f.len = 0) = false from decide_eq_false hz]
    clear hz
    go_enter Tryd.func37, Tryd.ntmps37
    go_wp2_with fail
    refine (HOF.out).mono ?_
    rintro e w3 ⟨hb3, v3, rfl, ht3⟩
    obtain ⟨g3, c3, rfl, hrest⟩ := ht3
    have HKA := Lib.hid (kidsAt_new w w3 24 x y A f.len C f g3 c3 HFS.out hb3 ⟨_, _, rfl, hrest⟩)
    have HB : Hid (Below w3.heap.size w3 w3) := Below.refl _ _
    have T3 := Lib.hid HKA.out.t3
    have HF := Lib.hid HKA.out.fs
    have HBOX : Hid (∀ W, Below w3.heap.size w3 W → W.cell? ⟨w.heap.size, 3, none⟩ = some (.slice A f.len C)) := fun W hW => (HKA.out.box W hW).2.2
    obtain ⟨hk0, hk1, hk3⟩ := HKA.out.box w3 (Below.refl _ _)
    clear hb3 hrest HFS HOF
    go_wp2
    go_ret
    exact ⟨rfl, HKA.out.bel⟩
set_option maxRecDepth 100000 in
set_option maxHeartbeats 8000000 in
theorem kids_2 (x y : ByteArray) (A : Option Addr) (n C : Nat) (f : F) (w : World) (hf : Fs w (Lo w.heap.size) (.slice A n C) f) : Calls Tryd.prog 37 #[.agg #[.int .i64 2, .string x, .string y, .slice A n C]] w fun e w' => e = .returned (.bool (kidsOK 2 x f)) ∧ Below w.heap.size w w' := by
  have HFS := Lib.hid hf
  have HOF := Lib.hid (of_any [33] (w.heap.size + 1) 1 ((w.alloc (.cells #[.int .i64 2, .string x, .string y, .slice A n C] 24)).alloc (.cells #[.int .i64 33] 3)) rfl (by decide) (by simp) (fun i u hu => by rw [World.cell?_alloc_at _ _ _ _ (by simp)]; match i, hu with | 0, hu => (cases hu; rfl)))
  rw [show kidsOK 2 x f = decide (f.len = 0) by simp [kidsOK]]
  obtain ⟨A0, C0, e, _, _⟩ := hf.slice
  injection e with e1 e2 e3
  subst e2
  clear hf e1 e3
  by_cases hz : f.len = 0
  · have hzz : ((f.len : Int) == 0) = true := by rw [hz]; rfl
    rw [show decide (f.len = 0) = true from decide_eq_true hz]
    clear hz
    go_enter Tryd.func37, Tryd.ntmps37
    go_wp2_with fail
    refine (HOF.out).mono ?_
    rintro e w3 ⟨hb3, v3, rfl, ht3⟩
    obtain ⟨g3, c3, rfl, hrest⟩ := ht3
    have HKA := Lib.hid (kidsAt_new w w3 2 x y A f.len C f g3 c3 HFS.out hb3 ⟨_, _, rfl, hrest⟩)
    have HB : Hid (Below w3.heap.size w3 w3) := Below.refl _ _
    have T3 := Lib.hid HKA.out.t3
    have HF := Lib.hid HKA.out.fs
    have HBOX : Hid (∀ W, Below w3.heap.size w3 W → W.cell? ⟨w.heap.size, 3, none⟩ = some (.slice A f.len C)) := fun W hW => (HKA.out.box W hW).2.2
    obtain ⟨hk0, hk1, hk3⟩ := HKA.out.box w3 (Below.refl _ _)
    clear hb3 hrest HFS HOF
    go_wp2
    go_ret
    exact ⟨rfl, HKA.out.bel⟩
  · have hzz : ((f.len : Int) == 0) = false := kno (by omega)
    rw [show decide (f.len = 0) = false from decide_eq_false hz]
    clear hz
    go_enter Tryd.func37, Tryd.ntmps37
    go_wp2_with fail
    refine (HOF.out).mono ?_
    rintro e w3 ⟨hb3, v3, rfl, ht3⟩
    obtain ⟨g3, c3, rfl, hrest⟩ := ht3
    have HKA := Lib.hid (kidsAt_new w w3 2 x y A f.len C f g3 c3 HFS.out hb3 ⟨_, _, rfl, hrest⟩)
    have HB : Hid (Below w3.heap.size w3 w3) := Below.refl _ _
    have T3 := Lib.hid HKA.out.t3
    have HF := Lib.hid HKA.out.fs
    have HBOX : Hid (∀ W, Below w3.heap.size w3 W → W.cell? ⟨w.heap.size, 3, none⟩ = some (.slice A f.len C)) := fun W hW => (HKA.out.box W hW).2.2
    obtain ⟨hk0, hk1, hk3⟩ := HKA.out.box w3 (Below.refl _ _)
    clear hb3 hrest HFS HOF
    go_wp2
    go_ret
    exact ⟨rfl, HKA.out.bel⟩
set_option maxRecDepth 100000 in
set_option maxHeartbeats 8000000 in
theorem kids_9 (x y : ByteArray) (A : Option Addr) (n C : Nat) (f : F) (w : World) (hf : Fs w (Lo w.heap.size) (.slice A n C) f) : Calls Tryd.prog 37 #[.agg #[.int .i64 9, .string x, .string y, .slice A n C]] w fun e w' => e = .returned (.bool (kidsOK 9 x f)) ∧ Below w.heap.size w w' := by
  have HFS := Lib.hid hf
  have HOF := Lib.hid (of_any [33] (w.heap.size + 1) 1 ((w.alloc (.cells #[.int .i64 9, .string x, .string y, .slice A n C] 24)).alloc (.cells #[.int .i64 33] 3)) rfl (by decide) (by simp) (fun i u hu => by rw [World.cell?_alloc_at _ _ _ _ (by simp)]; match i, hu with | 0, hu => (cases hu; rfl)))
  rw [show kidsOK 9 x f = decide (f.len = 0) by simp [kidsOK]]
  obtain ⟨A0, C0, e, _, _⟩ := hf.slice
  injection e with e1 e2 e3
  subst e2
  clear hf e1 e3
  by_cases hz : f.len = 0
  · have hzz : ((f.len : Int) == 0) = true := by rw [hz]; rfl
    rw [show decide (f.len = 0) = true from decide_eq_true hz]
    clear hz
    go_enter Tryd.func37, Tryd.ntmps37
    go_wp2_with fail
    refine (HOF.out).mono ?_
    rintro e w3 ⟨hb3, v3, rfl, ht3⟩
    obtain ⟨g3, c3, rfl, hrest⟩ := ht3
    have HKA := Lib.hid (kidsAt_new w w3 9 x y A f.len C f g3 c3 HFS.out hb3 ⟨_, _, rfl, hrest⟩)
    have HB : Hid (Below w3.heap.size w3 w3) := Below.refl _ _
    have T3 := Lib.hid HKA.out.t3
    have HF := Lib.hid HKA.out.fs
    have HBOX : Hid (∀ W, Below w3.heap.size w3 W → W.cell? ⟨w.heap.size, 3, none⟩ = some (.slice A f.len C)) := fun W hW => (HKA.out.box W hW).2.2
    obtain ⟨hk0, hk1, hk3⟩ := HKA.out.box w3 (Below.refl _ _)
    clear hb3 hrest HFS HOF
    go_wp2
    go_ret
    exact ⟨rfl, HKA.out.bel⟩
  · have hzz : ((f.len : Int) == 0) = false := kno (by omega)
    rw [show decide (f.len = 0) = false from decide_eq_false hz]
    clear hz
    go_enter Tryd.func37, Tryd.ntmps37
    go_wp2_with fail
    refine (HOF.out).mono ?_
    rintro e w3 ⟨hb3, v3, rfl, ht3⟩
    obtain ⟨g3, c3, rfl, hrest⟩ := ht3
    have HKA := Lib.hid (kidsAt_new w w3 9 x y A f.len C f g3 c3 HFS.out hb3 ⟨_, _, rfl, hrest⟩)
    have HB : Hid (Below w3.heap.size w3 w3) := Below.refl _ _
    have T3 := Lib.hid HKA.out.t3
    have HF := Lib.hid HKA.out.fs
    have HBOX : Hid (∀ W, Below w3.heap.size w3 W → W.cell? ⟨w.heap.size, 3, none⟩ = some (.slice A f.len C)) := fun W hW => (HKA.out.box W hW).2.2
    obtain ⟨hk0, hk1, hk3⟩ := HKA.out.box w3 (Below.refl _ _)
    clear hb3 hrest HFS HOF
    go_wp2
    go_ret
    exact ⟨rfl, HKA.out.bel⟩
end Go.Proofs.YtoecimgmghlfpaaDoor.Tree
