/-
  Layer 5 (tree): kidsFit, some of the kinds. Written by gen_treekids.py.
-/
import Derived.Test.YtoecimgmghlfpaaDoorTreeKids
namespace Go.Proofs.YtoecimgmghlfpaaDoor.Tree
open Go.ChangeShapes Go.WideShapes Go.ChangeAt Go.RowKit Mem
set_option linter.unusedVariables false

set_option maxRecDepth 100000 in
set_option maxHeartbeats 8000000 in
theorem kids_5 (x y : ByteArray) (A : Option Addr) (n C : Nat) (f : F) (w : World) (hf : Fs w (Lo w.heap.size) (.slice A n C) f) : Calls Tryd.prog 37 #[.agg #[.int .i64 5, .string x, .string y, .slice A n C]] w fun e w' => e = .returned (.bool (kidsOK 5 x f)) ∧ Below w.heap.size w w' := by
  have HFS := Lib.hid hf
  have HOF := Lib.hid (of_any [33] (w.heap.size + 1) 1 ((w.alloc (.cells #[.int .i64 5, .string x, .string y, .slice A n C] 24)).alloc (.cells #[.int .i64 33] 3)) rfl (by decide) (by simp) (fun i u hu => by rw [World.cell?_alloc_at _ _ _ _ (by simp)]; match i, hu with | 0, hu => (cases hu; rfl)))
  rw [show kidsOK 5 x f = (rowOK [.one [isTyp, isOf [33]], .one [isVal, isOf [33]]] f && !rowOK [.one [isOf [33]], .one [isOf [33]]] f) by simp [kidsOK]]
  clear hf
  cases hp : rowOK [.one [isTyp, isOf [33]], .one [isVal, isOf [33]]] f with
  | true =>
    go_enter Tryd.func37, Tryd.ntmps37
    go_wp2_with fail
    refine (HOF.out).mono ?_
    rintro e w3 ⟨hb3, v3, rfl, ht3⟩
    obtain ⟨g3, c3, rfl, hrest⟩ := ht3
    have HKA := Lib.hid (kidsAt_new w w3 5 x y A n C f g3 c3 HFS.out hb3 ⟨_, _, rfl, hrest⟩)
    have HB : Hid (Below w3.heap.size w3 w3) := Below.refl _ _
    have T3 := Lib.hid HKA.out.t3
    have HF := Lib.hid HKA.out.fs
    have HBOX : Hid (∀ W, Below w3.heap.size w3 W → W.cell? ⟨w.heap.size, 3, none⟩ = some (.slice A n C)) := fun W hW => (HKA.out.box W hW).2.2
    obtain ⟨hk0, hk1, hk3⟩ := HKA.out.box w3 (Below.refl _ _)
    clear hb3 hrest HFS HOF
    go_wp2
    refine region_rel (fun W W' => Below W.heap.size W W') [Cd.is (Value.pointer (some ⟨w.heap.size, 3, none⟩)), Cd.is (Value.slice A n C), Cd.is (Value.func (.func g3) #[] c3), cTests [isTyp, isOf [33]], cPart (.one [isTyp, isOf [33]]), Cd.is (Value.func (.func g3) #[] c3), cTests [isVal, isOf [33]], cPart (.one [isVal, isOf [33]]), cParts [.one [isTyp, isOf [33]], .one [isVal, isOf [33]]], Cd.is (Value.bool true), Cd.is (Value.bool true), Cd.is (Value.pointer (some ⟨w.heap.size, 3, none⟩)), Cd.is (Value.slice A n C), Cd.is (Value.func (.func g3) #[] c3), cTests [isOf [33]], cPart (.one [isOf [33]]), Cd.is (Value.func (.func g3) #[] c3), cTests [isOf [33]], cPart (.one [isOf [33]]), cParts [.one [isOf [33]], .one [isOf [33]]], Cd.is (Value.bool (rowOK [.one [isOf [33]], .one [isOf [33]]] f)), Cd.is (Value.bool (!rowOK [.one [isOf [33]], .one [isOf [33]]] f)), Cd.is (Value.bool (!rowOK [.one [isOf [33]], .one [isOf [33]]] f)), Cd.is (Value.bool (!rowOK [.one [isOf [33]], .one [isOf [33]]] f))] (by kernel_rfl) (by decide) (by kernel_rfl) (Below.refl _ _) (fun _ _ _ h k => h.trans (k.mono h.size)) ?steps ?behind
    case steps =>
      intro xv W hW a ha
      replace hW := undrew hW
      simp only [fillA] at ha
      simp only [List.setIfInBounds_toArray, List.set_cons_succ, List.set_cons_zero, Nat.zero_add, Nat.reduceAdd] at ha
      subst ha
      refine ⟨fun hd K hK => ?s0, fun hd K hK => ?s1, fun hd K hK => ?s2, fun hd K hK => ?s3, fun hd K hK => ?s4, fun hd K hK => ?s5, fun hd K hK => ?s6, fun hd K hK => ?s7, fun hd K hK => ?s8, fun hd K hK => ?s9, fun hd K hK => ?s10, fun hd K hK => ?s11, fun hd K hK => ?s12, fun hd K hK => ?s13, fun hd K hK => ?s14, fun hd K hK => ?s15, fun hd K hK => ?s16, fun hd K hK => ?s17, fun hd K hK => ?s18, fun hd K hK => ?s19, fun hd K hK => ?s20, fun hd K hK => ?s21, fun hd K hK => ?s22, fun hd K hK => ?s23, trivial⟩
      case s0 =>
        clear hd
        simp only [Act.put, List.setIfInBounds_toArray, List.set_cons_succ, List.set_cons_zero] at hK
        refine (if_pos (by rfl)).mpr ?_
        go_simp
        exact hK.out _ _ (Below.refl _ _) rfl
      case s1 =>
        have hx0 : xv 0 = Value.pointer (some ⟨w.heap.size, 3, none⟩) := hd 0 (by kernel_rfl)
        clear hd
        simp only [Act.put, List.setIfInBounds_toArray, List.set_cons_succ, List.set_cons_zero] at hK
        rw [hx0] at hK ⊢
        refine (if_pos (by rfl)).mpr ?_
        have hcell := HBOX.out W (HB.out.trans (hW.mono HB.out.size))
        go_simp
        exact hK.out _ _ (Below.refl _ _) rfl
      case s2 =>
        clear hd
        simp only [Act.put, List.setIfInBounds_toArray, List.set_cons_succ, List.set_cons_zero] at hK
        refine (if_pos (by rfl)).mpr ?_
        go_simp
        exact hK.out _ _ (Below.refl _ _) rfl
      case s3 =>
        have hx2 : xv 2 = Value.func (.func g3) #[] c3 := hd 2 (by kernel_rfl)
        clear hd
        simp only [Act.put, List.setIfInBounds_toArray, List.set_cons_succ, List.set_cons_zero] at hK
        rw [hx2] at hK ⊢
        refine (if_pos (by rfl)).mpr ?_
        go_simp
        exact hK.out _ _ (below1 _ _) (tests_new2 W (test_isTyp W) (T3.out.later hW))
      case s4 =>
        have hx3 : Tests [isTyp, isOf [33]] (xv 3) W := hd 3 (by kernel_rfl)
        clear hd
        simp only [Act.put, List.setIfInBounds_toArray, List.set_cons_succ, List.set_cons_zero] at hK
        refine (if_pos (by rfl)).mpr ?_
        obtain ⟨g3, e3, hg3, hc3⟩ := hx3
        rw [e3]
        rw [e3] at hK
        have HO := Lib.hid (one_any [isTyp, isOf [33]] g3 _ W rfl (by decide) hg3 hc3)
        clear e3 hg3 hc3
        go_simp
        go_at_call 44
        refine HO.out.mono ?_
        rintro e w' ⟨hb, v, rfl, ht⟩
        exact hK.out _ _ hb ht
      case s5 =>
        clear hd
        simp only [Act.put, List.setIfInBounds_toArray, List.set_cons_succ, List.set_cons_zero] at hK
        refine (if_pos (by rfl)).mpr ?_
        go_simp
        exact hK.out _ _ (Below.refl _ _) rfl
      case s6 =>
        have hx5 : xv 5 = Value.func (.func g3) #[] c3 := hd 5 (by kernel_rfl)
        clear hd
        simp only [Act.put, List.setIfInBounds_toArray, List.set_cons_succ, List.set_cons_zero] at hK
        rw [hx5] at hK ⊢
        refine (if_pos (by rfl)).mpr ?_
        go_simp
        exact hK.out _ _ (below1 _ _) (tests_new2 W (test_isVal W) (T3.out.later hW))
      case s7 =>
        have hx6 : Tests [isVal, isOf [33]] (xv 6) W := hd 6 (by kernel_rfl)
        clear hd
        simp only [Act.put, List.setIfInBounds_toArray, List.set_cons_succ, List.set_cons_zero] at hK
        refine (if_pos (by rfl)).mpr ?_
        obtain ⟨g6, e6, hg6, hc6⟩ := hx6
        rw [e6]
        rw [e6] at hK
        have HO := Lib.hid (one_any [isVal, isOf [33]] g6 _ W rfl (by decide) hg6 hc6)
        clear e6 hg6 hc6
        go_simp
        go_at_call 44
        refine HO.out.mono ?_
        rintro e w' ⟨hb, v, rfl, ht⟩
        exact hK.out _ _ hb ht
      case s8 =>
        have hx4 : PartOk W (xv 4) (.one [isTyp, isOf [33]]) := hd 4 (by kernel_rfl)
        have hx7 : PartOk W (xv 7) (.one [isVal, isOf [33]]) := hd 7 (by kernel_rfl)
        clear hd
        simp only [Act.put, List.setIfInBounds_toArray, List.set_cons_succ, List.set_cons_zero] at hK
        refine (if_pos (by rfl)).mpr ?_
        obtain ⟨gf4, c4, e4, hg4⟩ := hx4
        have hx4' : PartOk W (.func (.func gf4) #[] #[.pointer (some ⟨c4, 0, none⟩)]) (.one [isTyp, isOf [33]]) := ⟨gf4, c4, rfl, hg4⟩
        clear hg4
        rw [e4] at hK ⊢
        have hx4 := Lib.hid hx4'
        clear hx4' e4
        obtain ⟨gf7, c7, e7, hg7⟩ := hx7
        have hx7' : PartOk W (.func (.func gf7) #[] #[.pointer (some ⟨c7, 0, none⟩)]) (.one [isVal, isOf [33]]) := ⟨gf7, c7, rfl, hg7⟩
        clear hg7
        rw [e7] at hK ⊢
        have hx7 := Lib.hid hx7'
        clear hx7' e7
        go_simp
        exact hK.out _ _ (below1 _ _) (parts_new2 W hx4.out hx7.out)
      case s9 =>
        have hx1 : xv 1 = Value.slice A n C := hd 1 (by kernel_rfl)
        have hx8 : Parts [.one [isTyp, isOf [33]], .one [isVal, isOf [33]]] (xv 8) W := hd 8 (by kernel_rfl)
        clear hd
        simp only [Act.put, List.setIfInBounds_toArray, List.set_cons_succ, List.set_cons_zero] at hK
        rw [hx1] at hK ⊢
        refine (if_pos (by rfl)).mpr ?_
        obtain ⟨g8, e8, hg8, hc8⟩ := hx8
        rw [e8]
        rw [e8] at hK
        have HO := Lib.hid (row_any [.one [isTyp, isOf [33]], .one [isVal, isOf [33]]] g8 _ A n C f W (HF.out.later (HB.out.trans (hW.mono HB.out.size))) rfl (by decide) hg8 hc8)
        clear e8 hg8 hc8
        go_simp
        go_at_call 42
        refine HO.out.mono ?_
        rintro e w' ⟨rfl, hb⟩
        first | (exact hK.out _ _ hb rfl) | (exact hK.out _ _ hb (congrArg Value.bool hp))
      case s10 =>
        have hx9 : xv 9 = Value.bool true := hd 9 (by kernel_rfl)
        clear hd
        simp only [Act.put, List.setIfInBounds_toArray, List.set_cons_succ, List.set_cons_zero] at hK
        rw [hx9] at hK ⊢
        refine (if_pos (by rfl)).mpr ?_
        go_simp
        exact hK.out _ _ (Below.refl _ _) rfl
      case s11 =>
        have hx10 : xv 10 = Value.bool true := hd 10 (by kernel_rfl)
        clear hd
        simp only [Act.put, List.setIfInBounds_toArray, List.set_cons_succ, List.set_cons_zero] at hK
        rw [hx10] at hK ⊢
        refine (if_pos (by rfl)).mpr ?_
        go_simp
        exact hK.out _ _ (Below.refl _ _) rfl
      case s12 =>
        have hx10 : xv 10 = Value.bool true := hd 10 (by kernel_rfl)
        have hx11 : xv 11 = Value.pointer (some ⟨w.heap.size, 3, none⟩) := hd 11 (by kernel_rfl)
        clear hd
        simp only [Act.put, List.setIfInBounds_toArray, List.set_cons_succ, List.set_cons_zero] at hK
        rw [hx10] at hK ⊢
        rw [hx11] at hK ⊢
        refine (if_pos (by rfl)).mpr ?_
        have hcell := HBOX.out W (HB.out.trans (hW.mono HB.out.size))
        go_simp
        exact hK.out _ _ (Below.refl _ _) rfl
      case s13 =>
        have hx10 : xv 10 = Value.bool true := hd 10 (by kernel_rfl)
        clear hd
        simp only [Act.put, List.setIfInBounds_toArray, List.set_cons_succ, List.set_cons_zero] at hK
        rw [hx10] at hK ⊢
        refine (if_pos (by rfl)).mpr ?_
        go_simp
        exact hK.out _ _ (Below.refl _ _) rfl
      case s14 =>
        have hx10 : xv 10 = Value.bool true := hd 10 (by kernel_rfl)
        have hx13 : xv 13 = Value.func (.func g3) #[] c3 := hd 13 (by kernel_rfl)
        clear hd
        simp only [Act.put, List.setIfInBounds_toArray, List.set_cons_succ, List.set_cons_zero] at hK
        rw [hx10] at hK ⊢
        rw [hx13] at hK ⊢
        refine (if_pos (by rfl)).mpr ?_
        go_simp
        exact hK.out _ _ (below1 _ _) (tests_new1 W (T3.out.later hW))
      case s15 =>
        have hx10 : xv 10 = Value.bool true := hd 10 (by kernel_rfl)
        have hx14 : Tests [isOf [33]] (xv 14) W := hd 14 (by kernel_rfl)
        clear hd
        simp only [Act.put, List.setIfInBounds_toArray, List.set_cons_succ, List.set_cons_zero] at hK
        rw [hx10] at hK ⊢
        refine (if_pos (by rfl)).mpr ?_
        obtain ⟨g14, e14, hg14, hc14⟩ := hx14
        rw [e14]
        rw [e14] at hK
        have HO := Lib.hid (one_any [isOf [33]] g14 _ W rfl (by decide) hg14 hc14)
        clear e14 hg14 hc14
        go_simp
        go_at_call 44
        refine HO.out.mono ?_
        rintro e w' ⟨hb, v, rfl, ht⟩
        exact hK.out _ _ hb ht
      case s16 =>
        have hx10 : xv 10 = Value.bool true := hd 10 (by kernel_rfl)
        clear hd
        simp only [Act.put, List.setIfInBounds_toArray, List.set_cons_succ, List.set_cons_zero] at hK
        rw [hx10] at hK ⊢
        refine (if_pos (by rfl)).mpr ?_
        go_simp
        exact hK.out _ _ (Below.refl _ _) rfl
      case s17 =>
        have hx10 : xv 10 = Value.bool true := hd 10 (by kernel_rfl)
        have hx16 : xv 16 = Value.func (.func g3) #[] c3 := hd 16 (by kernel_rfl)
        clear hd
        simp only [Act.put, List.setIfInBounds_toArray, List.set_cons_succ, List.set_cons_zero] at hK
        rw [hx10] at hK ⊢
        rw [hx16] at hK ⊢
        refine (if_pos (by rfl)).mpr ?_
        go_simp
        exact hK.out _ _ (below1 _ _) (tests_new1 W (T3.out.later hW))
      case s18 =>
        have hx10 : xv 10 = Value.bool true := hd 10 (by kernel_rfl)
        have hx17 : Tests [isOf [33]] (xv 17) W := hd 17 (by kernel_rfl)
        clear hd
        simp only [Act.put, List.setIfInBounds_toArray, List.set_cons_succ, List.set_cons_zero] at hK
        rw [hx10] at hK ⊢
        refine (if_pos (by rfl)).mpr ?_
        obtain ⟨g17, e17, hg17, hc17⟩ := hx17
        rw [e17]
        rw [e17] at hK
        have HO := Lib.hid (one_any [isOf [33]] g17 _ W rfl (by decide) hg17 hc17)
        clear e17 hg17 hc17
        go_simp
        go_at_call 44
        refine HO.out.mono ?_
        rintro e w' ⟨hb, v, rfl, ht⟩
        exact hK.out _ _ hb ht
      case s19 =>
        have hx10 : xv 10 = Value.bool true := hd 10 (by kernel_rfl)
        have hx15 : PartOk W (xv 15) (.one [isOf [33]]) := hd 15 (by kernel_rfl)
        have hx18 : PartOk W (xv 18) (.one [isOf [33]]) := hd 18 (by kernel_rfl)
        clear hd
        simp only [Act.put, List.setIfInBounds_toArray, List.set_cons_succ, List.set_cons_zero] at hK
        rw [hx10] at hK ⊢
        refine (if_pos (by rfl)).mpr ?_
        obtain ⟨gf15, c15, e15, hg15⟩ := hx15
        have hx15' : PartOk W (.func (.func gf15) #[] #[.pointer (some ⟨c15, 0, none⟩)]) (.one [isOf [33]]) := ⟨gf15, c15, rfl, hg15⟩
        clear hg15
        rw [e15] at hK ⊢
        have hx15 := Lib.hid hx15'
        clear hx15' e15
        obtain ⟨gf18, c18, e18, hg18⟩ := hx18
        have hx18' : PartOk W (.func (.func gf18) #[] #[.pointer (some ⟨c18, 0, none⟩)]) (.one [isOf [33]]) := ⟨gf18, c18, rfl, hg18⟩
        clear hg18
        rw [e18] at hK ⊢
        have hx18 := Lib.hid hx18'
        clear hx18' e18
        go_simp
        exact hK.out _ _ (below1 _ _) (parts_new2 W hx15.out hx18.out)
      case s20 =>
        have hx10 : xv 10 = Value.bool true := hd 10 (by kernel_rfl)
        have hx12 : xv 12 = Value.slice A n C := hd 12 (by kernel_rfl)
        have hx19 : Parts [.one [isOf [33]], .one [isOf [33]]] (xv 19) W := hd 19 (by kernel_rfl)
        clear hd
        simp only [Act.put, List.setIfInBounds_toArray, List.set_cons_succ, List.set_cons_zero] at hK
        rw [hx10] at hK ⊢
        rw [hx12] at hK ⊢
        refine (if_pos (by rfl)).mpr ?_
        obtain ⟨g19, e19, hg19, hc19⟩ := hx19
        rw [e19]
        rw [e19] at hK
        have HO := Lib.hid (row_any [.one [isOf [33]], .one [isOf [33]]] g19 _ A n C f W (HF.out.later (HB.out.trans (hW.mono HB.out.size))) rfl (by decide) hg19 hc19)
        clear e19 hg19 hc19
        go_simp
        go_at_call 42
        refine HO.out.mono ?_
        rintro e w' ⟨rfl, hb⟩
        first | (exact hK.out _ _ hb rfl) | (exact hK.out _ _ hb (congrArg Value.bool hp))
      case s21 =>
        have hx10 : xv 10 = Value.bool true := hd 10 (by kernel_rfl)
        have hx20 : xv 20 = Value.bool (rowOK [.one [isOf [33]], .one [isOf [33]]] f) := hd 20 (by kernel_rfl)
        clear hd
        simp only [Act.put, List.setIfInBounds_toArray, List.set_cons_succ, List.set_cons_zero] at hK
        rw [hx10] at hK ⊢
        rw [hx20] at hK ⊢
        refine (if_pos (by rfl)).mpr ?_
        go_simp
        exact hK.out _ _ (Below.refl _ _) rfl
      case s22 =>
        have hx10 : xv 10 = Value.bool true := hd 10 (by kernel_rfl)
        have hx21 : xv 21 = Value.bool (!rowOK [.one [isOf [33]], .one [isOf [33]]] f) := hd 21 (by kernel_rfl)
        clear hd
        simp only [Act.put, List.setIfInBounds_toArray, List.set_cons_succ, List.set_cons_zero] at hK
        rw [hx10] at hK ⊢
        rw [hx21] at hK ⊢
        refine (if_pos (by rfl)).mpr ?_
        go_simp
        exact hK.out _ _ (Below.refl _ _) rfl
      case s23 =>
        have hx22 : xv 22 = Value.bool (!rowOK [.one [isOf [33]], .one [isOf [33]]] f) := hd 22 (by kernel_rfl)
        clear hd
        simp only [Act.put, List.setIfInBounds_toArray, List.set_cons_succ, List.set_cons_zero] at hK
        rw [hx22] at hK ⊢
        refine (if_pos (by rfl)).mpr ?_
        go_simp
        exact hK.out _ _ (Below.refl _ _) rfl
    case behind =>
      intro xv W hW hx a ha
      replace hW := undrew hW
      simp only [fillA] at ha
      simp only [List.setIfInBounds_toArray, List.set_cons_succ, List.set_cons_zero, Nat.zero_add, Nat.reduceAdd] at ha
      subst ha
      have hl : xv 23 = Value.bool (!rowOK [.one [isOf [33]], .one [isOf [33]]] f) := hx 23 (by decide)
      rw [hl]
      clear hx hl
      have HE := Lib.hid (HKA.out.bel.trans (hW.mono HKA.out.bel.size))
      go_wp2
      go_ret
      exact ⟨rfl, HE.out⟩

  | false =>
    go_enter Tryd.func37, Tryd.ntmps37
    go_wp2_with fail
    refine (HOF.out).mono ?_
    rintro e w3 ⟨hb3, v3, rfl, ht3⟩
    obtain ⟨g3, c3, rfl, hrest⟩ := ht3
    have HKA := Lib.hid (kidsAt_new w w3 5 x y A n C f g3 c3 HFS.out hb3 ⟨_, _, rfl, hrest⟩)
    have HB : Hid (Below w3.heap.size w3 w3) := Below.refl _ _
    have T3 := Lib.hid HKA.out.t3
    have HF := Lib.hid HKA.out.fs
    have HBOX : Hid (∀ W, Below w3.heap.size w3 W → W.cell? ⟨w.heap.size, 3, none⟩ = some (.slice A n C)) := fun W hW => (HKA.out.box W hW).2.2
    obtain ⟨hk0, hk1, hk3⟩ := HKA.out.box w3 (Below.refl _ _)
    clear hb3 hrest HFS HOF
    go_wp2
    refine region_rel (fun W W' => Below W.heap.size W W') [Cd.is (Value.pointer (some ⟨w.heap.size, 3, none⟩)), Cd.is (Value.slice A n C), Cd.is (Value.func (.func g3) #[] c3), cTests [isTyp, isOf [33]], cPart (.one [isTyp, isOf [33]]), Cd.is (Value.func (.func g3) #[] c3), cTests [isVal, isOf [33]], cPart (.one [isVal, isOf [33]]), cParts [.one [isTyp, isOf [33]], .one [isVal, isOf [33]]], Cd.is (Value.bool false), Cd.is (Value.bool false), Cd.any, Cd.any, Cd.any, Cd.any, Cd.any, Cd.any, Cd.any, Cd.any, Cd.any, Cd.any, Cd.any, Cd.is (Value.bool false), Cd.is (Value.bool false)] (by kernel_rfl) (by decide) (by kernel_rfl) (Below.refl _ _) (fun _ _ _ h k => h.trans (k.mono h.size)) ?steps ?behind
    case steps =>
      intro xv W hW a ha
      replace hW := undrew hW
      simp only [fillA] at ha
      simp only [List.setIfInBounds_toArray, List.set_cons_succ, List.set_cons_zero, Nat.zero_add, Nat.reduceAdd] at ha
      subst ha
      refine ⟨fun hd K hK => ?s0, fun hd K hK => ?s1, fun hd K hK => ?s2, fun hd K hK => ?s3, fun hd K hK => ?s4, fun hd K hK => ?s5, fun hd K hK => ?s6, fun hd K hK => ?s7, fun hd K hK => ?s8, fun hd K hK => ?s9, fun hd K hK => ?s10, fun hd K hK => ?s11, fun hd K hK => ?s12, fun hd K hK => ?s13, fun hd K hK => ?s14, fun hd K hK => ?s15, fun hd K hK => ?s16, fun hd K hK => ?s17, fun hd K hK => ?s18, fun hd K hK => ?s19, fun hd K hK => ?s20, fun hd K hK => ?s21, fun hd K hK => ?s22, fun hd K hK => ?s23, trivial⟩
      case s0 =>
        clear hd
        simp only [Act.put, List.setIfInBounds_toArray, List.set_cons_succ, List.set_cons_zero] at hK
        refine (if_pos (by rfl)).mpr ?_
        go_simp
        exact hK.out _ _ (Below.refl _ _) rfl
      case s1 =>
        have hx0 : xv 0 = Value.pointer (some ⟨w.heap.size, 3, none⟩) := hd 0 (by kernel_rfl)
        clear hd
        simp only [Act.put, List.setIfInBounds_toArray, List.set_cons_succ, List.set_cons_zero] at hK
        rw [hx0] at hK ⊢
        refine (if_pos (by rfl)).mpr ?_
        have hcell := HBOX.out W (HB.out.trans (hW.mono HB.out.size))
        go_simp
        exact hK.out _ _ (Below.refl _ _) rfl
      case s2 =>
        clear hd
        simp only [Act.put, List.setIfInBounds_toArray, List.set_cons_succ, List.set_cons_zero] at hK
        refine (if_pos (by rfl)).mpr ?_
        go_simp
        exact hK.out _ _ (Below.refl _ _) rfl
      case s3 =>
        have hx2 : xv 2 = Value.func (.func g3) #[] c3 := hd 2 (by kernel_rfl)
        clear hd
        simp only [Act.put, List.setIfInBounds_toArray, List.set_cons_succ, List.set_cons_zero] at hK
        rw [hx2] at hK ⊢
        refine (if_pos (by rfl)).mpr ?_
        go_simp
        exact hK.out _ _ (below1 _ _) (tests_new2 W (test_isTyp W) (T3.out.later hW))
      case s4 =>
        have hx3 : Tests [isTyp, isOf [33]] (xv 3) W := hd 3 (by kernel_rfl)
        clear hd
        simp only [Act.put, List.setIfInBounds_toArray, List.set_cons_succ, List.set_cons_zero] at hK
        refine (if_pos (by rfl)).mpr ?_
        obtain ⟨g3, e3, hg3, hc3⟩ := hx3
        rw [e3]
        rw [e3] at hK
        have HO := Lib.hid (one_any [isTyp, isOf [33]] g3 _ W rfl (by decide) hg3 hc3)
        clear e3 hg3 hc3
        go_simp
        go_at_call 44
        refine HO.out.mono ?_
        rintro e w' ⟨hb, v, rfl, ht⟩
        exact hK.out _ _ hb ht
      case s5 =>
        clear hd
        simp only [Act.put, List.setIfInBounds_toArray, List.set_cons_succ, List.set_cons_zero] at hK
        refine (if_pos (by rfl)).mpr ?_
        go_simp
        exact hK.out _ _ (Below.refl _ _) rfl
      case s6 =>
        have hx5 : xv 5 = Value.func (.func g3) #[] c3 := hd 5 (by kernel_rfl)
        clear hd
        simp only [Act.put, List.setIfInBounds_toArray, List.set_cons_succ, List.set_cons_zero] at hK
        rw [hx5] at hK ⊢
        refine (if_pos (by rfl)).mpr ?_
        go_simp
        exact hK.out _ _ (below1 _ _) (tests_new2 W (test_isVal W) (T3.out.later hW))
      case s7 =>
        have hx6 : Tests [isVal, isOf [33]] (xv 6) W := hd 6 (by kernel_rfl)
        clear hd
        simp only [Act.put, List.setIfInBounds_toArray, List.set_cons_succ, List.set_cons_zero] at hK
        refine (if_pos (by rfl)).mpr ?_
        obtain ⟨g6, e6, hg6, hc6⟩ := hx6
        rw [e6]
        rw [e6] at hK
        have HO := Lib.hid (one_any [isVal, isOf [33]] g6 _ W rfl (by decide) hg6 hc6)
        clear e6 hg6 hc6
        go_simp
        go_at_call 44
        refine HO.out.mono ?_
        rintro e w' ⟨hb, v, rfl, ht⟩
        exact hK.out _ _ hb ht
      case s8 =>
        have hx4 : PartOk W (xv 4) (.one [isTyp, isOf [33]]) := hd 4 (by kernel_rfl)
        have hx7 : PartOk W (xv 7) (.one [isVal, isOf [33]]) := hd 7 (by kernel_rfl)
        clear hd
        simp only [Act.put, List.setIfInBounds_toArray, List.set_cons_succ, List.set_cons_zero] at hK
        refine (if_pos (by rfl)).mpr ?_
        obtain ⟨gf4, c4, e4, hg4⟩ := hx4
        have hx4' : PartOk W (.func (.func gf4) #[] #[.pointer (some ⟨c4, 0, none⟩)]) (.one [isTyp, isOf [33]]) := ⟨gf4, c4, rfl, hg4⟩
        clear hg4
        rw [e4] at hK ⊢
        have hx4 := Lib.hid hx4'
        clear hx4' e4
        obtain ⟨gf7, c7, e7, hg7⟩ := hx7
        have hx7' : PartOk W (.func (.func gf7) #[] #[.pointer (some ⟨c7, 0, none⟩)]) (.one [isVal, isOf [33]]) := ⟨gf7, c7, rfl, hg7⟩
        clear hg7
        rw [e7] at hK ⊢
        have hx7 := Lib.hid hx7'
        clear hx7' e7
        go_simp
        exact hK.out _ _ (below1 _ _) (parts_new2 W hx4.out hx7.out)
      case s9 =>
        have hx1 : xv 1 = Value.slice A n C := hd 1 (by kernel_rfl)
        have hx8 : Parts [.one [isTyp, isOf [33]], .one [isVal, isOf [33]]] (xv 8) W := hd 8 (by kernel_rfl)
        clear hd
        simp only [Act.put, List.setIfInBounds_toArray, List.set_cons_succ, List.set_cons_zero] at hK
        rw [hx1] at hK ⊢
        refine (if_pos (by rfl)).mpr ?_
        obtain ⟨g8, e8, hg8, hc8⟩ := hx8
        rw [e8]
        rw [e8] at hK
        have HO := Lib.hid (row_any [.one [isTyp, isOf [33]], .one [isVal, isOf [33]]] g8 _ A n C f W (HF.out.later (HB.out.trans (hW.mono HB.out.size))) rfl (by decide) hg8 hc8)
        clear e8 hg8 hc8
        go_simp
        go_at_call 42
        refine HO.out.mono ?_
        rintro e w' ⟨rfl, hb⟩
        first | (exact hK.out _ _ hb rfl) | (exact hK.out _ _ hb (congrArg Value.bool hp))
      case s10 =>
        have hx9 : xv 9 = Value.bool false := hd 9 (by kernel_rfl)
        clear hd
        simp only [Act.put, List.setIfInBounds_toArray, List.set_cons_succ, List.set_cons_zero] at hK
        rw [hx9] at hK ⊢
        refine (if_pos (by rfl)).mpr ?_
        go_simp
        exact hK.out _ _ (Below.refl _ _) rfl
      case s11 =>
        have hx10 : xv 10 = Value.bool false := hd 10 (by kernel_rfl)
        clear hd
        simp only [Act.put, List.setIfInBounds_toArray, List.set_cons_succ, List.set_cons_zero] at hK
        rw [hx10] at hK ⊢
        refine (if_neg (ne_true_of_eq_false (by rfl))).mpr ?_
        exact hK.out _ _ (Below.refl _ _) trivial
      case s12 =>
        have hx10 : xv 10 = Value.bool false := hd 10 (by kernel_rfl)
        clear hd
        simp only [Act.put, List.setIfInBounds_toArray, List.set_cons_succ, List.set_cons_zero] at hK
        rw [hx10] at hK ⊢
        refine (if_neg (ne_true_of_eq_false (by rfl))).mpr ?_
        exact hK.out _ _ (Below.refl _ _) trivial
      case s13 =>
        have hx10 : xv 10 = Value.bool false := hd 10 (by kernel_rfl)
        clear hd
        simp only [Act.put, List.setIfInBounds_toArray, List.set_cons_succ, List.set_cons_zero] at hK
        rw [hx10] at hK ⊢
        refine (if_neg (ne_true_of_eq_false (by rfl))).mpr ?_
        exact hK.out _ _ (Below.refl _ _) trivial
      case s14 =>
        have hx10 : xv 10 = Value.bool false := hd 10 (by kernel_rfl)
        clear hd
        simp only [Act.put, List.setIfInBounds_toArray, List.set_cons_succ, List.set_cons_zero] at hK
        rw [hx10] at hK ⊢
        refine (if_neg (ne_true_of_eq_false (by rfl))).mpr ?_
        exact hK.out _ _ (Below.refl _ _) trivial
      case s15 =>
        have hx10 : xv 10 = Value.bool false := hd 10 (by kernel_rfl)
        clear hd
        simp only [Act.put, List.setIfInBounds_toArray, List.set_cons_succ, List.set_cons_zero] at hK
        rw [hx10] at hK ⊢
        refine (if_neg (ne_true_of_eq_false (by rfl))).mpr ?_
        exact hK.out _ _ (Below.refl _ _) trivial
      case s16 =>
        have hx10 : xv 10 = Value.bool false := hd 10 (by kernel_rfl)
        clear hd
        simp only [Act.put, List.setIfInBounds_toArray, List.set_cons_succ, List.set_cons_zero] at hK
        rw [hx10] at hK ⊢
        refine (if_neg (ne_true_of_eq_false (by rfl))).mpr ?_
        exact hK.out _ _ (Below.refl _ _) trivial
      case s17 =>
        have hx10 : xv 10 = Value.bool false := hd 10 (by kernel_rfl)
        clear hd
        simp only [Act.put, List.setIfInBounds_toArray, List.set_cons_succ, List.set_cons_zero] at hK
        rw [hx10] at hK ⊢
        refine (if_neg (ne_true_of_eq_false (by rfl))).mpr ?_
        exact hK.out _ _ (Below.refl _ _) trivial
      case s18 =>
        have hx10 : xv 10 = Value.bool false := hd 10 (by kernel_rfl)
        clear hd
        simp only [Act.put, List.setIfInBounds_toArray, List.set_cons_succ, List.set_cons_zero] at hK
        rw [hx10] at hK ⊢
        refine (if_neg (ne_true_of_eq_false (by rfl))).mpr ?_
        exact hK.out _ _ (Below.refl _ _) trivial
      case s19 =>
        have hx10 : xv 10 = Value.bool false := hd 10 (by kernel_rfl)
        clear hd
        simp only [Act.put, List.setIfInBounds_toArray, List.set_cons_succ, List.set_cons_zero] at hK
        rw [hx10] at hK ⊢
        refine (if_neg (ne_true_of_eq_false (by rfl))).mpr ?_
        exact hK.out _ _ (Below.refl _ _) trivial
      case s20 =>
        have hx10 : xv 10 = Value.bool false := hd 10 (by kernel_rfl)
        clear hd
        simp only [Act.put, List.setIfInBounds_toArray, List.set_cons_succ, List.set_cons_zero] at hK
        rw [hx10] at hK ⊢
        refine (if_neg (ne_true_of_eq_false (by rfl))).mpr ?_
        exact hK.out _ _ (Below.refl _ _) trivial
      case s21 =>
        have hx10 : xv 10 = Value.bool false := hd 10 (by kernel_rfl)
        clear hd
        simp only [Act.put, List.setIfInBounds_toArray, List.set_cons_succ, List.set_cons_zero] at hK
        rw [hx10] at hK ⊢
        refine (if_neg (ne_true_of_eq_false (by rfl))).mpr ?_
        exact hK.out _ _ (Below.refl _ _) trivial
      case s22 =>
        have hx10 : xv 10 = Value.bool false := hd 10 (by kernel_rfl)
        clear hd
        simp only [Act.put, List.setIfInBounds_toArray, List.set_cons_succ, List.set_cons_zero] at hK
        rw [hx10] at hK ⊢
        refine (if_pos (by rfl)).mpr ?_
        go_simp
        exact hK.out _ _ (Below.refl _ _) rfl
      case s23 =>
        have hx22 : xv 22 = Value.bool false := hd 22 (by kernel_rfl)
        clear hd
        simp only [Act.put, List.setIfInBounds_toArray, List.set_cons_succ, List.set_cons_zero] at hK
        rw [hx22] at hK ⊢
        refine (if_pos (by rfl)).mpr ?_
        go_simp
        exact hK.out _ _ (Below.refl _ _) rfl
    case behind =>
      intro xv W hW hx a ha
      replace hW := undrew hW
      simp only [fillA] at ha
      simp only [List.setIfInBounds_toArray, List.set_cons_succ, List.set_cons_zero, Nat.zero_add, Nat.reduceAdd] at ha
      subst ha
      have hl : xv 23 = Value.bool false := hx 23 (by decide)
      rw [hl]
      clear hx hl
      have HE := Lib.hid (HKA.out.bel.trans (hW.mono HKA.out.bel.size))
      go_wp2
      go_ret
      exact ⟨rfl, HE.out⟩

set_option maxRecDepth 100000 in
set_option maxHeartbeats 8000000 in
theorem kids_12 (x y : ByteArray) (A : Option Addr) (n C : Nat) (f : F) (w : World) (hf : Fs w (Lo w.heap.size) (.slice A n C) f) : Calls Tryd.prog 37 #[.agg #[.int .i64 12, .string x, .string y, .slice A n C]] w fun e w' => e = .returned (.bool (kidsOK 12 x f)) ∧ Below w.heap.size w w' := by
  have HFS := Lib.hid hf
  have HOF := Lib.hid (of_any [33] (w.heap.size + 1) 1 ((w.alloc (.cells #[.int .i64 12, .string x, .string y, .slice A n C] 24)).alloc (.cells #[.int .i64 33] 3)) rfl (by decide) (by simp) (fun i u hu => by rw [World.cell?_alloc_at _ _ _ _ (by simp)]; match i, hu with | 0, hu => (cases hu; rfl)))
  rw [show kidsOK 12 x f = rowOK [.one [isTyp], .one [isTyp]] f by simp [kidsOK]]
  clear hf
  go_enter Tryd.func37, Tryd.ntmps37
  go_wp2_with fail
  refine (HOF.out).mono ?_
  rintro e w3 ⟨hb3, v3, rfl, ht3⟩
  obtain ⟨g3, c3, rfl, hrest⟩ := ht3
  have HKA := Lib.hid (kidsAt_new w w3 12 x y A n C f g3 c3 HFS.out hb3 ⟨_, _, rfl, hrest⟩)
  have HB : Hid (Below w3.heap.size w3 w3) := Below.refl _ _
  have T3 := Lib.hid HKA.out.t3
  have HF := Lib.hid HKA.out.fs
  have HBOX : Hid (∀ W, Below w3.heap.size w3 W → W.cell? ⟨w.heap.size, 3, none⟩ = some (.slice A n C)) := fun W hW => (HKA.out.box W hW).2.2
  obtain ⟨hk0, hk1, hk3⟩ := HKA.out.box w3 (Below.refl _ _)
  clear hb3 hrest HFS HOF
  go_wp2
  refine region_rel (fun W W' => Below W.heap.size W W') [Cd.is (Value.pointer (some ⟨w.heap.size, 3, none⟩)), Cd.is (Value.slice A n C), cTests [isTyp], cPart (.one [isTyp]), cTests [isTyp], cPart (.one [isTyp]), cParts [.one [isTyp], .one [isTyp]], Cd.is (Value.bool (rowOK [.one [isTyp], .one [isTyp]] f)), Cd.is (Value.bool (rowOK [.one [isTyp], .one [isTyp]] f))] (by kernel_rfl) (by decide) (by kernel_rfl) (Below.refl _ _) (fun _ _ _ h k => h.trans (k.mono h.size)) ?steps ?behind
  case steps =>
    intro xv W hW a ha
    replace hW := undrew hW
    simp only [fillA] at ha
    simp only [List.setIfInBounds_toArray, List.set_cons_succ, List.set_cons_zero, Nat.zero_add, Nat.reduceAdd] at ha
    subst ha
    refine ⟨fun hd K hK => ?s0, fun hd K hK => ?s1, fun hd K hK => ?s2, fun hd K hK => ?s3, fun hd K hK => ?s4, fun hd K hK => ?s5, fun hd K hK => ?s6, fun hd K hK => ?s7, fun hd K hK => ?s8, trivial⟩
    case s0 =>
      clear hd
      simp only [Act.put, List.setIfInBounds_toArray, List.set_cons_succ, List.set_cons_zero] at hK
      refine (if_pos (by rfl)).mpr ?_
      go_simp
      exact hK.out _ _ (Below.refl _ _) rfl
    case s1 =>
      have hx0 : xv 0 = Value.pointer (some ⟨w.heap.size, 3, none⟩) := hd 0 (by kernel_rfl)
      clear hd
      simp only [Act.put, List.setIfInBounds_toArray, List.set_cons_succ, List.set_cons_zero] at hK
      rw [hx0] at hK ⊢
      refine (if_pos (by rfl)).mpr ?_
      have hcell := HBOX.out W (HB.out.trans (hW.mono HB.out.size))
      go_simp
      exact hK.out _ _ (Below.refl _ _) rfl
    case s2 =>
      clear hd
      simp only [Act.put, List.setIfInBounds_toArray, List.set_cons_succ, List.set_cons_zero] at hK
      refine (if_pos (by rfl)).mpr ?_
      go_simp
      exact hK.out _ _ (below1 _ _) (tests_new1 W (test_isTyp W))
    case s3 =>
      have hx2 : Tests [isTyp] (xv 2) W := hd 2 (by kernel_rfl)
      clear hd
      simp only [Act.put, List.setIfInBounds_toArray, List.set_cons_succ, List.set_cons_zero] at hK
      refine (if_pos (by rfl)).mpr ?_
      obtain ⟨g2, e2, hg2, hc2⟩ := hx2
      rw [e2]
      rw [e2] at hK
      have HO := Lib.hid (one_any [isTyp] g2 _ W rfl (by decide) hg2 hc2)
      clear e2 hg2 hc2
      go_simp
      go_at_call 44
      refine HO.out.mono ?_
      rintro e w' ⟨hb, v, rfl, ht⟩
      exact hK.out _ _ hb ht
    case s4 =>
      clear hd
      simp only [Act.put, List.setIfInBounds_toArray, List.set_cons_succ, List.set_cons_zero] at hK
      refine (if_pos (by rfl)).mpr ?_
      go_simp
      exact hK.out _ _ (below1 _ _) (tests_new1 W (test_isTyp W))
    case s5 =>
      have hx4 : Tests [isTyp] (xv 4) W := hd 4 (by kernel_rfl)
      clear hd
      simp only [Act.put, List.setIfInBounds_toArray, List.set_cons_succ, List.set_cons_zero] at hK
      refine (if_pos (by rfl)).mpr ?_
      obtain ⟨g4, e4, hg4, hc4⟩ := hx4
      rw [e4]
      rw [e4] at hK
      have HO := Lib.hid (one_any [isTyp] g4 _ W rfl (by decide) hg4 hc4)
      clear e4 hg4 hc4
      go_simp
      go_at_call 44
      refine HO.out.mono ?_
      rintro e w' ⟨hb, v, rfl, ht⟩
      exact hK.out _ _ hb ht
    case s6 =>
      have hx3 : PartOk W (xv 3) (.one [isTyp]) := hd 3 (by kernel_rfl)
      have hx5 : PartOk W (xv 5) (.one [isTyp]) := hd 5 (by kernel_rfl)
      clear hd
      simp only [Act.put, List.setIfInBounds_toArray, List.set_cons_succ, List.set_cons_zero] at hK
      refine (if_pos (by rfl)).mpr ?_
      obtain ⟨gf3, c3, e3, hg3⟩ := hx3
      have hx3' : PartOk W (.func (.func gf3) #[] #[.pointer (some ⟨c3, 0, none⟩)]) (.one [isTyp]) := ⟨gf3, c3, rfl, hg3⟩
      clear hg3
      rw [e3] at hK ⊢
      have hx3 := Lib.hid hx3'
      clear hx3' e3
      obtain ⟨gf5, c5, e5, hg5⟩ := hx5
      have hx5' : PartOk W (.func (.func gf5) #[] #[.pointer (some ⟨c5, 0, none⟩)]) (.one [isTyp]) := ⟨gf5, c5, rfl, hg5⟩
      clear hg5
      rw [e5] at hK ⊢
      have hx5 := Lib.hid hx5'
      clear hx5' e5
      go_simp
      exact hK.out _ _ (below1 _ _) (parts_new2 W hx3.out hx5.out)
    case s7 =>
      have hx1 : xv 1 = Value.slice A n C := hd 1 (by kernel_rfl)
      have hx6 : Parts [.one [isTyp], .one [isTyp]] (xv 6) W := hd 6 (by kernel_rfl)
      clear hd
      simp only [Act.put, List.setIfInBounds_toArray, List.set_cons_succ, List.set_cons_zero] at hK
      rw [hx1] at hK ⊢
      refine (if_pos (by rfl)).mpr ?_
      obtain ⟨g6, e6, hg6, hc6⟩ := hx6
      rw [e6]
      rw [e6] at hK
      have HO := Lib.hid (row_any [.one [isTyp], .one [isTyp]] g6 _ A n C f W (HF.out.later (HB.out.trans (hW.mono HB.out.size))) rfl (by decide) hg6 hc6)
      clear e6 hg6 hc6
      go_simp
      go_at_call 42
      refine HO.out.mono ?_
      rintro e w' ⟨rfl, hb⟩
      exact hK.out _ _ hb rfl
    case s8 =>
      have hx7 : xv 7 = Value.bool (rowOK [.one [isTyp], .one [isTyp]] f) := hd 7 (by kernel_rfl)
      clear hd
      simp only [Act.put, List.setIfInBounds_toArray, List.set_cons_succ, List.set_cons_zero] at hK
      rw [hx7] at hK ⊢
      refine (if_pos (by rfl)).mpr ?_
      go_simp
      exact hK.out _ _ (Below.refl _ _) rfl
  case behind =>
    intro xv W hW hx a ha
    replace hW := undrew hW
    simp only [fillA] at ha
    simp only [List.setIfInBounds_toArray, List.set_cons_succ, List.set_cons_zero, Nat.zero_add, Nat.reduceAdd] at ha
    subst ha
    have hl : xv 8 = Value.bool (rowOK [.one [isTyp], .one [isTyp]] f) := hx 8 (by decide)
    rw [hl]
    clear hx hl
    have HE := Lib.hid (HKA.out.bel.trans (hW.mono HKA.out.bel.size))
    go_wp2
    go_ret
    exact ⟨rfl, HE.out⟩

set_option maxRecDepth 100000 in
set_option maxHeartbeats 8000000 in
theorem kids_23 (x y : ByteArray) (A : Option Addr) (n C : Nat) (f : F) (w : World) (hf : Fs w (Lo w.heap.size) (.slice A n C) f) : Calls Tryd.prog 37 #[.agg #[.int .i64 23, .string x, .string y, .slice A n C]] w fun e w' => e = .returned (.bool (kidsOK 23 x f)) ∧ Below w.heap.size w w' := by
  have HFS := Lib.hid hf
  have HOF := Lib.hid (of_any [33] (w.heap.size + 1) 1 ((w.alloc (.cells #[.int .i64 23, .string x, .string y, .slice A n C] 24)).alloc (.cells #[.int .i64 33] 3)) rfl (by decide) (by simp) (fun i u hu => by rw [World.cell?_alloc_at _ _ _ _ (by simp)]; match i, hu with | 0, hu => (cases hu; rfl)))
  rw [show kidsOK 23 x f = rowOK [.one [isOf [30]]] f by simp [kidsOK]]
  clear hf
  go_enter Tryd.func37, Tryd.ntmps37
  go_wp2_with fail
  refine (HOF.out).mono ?_
  rintro e w3 ⟨hb3, v3, rfl, ht3⟩
  obtain ⟨g3, c3, rfl, hrest⟩ := ht3
  have HKA := Lib.hid (kidsAt_new w w3 23 x y A n C f g3 c3 HFS.out hb3 ⟨_, _, rfl, hrest⟩)
  have HB : Hid (Below w3.heap.size w3 w3) := Below.refl _ _
  have T3 := Lib.hid HKA.out.t3
  have HF := Lib.hid HKA.out.fs
  have HBOX : Hid (∀ W, Below w3.heap.size w3 W → W.cell? ⟨w.heap.size, 3, none⟩ = some (.slice A n C)) := fun W hW => (HKA.out.box W hW).2.2
  obtain ⟨hk0, hk1, hk3⟩ := HKA.out.box w3 (Below.refl _ _)
  clear hb3 hrest HFS HOF
  go_wp2
  refine region_rel (fun W W' => Below W.heap.size W W') [Cd.is (Value.pointer (some ⟨w.heap.size, 3, none⟩)), Cd.is (Value.slice A n C), cInts [30], cTest (isOf [30]), cTests [isOf [30]], cPart (.one [isOf [30]]), cParts [.one [isOf [30]]], Cd.is (Value.bool (rowOK [.one [isOf [30]]] f)), Cd.is (Value.bool (rowOK [.one [isOf [30]]] f))] (by kernel_rfl) (by decide) (by kernel_rfl) (Below.refl _ _) (fun _ _ _ h k => h.trans (k.mono h.size)) ?steps ?behind
  case steps =>
    intro xv W hW a ha
    replace hW := undrew hW
    simp only [fillA] at ha
    simp only [List.setIfInBounds_toArray, List.set_cons_succ, List.set_cons_zero, Nat.zero_add, Nat.reduceAdd] at ha
    subst ha
    refine ⟨fun hd K hK => ?s0, fun hd K hK => ?s1, fun hd K hK => ?s2, fun hd K hK => ?s3, fun hd K hK => ?s4, fun hd K hK => ?s5, fun hd K hK => ?s6, fun hd K hK => ?s7, fun hd K hK => ?s8, trivial⟩
    case s0 =>
      clear hd
      simp only [Act.put, List.setIfInBounds_toArray, List.set_cons_succ, List.set_cons_zero] at hK
      refine (if_pos (by rfl)).mpr ?_
      go_simp
      exact hK.out _ _ (Below.refl _ _) rfl
    case s1 =>
      have hx0 : xv 0 = Value.pointer (some ⟨w.heap.size, 3, none⟩) := hd 0 (by kernel_rfl)
      clear hd
      simp only [Act.put, List.setIfInBounds_toArray, List.set_cons_succ, List.set_cons_zero] at hK
      rw [hx0] at hK ⊢
      refine (if_pos (by rfl)).mpr ?_
      have hcell := HBOX.out W (HB.out.trans (hW.mono HB.out.size))
      go_simp
      exact hK.out _ _ (Below.refl _ _) rfl
    case s2 =>
      clear hd
      simp only [Act.put, List.setIfInBounds_toArray, List.set_cons_succ, List.set_cons_zero] at hK
      refine (if_pos (by rfl)).mpr ?_
      go_simp
      exact hK.out _ _ (below1 _ _) (ints_new [30] W)
    case s3 =>
      have hx2 : Ints [30] (xv 2) W := hd 2 (by kernel_rfl)
      clear hd
      simp only [Act.put, List.setIfInBounds_toArray, List.set_cons_succ, List.set_cons_zero] at hK
      refine (if_pos (by rfl)).mpr ?_
      obtain ⟨g2, e2, hg2, hc2⟩ := hx2
      rw [e2]
      rw [e2] at hK
      have HO := Lib.hid (of_any [30] g2 _ W rfl (by decide) hg2 hc2)
      clear e2 hg2 hc2
      go_simp
      go_at_call 41
      refine HO.out.mono ?_
      rintro e w' ⟨hb, v, rfl, ht⟩
      exact hK.out _ _ hb ht
    case s4 =>
      have hx3 : TestOk W (xv 3) (isOf [30]) := hd 3 (by kernel_rfl)
      clear hd
      simp only [Act.put, List.setIfInBounds_toArray, List.set_cons_succ, List.set_cons_zero] at hK
      refine (if_pos (by rfl)).mpr ?_
      obtain ⟨gf3, cp3, e3, hg3⟩ := hx3
      have hx3' : TestOk W (.func (.func gf3) #[] cp3) (isOf [30]) := ⟨gf3, cp3, rfl, hg3⟩
      clear hg3
      rw [e3] at hK ⊢
      have hx3 := Lib.hid hx3'
      clear hx3' e3
      go_simp
      exact hK.out _ _ (below1 _ _) (tests_new1 W hx3.out)
    case s5 =>
      have hx4 : Tests [isOf [30]] (xv 4) W := hd 4 (by kernel_rfl)
      clear hd
      simp only [Act.put, List.setIfInBounds_toArray, List.set_cons_succ, List.set_cons_zero] at hK
      refine (if_pos (by rfl)).mpr ?_
      obtain ⟨g4, e4, hg4, hc4⟩ := hx4
      rw [e4]
      rw [e4] at hK
      have HO := Lib.hid (one_any [isOf [30]] g4 _ W rfl (by decide) hg4 hc4)
      clear e4 hg4 hc4
      go_simp
      go_at_call 44
      refine HO.out.mono ?_
      rintro e w' ⟨hb, v, rfl, ht⟩
      exact hK.out _ _ hb ht
    case s6 =>
      have hx5 : PartOk W (xv 5) (.one [isOf [30]]) := hd 5 (by kernel_rfl)
      clear hd
      simp only [Act.put, List.setIfInBounds_toArray, List.set_cons_succ, List.set_cons_zero] at hK
      refine (if_pos (by rfl)).mpr ?_
      obtain ⟨gf5, c5, e5, hg5⟩ := hx5
      have hx5' : PartOk W (.func (.func gf5) #[] #[.pointer (some ⟨c5, 0, none⟩)]) (.one [isOf [30]]) := ⟨gf5, c5, rfl, hg5⟩
      clear hg5
      rw [e5] at hK ⊢
      have hx5 := Lib.hid hx5'
      clear hx5' e5
      go_simp
      exact hK.out _ _ (below1 _ _) (parts_new1 W hx5.out)
    case s7 =>
      have hx1 : xv 1 = Value.slice A n C := hd 1 (by kernel_rfl)
      have hx6 : Parts [.one [isOf [30]]] (xv 6) W := hd 6 (by kernel_rfl)
      clear hd
      simp only [Act.put, List.setIfInBounds_toArray, List.set_cons_succ, List.set_cons_zero] at hK
      rw [hx1] at hK ⊢
      refine (if_pos (by rfl)).mpr ?_
      obtain ⟨g6, e6, hg6, hc6⟩ := hx6
      rw [e6]
      rw [e6] at hK
      have HO := Lib.hid (row_any [.one [isOf [30]]] g6 _ A n C f W (HF.out.later (HB.out.trans (hW.mono HB.out.size))) rfl (by decide) hg6 hc6)
      clear e6 hg6 hc6
      go_simp
      go_at_call 42
      refine HO.out.mono ?_
      rintro e w' ⟨rfl, hb⟩
      exact hK.out _ _ hb rfl
    case s8 =>
      have hx7 : xv 7 = Value.bool (rowOK [.one [isOf [30]]] f) := hd 7 (by kernel_rfl)
      clear hd
      simp only [Act.put, List.setIfInBounds_toArray, List.set_cons_succ, List.set_cons_zero] at hK
      rw [hx7] at hK ⊢
      refine (if_pos (by rfl)).mpr ?_
      go_simp
      exact hK.out _ _ (Below.refl _ _) rfl
  case behind =>
    intro xv W hW hx a ha
    replace hW := undrew hW
    simp only [fillA] at ha
    simp only [List.setIfInBounds_toArray, List.set_cons_succ, List.set_cons_zero, Nat.zero_add, Nat.reduceAdd] at ha
    subst ha
    have hl : xv 8 = Value.bool (rowOK [.one [isOf [30]]] f) := hx 8 (by decide)
    rw [hl]
    clear hx hl
    have HE := Lib.hid (HKA.out.bel.trans (hW.mono HKA.out.bel.size))
    go_wp2
    go_ret
    exact ⟨rfl, HE.out⟩

set_option maxRecDepth 100000 in
set_option maxHeartbeats 8000000 in
theorem kids_15 (x y : ByteArray) (A : Option Addr) (n C : Nat) (f : F) (w : World) (hf : Fs w (Lo w.heap.size) (.slice A n C) f) : Calls Tryd.prog 37 #[.agg #[.int .i64 15, .string x, .string y, .slice A n C]] w fun e w' => e = .returned (.bool (kidsOK 15 x f)) ∧ Below w.heap.size w w' := by
  have HFS := Lib.hid hf
  have HOF := Lib.hid (of_any [33] (w.heap.size + 1) 1 ((w.alloc (.cells #[.int .i64 15, .string x, .string y, .slice A n C] 24)).alloc (.cells #[.int .i64 33] 3)) rfl (by decide) (by simp) (fun i u hu => by rw [World.cell?_alloc_at _ _ _ _ (by simp)]; match i, hu with | 0, hu => (cases hu; rfl)))
  rw [show kidsOK 15 x f = rowOK [.many (isOf [16])] f by simp [kidsOK]]
  clear hf
  go_enter Tryd.func37, Tryd.ntmps37
  go_wp2_with fail
  refine (HOF.out).mono ?_
  rintro e w3 ⟨hb3, v3, rfl, ht3⟩
  obtain ⟨g3, c3, rfl, hrest⟩ := ht3
  have HKA := Lib.hid (kidsAt_new w w3 15 x y A n C f g3 c3 HFS.out hb3 ⟨_, _, rfl, hrest⟩)
  have HB : Hid (Below w3.heap.size w3 w3) := Below.refl _ _
  have T3 := Lib.hid HKA.out.t3
  have HF := Lib.hid HKA.out.fs
  have HBOX : Hid (∀ W, Below w3.heap.size w3 W → W.cell? ⟨w.heap.size, 3, none⟩ = some (.slice A n C)) := fun W hW => (HKA.out.box W hW).2.2
  obtain ⟨hk0, hk1, hk3⟩ := HKA.out.box w3 (Below.refl _ _)
  clear hb3 hrest HFS HOF
  go_wp2
  refine region_rel (fun W W' => Below W.heap.size W W') [Cd.is (Value.pointer (some ⟨w.heap.size, 3, none⟩)), Cd.is (Value.slice A n C), cInts [16], cTest (isOf [16]), cPart (.many (isOf [16])), cParts [.many (isOf [16])], Cd.is (Value.bool (rowOK [.many (isOf [16])] f)), Cd.is (Value.bool (rowOK [.many (isOf [16])] f))] (by kernel_rfl) (by decide) (by kernel_rfl) (Below.refl _ _) (fun _ _ _ h k => h.trans (k.mono h.size)) ?steps ?behind
  case steps =>
    intro xv W hW a ha
    replace hW := undrew hW
    simp only [fillA] at ha
    simp only [List.setIfInBounds_toArray, List.set_cons_succ, List.set_cons_zero, Nat.zero_add, Nat.reduceAdd] at ha
    subst ha
    refine ⟨fun hd K hK => ?s0, fun hd K hK => ?s1, fun hd K hK => ?s2, fun hd K hK => ?s3, fun hd K hK => ?s4, fun hd K hK => ?s5, fun hd K hK => ?s6, fun hd K hK => ?s7, trivial⟩
    case s0 =>
      clear hd
      simp only [Act.put, List.setIfInBounds_toArray, List.set_cons_succ, List.set_cons_zero] at hK
      refine (if_pos (by rfl)).mpr ?_
      go_simp
      exact hK.out _ _ (Below.refl _ _) rfl
    case s1 =>
      have hx0 : xv 0 = Value.pointer (some ⟨w.heap.size, 3, none⟩) := hd 0 (by kernel_rfl)
      clear hd
      simp only [Act.put, List.setIfInBounds_toArray, List.set_cons_succ, List.set_cons_zero] at hK
      rw [hx0] at hK ⊢
      refine (if_pos (by rfl)).mpr ?_
      have hcell := HBOX.out W (HB.out.trans (hW.mono HB.out.size))
      go_simp
      exact hK.out _ _ (Below.refl _ _) rfl
    case s2 =>
      clear hd
      simp only [Act.put, List.setIfInBounds_toArray, List.set_cons_succ, List.set_cons_zero] at hK
      refine (if_pos (by rfl)).mpr ?_
      go_simp
      exact hK.out _ _ (below1 _ _) (ints_new [16] W)
    case s3 =>
      have hx2 : Ints [16] (xv 2) W := hd 2 (by kernel_rfl)
      clear hd
      simp only [Act.put, List.setIfInBounds_toArray, List.set_cons_succ, List.set_cons_zero] at hK
      refine (if_pos (by rfl)).mpr ?_
      obtain ⟨g2, e2, hg2, hc2⟩ := hx2
      rw [e2]
      rw [e2] at hK
      have HO := Lib.hid (of_any [16] g2 _ W rfl (by decide) hg2 hc2)
      clear e2 hg2 hc2
      go_simp
      go_at_call 41
      refine HO.out.mono ?_
      rintro e w' ⟨hb, v, rfl, ht⟩
      exact hK.out _ _ hb ht
    case s4 =>
      have hx3 : TestOk W (xv 3) (isOf [16]) := hd 3 (by kernel_rfl)
      clear hd
      simp only [Act.put, List.setIfInBounds_toArray, List.set_cons_succ, List.set_cons_zero] at hK
      refine (if_pos (by rfl)).mpr ?_
      obtain ⟨gf3, cp3, e3, hg3⟩ := hx3
      rw [e3]
      rw [e3] at hK
      have HO := Lib.hid (many_any (isOf [16]) gf3 cp3 W ⟨_, _, rfl, hg3⟩)
      clear e3 hg3
      go_simp
      go_at_call 43
      refine HO.out.mono ?_
      rintro e w' ⟨hb, v, rfl, ht⟩
      exact hK.out _ _ hb ht
    case s5 =>
      have hx4 : PartOk W (xv 4) (.many (isOf [16])) := hd 4 (by kernel_rfl)
      clear hd
      simp only [Act.put, List.setIfInBounds_toArray, List.set_cons_succ, List.set_cons_zero] at hK
      refine (if_pos (by rfl)).mpr ?_
      obtain ⟨gf4, c4, e4, hg4⟩ := hx4
      have hx4' : PartOk W (.func (.func gf4) #[] #[.pointer (some ⟨c4, 0, none⟩)]) (.many (isOf [16])) := ⟨gf4, c4, rfl, hg4⟩
      clear hg4
      rw [e4] at hK ⊢
      have hx4 := Lib.hid hx4'
      clear hx4' e4
      go_simp
      exact hK.out _ _ (below1 _ _) (parts_new1 W hx4.out)
    case s6 =>
      have hx1 : xv 1 = Value.slice A n C := hd 1 (by kernel_rfl)
      have hx5 : Parts [.many (isOf [16])] (xv 5) W := hd 5 (by kernel_rfl)
      clear hd
      simp only [Act.put, List.setIfInBounds_toArray, List.set_cons_succ, List.set_cons_zero] at hK
      rw [hx1] at hK ⊢
      refine (if_pos (by rfl)).mpr ?_
      obtain ⟨g5, e5, hg5, hc5⟩ := hx5
      rw [e5]
      rw [e5] at hK
      have HO := Lib.hid (row_any [.many (isOf [16])] g5 _ A n C f W (HF.out.later (HB.out.trans (hW.mono HB.out.size))) rfl (by decide) hg5 hc5)
      clear e5 hg5 hc5
      go_simp
      go_at_call 42
      refine HO.out.mono ?_
      rintro e w' ⟨rfl, hb⟩
      exact hK.out _ _ hb rfl
    case s7 =>
      have hx6 : xv 6 = Value.bool (rowOK [.many (isOf [16])] f) := hd 6 (by kernel_rfl)
      clear hd
      simp only [Act.put, List.setIfInBounds_toArray, List.set_cons_succ, List.set_cons_zero] at hK
      rw [hx6] at hK ⊢
      refine (if_pos (by rfl)).mpr ?_
      go_simp
      exact hK.out _ _ (Below.refl _ _) rfl
  case behind =>
    intro xv W hW hx a ha
    replace hW := undrew hW
    simp only [fillA] at ha
    simp only [List.setIfInBounds_toArray, List.set_cons_succ, List.set_cons_zero, Nat.zero_add, Nat.reduceAdd] at ha
    subst ha
    have hl : xv 7 = Value.bool (rowOK [.many (isOf [16])] f) := hx 7 (by decide)
    rw [hl]
    clear hx hl
    have HE := Lib.hid (HKA.out.bel.trans (hW.mono HKA.out.bel.size))
    go_wp2
    go_ret
    exact ⟨rfl, HE.out⟩

set_option maxRecDepth 100000 in
set_option maxHeartbeats 8000000 in
theorem kids_10 (x y : ByteArray) (A : Option Addr) (n C : Nat) (f : F) (w : World) (hf : Fs w (Lo w.heap.size) (.slice A n C) f) : Calls Tryd.prog 37 #[.agg #[.int .i64 10, .string x, .string y, .slice A n C]] w fun e w' => e = .returned (.bool (kidsOK 10 x f)) ∧ Below w.heap.size w w' := by
  have HFS := Lib.hid hf
  have HOF := Lib.hid (of_any [33] (w.heap.size + 1) 1 ((w.alloc (.cells #[.int .i64 10, .string x, .string y, .slice A n C] 24)).alloc (.cells #[.int .i64 33] 3)) rfl (by decide) (by simp) (fun i u hu => by rw [World.cell?_alloc_at _ _ _ _ (by simp)]; match i, hu with | 0, hu => (cases hu; rfl)))
  rw [show kidsOK 10 x f = rowOK [.one [isTyp]] f by simp [kidsOK]]
  clear hf
  go_enter Tryd.func37, Tryd.ntmps37
  go_wp2_with fail
  refine (HOF.out).mono ?_
  rintro e w3 ⟨hb3, v3, rfl, ht3⟩
  obtain ⟨g3, c3, rfl, hrest⟩ := ht3
  have HKA := Lib.hid (kidsAt_new w w3 10 x y A n C f g3 c3 HFS.out hb3 ⟨_, _, rfl, hrest⟩)
  have HB : Hid (Below w3.heap.size w3 w3) := Below.refl _ _
  have T3 := Lib.hid HKA.out.t3
  have HF := Lib.hid HKA.out.fs
  have HBOX : Hid (∀ W, Below w3.heap.size w3 W → W.cell? ⟨w.heap.size, 3, none⟩ = some (.slice A n C)) := fun W hW => (HKA.out.box W hW).2.2
  obtain ⟨hk0, hk1, hk3⟩ := HKA.out.box w3 (Below.refl _ _)
  clear hb3 hrest HFS HOF
  go_wp2
  refine region_rel (fun W W' => Below W.heap.size W W') [Cd.is (Value.pointer (some ⟨w.heap.size, 3, none⟩)), Cd.is (Value.slice A n C), cTests [isTyp], cPart (.one [isTyp]), cParts [.one [isTyp]], Cd.is (Value.bool (rowOK [.one [isTyp]] f)), Cd.is (Value.bool (rowOK [.one [isTyp]] f))] (by kernel_rfl) (by decide) (by kernel_rfl) (Below.refl _ _) (fun _ _ _ h k => h.trans (k.mono h.size)) ?steps ?behind
  case steps =>
    intro xv W hW a ha
    replace hW := undrew hW
    simp only [fillA] at ha
    simp only [List.setIfInBounds_toArray, List.set_cons_succ, List.set_cons_zero, Nat.zero_add, Nat.reduceAdd] at ha
    subst ha
    refine ⟨fun hd K hK => ?s0, fun hd K hK => ?s1, fun hd K hK => ?s2, fun hd K hK => ?s3, fun hd K hK => ?s4, fun hd K hK => ?s5, fun hd K hK => ?s6, trivial⟩
    case s0 =>
      clear hd
      simp only [Act.put, List.setIfInBounds_toArray, List.set_cons_succ, List.set_cons_zero] at hK
      refine (if_pos (by rfl)).mpr ?_
      go_simp
      exact hK.out _ _ (Below.refl _ _) rfl
    case s1 =>
      have hx0 : xv 0 = Value.pointer (some ⟨w.heap.size, 3, none⟩) := hd 0 (by kernel_rfl)
      clear hd
      simp only [Act.put, List.setIfInBounds_toArray, List.set_cons_succ, List.set_cons_zero] at hK
      rw [hx0] at hK ⊢
      refine (if_pos (by rfl)).mpr ?_
      have hcell := HBOX.out W (HB.out.trans (hW.mono HB.out.size))
      go_simp
      exact hK.out _ _ (Below.refl _ _) rfl
    case s2 =>
      clear hd
      simp only [Act.put, List.setIfInBounds_toArray, List.set_cons_succ, List.set_cons_zero] at hK
      refine (if_pos (by rfl)).mpr ?_
      go_simp
      exact hK.out _ _ (below1 _ _) (tests_new1 W (test_isTyp W))
    case s3 =>
      have hx2 : Tests [isTyp] (xv 2) W := hd 2 (by kernel_rfl)
      clear hd
      simp only [Act.put, List.setIfInBounds_toArray, List.set_cons_succ, List.set_cons_zero] at hK
      refine (if_pos (by rfl)).mpr ?_
      obtain ⟨g2, e2, hg2, hc2⟩ := hx2
      rw [e2]
      rw [e2] at hK
      have HO := Lib.hid (one_any [isTyp] g2 _ W rfl (by decide) hg2 hc2)
      clear e2 hg2 hc2
      go_simp
      go_at_call 44
      refine HO.out.mono ?_
      rintro e w' ⟨hb, v, rfl, ht⟩
      exact hK.out _ _ hb ht
    case s4 =>
      have hx3 : PartOk W (xv 3) (.one [isTyp]) := hd 3 (by kernel_rfl)
      clear hd
      simp only [Act.put, List.setIfInBounds_toArray, List.set_cons_succ, List.set_cons_zero] at hK
      refine (if_pos (by rfl)).mpr ?_
      obtain ⟨gf3, c3, e3, hg3⟩ := hx3
      have hx3' : PartOk W (.func (.func gf3) #[] #[.pointer (some ⟨c3, 0, none⟩)]) (.one [isTyp]) := ⟨gf3, c3, rfl, hg3⟩
      clear hg3
      rw [e3] at hK ⊢
      have hx3 := Lib.hid hx3'
      clear hx3' e3
      go_simp
      exact hK.out _ _ (below1 _ _) (parts_new1 W hx3.out)
    case s5 =>
      have hx1 : xv 1 = Value.slice A n C := hd 1 (by kernel_rfl)
      have hx4 : Parts [.one [isTyp]] (xv 4) W := hd 4 (by kernel_rfl)
      clear hd
      simp only [Act.put, List.setIfInBounds_toArray, List.set_cons_succ, List.set_cons_zero] at hK
      rw [hx1] at hK ⊢
      refine (if_pos (by rfl)).mpr ?_
      obtain ⟨g4, e4, hg4, hc4⟩ := hx4
      rw [e4]
      rw [e4] at hK
      have HO := Lib.hid (row_any [.one [isTyp]] g4 _ A n C f W (HF.out.later (HB.out.trans (hW.mono HB.out.size))) rfl (by decide) hg4 hc4)
      clear e4 hg4 hc4
      go_simp
      go_at_call 42
      refine HO.out.mono ?_
      rintro e w' ⟨rfl, hb⟩
      exact hK.out _ _ hb rfl
    case s6 =>
      have hx5 : xv 5 = Value.bool (rowOK [.one [isTyp]] f) := hd 5 (by kernel_rfl)
      clear hd
      simp only [Act.put, List.setIfInBounds_toArray, List.set_cons_succ, List.set_cons_zero] at hK
      rw [hx5] at hK ⊢
      refine (if_pos (by rfl)).mpr ?_
      go_simp
      exact hK.out _ _ (Below.refl _ _) rfl
  case behind =>
    intro xv W hW hx a ha
    replace hW := undrew hW
    simp only [fillA] at ha
    simp only [List.setIfInBounds_toArray, List.set_cons_succ, List.set_cons_zero, Nat.zero_add, Nat.reduceAdd] at ha
    subst ha
    have hl : xv 6 = Value.bool (rowOK [.one [isTyp]] f) := hx 6 (by decide)
    rw [hl]
    clear hx hl
    have HE := Lib.hid (HKA.out.bel.trans (hW.mono HKA.out.bel.size))
    go_wp2
    go_ret
    exact ⟨rfl, HE.out⟩

set_option maxRecDepth 100000 in
set_option maxHeartbeats 8000000 in
theorem kids_16 (x y : ByteArray) (A : Option Addr) (n C : Nat) (f : F) (w : World) (hf : Fs w (Lo w.heap.size) (.slice A n C) f) : Calls Tryd.prog 37 #[.agg #[.int .i64 16, .string x, .string y, .slice A n C]] w fun e w' => e = .returned (.bool (kidsOK 16 x f)) ∧ Below w.heap.size w w' := by
  have HFS := Lib.hid hf
  have HOF := Lib.hid (of_any [33] (w.heap.size + 1) 1 ((w.alloc (.cells #[.int .i64 16, .string x, .string y, .slice A n C] 24)).alloc (.cells #[.int .i64 33] 3)) rfl (by decide) (by simp) (fun i u hu => by rw [World.cell?_alloc_at _ _ _ _ (by simp)]; match i, hu with | 0, hu => (cases hu; rfl)))
  rw [show kidsOK 16 x f = rowOK [.one [isTyp]] f by simp [kidsOK]]
  clear hf
  go_enter Tryd.func37, Tryd.ntmps37
  go_wp2_with fail
  refine (HOF.out).mono ?_
  rintro e w3 ⟨hb3, v3, rfl, ht3⟩
  obtain ⟨g3, c3, rfl, hrest⟩ := ht3
  have HKA := Lib.hid (kidsAt_new w w3 16 x y A n C f g3 c3 HFS.out hb3 ⟨_, _, rfl, hrest⟩)
  have HB : Hid (Below w3.heap.size w3 w3) := Below.refl _ _
  have T3 := Lib.hid HKA.out.t3
  have HF := Lib.hid HKA.out.fs
  have HBOX : Hid (∀ W, Below w3.heap.size w3 W → W.cell? ⟨w.heap.size, 3, none⟩ = some (.slice A n C)) := fun W hW => (HKA.out.box W hW).2.2
  obtain ⟨hk0, hk1, hk3⟩ := HKA.out.box w3 (Below.refl _ _)
  clear hb3 hrest HFS HOF
  go_wp2
  refine region_rel (fun W W' => Below W.heap.size W W') [Cd.is (Value.pointer (some ⟨w.heap.size, 3, none⟩)), Cd.is (Value.slice A n C), cTests [isTyp], cPart (.one [isTyp]), cParts [.one [isTyp]], Cd.is (Value.bool (rowOK [.one [isTyp]] f)), Cd.is (Value.bool (rowOK [.one [isTyp]] f))] (by kernel_rfl) (by decide) (by kernel_rfl) (Below.refl _ _) (fun _ _ _ h k => h.trans (k.mono h.size)) ?steps ?behind
  case steps =>
    intro xv W hW a ha
    replace hW := undrew hW
    simp only [fillA] at ha
    simp only [List.setIfInBounds_toArray, List.set_cons_succ, List.set_cons_zero, Nat.zero_add, Nat.reduceAdd] at ha
    subst ha
    refine ⟨fun hd K hK => ?s0, fun hd K hK => ?s1, fun hd K hK => ?s2, fun hd K hK => ?s3, fun hd K hK => ?s4, fun hd K hK => ?s5, fun hd K hK => ?s6, trivial⟩
    case s0 =>
      clear hd
      simp only [Act.put, List.setIfInBounds_toArray, List.set_cons_succ, List.set_cons_zero] at hK
      refine (if_pos (by rfl)).mpr ?_
      go_simp
      exact hK.out _ _ (Below.refl _ _) rfl
    case s1 =>
      have hx0 : xv 0 = Value.pointer (some ⟨w.heap.size, 3, none⟩) := hd 0 (by kernel_rfl)
      clear hd
      simp only [Act.put, List.setIfInBounds_toArray, List.set_cons_succ, List.set_cons_zero] at hK
      rw [hx0] at hK ⊢
      refine (if_pos (by rfl)).mpr ?_
      have hcell := HBOX.out W (HB.out.trans (hW.mono HB.out.size))
      go_simp
      exact hK.out _ _ (Below.refl _ _) rfl
    case s2 =>
      clear hd
      simp only [Act.put, List.setIfInBounds_toArray, List.set_cons_succ, List.set_cons_zero] at hK
      refine (if_pos (by rfl)).mpr ?_
      go_simp
      exact hK.out _ _ (below1 _ _) (tests_new1 W (test_isTyp W))
    case s3 =>
      have hx2 : Tests [isTyp] (xv 2) W := hd 2 (by kernel_rfl)
      clear hd
      simp only [Act.put, List.setIfInBounds_toArray, List.set_cons_succ, List.set_cons_zero] at hK
      refine (if_pos (by rfl)).mpr ?_
      obtain ⟨g2, e2, hg2, hc2⟩ := hx2
      rw [e2]
      rw [e2] at hK
      have HO := Lib.hid (one_any [isTyp] g2 _ W rfl (by decide) hg2 hc2)
      clear e2 hg2 hc2
      go_simp
      go_at_call 44
      refine HO.out.mono ?_
      rintro e w' ⟨hb, v, rfl, ht⟩
      exact hK.out _ _ hb ht
    case s4 =>
      have hx3 : PartOk W (xv 3) (.one [isTyp]) := hd 3 (by kernel_rfl)
      clear hd
      simp only [Act.put, List.setIfInBounds_toArray, List.set_cons_succ, List.set_cons_zero] at hK
      refine (if_pos (by rfl)).mpr ?_
      obtain ⟨gf3, c3, e3, hg3⟩ := hx3
      have hx3' : PartOk W (.func (.func gf3) #[] #[.pointer (some ⟨c3, 0, none⟩)]) (.one [isTyp]) := ⟨gf3, c3, rfl, hg3⟩
      clear hg3
      rw [e3] at hK ⊢
      have hx3 := Lib.hid hx3'
      clear hx3' e3
      go_simp
      exact hK.out _ _ (below1 _ _) (parts_new1 W hx3.out)
    case s5 =>
      have hx1 : xv 1 = Value.slice A n C := hd 1 (by kernel_rfl)
      have hx4 : Parts [.one [isTyp]] (xv 4) W := hd 4 (by kernel_rfl)
      clear hd
      simp only [Act.put, List.setIfInBounds_toArray, List.set_cons_succ, List.set_cons_zero] at hK
      rw [hx1] at hK ⊢
      refine (if_pos (by rfl)).mpr ?_
      obtain ⟨g4, e4, hg4, hc4⟩ := hx4
      rw [e4]
      rw [e4] at hK
      have HO := Lib.hid (row_any [.one [isTyp]] g4 _ A n C f W (HF.out.later (HB.out.trans (hW.mono HB.out.size))) rfl (by decide) hg4 hc4)
      clear e4 hg4 hc4
      go_simp
      go_at_call 42
      refine HO.out.mono ?_
      rintro e w' ⟨rfl, hb⟩
      exact hK.out _ _ hb rfl
    case s6 =>
      have hx5 : xv 5 = Value.bool (rowOK [.one [isTyp]] f) := hd 5 (by kernel_rfl)
      clear hd
      simp only [Act.put, List.setIfInBounds_toArray, List.set_cons_succ, List.set_cons_zero] at hK
      rw [hx5] at hK ⊢
      refine (if_pos (by rfl)).mpr ?_
      go_simp
      exact hK.out _ _ (Below.refl _ _) rfl
  case behind =>
    intro xv W hW hx a ha
    replace hW := undrew hW
    simp only [fillA] at ha
    simp only [List.setIfInBounds_toArray, List.set_cons_succ, List.set_cons_zero, Nat.zero_add, Nat.reduceAdd] at ha
    subst ha
    have hl : xv 6 = Value.bool (rowOK [.one [isTyp]] f) := hx 6 (by decide)
    rw [hl]
    clear hx hl
    have HE := Lib.hid (HKA.out.bel.trans (hW.mono HKA.out.bel.size))
    go_wp2
    go_ret
    exact ⟨rfl, HE.out⟩

set_option maxRecDepth 100000 in
set_option maxHeartbeats 8000000 in
theorem kids_6 (x y : ByteArray) (A : Option Addr) (n C : Nat) (f : F) (w : World) (hf : Fs w (Lo w.heap.size) (.slice A n C) f) : Calls Tryd.prog 37 #[.agg #[.int .i64 6, .string x, .string y, .slice A n C]] w fun e w' => e = .returned (.bool (kidsOK 6 x f)) ∧ Below w.heap.size w w' := by
  have HFS := Lib.hid hf
  have HOF := Lib.hid (of_any [33] (w.heap.size + 1) 1 ((w.alloc (.cells #[.int .i64 6, .string x, .string y, .slice A n C] 24)).alloc (.cells #[.int .i64 33] 3)) rfl (by decide) (by simp) (fun i u hu => by rw [World.cell?_alloc_at _ _ _ _ (by simp)]; match i, hu with | 0, hu => (cases hu; rfl)))
  rw [show kidsOK 6 x f = rowOK [.one [isTyp]] f by simp [kidsOK]]
  clear hf
  go_enter Tryd.func37, Tryd.ntmps37
  go_wp2_with fail
  refine (HOF.out).mono ?_
  rintro e w3 ⟨hb3, v3, rfl, ht3⟩
  obtain ⟨g3, c3, rfl, hrest⟩ := ht3
  have HKA := Lib.hid (kidsAt_new w w3 6 x y A n C f g3 c3 HFS.out hb3 ⟨_, _, rfl, hrest⟩)
  have HB : Hid (Below w3.heap.size w3 w3) := Below.refl _ _
  have T3 := Lib.hid HKA.out.t3
  have HF := Lib.hid HKA.out.fs
  have HBOX : Hid (∀ W, Below w3.heap.size w3 W → W.cell? ⟨w.heap.size, 3, none⟩ = some (.slice A n C)) := fun W hW => (HKA.out.box W hW).2.2
  obtain ⟨hk0, hk1, hk3⟩ := HKA.out.box w3 (Below.refl _ _)
  clear hb3 hrest HFS HOF
  go_wp2
  refine region_rel (fun W W' => Below W.heap.size W W') [Cd.is (Value.pointer (some ⟨w.heap.size, 3, none⟩)), Cd.is (Value.slice A n C), cTests [isTyp], cPart (.one [isTyp]), cParts [.one [isTyp]], Cd.is (Value.bool (rowOK [.one [isTyp]] f)), Cd.is (Value.bool (rowOK [.one [isTyp]] f))] (by kernel_rfl) (by decide) (by kernel_rfl) (Below.refl _ _) (fun _ _ _ h k => h.trans (k.mono h.size)) ?steps ?behind
  case steps =>
    intro xv W hW a ha
    replace hW := undrew hW
    simp only [fillA] at ha
    simp only [List.setIfInBounds_toArray, List.set_cons_succ, List.set_cons_zero, Nat.zero_add, Nat.reduceAdd] at ha
    subst ha
    refine ⟨fun hd K hK => ?s0, fun hd K hK => ?s1, fun hd K hK => ?s2, fun hd K hK => ?s3, fun hd K hK => ?s4, fun hd K hK => ?s5, fun hd K hK => ?s6, trivial⟩
    case s0 =>
      clear hd
      simp only [Act.put, List.setIfInBounds_toArray, List.set_cons_succ, List.set_cons_zero] at hK
      refine (if_pos (by rfl)).mpr ?_
      go_simp
      exact hK.out _ _ (Below.refl _ _) rfl
    case s1 =>
      have hx0 : xv 0 = Value.pointer (some ⟨w.heap.size, 3, none⟩) := hd 0 (by kernel_rfl)
      clear hd
      simp only [Act.put, List.setIfInBounds_toArray, List.set_cons_succ, List.set_cons_zero] at hK
      rw [hx0] at hK ⊢
      refine (if_pos (by rfl)).mpr ?_
      have hcell := HBOX.out W (HB.out.trans (hW.mono HB.out.size))
      go_simp
      exact hK.out _ _ (Below.refl _ _) rfl
    case s2 =>
      clear hd
      simp only [Act.put, List.setIfInBounds_toArray, List.set_cons_succ, List.set_cons_zero] at hK
      refine (if_pos (by rfl)).mpr ?_
      go_simp
      exact hK.out _ _ (below1 _ _) (tests_new1 W (test_isTyp W))
    case s3 =>
      have hx2 : Tests [isTyp] (xv 2) W := hd 2 (by kernel_rfl)
      clear hd
      simp only [Act.put, List.setIfInBounds_toArray, List.set_cons_succ, List.set_cons_zero] at hK
      refine (if_pos (by rfl)).mpr ?_
      obtain ⟨g2, e2, hg2, hc2⟩ := hx2
      rw [e2]
      rw [e2] at hK
      have HO := Lib.hid (one_any [isTyp] g2 _ W rfl (by decide) hg2 hc2)
      clear e2 hg2 hc2
      go_simp
      go_at_call 44
      refine HO.out.mono ?_
      rintro e w' ⟨hb, v, rfl, ht⟩
      exact hK.out _ _ hb ht
    case s4 =>
      have hx3 : PartOk W (xv 3) (.one [isTyp]) := hd 3 (by kernel_rfl)
      clear hd
      simp only [Act.put, List.setIfInBounds_toArray, List.set_cons_succ, List.set_cons_zero] at hK
      refine (if_pos (by rfl)).mpr ?_
      obtain ⟨gf3, c3, e3, hg3⟩ := hx3
      have hx3' : PartOk W (.func (.func gf3) #[] #[.pointer (some ⟨c3, 0, none⟩)]) (.one [isTyp]) := ⟨gf3, c3, rfl, hg3⟩
      clear hg3
      rw [e3] at hK ⊢
      have hx3 := Lib.hid hx3'
      clear hx3' e3
      go_simp
      exact hK.out _ _ (below1 _ _) (parts_new1 W hx3.out)
    case s5 =>
      have hx1 : xv 1 = Value.slice A n C := hd 1 (by kernel_rfl)
      have hx4 : Parts [.one [isTyp]] (xv 4) W := hd 4 (by kernel_rfl)
      clear hd
      simp only [Act.put, List.setIfInBounds_toArray, List.set_cons_succ, List.set_cons_zero] at hK
      rw [hx1] at hK ⊢
      refine (if_pos (by rfl)).mpr ?_
      obtain ⟨g4, e4, hg4, hc4⟩ := hx4
      rw [e4]
      rw [e4] at hK
      have HO := Lib.hid (row_any [.one [isTyp]] g4 _ A n C f W (HF.out.later (HB.out.trans (hW.mono HB.out.size))) rfl (by decide) hg4 hc4)
      clear e4 hg4 hc4
      go_simp
      go_at_call 42
      refine HO.out.mono ?_
      rintro e w' ⟨rfl, hb⟩
      exact hK.out _ _ hb rfl
    case s6 =>
      have hx5 : xv 5 = Value.bool (rowOK [.one [isTyp]] f) := hd 5 (by kernel_rfl)
      clear hd
      simp only [Act.put, List.setIfInBounds_toArray, List.set_cons_succ, List.set_cons_zero] at hK
      rw [hx5] at hK ⊢
      refine (if_pos (by rfl)).mpr ?_
      go_simp
      exact hK.out _ _ (Below.refl _ _) rfl
  case behind =>
    intro xv W hW hx a ha
    replace hW := undrew hW
    simp only [fillA] at ha
    simp only [List.setIfInBounds_toArray, List.set_cons_succ, List.set_cons_zero, Nat.zero_add, Nat.reduceAdd] at ha
    subst ha
    have hl : xv 6 = Value.bool (rowOK [.one [isTyp]] f) := hx 6 (by decide)
    rw [hl]
    clear hx hl
    have HE := Lib.hid (HKA.out.bel.trans (hW.mono HKA.out.bel.size))
    go_wp2
    go_ret
    exact ⟨rfl, HE.out⟩

set_option maxRecDepth 100000 in
set_option maxHeartbeats 8000000 in
theorem kids_26 (x y : ByteArray) (A : Option Addr) (n C : Nat) (f : F) (w : World) (hf : Fs w (Lo w.heap.size) (.slice A n C) f) : Calls Tryd.prog 37 #[.agg #[.int .i64 26, .string x, .string y, .slice A n C]] w fun e w' => e = .returned (.bool (kidsOK 26 x f)) ∧ Below w.heap.size w w' := by
  have HFS := Lib.hid hf
  have HOF := Lib.hid (of_any [33] (w.heap.size + 1) 1 ((w.alloc (.cells #[.int .i64 26, .string x, .string y, .slice A n C] 24)).alloc (.cells #[.int .i64 33] 3)) rfl (by decide) (by simp) (fun i u hu => by rw [World.cell?_alloc_at _ _ _ _ (by simp)]; match i, hu with | 0, hu => (cases hu; rfl)))
  rw [show kidsOK 26 x f = decide (f.len = 0) by simp [kidsOK]]
  obtain ⟨A0, C0, e, _, _⟩ := hf.slice
  injection e with e1 e2 e3
  subst e2
  clear hf e1 e3
  by_cases hz : f.len = 0
  · have hzz : ((f.len : Int) == 0) = true := by rw [hz]; rfl
    rw [show decide (f.len = 0) = true from decide_eq_true hz]
    clear hz
    go_enter Tryd.func37, Tryd.ntmps37
    go_wp2_with fail
    refine (HOF.out).mono ?_
    rintro e w3 ⟨hb3, v3, rfl, ht3⟩
    obtain ⟨g3, c3, rfl, hrest⟩ := ht3
    have HKA := Lib.hid (kidsAt_new w w3 26 x y A f.len C f g3 c3 HFS.out hb3 ⟨_, _, rfl, hrest⟩)
    have HB : Hid (Below w3.heap.size w3 w3) := Below.refl _ _
    have T3 := Lib.hid HKA.out.t3
    have HF := Lib.hid HKA.out.fs
    have HBOX : Hid (∀ W, Below w3.heap.size w3 W → W.cell? ⟨w.heap.size, 3, none⟩ = some (.slice A f.len C)) := fun W hW => (HKA.out.box W hW).2.2
    obtain ⟨hk0, hk1, hk3⟩ := HKA.out.box w3 (Below.refl _ _)
    clear hb3 hrest HFS HOF
    go_wp2
    go_ret
    exact ⟨rfl, HKA.out.bel⟩
  · have hzz : ((f.len : Int) == 0) = false := kno (by omega)
    rw [show decide (f.len = 0) = false from decide_eq_false hz]
    clear hz
    go_enter Tryd.func37, Tryd.ntmps37
    go_wp2_with fail
    refine (HOF.out).mono ?_
    rintro e w3 ⟨hb3, v3, rfl, ht3⟩
    obtain ⟨g3, c3, rfl, hrest⟩ := ht3
    have HKA := Lib.hid (kidsAt_new w w3 26 x y A f.len C f g3 c3 HFS.out hb3 ⟨_, _, rfl, hrest⟩)
    have HB : Hid (Below w3.heap.size w3 w3) := Below.refl _ _
    have T3 := Lib.hid HKA.out.t3
    have HF := Lib.hid HKA.out.fs
    have HBOX : Hid (∀ W, Below w3.heap.size w3 W → W.cell? ⟨w.heap.size, 3, none⟩ = some (.slice A f.len C)) := fun W hW => (HKA.out.box W hW).2.2
    obtain ⟨hk0, hk1, hk3⟩ := HKA.out.box w3 (Below.refl _ _)
    clear hb3 hrest HFS HOF
    go_wp2
    go_ret
    exact ⟨rfl, HKA.out.bel⟩
set_option maxRecDepth 100000 in
set_option maxHeartbeats 8000000 in
theorem kids_25 (x y : ByteArray) (A : Option Addr) (n C : Nat) (f : F) (w : World) (hf : Fs w (Lo w.heap.size) (.slice A n C) f) : Calls Tryd.prog 37 #[.agg #[.int .i64 25, .string x, .string y, .slice A n C]] w fun e w' => e = .returned (.bool (kidsOK 25 x f)) ∧ Below w.heap.size w w' := by
  have HFS := Lib.hid hf
  have HOF := Lib.hid (of_any [33] (w.heap.size + 1) 1 ((w.alloc (.cells #[.int .i64 25, .string x, .string y, .slice A n C] 24)).alloc (.cells #[.int .i64 33] 3)) rfl (by decide) (by simp) (fun i u hu => by rw [World.cell?_alloc_at _ _ _ _ (by simp)]; match i, hu with | 0, hu => (cases hu; rfl)))
  rw [show kidsOK 25 x f = decide (f.len = 0) by simp [kidsOK]]
  obtain ⟨A0, C0, e, _, _⟩ := hf.slice
  injection e with e1 e2 e3
  subst e2
  clear hf e1 e3
  by_cases hz : f.len = 0
  · have hzz : ((f.len : Int) == 0) = true := by rw [hz]; rfl
    rw [show decide (f.len = 0) = true from decide_eq_true hz]
    clear hz
    go_enter Tryd.func37, Tryd.ntmps37
    go_wp2_with fail
    refine (HOF.out).mono ?_
    rintro e w3 ⟨hb3, v3, rfl, ht3⟩
    obtain ⟨g3, c3, rfl, hrest⟩ := ht3
    have HKA := Lib.hid (kidsAt_new w w3 25 x y A f.len C f g3 c3 HFS.out hb3 ⟨_, _, rfl, hrest⟩)
    have HB : Hid (Below w3.heap.size w3 w3) := Below.refl _ _
    have T3 := Lib.hid HKA.out.t3
    have HF := Lib.hid HKA.out.fs
    have HBOX : Hid (∀ W, Below w3.heap.size w3 W → W.cell? ⟨w.heap.size, 3, none⟩ = some (.slice A f.len C)) := fun W hW => (HKA.out.box W hW).2.2
    obtain ⟨hk0, hk1, hk3⟩ := HKA.out.box w3 (Below.refl _ _)
    clear hb3 hrest HFS HOF
    go_wp2
    go_ret
    exact ⟨rfl, HKA.out.bel⟩
  · have hzz : ((f.len : Int) == 0) = false := kno (by omega)
    rw [show decide (f.len = 0) = false from decide_eq_false hz]
    clear hz
    go_enter Tryd.func37, Tryd.ntmps37
    go_wp2_with fail
    refine (HOF.out).mono ?_
    rintro e w3 ⟨hb3, v3, rfl, ht3⟩
    obtain ⟨g3, c3, rfl, hrest⟩ := ht3
    have HKA := Lib.hid (kidsAt_new w w3 25 x y A f.len C f g3 c3 HFS.out hb3 ⟨_, _, rfl, hrest⟩)
    have HB : Hid (Below w3.heap.size w3 w3) := Below.refl _ _
    have T3 := Lib.hid HKA.out.t3
    have HF := Lib.hid HKA.out.fs
    have HBOX : Hid (∀ W, Below w3.heap.size w3 W → W.cell? ⟨w.heap.size, 3, none⟩ = some (.slice A f.len C)) := fun W hW => (HKA.out.box W hW).2.2
    obtain ⟨hk0, hk1, hk3⟩ := HKA.out.box w3 (Below.refl _ _)
    clear hb3 hrest HFS HOF
    go_wp2
    go_ret
    exact ⟨rfl, HKA.out.bel⟩
set_option maxRecDepth 100000 in
set_option maxHeartbeats 8000000 in
theorem kids_3 (x y : ByteArray) (A : Option Addr) (n C : Nat) (f : F) (w : World) (hf : Fs w (Lo w.heap.size) (.slice A n C) f) : Calls Tryd.prog 37 #[.agg #[.int .i64 3, .string x, .string y, .slice A n C]] w fun e w' => e = .returned (.bool (kidsOK 3 x f)) ∧ Below w.heap.size w w' := by
  have HFS := Lib.hid hf
  have HOF := Lib.hid (of_any [33] (w.heap.size + 1) 1 ((w.alloc (.cells #[.int .i64 3, .string x, .string y, .slice A n C] 24)).alloc (.cells #[.int .i64 33] 3)) rfl (by decide) (by simp) (fun i u hu => by rw [World.cell?_alloc_at _ _ _ _ (by simp)]; match i, hu with | 0, hu => (cases hu; rfl)))
  rw [show kidsOK 3 x f = decide (f.len = 0) by simp [kidsOK]]
  obtain ⟨A0, C0, e, _, _⟩ := hf.slice
  injection e with e1 e2 e3
  subst e2
  clear hf e1 e3
  by_cases hz : f.len = 0
  · have hzz : ((f.len : Int) == 0) = true := by rw [hz]; rfl
    rw [show decide (f.len = 0) = true from decide_eq_true hz]
    clear hz
    go_enter Tryd.func37, Tryd.ntmps37
    go_wp2_with fail
    refine (HOF.out).mono ?_
    rintro e w3 ⟨hb3, v3, rfl, ht3⟩
    obtain ⟨g3, c3, rfl, hrest⟩ := ht3
    have HKA := Lib.hid (kidsAt_new w w3 3 x y A f.len C f g3 c3 HFS.out hb3 ⟨_, _, rfl, hrest⟩)
    have HB : Hid (Below w3.heap.size w3 w3) := Below.refl _ _
    have T3 := Lib.hid HKA.out.t3
    have HF := Lib.hid HKA.out.fs
    have HBOX : Hid (∀ W, Below w3.heap.size w3 W → W.cell? ⟨w.heap.size, 3, none⟩ = some (.slice A f.len C)) := fun W hW => (HKA.out.box W hW).2.2
    obtain ⟨hk0, hk1, hk3⟩ := HKA.out.box w3 (Below.refl _ _)
    clear hb3 hrest HFS HOF
    go_wp2
    go_ret
    exact ⟨rfl, HKA.out.bel⟩
  · have hzz : ((f.len : Int) == 0) = false := kno (by omega)
    rw [show decide (f.len = 0) = false from decide_eq_false hz]
    clear hz
    go_enter Tryd.func37, Tryd.ntmps37
    go_wp2_with fail
    refine (HOF.out).mono ?_
    rintro e w3 ⟨hb3, v3, rfl, ht3⟩
    obtain ⟨g3, c3, rfl, hrest⟩ := ht3
    have HKA := Lib.hid (kidsAt_new w w3 3 x y A f.len C f g3 c3 HFS.out hb3 ⟨_, _, rfl, hrest⟩)
    have HB : Hid (Below w3.heap.size w3 w3) := Below.refl _ _
    have T3 := Lib.hid HKA.out.t3
    have HF := Lib.hid HKA.out.fs
    have HBOX : Hid (∀ W, Below w3.heap.size w3 W → W.cell? ⟨w.heap.size, 3, none⟩ = some (.slice A f.len C)) := fun W hW => (HKA.out.box W hW).2.2
    obtain ⟨hk0, hk1, hk3⟩ := HKA.out.box w3 (Below.refl _ _)
    clear hb3 hrest HFS HOF
    go_wp2
    go_ret
    exact ⟨rfl, HKA.out.bel⟩
end Go.Proofs.YtoecimgmghlfpaaDoor.Tree
