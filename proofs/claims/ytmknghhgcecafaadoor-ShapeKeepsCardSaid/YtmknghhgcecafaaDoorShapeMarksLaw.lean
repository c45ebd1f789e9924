/-
  Layer 10 (shape): the walk of ShapeMarks. Written by gen_shapemarks.py.
-/
import Derived.Test.YtmknghhgcecafaaDoorShapeSumsLaw
namespace Go.Proofs.YtmknghhgcecafaaDoor.Shape
open Go.ChangeShapes Go.WideShapes Go.ChangeAt Go.RowKit Mem Tree MemC
set_option linter.unusedVariables false

/-- Three boxes, one behind the other: each one's cells, at all later worlds. -/
theorem box_at' (w W0 : World) (g : Nat) (k : Int) (x y : ByteArray) (s : Value) (h : W0.heap[g]? = some (.cells #[.int .i64 k, .string x, .string y, s] 24)) : ∀ W, Below W0.heap.size W0 W →
    W.cell? ⟨g, 0, none⟩ = some (.int .i64 k) ∧ W.cell? ⟨g, 1, none⟩ = some (.string x) ∧ W.cell? ⟨g, 2, none⟩ = some (.string y) ∧ W.cell? ⟨g, 3, none⟩ = some s := fun W hW => by
  have h : W.heap[g]? = _ := (hW.block g (lt_of_block h)).trans h
  refine ⟨?_, ?_, ?_, ?_⟩ <;> simp [World.cell?, h]
def row3 (k : Int) (x y : ByteArray) (c : F) (k' : Int) (x' y' : ByteArray) (c' : F) (k'' : Int) (x'' y'' : ByteArray) (c'' : F) : F := .cons k x y c (.cons k' x' y' c' (.cons k'' x'' y'' c'' .nil))
theorem row3_drop {k : Int} {x y : ByteArray} {c : F} {k' : Int} {x' y' : ByteArray} {c' : F} {k'' : Int} {x'' y'' : ByteArray} {c'' : F} {m : Nat} (h1 : c.size + 1 ≤ m) (h2 : c'.size + 1 ≤ m) (h3 : c''.size + 1 ≤ m) :
    ∀ j k3 x3 y3 c3 r3, (row3 k x y c k' x' y' c' k'' x'' y'' c'').drop j = .cons k3 x3 y3 c3 r3 → c3.size + 1 ≤ m := by
  intro j k3 x3 y3 c3 r3 h
  match j, h with
  | 0, h => simp only [row3, F.drop, F.cons.injEq] at h; obtain ⟨-, -, -, rfl, -⟩ := h; exact h1
  | 1, h => simp only [row3, F.drop, F.cons.injEq] at h; obtain ⟨-, -, -, rfl, -⟩ := h; exact h2
  | 2, h => simp only [row3, F.drop, F.cons.injEq] at h; obtain ⟨-, -, -, rfl, -⟩ := h; exact h3
  | j + 3, h => simp [row3, F.drop, F.drop_nil] at h
def cFs (n : Nat) (f : F) : Cd TB := ⟨fun v W => ∃ A C, v = .slice A n C ∧ Fs W (Lo W.heap.size) (.slice A n C) f, fun v W W' h hp => by
  obtain ⟨A, C, e, hr⟩ := hp
  exact ⟨A, C, e, hr.later h⟩⟩
def cRows (K : List (List Int)) : Cd TB := ⟨fun v W => RowsAt W (Lo W.heap.size) v K, fun v W W' h hp => (hp.keep fun b hb => h.block b hb).more fun b hb => Nat.lt_of_lt_of_le hb h.size⟩
theorem three_of {α : Type} : ∀ {l : List α}, l.length = 3 → ∃ a b c, l = [a, b, c]
  | [a, b, c], _ => ⟨a, b, c, rfl⟩
theorem marks_short {R : F} {K0 K1 K2 : List Int} (h : R.size ≤ 1000) (hK : marksI R = [K0, K1, K2]) : K0.length ≤ 1000 ∧ K1.length ≤ 1000 ∧ K2.length ≤ 1000 := by
  have hm : ∀ (seen : List Nd) (f : F) (l : List Nat), l ∈ marksF seen f → l.length ≤ f.size := by
    intro seen f
    induction f generalizing seen with
    | nil => intro l hl; cases hl
    | cons k x y c r ihc ih =>
      intro l hl
      simp only [marksF, List.mem_cons] at hl
      simp only [F.size]
      rcases hl with rfl | hl
      · rw [markL_len, nodes_len, one_size]; omega
      · have := ih _ l hl; omega
  have hi : ∀ l ∈ marksI R, l.length ≤ 1000 := fun l hl => by
    unfold marksI at hl
    obtain ⟨m, hm', rfl⟩ := List.mem_map.1 hl
    unfold ints
    rw [List.length_map]
    exact Nat.le_trans (hm [] R m hm') h
  rw [hK] at hi
  exact ⟨hi _ (by simp), hi _ (by simp), hi _ (by simp)⟩
theorem few_small {k : Int} {x y : ByteArray} {c : F} {m : Nat} (h : fewS k x y c m = true) : c.size + 1 ≤ m ∧ x.size ≤ 1000000 ∧ y.size ≤ 1000000 ∧ Small c := by
  unfold fewS at h
  rw [Bool.and_eq_true, decide_eq_true_eq] at h
  have hi := few_is h.1
  exact ⟨h.2, by have := hi.hx; omega, by have := hi.hy; omega, hi.sm⟩
theorem marksI_len (k : Int) (x y : ByteArray) (c : F) (k' : Int) (x' y' : ByteArray) (c' : F) (k'' : Int) (x'' y'' : ByteArray) (c'' : F) : (marksI (row3 k x y c k' x' y' c' k'' x'' y'' c'')).length = 3 := rfl
set_option maxRecDepth 100000 in
set_option maxHeartbeats 16000000 in
theorem shapeMarks_walk (HO : OfSpec) (HMk : MarksSpec) (HTr : TreeSpec) (k : Int) (x y : ByteArray) (A : Option Addr) (n C : Nat) (c : F) (k' : Int) (x' y' : ByteArray) (A' : Option Addr) (n' C' : Nat) (c' : F) (k'' : Int) (x'' y'' : ByteArray) (A'' : Option Addr) (n'' C'' : Nat) (c'' : F) (w : World) (hf : Fs w (Lo w.heap.size) (.slice A n C) c) (hf' : Fs w (Lo w.heap.size) (.slice A' n' C') c') (hf'' : Fs w (Lo w.heap.size) (.slice A'' n'' C'') c'')(hP : Pow w) (hK : InK k ∧ Kinds c) (hK' : InK k' ∧ Kinds c') (hK'' : InK k'' ∧ Kinds c'') :
    Calls Tryd.prog 4 #[.agg #[.int .i64 k, .string x, .string y, .slice A n C], .agg #[.int .i64 k', .string x', .string y', .slice A' n' C'], .agg #[.int .i64 k'', .string x'', .string y'', .slice A'' n'' C'']] w fun e w' => e = .returned (.bool true) ∧ Below w.heap.size w w' := by
  have b1 := bel1 w (.cells #[.int .i64 k, .string x, .string y, .slice A n C] 24)
  have b2 := bel1 (w.alloc (.cells #[.int .i64 k, .string x, .string y, .slice A n C] 24)) (.cells #[.int .i64 k', .string x', .string y', .slice A' n' C'] 24)
  have b3 := bel1 ((w.alloc (.cells #[.int .i64 k, .string x, .string y, .slice A n C] 24)).alloc (.cells #[.int .i64 k', .string x', .string y', .slice A' n' C'] 24)) (.cells #[.int .i64 k'', .string x'', .string y'', .slice A'' n'' C''] 24)
  have hb3 : Below w.heap.size w (((w.alloc (.cells #[.int .i64 k, .string x, .string y, .slice A n C] 24)).alloc (.cells #[.int .i64 k', .string x', .string y', .slice A' n' C'] 24)).alloc (.cells #[.int .i64 k'', .string x'', .string y'', .slice A'' n'' C''] 24)) := (b1.trans (b2.mono b1.size)).trans (b3.mono (b1.trans (b2.mono b1.size)).size)
  have z1 : (w.alloc (.cells #[.int .i64 k, .string x, .string y, .slice A n C] 24)).heap.size = w.heap.size + 1 := by simp
  have z2 : ((w.alloc (.cells #[.int .i64 k, .string x, .string y, .slice A n C] 24)).alloc (.cells #[.int .i64 k', .string x', .string y', .slice A' n' C'] 24)).heap.size = w.heap.size + 1 + 1 := by simp
  have g2 : (((w.alloc (.cells #[.int .i64 k, .string x, .string y, .slice A n C] 24)).alloc (.cells #[.int .i64 k', .string x', .string y', .slice A' n' C'] 24)).alloc (.cells #[.int .i64 k'', .string x'', .string y'', .slice A'' n'' C''] 24)).heap[w.heap.size + 1 + 1]? = some (.cells #[.int .i64 k'', .string x'', .string y'', .slice A'' n'' C''] 24) := by rw [← z2]; exact heap_alloc_new _ _
  have g1 : (((w.alloc (.cells #[.int .i64 k, .string x, .string y, .slice A n C] 24)).alloc (.cells #[.int .i64 k', .string x', .string y', .slice A' n' C'] 24)).alloc (.cells #[.int .i64 k'', .string x'', .string y'', .slice A'' n'' C''] 24)).heap[w.heap.size + 1]? = some (.cells #[.int .i64 k', .string x', .string y', .slice A' n' C'] 24) := (b3.block _ (by simp)).trans (by rw [← z1]; exact heap_alloc_new _ _)
  have g0 : (((w.alloc (.cells #[.int .i64 k, .string x, .string y, .slice A n C] 24)).alloc (.cells #[.int .i64 k', .string x', .string y', .slice A' n' C'] 24)).alloc (.cells #[.int .i64 k'', .string x'', .string y'', .slice A'' n'' C''] 24)).heap[w.heap.size]? = some (.cells #[.int .i64 k, .string x, .string y, .slice A n C] 24) := (b3.block _ (by simp; omega)).trans ((b2.block _ (by simp)).trans (heap_alloc_new _ _))
  have HX0 := Lib.hid (box_at' w _ _ k x y (.slice A n C) g0)
  have HX1 := Lib.hid (box_at' w _ _ k' x' y' (.slice A' n' C') g1)
  have HX2 := Lib.hid (box_at' w _ _ k'' x'' y'' (.slice A'' n'' C'') g2)
  have HF0 := Lib.hid (hf.later hb3)
  have HF1 := Lib.hid (hf'.later hb3)
  have HF2 := Lib.hid (hf''.later hb3)
  have HB1 := Lib.hid hb3
  have HMM := Lib.hid HMk
  have HKN := Lib.hid (fun W hW => known_any HO HMk HTr W hW)
  have HPW := Lib.hid hP
  have HKI0 := Lib.hid hK
  have HKI1 := Lib.hid hK'
  have HKI2 := Lib.hid hK''
  clear hP hK hK' hK''
  obtain ⟨f0, hf0⟩ : ∃ fb, fewS k x y c 150 = fb := ⟨_, rfl⟩
  obtain ⟨f1, hf1⟩ : ∃ fb, fewS k' x' y' c' 150 = fb := ⟨_, rfl⟩
  obtain ⟨f2, hf2⟩ : ∃ fb, fewS k'' x'' y'' c'' 150 = fb := ⟨_, rfl⟩
  have HE0 := Lib.hid hf0
  have HE1 := Lib.hid hf1
  have HE2 := Lib.hid hf2
  obtain ⟨q0, q1, q2, q3⟩ := HX0.out _ (Below.refl _ _)
  clear b1 b2 b3 hb3 z1 z2 g0 g1 g2 hf hf' hf'' hf0 hf1 hf2 HO HMk HTr
  go_enter Tryd.func4, Tryd.ntmps4
  go_wp2_with fail
  obtain ⟨w0, hw0⟩ : ∃ w0, ((w.alloc (.cells #[.int .i64 k, .string x, .string y, .slice A n C] 24)).alloc (.cells #[.int .i64 k', .string x', .string y', .slice A' n' C'] 24)).alloc (.cells #[.int .i64 k'', .string x'', .string y'', .slice A'' n'' C''] 24) = w0 := ⟨_, rfl⟩
  rw [hw0] at HX0 HX1 HX2 HF0 HF1 HF2 HB1 q0 q1 q2 q3 ⊢
  clear hw0
  have H1 := Lib.hid (few10_any k x y A n C c 150 w0 HF0.out (by decide))
  rw [HE0.out] at H1
  refine H1.out.mono ?_
  rintro e w1 ⟨rfl, hb⟩
  have HB01 := Lib.hid hb
  clear hb q0 q1 q2 q3 H1
  cases f0 with
  | false =>
    go_wp2_with fail
    refine (HKN.out w1 (HPW.out.on (HB1.out.trans (HB01.out.mono HB1.out.size)))).mono ?_
    rintro e wk ⟨rfl, hb⟩
    have HBk := Lib.hid (HB1.out.trans ((HB01.out.trans (hb.mono HB01.out.size)).mono HB1.out.size))
    clear hb
    go_wp2
    go_ret
    exact ⟨rfl, HBk.out⟩
  | true =>
    have H2 := Lib.hid (few10_any k' x' y' A' n' C' c' 150 w1 (HF1.out.later HB01.out) (by decide))
    rw [HE1.out] at H2
    obtain ⟨q0, q1, q2, q3⟩ := HX1.out _ HB01.out
    go_wp2_with fail
    refine H2.out.mono ?_
    rintro e w2 ⟨rfl, hb⟩
    have HB02 := Lib.hid (HB01.out.trans (hb.mono HB01.out.size))
    clear hb q0 q1 q2 q3 H2 HB01
    cases f1 with
    | false =>
      go_wp2_with fail
      refine (HKN.out w2 (HPW.out.on (HB1.out.trans (HB02.out.mono HB1.out.size)))).mono ?_
      rintro e wk ⟨rfl, hb⟩
      have HBk := Lib.hid (HB1.out.trans ((HB02.out.trans (hb.mono HB02.out.size)).mono HB1.out.size))
      clear hb
      go_wp2
      go_ret
      exact ⟨rfl, HBk.out⟩
    | true =>
      have H3 := Lib.hid (few10_any k'' x'' y'' A'' n'' C'' c'' 150 w2 (HF2.out.later HB02.out) (by decide))
      rw [HE2.out] at H3
      obtain ⟨q0, q1, q2, q3⟩ := HX2.out _ HB02.out
      go_wp2_with fail
      refine H3.out.mono ?_
      rintro e w3 ⟨rfl, hb⟩
      have HB03 := Lib.hid (HB02.out.trans (hb.mono HB02.out.size))
      clear hb q0 q1 q2 q3 H3 HB02
      cases f2 with
      | false =>
        go_wp2_with fail
        refine (HKN.out w3 (HPW.out.on (HB1.out.trans (HB03.out.mono HB1.out.size)))).mono ?_
        rintro e wk ⟨rfl, hb⟩
        have HBk := Lib.hid (HB1.out.trans ((HB03.out.trans (hb.mono HB03.out.size)).mono HB1.out.size))
        clear hb
        go_wp2
        go_ret
        exact ⟨rfl, HBk.out⟩
      | true =>
        obtain ⟨s0, x0, y0, t0⟩ := few_small HE0.out
        obtain ⟨s1, x1, y1, t1⟩ := few_small HE1.out
        obtain ⟨s2, x2, y2, t2⟩ := few_small HE2.out
        obtain ⟨R, hR⟩ : ∃ R, row3 k x y c k' x' y' c' k'' x'' y'' c'' = R := ⟨_, rfl⟩
        have HKR : Hid (Kinds R) := by rw [← hR]; exact ⟨HKI0.out.1, HKI0.out.2, HKI1.out.1, HKI1.out.2, HKI2.out.1, HKI2.out.2, trivial⟩
        have HSM : Hid (Small R) := by rw [← hR]; exact ⟨x0, y0, t0, x1, y1, t1, x2, y2, t2, trivial⟩
        have HSZ : Hid (R.size ≤ 1000) := by show _ ≤ _; rw [← hR]; simp only [row3, F.size]; omega
        have HDR : Hid (∀ j k3 x3 y3 c3 r3, R.drop j = .cons k3 x3 y3 c3 r3 → c3.size + 1 ≤ 151) := fun j k3 x3 y3 c3 r3 h => row3_drop (m := 151) (by omega) (by omega) (by omega) j k3 x3 y3 c3 r3 (hR ▸ h)
        have HNEW : Hid (∀ W, Below w0.heap.size w0 W → Fs (W.alloc (.cells #[.int .i64 k, .string x, .string y, .slice A n C, .int .i64 k', .string x', .string y', .slice A' n' C', .int .i64 k'', .string x'', .string y'', .slice A'' n'' C''] 24)) (Lo (W.heap.size + 1)) (.slice (some ⟨W.heap.size, 0, none⟩) 3 3) R) := fun W hW => by
          have := fs_new W [(⟨k, x, y, c⟩, .slice A n C), (⟨k', x', y', c'⟩, .slice A' n' C'), (⟨k'', x'', y'', c''⟩, .slice A'' n'' C'')] (fun p hp => by
            simp only [List.mem_cons, List.not_mem_nil, or_false] at hp
            rcases hp with rfl | rfl | rfl
            · exact HF0.out.later hW
            · exact HF1.out.later hW
            · exact HF2.out.later hW) (show 3 ≤ 1000 by decide)
          rw [← hR]
          exact this
        have HLN : Hid ((marksI R).length = 3) := by show _ = _; rw [← hR]; exact marksI_len ..
        clear s0 x0 y0 t0 s1 x1 y1 t1 s2 x2 y2 t2 hR
        go_wp2
        refine region_rel (TB) [Cd.is (.agg #[.int .i64 k, .string x, .string y, .slice A n C]), Cd.is (.agg #[.int .i64 k', .string x', .string y', .slice A' n' C']), Cd.is (.agg #[.int .i64 k'', .string x'', .string y'', .slice A'' n'' C'']), cFs 3 R, cRows (marksI R), Cd.is (.agg #[.int .i64 k, .string x, .string y, .slice A n C]), Cd.is (.agg #[.int .i64 k', .string x', .string y', .slice A' n' C']), Cd.is (.agg #[.int .i64 k'', .string x'', .string y'', .slice A'' n'' C'']), cFs 3 R, cRows (marksI R), cRows (marksI R), cRows (marksI R)] (by kernel_rfl) (by decide) (by kernel_rfl) (Below.refl _ _) (fun _ _ _ h k => h.trans (k.mono h.size)) ?steps ?behind
        case steps =>
          intro xv W hW a ha
          replace hW := undrew hW
          simp only [fillA] at ha
          simp only [List.setIfInBounds_toArray, List.set_cons_succ, List.set_cons_zero, Nat.zero_add, Nat.reduceAdd] at ha
          subst ha
          refine ⟨fun hd K hK => ?s0, fun hd K hK => ?s1, fun hd K hK => ?s2, fun hd K hK => ?s3, fun hd K hK => ?s4, fun hd K hK => ?s5, fun hd K hK => ?s6, fun hd K hK => ?s7, fun hd K hK => ?s8, fun hd K hK => ?s9, fun hd K hK => ?s10, fun hd K hK => ?s11, trivial⟩
          case s0 =>
            clear hd
            simp only [Act.put, List.setIfInBounds_toArray, List.set_cons_succ, List.set_cons_zero] at hK
            refine (if_pos (by rfl)).mpr ?_
            obtain ⟨p0, p1, p2, p3⟩ := HX0.out W (HB03.out.trans (hW.mono HB03.out.size))
            go_simp
            exact hK.out _ _ (Below.refl _ _) rfl
          case s1 =>
            clear hd
            simp only [Act.put, List.setIfInBounds_toArray, List.set_cons_succ, List.set_cons_zero] at hK
            refine (if_pos (by rfl)).mpr ?_
            obtain ⟨p0, p1, p2, p3⟩ := HX1.out W (HB03.out.trans (hW.mono HB03.out.size))
            go_simp
            exact hK.out _ _ (Below.refl _ _) rfl
          case s2 =>
            clear hd
            simp only [Act.put, List.setIfInBounds_toArray, List.set_cons_succ, List.set_cons_zero] at hK
            refine (if_pos (by rfl)).mpr ?_
            obtain ⟨p0, p1, p2, p3⟩ := HX2.out W (HB03.out.trans (hW.mono HB03.out.size))
            go_simp
            exact hK.out _ _ (Below.refl _ _) rfl
          case s3 =>
            have hx0 : xv 0 = .agg #[.int .i64 k, .string x, .string y, .slice A n C] := hd 0 (by kernel_rfl)
            have hx1 : xv 1 = .agg #[.int .i64 k', .string x', .string y', .slice A' n' C'] := hd 1 (by kernel_rfl)
            have hx2 : xv 2 = .agg #[.int .i64 k'', .string x'', .string y'', .slice A'' n'' C''] := hd 2 (by kernel_rfl)
            clear hd
            simp only [Act.put, List.setIfInBounds_toArray, List.set_cons_succ, List.set_cons_zero] at hK
            rw [hx0] at hK ⊢
            rw [hx1] at hK ⊢
            rw [hx2] at hK ⊢
            refine (if_pos (by rfl)).mpr ?_
            have hbn := bel1 W (.cells #[.int .i64 k, .string x, .string y, .slice A n C, .int .i64 k', .string x', .string y', .slice A' n' C', .int .i64 k'', .string x'', .string y'', .slice A'' n'' C''] 24)
            have hfn := HNEW.out W (HB03.out.trans (hW.mono HB03.out.size))
            go_simp
            exact hK.out _ _ hbn ⟨_, _, rfl, hfn.up (by simp)⟩
          case s4 =>
            have hx3 : ∃ A C, (xv 3) = .slice A 3 C ∧ Fs W (Lo W.heap.size) (.slice A 3 C) R := hd 3 (by kernel_rfl)
            clear hd
            simp only [Act.put, List.setIfInBounds_toArray, List.set_cons_succ, List.set_cons_zero] at hK
            refine (if_pos (by rfl)).mpr ?_
            obtain ⟨A7, C7, e7, r7⟩ := hx3
            rw [e7] at hK ⊢
            go_simp
            go_at_call 15
            refine (HMM.out A7 3 C7 R W (HPW.out.on (HB1.out.trans ((HB03.out.trans (hW.mono HB03.out.size)).mono HB1.out.size))) r7 HSZ.out HSM.out HKR.out).mono ?_
            rintro e W' ⟨hb, v7, rfl, hr7⟩
            exact hK.out _ _ hb (hr7.more fun b h => h.2)
          case s5 =>
            clear hd
            simp only [Act.put, List.setIfInBounds_toArray, List.set_cons_succ, List.set_cons_zero] at hK
            refine (if_pos (by rfl)).mpr ?_
            obtain ⟨p0, p1, p2, p3⟩ := HX0.out W (HB03.out.trans (hW.mono HB03.out.size))
            go_simp
            exact hK.out _ _ (Below.refl _ _) rfl
          case s6 =>
            clear hd
            simp only [Act.put, List.setIfInBounds_toArray, List.set_cons_succ, List.set_cons_zero] at hK
            refine (if_pos (by rfl)).mpr ?_
            obtain ⟨p0, p1, p2, p3⟩ := HX1.out W (HB03.out.trans (hW.mono HB03.out.size))
            go_simp
            exact hK.out _ _ (Below.refl _ _) rfl
          case s7 =>
            clear hd
            simp only [Act.put, List.setIfInBounds_toArray, List.set_cons_succ, List.set_cons_zero] at hK
            refine (if_pos (by rfl)).mpr ?_
            obtain ⟨p0, p1, p2, p3⟩ := HX2.out W (HB03.out.trans (hW.mono HB03.out.size))
            go_simp
            exact hK.out _ _ (Below.refl _ _) rfl
          case s8 =>
            have hx5 : xv 5 = .agg #[.int .i64 k, .string x, .string y, .slice A n C] := hd 5 (by kernel_rfl)
            have hx6 : xv 6 = .agg #[.int .i64 k', .string x', .string y', .slice A' n' C'] := hd 6 (by kernel_rfl)
            have hx7 : xv 7 = .agg #[.int .i64 k'', .string x'', .string y'', .slice A'' n'' C''] := hd 7 (by kernel_rfl)
            clear hd
            simp only [Act.put, List.setIfInBounds_toArray, List.set_cons_succ, List.set_cons_zero] at hK
            rw [hx5] at hK ⊢
            rw [hx6] at hK ⊢
            rw [hx7] at hK ⊢
            refine (if_pos (by rfl)).mpr ?_
            have hbn := bel1 W (.cells #[.int .i64 k, .string x, .string y, .slice A n C, .int .i64 k', .string x', .string y', .slice A' n' C', .int .i64 k'', .string x'', .string y'', .slice A'' n'' C''] 24)
            have hfn := HNEW.out W (HB03.out.trans (hW.mono HB03.out.size))
            go_simp
            exact hK.out _ _ hbn ⟨_, _, rfl, hfn.up (by simp)⟩
          case s9 =>
            have hx8 : ∃ A C, (xv 8) = .slice A 3 C ∧ Fs W (Lo W.heap.size) (.slice A 3 C) R := hd 8 (by kernel_rfl)
            clear hd
            simp only [Act.put, List.setIfInBounds_toArray, List.set_cons_succ, List.set_cons_zero] at hK
            refine (if_pos (by rfl)).mpr ?_
            obtain ⟨A7, C7, e7, r7⟩ := hx8
            rw [e7] at hK ⊢
            go_simp
            go_at_call 16
            refine (refMarks_any A7 3 C7 R 151 W r7 HDR.out (by decide) (by decide) (by decide)).mono ?_
            rintro e W' hp
            obtain ⟨hb, v7, rfl, hr7⟩ := marks_rd hp
            exact hK.out _ _ hb (hr7.more fun b h => h.2)
          case s10 =>
            have hx4 : RowsAt W (Lo W.heap.size) (xv 4) (marksI R) := hd 4 (by kernel_rfl)
            clear hd
            simp only [Act.put, List.setIfInBounds_toArray, List.set_cons_succ, List.set_cons_zero] at hK
            refine (if_pos (by rfl)).mpr ?_
            go_simp
            exact hK.out _ _ (Below.refl _ _) hx4
          case s11 =>
            have hx9 : RowsAt W (Lo W.heap.size) (xv 9) (marksI R) := hd 9 (by kernel_rfl)
            clear hd
            simp only [Act.put, List.setIfInBounds_toArray, List.set_cons_succ, List.set_cons_zero] at hK
            refine (if_pos (by rfl)).mpr ?_
            go_simp
            exact hK.out _ _ (Below.refl _ _) hx9
        case behind =>
          intro xv W hW hx a ha
          replace hW := undrew hW
          simp only [fillA] at ha
          simp only [List.setIfInBounds_toArray, List.set_cons_succ, List.set_cons_zero, Nat.zero_add, Nat.reduceAdd] at ha
          subst ha
          have h10 : RowsAt W (Lo W.heap.size) (xv 10) (marksI R) := hx 10 (by decide)
          have h11 : RowsAt W (Lo W.heap.size) (xv 11) (marksI R) := hx 11 (by decide)
          obtain ⟨v7, hv7⟩ : ∃ v7, xv 10 = v7 := ⟨_, rfl⟩
          obtain ⟨v8, hv8⟩ : ∃ v8, xv 11 = v8 := ⟨_, rfl⟩
          rw [hv7] at h10
          rw [hv8] at h11
          rw [hv7, hv8]
          obtain ⟨bM, oM, cM, us, rfl, hus, rM, kM⟩ := rows_read h10 (fun b h => h) (by rw [HLN.out]; decide)
          obtain ⟨bR, oR, cR, us', rfl, hus', rR, kR⟩ := rows_read h11 (fun b h => h) (by rw [HLN.out]; decide)
          have HB5 := Lib.hid (HB1.out.trans ((HB03.out.trans (hW.mono HB03.out.size)).mono HB1.out.size))
          clear HKR
          have HRM := Lib.hid rM
          have HKM := Lib.hid kM
          have HRR := Lib.hid rR
          have HKR := Lib.hid kR
          obtain ⟨K0, K1, K2, hK3⟩ := three_of HLN.out
          rw [hK3] at HKM HKR
          obtain ⟨a0, d0, u0, r0⟩ := HKM.out 0 K0 rfl
          obtain ⟨a1, d1, u1, r1⟩ := HKM.out 1 K1 rfl
          obtain ⟨a2, d2, u2, r2⟩ := HKM.out 2 K2 rfl
          obtain ⟨a0', d0', u0', r0'⟩ := HKR.out 0 K0 rfl
          obtain ⟨a1', d1', u1', r1'⟩ := HKR.out 1 K1 rfl
          obtain ⟨a2', d2', u2', r2'⟩ := HKR.out 2 K2 rfl
          have M0 := Lib.hid (fun W' h => HRM.out W' h 0 _ u0)
          have M1 := Lib.hid (fun W' h => HRM.out W' h 1 _ u1)
          have M2 := Lib.hid (fun W' h => HRM.out W' h 2 _ u2)
          have N0 := Lib.hid (fun W' h => HRR.out W' h 0 _ u0')
          have N1 := Lib.hid (fun W' h => HRR.out W' h 1 _ u1')
          have N2 := Lib.hid (fun W' h => HRR.out W' h 2 _ u2')
          have S0 := Lib.hid r0; have S1 := Lib.hid r1; have S2 := Lib.hid r2; have S0' := Lib.hid r0'; have S1' := Lib.hid r1'; have S2' := Lib.hid r2'
          rw [HLN.out]
          have HKB : Hid (K0.length ≤ 1000 ∧ K1.length ≤ 1000 ∧ K2.length ≤ 1000) := marks_short HSZ.out hK3
          obtain ⟨m0, hm0⟩ : ∃ m, K0.length = m := ⟨_, rfl⟩
          obtain ⟨m1, hm1⟩ : ∃ m, K1.length = m := ⟨_, rfl⟩
          obtain ⟨m2, hm2⟩ : ∃ m, K2.length = m := ⟨_, rfl⟩
          rw [hm0] at M0 N0
          rw [hm1] at M1 N1
          rw [hm2] at M2 N2
          have E0 := Lib.hid hm0; have E1 := Lib.hid hm1; have E2 := Lib.hid hm2
          clear hx h10 h11 hv7 hv8 hus hus' rM kM rR kR u0 u1 u2 u0' u1' u2' r0 r1 r2 r0' r1' r2' HRM HRR HKM HKR hK3 HB03 HB1 HNEW HSM HSZ HDR hm0 hm1 hm2 hW HX0 HX1 HX2 HF0 HF1 HF2
          go_wp2
          refine region_rel (TB) [Cd.is (.bool true), Cd.is (.bool true), Cd.is (.slice (some ⟨bM, oM, none⟩) 3 cM), Cd.is (.int .i64 3), Cd.is (.bool true), Cd.is (.bool true), Cd.is (.bool true), Cd.is (.slice (some ⟨bM, oM, none⟩) 3 cM), Cd.is (.pointer (some ⟨bM, oM, none⟩)), Cd.is (.slice a0 m0 d0), Cd.is (.slice (some ⟨bR, oR, none⟩) 3 cR), Cd.is (.pointer (some ⟨bR, oR, none⟩)), Cd.is (.slice a0' m0 d0'), Cd.is (.bool true), Cd.is (.bool true), Cd.is (.bool true), Cd.is (.slice (some ⟨bM, oM, none⟩) 3 cM), Cd.is (.pointer (some ⟨bM, oM + 1, none⟩)), Cd.is (.slice a1 m1 d1), Cd.is (.slice (some ⟨bR, oR, none⟩) 3 cR), Cd.is (.pointer (some ⟨bR, oR + 1, none⟩)), Cd.is (.slice a1' m1 d1'), Cd.is (.bool true), Cd.is (.bool true), Cd.is (.bool true), Cd.is (.slice (some ⟨bM, oM, none⟩) 3 cM), Cd.is (.pointer (some ⟨bM, oM + 2, none⟩)), Cd.is (.slice a2 m2 d2), Cd.is (.slice (some ⟨bR, oR, none⟩) 3 cR), Cd.is (.pointer (some ⟨bR, oR + 2, none⟩)), Cd.is (.slice a2' m2 d2'), Cd.is (.bool true), Cd.is (.bool true), Cd.is (.bool true)] (by kernel_rfl) (by decide) (by kernel_rfl) (Below.refl _ _) (fun _ _ _ h k => h.trans (k.mono h.size)) ?steps ?behind
          case steps =>
            intro xv W hW a ha
            replace hW := undrew hW
            simp only [fillA] at ha
            simp only [List.setIfInBounds_toArray, List.set_cons_succ, List.set_cons_zero, Nat.zero_add, Nat.reduceAdd] at ha
            subst ha
            refine ⟨fun hd K hK => ?s0, fun hd K hK => ?s1, fun hd K hK => ?s2, fun hd K hK => ?s3, fun hd K hK => ?s4, fun hd K hK => ?s5, fun hd K hK => ?s6, fun hd K hK => ?s7, fun hd K hK => ?s8, fun hd K hK => ?s9, fun hd K hK => ?s10, fun hd K hK => ?s11, fun hd K hK => ?s12, fun hd K hK => ?s13, fun hd K hK => ?s14, fun hd K hK => ?s15, fun hd K hK => ?s16, fun hd K hK => ?s17, fun hd K hK => ?s18, fun hd K hK => ?s19, fun hd K hK => ?s20, fun hd K hK => ?s21, fun hd K hK => ?s22, fun hd K hK => ?s23, fun hd K hK => ?s24, fun hd K hK => ?s25, fun hd K hK => ?s26, fun hd K hK => ?s27, fun hd K hK => ?s28, fun hd K hK => ?s29, fun hd K hK => ?s30, fun hd K hK => ?s31, fun hd K hK => ?s32, fun hd K hK => ?s33, trivial⟩
            case s0 =>
              clear hd
              simp only [Act.put, List.setIfInBounds_toArray, List.set_cons_succ, List.set_cons_zero] at hK
              refine (if_pos (by rfl)).mpr ?_
              go_simp
              go_at_call 9
              refine (HKN.out W (HPW.out.on (HB5.out.trans (hW.mono HB5.out.size)))).mono ?_
              rintro e W' ⟨rfl, hb⟩
              exact hK.out _ _ hb rfl
            case s1 =>
              have hx0 : xv 0 = .bool true := hd 0 (by kernel_rfl)
              clear hd
              simp only [Act.put, List.setIfInBounds_toArray, List.set_cons_succ, List.set_cons_zero] at hK
              rw [hx0] at hK ⊢
              refine (if_pos (by rfl)).mpr ?_
              go_simp
              exact hK.out _ _ (Below.refl _ _) rfl
            case s2 =>
              have hx1 : xv 1 = .bool true := hd 1 (by kernel_rfl)
              clear hd
              simp only [Act.put, List.setIfInBounds_toArray, List.set_cons_succ, List.set_cons_zero] at hK
              rw [hx1] at hK ⊢
              refine (if_pos (by rfl)).mpr ?_
              go_simp
              exact hK.out _ _ (Below.refl _ _) rfl
            case s3 =>
              have hx1 : xv 1 = .bool true := hd 1 (by kernel_rfl)
              have hx2 : xv 2 = .slice (some ⟨bM, oM, none⟩) 3 cM := hd 2 (by kernel_rfl)
              clear hd
              simp only [Act.put, List.setIfInBounds_toArray, List.set_cons_succ, List.set_cons_zero] at hK
              rw [hx1] at hK ⊢
              rw [hx2] at hK ⊢
              refine (if_pos (by rfl)).mpr ?_
              go_simp
              exact hK.out _ _ (Below.refl _ _) rfl
            case s4 =>
              have hx1 : xv 1 = .bool true := hd 1 (by kernel_rfl)
              have hx3 : xv 3 = .int .i64 3 := hd 3 (by kernel_rfl)
              clear hd
              simp only [Act.put, List.setIfInBounds_toArray, List.set_cons_succ, List.set_cons_zero] at hK
              rw [hx1] at hK ⊢
              rw [hx3] at hK ⊢
              refine (if_pos (by rfl)).mpr ?_
              go_simp
              exact hK.out _ _ (Below.refl _ _) rfl
            case s5 =>
              have hx1 : xv 1 = .bool true := hd 1 (by kernel_rfl)
              have hx4 : xv 4 = .bool true := hd 4 (by kernel_rfl)
              clear hd
              simp only [Act.put, List.setIfInBounds_toArray, List.set_cons_succ, List.set_cons_zero] at hK
              rw [hx1] at hK ⊢
              rw [hx4] at hK ⊢
              refine (if_pos (by rfl)).mpr ?_
              go_simp
              exact hK.out _ _ (Below.refl _ _) rfl
            case s6 =>
              have hx5 : xv 5 = .bool true := hd 5 (by kernel_rfl)
              clear hd
              simp only [Act.put, List.setIfInBounds_toArray, List.set_cons_succ, List.set_cons_zero] at hK
              rw [hx5] at hK ⊢
              refine (if_pos (by rfl)).mpr ?_
              go_simp
              exact hK.out _ _ (Below.refl _ _) rfl
            case s7 =>
              have hx6 : xv 6 = .bool true := hd 6 (by kernel_rfl)
              clear hd
              simp only [Act.put, List.setIfInBounds_toArray, List.set_cons_succ, List.set_cons_zero] at hK
              rw [hx6] at hK ⊢
              refine (if_pos (by rfl)).mpr ?_
              go_simp
              exact hK.out _ _ (Below.refl _ _) rfl
            case s8 =>
              have hx6 : xv 6 = .bool true := hd 6 (by kernel_rfl)
              have hx7 : xv 7 = .slice (some ⟨bM, oM, none⟩) 3 cM := hd 7 (by kernel_rfl)
              clear hd
              simp only [Act.put, List.setIfInBounds_toArray, List.set_cons_succ, List.set_cons_zero] at hK
              rw [hx6] at hK ⊢
              rw [hx7] at hK ⊢
              refine (if_pos (by rfl)).mpr ?_
              go_simp
              exact hK.out _ _ (Below.refl _ _) rfl
            case s9 =>
              have hx6 : xv 6 = .bool true := hd 6 (by kernel_rfl)
              have hx8 : xv 8 = .pointer (some ⟨bM, oM, none⟩) := hd 8 (by kernel_rfl)
              clear hd
              simp only [Act.put, List.setIfInBounds_toArray, List.set_cons_succ, List.set_cons_zero] at hK
              rw [hx6] at hK ⊢
              rw [hx8] at hK ⊢
              refine (if_pos (by rfl)).mpr ?_
              have hcm := M0.out W hW
              try simp only [Nat.add_zero] at hcm
              go_simp
              exact hK.out _ _ (Below.refl _ _) rfl
            case s10 =>
              have hx6 : xv 6 = .bool true := hd 6 (by kernel_rfl)
              clear hd
              simp only [Act.put, List.setIfInBounds_toArray, List.set_cons_succ, List.set_cons_zero] at hK
              rw [hx6] at hK ⊢
              refine (if_pos (by rfl)).mpr ?_
              go_simp
              exact hK.out _ _ (Below.refl _ _) rfl
            case s11 =>
              have hx6 : xv 6 = .bool true := hd 6 (by kernel_rfl)
              have hx10 : xv 10 = .slice (some ⟨bR, oR, none⟩) 3 cR := hd 10 (by kernel_rfl)
              clear hd
              simp only [Act.put, List.setIfInBounds_toArray, List.set_cons_succ, List.set_cons_zero] at hK
              rw [hx6] at hK ⊢
              rw [hx10] at hK ⊢
              refine (if_pos (by rfl)).mpr ?_
              go_simp
              exact hK.out _ _ (Below.refl _ _) rfl
            case s12 =>
              have hx6 : xv 6 = .bool true := hd 6 (by kernel_rfl)
              have hx11 : xv 11 = .pointer (some ⟨bR, oR, none⟩) := hd 11 (by kernel_rfl)
              clear hd
              simp only [Act.put, List.setIfInBounds_toArray, List.set_cons_succ, List.set_cons_zero] at hK
              rw [hx6] at hK ⊢
              rw [hx11] at hK ⊢
              refine (if_pos (by rfl)).mpr ?_
              have hcm := N0.out W hW
              try simp only [Nat.add_zero] at hcm
              go_simp
              exact hK.out _ _ (Below.refl _ _) rfl
            case s13 =>
              have hx6 : xv 6 = .bool true := hd 6 (by kernel_rfl)
              have hx9 : xv 9 = .slice a0 m0 d0 := hd 9 (by kernel_rfl)
              have hx12 : xv 12 = .slice a0' m0 d0' := hd 12 (by kernel_rfl)
              clear hd
              simp only [Act.put, List.setIfInBounds_toArray, List.set_cons_succ, List.set_cons_zero] at hK
              rw [hx6] at hK ⊢
              rw [hx9] at hK ⊢
              rw [hx12] at hK ⊢
              refine (if_pos (by rfl)).mpr ?_
              go_simp
              go_at_call 12
              have hri := refInts_any _ _ _ _ d0 d0' _ _ W _ _ (S0.out W hW) (S0'.out W hW) E0.out E0.out (by have := HKB.out; have := E0.out; omega)
              rw [decide_eq_true rfl] at hri
              refine hri.mono ?_
              rintro e W' ⟨rfl, hb⟩
              exact hK.out _ _ hb rfl
            case s14 =>
              have hx6 : xv 6 = .bool true := hd 6 (by kernel_rfl)
              have hx13 : xv 13 = .bool true := hd 13 (by kernel_rfl)
              clear hd
              simp only [Act.put, List.setIfInBounds_toArray, List.set_cons_succ, List.set_cons_zero] at hK
              rw [hx6] at hK ⊢
              rw [hx13] at hK ⊢
              refine (if_pos (by rfl)).mpr ?_
              go_simp
              exact hK.out _ _ (Below.refl _ _) rfl
            case s15 =>
              have hx14 : xv 14 = .bool true := hd 14 (by kernel_rfl)
              clear hd
              simp only [Act.put, List.setIfInBounds_toArray, List.set_cons_succ, List.set_cons_zero] at hK
              rw [hx14] at hK ⊢
              refine (if_pos (by rfl)).mpr ?_
              go_simp
              exact hK.out _ _ (Below.refl _ _) rfl
            case s16 =>
              have hx15 : xv 15 = .bool true := hd 15 (by kernel_rfl)
              clear hd
              simp only [Act.put, List.setIfInBounds_toArray, List.set_cons_succ, List.set_cons_zero] at hK
              rw [hx15] at hK ⊢
              refine (if_pos (by rfl)).mpr ?_
              go_simp
              exact hK.out _ _ (Below.refl _ _) rfl
            case s17 =>
              have hx15 : xv 15 = .bool true := hd 15 (by kernel_rfl)
              have hx16 : xv 16 = .slice (some ⟨bM, oM, none⟩) 3 cM := hd 16 (by kernel_rfl)
              clear hd
              simp only [Act.put, List.setIfInBounds_toArray, List.set_cons_succ, List.set_cons_zero] at hK
              rw [hx15] at hK ⊢
              rw [hx16] at hK ⊢
              refine (if_pos (by rfl)).mpr ?_
              go_simp
              exact hK.out _ _ (Below.refl _ _) rfl
            case s18 =>
              have hx15 : xv 15 = .bool true := hd 15 (by kernel_rfl)
              have hx17 : xv 17 = .pointer (some ⟨bM, oM + 1, none⟩) := hd 17 (by kernel_rfl)
              clear hd
              simp only [Act.put, List.setIfInBounds_toArray, List.set_cons_succ, List.set_cons_zero] at hK
              rw [hx15] at hK ⊢
              rw [hx17] at hK ⊢
              refine (if_pos (by rfl)).mpr ?_
              have hcm := M1.out W hW
              try simp only [Nat.add_zero] at hcm
              go_simp
              exact hK.out _ _ (Below.refl _ _) rfl
            case s19 =>
              have hx15 : xv 15 = .bool true := hd 15 (by kernel_rfl)
              clear hd
              simp only [Act.put, List.setIfInBounds_toArray, List.set_cons_succ, List.set_cons_zero] at hK
              rw [hx15] at hK ⊢
              refine (if_pos (by rfl)).mpr ?_
              go_simp
              exact hK.out _ _ (Below.refl _ _) rfl
            case s20 =>
              have hx15 : xv 15 = .bool true := hd 15 (by kernel_rfl)
              have hx19 : xv 19 = .slice (some ⟨bR, oR, none⟩) 3 cR := hd 19 (by kernel_rfl)
              clear hd
              simp only [Act.put, List.setIfInBounds_toArray, List.set_cons_succ, List.set_cons_zero] at hK
              rw [hx15] at hK ⊢
              rw [hx19] at hK ⊢
              refine (if_pos (by rfl)).mpr ?_
              go_simp
              exact hK.out _ _ (Below.refl _ _) rfl
            case s21 =>
              have hx15 : xv 15 = .bool true := hd 15 (by kernel_rfl)
              have hx20 : xv 20 = .pointer (some ⟨bR, oR + 1, none⟩) := hd 20 (by kernel_rfl)
              clear hd
              simp only [Act.put, List.setIfInBounds_toArray, List.set_cons_succ, List.set_cons_zero] at hK
              rw [hx15] at hK ⊢
              rw [hx20] at hK ⊢
              refine (if_pos (by rfl)).mpr ?_
              have hcm := N1.out W hW
              try simp only [Nat.add_zero] at hcm
              go_simp
              exact hK.out _ _ (Below.refl _ _) rfl
            case s22 =>
              have hx15 : xv 15 = .bool true := hd 15 (by kernel_rfl)
              have hx18 : xv 18 = .slice a1 m1 d1 := hd 18 (by kernel_rfl)
              have hx21 : xv 21 = .slice a1' m1 d1' := hd 21 (by kernel_rfl)
              clear hd
              simp only [Act.put, List.setIfInBounds_toArray, List.set_cons_succ, List.set_cons_zero] at hK
              rw [hx15] at hK ⊢
              rw [hx18] at hK ⊢
              rw [hx21] at hK ⊢
              refine (if_pos (by rfl)).mpr ?_
              go_simp
              go_at_call 12
              have hri := refInts_any _ _ _ _ d1 d1' _ _ W _ _ (S1.out W hW) (S1'.out W hW) E1.out E1.out (by have := HKB.out; have := E1.out; omega)
              rw [decide_eq_true rfl] at hri
              refine hri.mono ?_
              rintro e W' ⟨rfl, hb⟩
              exact hK.out _ _ hb rfl
            case s23 =>
              have hx15 : xv 15 = .bool true := hd 15 (by kernel_rfl)
              have hx22 : xv 22 = .bool true := hd 22 (by kernel_rfl)
              clear hd
              simp only [Act.put, List.setIfInBounds_toArray, List.set_cons_succ, List.set_cons_zero] at hK
              rw [hx15] at hK ⊢
              rw [hx22] at hK ⊢
              refine (if_pos (by rfl)).mpr ?_
              go_simp
              exact hK.out _ _ (Below.refl _ _) rfl
            case s24 =>
              have hx23 : xv 23 = .bool true := hd 23 (by kernel_rfl)
              clear hd
              simp only [Act.put, List.setIfInBounds_toArray, List.set_cons_succ, List.set_cons_zero] at hK
              rw [hx23] at hK ⊢
              refine (if_pos (by rfl)).mpr ?_
              go_simp
              exact hK.out _ _ (Below.refl _ _) rfl
            case s25 =>
              have hx24 : xv 24 = .bool true := hd 24 (by kernel_rfl)
              clear hd
              simp only [Act.put, List.setIfInBounds_toArray, List.set_cons_succ, List.set_cons_zero] at hK
              rw [hx24] at hK ⊢
              refine (if_pos (by rfl)).mpr ?_
              go_simp
              exact hK.out _ _ (Below.refl _ _) rfl
            case s26 =>
              have hx24 : xv 24 = .bool true := hd 24 (by kernel_rfl)
              have hx25 : xv 25 = .slice (some ⟨bM, oM, none⟩) 3 cM := hd 25 (by kernel_rfl)
              clear hd
              simp only [Act.put, List.setIfInBounds_toArray, List.set_cons_succ, List.set_cons_zero] at hK
              rw [hx24] at hK ⊢
              rw [hx25] at hK ⊢
              refine (if_pos (by rfl)).mpr ?_
              go_simp
              exact hK.out _ _ (Below.refl _ _) rfl
            case s27 =>
              have hx24 : xv 24 = .bool true := hd 24 (by kernel_rfl)
              have hx26 : xv 26 = .pointer (some ⟨bM, oM + 2, none⟩) := hd 26 (by kernel_rfl)
              clear hd
              simp only [Act.put, List.setIfInBounds_toArray, List.set_cons_succ, List.set_cons_zero] at hK
              rw [hx24] at hK ⊢
              rw [hx26] at hK ⊢
              refine (if_pos (by rfl)).mpr ?_
              have hcm := M2.out W hW
              try simp only [Nat.add_zero] at hcm
              go_simp
              exact hK.out _ _ (Below.refl _ _) rfl
            case s28 =>
              have hx24 : xv 24 = .bool true := hd 24 (by kernel_rfl)
              clear hd
              simp only [Act.put, List.setIfInBounds_toArray, List.set_cons_succ, List.set_cons_zero] at hK
              rw [hx24] at hK ⊢
              refine (if_pos (by rfl)).mpr ?_
              go_simp
              exact hK.out _ _ (Below.refl _ _) rfl
            case s29 =>
              have hx24 : xv 24 = .bool true := hd 24 (by kernel_rfl)
              have hx28 : xv 28 = .slice (some ⟨bR, oR, none⟩) 3 cR := hd 28 (by kernel_rfl)
              clear hd
              simp only [Act.put, List.setIfInBounds_toArray, List.set_cons_succ, List.set_cons_zero] at hK
              rw [hx24] at hK ⊢
              rw [hx28] at hK ⊢
              refine (if_pos (by rfl)).mpr ?_
              go_simp
              exact hK.out _ _ (Below.refl _ _) rfl
            case s30 =>
              have hx24 : xv 24 = .bool true := hd 24 (by kernel_rfl)
              have hx29 : xv 29 = .pointer (some ⟨bR, oR + 2, none⟩) := hd 29 (by kernel_rfl)
              clear hd
              simp only [Act.put, List.setIfInBounds_toArray, List.set_cons_succ, List.set_cons_zero] at hK
              rw [hx24] at hK ⊢
              rw [hx29] at hK ⊢
              refine (if_pos (by rfl)).mpr ?_
              have hcm := N2.out W hW
              try simp only [Nat.add_zero] at hcm
              go_simp
              exact hK.out _ _ (Below.refl _ _) rfl
            case s31 =>
              have hx24 : xv 24 = .bool true := hd 24 (by kernel_rfl)
              have hx27 : xv 27 = .slice a2 m2 d2 := hd 27 (by kernel_rfl)
              have hx30 : xv 30 = .slice a2' m2 d2' := hd 30 (by kernel_rfl)
              clear hd
              simp only [Act.put, List.setIfInBounds_toArray, List.set_cons_succ, List.set_cons_zero] at hK
              rw [hx24] at hK ⊢
              rw [hx27] at hK ⊢
              rw [hx30] at hK ⊢
              refine (if_pos (by rfl)).mpr ?_
              go_simp
              go_at_call 12
              have hri := refInts_any _ _ _ _ d2 d2' _ _ W _ _ (S2.out W hW) (S2'.out W hW) E2.out E2.out (by have := HKB.out; have := E2.out; omega)
              rw [decide_eq_true rfl] at hri
              refine hri.mono ?_
              rintro e W' ⟨rfl, hb⟩
              exact hK.out _ _ hb rfl
            case s32 =>
              have hx24 : xv 24 = .bool true := hd 24 (by kernel_rfl)
              have hx31 : xv 31 = .bool true := hd 31 (by kernel_rfl)
              clear hd
              simp only [Act.put, List.setIfInBounds_toArray, List.set_cons_succ, List.set_cons_zero] at hK
              rw [hx24] at hK ⊢
              rw [hx31] at hK ⊢
              refine (if_pos (by rfl)).mpr ?_
              go_simp
              exact hK.out _ _ (Below.refl _ _) rfl
            case s33 =>
              have hx32 : xv 32 = .bool true := hd 32 (by kernel_rfl)
              clear hd
              simp only [Act.put] at hK
              rw [hx32] at hK ⊢
              refine (if_pos (by rfl)).mpr ?_
              go_simp
              exact hK.out _ _ (Below.refl _ _) rfl
          case behind =>
            intro xv W hW hx a ha
            replace hW := undrew hW
            simp only [fillA] at ha
            simp only [List.setIfInBounds_toArray, List.set_cons_succ, List.set_cons_zero, Nat.zero_add, Nat.reduceAdd] at ha
            subst ha
            have hxl : xv 33 = .bool true := hx 33 (by decide)
            rw [hxl]
            have HBF := Lib.hid (HB5.out.trans (hW.mono HB5.out.size))
            clear hx hW
            go_wp2
            go_ret
            exact ⟨rfl, HBF.out⟩
end Go.Proofs.YtmknghhgcecafaaDoor.Shape
