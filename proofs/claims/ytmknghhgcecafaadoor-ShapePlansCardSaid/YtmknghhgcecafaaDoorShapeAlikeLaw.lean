/-
  Layer 10 (shape): the walk of ShapeAlike. Written by gen_shapealike.py.
-/
import Derived.Test.YtmknghhgcecafaaDoorShapeMarksLaw
namespace Go.Proofs.YtmknghhgcecafaaDoor.Shape
open Go.ChangeShapes Go.WideShapes Go.ChangeAt Go.RowKit Mem Tree MemC
set_option linter.unusedVariables false

def row2 (k : Int) (x y : ByteArray) (c : F) (k' : Int) (x' y' : ByteArray) (c' : F) : F := .cons k x y c (.cons k' x' y' c' .nil)
theorem marksI_two (k : Int) (x y : ByteArray) (c : F) (k' : Int) (x' y' : ByteArray) (c' : F) : marksI (row2 k x y c k' x' y' c') = [ints (markL [] (nodes (one k x y c))).1, ints (markL (markL [] (nodes (one k x y c))).2 (nodes (one k' x' y' c'))).1] := rfl
theorem ofL_drop : ∀ (L : List Nd) (i : Nat) (nd : Nd), L[i]? = some nd → (ofL L).drop i = .cons nd.k nd.x nd.y nd.c (ofL (L.drop (i + 1)))
  | [], i, nd, h => by simp at h
  | m :: L, 0, nd, h => by
    simp only [List.getElem?_cons_zero, Option.some.injEq] at h
    subst h
    rfl
  | m :: L, i + 1, nd, h => by
    have := ofL_drop L i nd (by simpa using h)
    simpa [ofL, F.drop] using this
def cNds (L : List Nd) : Cd TB := ⟨fun v W => ∃ A C, v = .slice A L.length C ∧ Fs W (Lo W.heap.size) (.slice A L.length C) (ofL L), fun v W W' h hp => by
  obtain ⟨A, C, e, hr⟩ := hp
  exact ⟨A, C, e, hr.later h⟩⟩
/-- One node of a row that is read. -/
theorem nds_at {w : World} {A : Option Addr} {L : List Nd} {m C : Nat} (h : Fs w (Lo w.heap.size) (.slice A m C) (ofL L)) {i : Nat} {nd : Nd} (hi : L[i]? = some nd) :
    ∃ b off s, A = some ⟨b, off, none⟩ ∧ b < w.heap.size ∧ At w (Lo w.heap.size) b off i nd.k nd.x nd.y nd.c s := by
  obtain ⟨b, off, s, e, hS, _, hat⟩ := h.at_ (ofL_drop L i nd hi)
  exact ⟨b, off, s, e, hS, hat⟩
theorem take_all {k : Int} {x y : ByteArray} {c : F} {m : Nat} (h : c.size + 1 ≤ m) : (⟨k, x, y, c⟩ :: nodes c : List Nd).take m = nodes (one k x y c) := by
  rw [one_nodes]; exact List.take_of_length_le (by rw [List.length_cons, nodes_len]; exact h)
set_option maxRecDepth 100000 in
set_option maxHeartbeats 16000000 in
theorem shapeAlike_walk (HO : OfSpec) (HMk : MarksSpec) (HTr : TreeSpec) (k : Int) (x y : ByteArray) (A : Option Addr) (n C : Nat) (c : F) (k' : Int) (x' y' : ByteArray) (A' : Option Addr) (n' C' : Nat) (c' : F) (w : World) (hf : Fs w (Lo w.heap.size) (.slice A n C) c) (hf' : Fs w (Lo w.heap.size) (.slice A' n' C') c')(hP : Pow w) (hK : InK k ∧ Kinds c) (hK' : InK k' ∧ Kinds c') :
    Calls Tryd.prog 5 #[.agg #[.int .i64 k, .string x, .string y, .slice A n C], .agg #[.int .i64 k', .string x', .string y', .slice A' n' C']] w fun e w' => e = .returned (.bool true) ∧ Below w.heap.size w w' := by
  have b1 := bel1 w (.cells #[.int .i64 k, .string x, .string y, .slice A n C] 24)
  have b2 := bel1 (w.alloc (.cells #[.int .i64 k, .string x, .string y, .slice A n C] 24)) (.cells #[.int .i64 k', .string x', .string y', .slice A' n' C'] 24)
  have hb3 : Below w.heap.size w ((w.alloc (.cells #[.int .i64 k, .string x, .string y, .slice A n C] 24)).alloc (.cells #[.int .i64 k', .string x', .string y', .slice A' n' C'] 24)) := b1.trans (b2.mono b1.size)
  have z1 : (w.alloc (.cells #[.int .i64 k, .string x, .string y, .slice A n C] 24)).heap.size = w.heap.size + 1 := by simp
  have g1 : ((w.alloc (.cells #[.int .i64 k, .string x, .string y, .slice A n C] 24)).alloc (.cells #[.int .i64 k', .string x', .string y', .slice A' n' C'] 24)).heap[w.heap.size + 1]? = some (.cells #[.int .i64 k', .string x', .string y', .slice A' n' C'] 24) := by rw [← z1]; exact heap_alloc_new _ _
  have g0 : ((w.alloc (.cells #[.int .i64 k, .string x, .string y, .slice A n C] 24)).alloc (.cells #[.int .i64 k', .string x', .string y', .slice A' n' C'] 24)).heap[w.heap.size]? = some (.cells #[.int .i64 k, .string x, .string y, .slice A n C] 24) := (b2.block _ (by simp)).trans (heap_alloc_new _ _)
  have HX0 := Lib.hid (box_at' w _ _ k x y (.slice A n C) g0)
  have HX1 := Lib.hid (box_at' w _ _ k' x' y' (.slice A' n' C') g1)
  have HF0 := Lib.hid (hf.later hb3)
  have HF1 := Lib.hid (hf'.later hb3)
  have HB1 := Lib.hid hb3
  have HMM := Lib.hid HMk
  have HKN := Lib.hid (fun W hW => known_any HO HMk HTr W hW)
  have HPW := Lib.hid hP
  have HKI0 := Lib.hid hK
  have HKI1 := Lib.hid hK'
  clear hP hK hK'
  obtain ⟨f0, hf0⟩ : ∃ fb, fewS k x y c 150 = fb := ⟨_, rfl⟩
  obtain ⟨f1, hf1⟩ : ∃ fb, fewS k' x' y' c' 150 = fb := ⟨_, rfl⟩
  have HE0 := Lib.hid hf0
  have HE1 := Lib.hid hf1
  obtain ⟨q0, q1, q2, q3⟩ := HX0.out _ (Below.refl _ _)
  clear b1 b2 hb3 z1 g0 g1 hf hf' hf0 hf1 HO HMk HTr
  go_enter Tryd.func5, Tryd.ntmps5
  go_wp2_with fail
  obtain ⟨w0, hw0⟩ : ∃ w0, (w.alloc (.cells #[.int .i64 k, .string x, .string y, .slice A n C] 24)).alloc (.cells #[.int .i64 k', .string x', .string y', .slice A' n' C'] 24) = w0 := ⟨_, rfl⟩
  rw [hw0] at HX0 HX1 HF0 HF1 HB1 q0 q1 q2 q3 ⊢
  clear hw0
  have H1 := Lib.hid (few10_any k x y A n C c 150 w0 HF0.out (by decide))
  rw [HE0.out] at H1
  refine H1.out.mono ?_
  rintro e w1 ⟨rfl, hb⟩
  have HB01 := Lib.hid hb
  clear hb q0 q1 q2 q3 H1
  cases f0 with
  | false =>
    go_wp2_with fail
    refine (HKN.out w1 (HPW.out.on (HB1.out.trans (HB01.out.mono HB1.out.size)))).mono ?_
    rintro e wk ⟨rfl, hb⟩
    have HBk := Lib.hid (HB1.out.trans ((HB01.out.trans (hb.mono HB01.out.size)).mono HB1.out.size))
    clear hb
    go_wp2
    go_ret
    exact ⟨rfl, HBk.out⟩
  | true =>
    have H2 := Lib.hid (few10_any k' x' y' A' n' C' c' 150 w1 (HF1.out.later HB01.out) (by decide))
    rw [HE1.out] at H2
    obtain ⟨q0, q1, q2, q3⟩ := HX1.out _ HB01.out
    go_wp2_with fail
    refine H2.out.mono ?_
    rintro e w2 ⟨rfl, hb⟩
    have HB02 := Lib.hid (HB01.out.trans (hb.mono HB01.out.size))
    clear hb q0 q1 q2 q3 H2 HB01
    cases f1 with
    | false =>
      go_wp2_with fail
      refine (HKN.out w2 (HPW.out.on (HB1.out.trans (HB02.out.mono HB1.out.size)))).mono ?_
      rintro e wk ⟨rfl, hb⟩
      have HBk := Lib.hid (HB1.out.trans ((HB02.out.trans (hb.mono HB02.out.size)).mono HB1.out.size))
      clear hb
      go_wp2
      go_ret
      exact ⟨rfl, HBk.out⟩
    | true =>
      obtain ⟨s0, x0, y0, t0⟩ := few_small HE0.out
      obtain ⟨s1, x1, y1, t1⟩ := few_small HE1.out
      have hnew : Fs (w2.alloc (.cells #[.int .i64 k, .string x, .string y, .slice A n C, .int .i64 k', .string x', .string y', .slice A' n' C'] 24)) (Lo (w2.heap.size + 1)) (.slice (some ⟨w2.heap.size, 0, none⟩) 2 2) (row2 k x y c k' x' y' c') :=
        fs_new w2 [(⟨k, x, y, c⟩, .slice A n C), (⟨k', x', y', c'⟩, .slice A' n' C')] (fun p hp => by
          simp only [List.mem_cons, List.not_mem_nil, or_false] at hp
          rcases hp with rfl | rfl
          · exact HF0.out.later HB02.out
          · exact HF1.out.later HB02.out) (show 2 ≤ 1000 by decide)
      have hbn := bel1 w2 (.cells #[.int .i64 k, .string x, .string y, .slice A n C, .int .i64 k', .string x', .string y', .slice A' n' C'] 24)
      have H3 := Lib.hid (HMM.out (some ⟨w2.heap.size, 0, none⟩) 2 2 (row2 k x y c k' x' y' c') _ (HPW.out.on (HB1.out.trans ((HB02.out.trans (hbn.mono HB02.out.size)).mono HB1.out.size))) (hnew.up (by simp)) (by simp only [row2, F.size]; omega) ⟨x0, y0, t0, x1, y1, t1, trivial⟩ ⟨HKI0.out.1, HKI0.out.2, HKI1.out.1, HKI1.out.2, trivial⟩)
      have HB03 := Lib.hid (HB02.out.trans (hbn.mono HB02.out.size))
      have HS0 := Lib.hid s0
      have HS1 := Lib.hid s1
      obtain ⟨q0, q1, q2, q3⟩ := HX0.out _ HB02.out
      obtain ⟨q0', q1', q2', q3'⟩ := HX1.out _ HB02.out
      clear s0 x0 y0 t0 s1 x1 y1 t1 hnew hbn HMM HB02
      go_wp2_with fail
      refine H3.out.mono ?_
      rintro e w3 ⟨hb, v3, rfl, hm⟩
      rw [marksI_two] at hm
      obtain ⟨K0, hK0⟩ : ∃ K, (markL [] (nodes (one k x y c))).1 = K := ⟨_, rfl⟩
      obtain ⟨K1, hK1⟩ : ∃ K, (markL (markL [] (nodes (one k x y c))).2 (nodes (one k' x' y' c'))).1 = K := ⟨_, rfl⟩
      rw [hK0, hK1] at hm
      have HK0 := Lib.hid hK0
      have HK1 := Lib.hid hK1
      obtain ⟨bM, oM, cM, us, rfl, hus, rM, kM⟩ := rows_read hm (fun b h => h.2) (show 0 < 2 by decide)
      have HB3 := Lib.hid (HB03.out.trans (hb.mono HB03.out.size))
      obtain ⟨a0, d0, u0, r0⟩ := kM 0 (ints K0) rfl
      obtain ⟨a1, d1, u1, r1⟩ := kM 1 (ints K1) rfl
      have M0 := Lib.hid (fun W' h => rM W' h 0 _ u0)
      have M1 := Lib.hid (fun W' h => rM W' h 1 _ u1)
      have S0 := Lib.hid r0
      have S1 := Lib.hid r1
      have l0 : (ints K0).length = c.size + 1 := by unfold ints; rw [List.length_map, ← hK0, markL_len, nodes_len, one_size]
      have l1 : (ints K1).length = c'.size + 1 := by unfold ints; rw [List.length_map, ← hK1, markL_len, nodes_len, one_size]
      rw [l0] at M0
      rw [l1] at M1
      rw [show [ints K0, ints K1].length = 2 from rfl]
      obtain ⟨N0, hN0⟩ : ∃ N, c.size + 1 = N := ⟨_, rfl⟩
      obtain ⟨N1, hN1⟩ : ∃ N, c'.size + 1 = N := ⟨_, rfl⟩
      rw [hN0] at M0 HS0
      rw [hN1] at M1 HS1
      have HN0 := Lib.hid hN0
      have HN1 := Lib.hid hN1
      clear hb hm hus rM kM u0 u1 r0 r1 l0 l1 hK0 hK1 hN0 hN1 q0 q1 q2 q3 q0' q1' q2' q3' H3 HB03
      go_wp2
      refine region_rel (TB) [Cd.is (.agg #[.int .i64 k, .string x, .string y, .slice A n C]), cNds (nodes (one k x y c)), Cd.is (.agg #[.int .i64 k', .string x', .string y', .slice A' n' C']), cNds (nodes (one k' x' y' c')), cNds (nodes (one k x y c)), cNds (nodes (one k' x' y' c'))] (by kernel_rfl) (by decide) (by kernel_rfl) (Below.refl _ _) (fun _ _ _ h k => h.trans (k.mono h.size)) ?steps ?behind
      case steps =>
        intro xv W hW a ha
        replace hW := undrew hW
        simp only [fillA] at ha
        simp only [List.setIfInBounds_toArray, List.set_cons_succ, List.set_cons_zero, Nat.zero_add, Nat.reduceAdd] at ha
        subst ha
        refine ⟨fun hd K hK => ?s0, fun hd K hK => ?s1, fun hd K hK => ?s2, fun hd K hK => ?s3, fun hd K hK => ?s4, fun hd K hK => ?s5, trivial⟩
        case s0 =>
          clear hd
          simp only [Act.put, List.setIfInBounds_toArray, List.set_cons_succ, List.set_cons_zero] at hK
          refine (if_pos (by rfl)).mpr ?_
          obtain ⟨p0, p1, p2, p3⟩ := HX0.out W (HB3.out.trans (hW.mono HB3.out.size))
          go_simp
          exact hK.out _ _ (Below.refl _ _) rfl
        case s1 =>
          have hx0 : xv 0 = .agg #[.int .i64 k, .string x, .string y, .slice A n C] := hd 0 (by kernel_rfl)
          clear hd
          simp only [Act.put, List.setIfInBounds_toArray, List.set_cons_succ, List.set_cons_zero] at hK
          rw [hx0] at hK ⊢
          refine (if_pos (by rfl)).mpr ?_
          have hfk := HF0.out.later (HB3.out.trans (hW.mono HB3.out.size))
          have hc := nodes_any c.size k x y A n C c 151 W.heap.size W (Nat.le_refl _) hfk (Nat.le_refl _) (by decide) (by decide)
          rw [take_all (by have h1 := HS0.out; have h2 := HN0.out; omega)] at hc
          go_simp
          go_at_call 17
          refine hc.mono ?_
          rintro e W' ⟨⟨v7, rfl, ho⟩, hb⟩
          obtain ⟨A7, C7, rfl, _, _⟩ := ho.slice
          exact hK.out _ _ hb ⟨A7, C7, rfl, own_fs ho hb.size⟩
        case s2 =>
          clear hd
          simp only [Act.put, List.setIfInBounds_toArray, List.set_cons_succ, List.set_cons_zero] at hK
          refine (if_pos (by rfl)).mpr ?_
          obtain ⟨p0, p1, p2, p3⟩ := HX1.out W (HB3.out.trans (hW.mono HB3.out.size))
          go_simp
          exact hK.out _ _ (Below.refl _ _) rfl
        case s3 =>
          have hx2 : xv 2 = .agg #[.int .i64 k', .string x', .string y', .slice A' n' C'] := hd 2 (by kernel_rfl)
          clear hd
          simp only [Act.put, List.setIfInBounds_toArray, List.set_cons_succ, List.set_cons_zero] at hK
          rw [hx2] at hK ⊢
          refine (if_pos (by rfl)).mpr ?_
          have hfk := HF1.out.later (HB3.out.trans (hW.mono HB3.out.size))
          have hc := nodes_any c'.size k' x' y' A' n' C' c' 151 W.heap.size W (Nat.le_refl _) hfk (Nat.le_refl _) (by decide) (by decide)
          rw [take_all (by have h1 := HS1.out; have h2 := HN1.out; omega)] at hc
          go_simp
          go_at_call 17
          refine hc.mono ?_
          rintro e W' ⟨⟨v7, rfl, ho⟩, hb⟩
          obtain ⟨A7, C7, rfl, _, _⟩ := ho.slice
          exact hK.out _ _ hb ⟨A7, C7, rfl, own_fs ho hb.size⟩
        case s4 =>
          have hx1 : ∃ AA CC, (xv 1) = .slice AA (nodes (one k x y c)).length CC ∧ Fs W (Lo W.heap.size) (.slice AA (nodes (one k x y c)).length CC) (ofL (nodes (one k x y c))) := hd 1 (by kernel_rfl)
          clear hd
          simp only [Act.put, List.setIfInBounds_toArray, List.set_cons_succ, List.set_cons_zero] at hK
          refine (if_pos (by rfl)).mpr ?_
          go_simp
          exact hK.out _ _ (Below.refl _ _) hx1
        case s5 =>
          have hx3 : ∃ AA CC, (xv 3) = .slice AA (nodes (one k' x' y' c')).length CC ∧ Fs W (Lo W.heap.size) (.slice AA (nodes (one k' x' y' c')).length CC) (ofL (nodes (one k' x' y' c'))) := hd 3 (by kernel_rfl)
          clear hd
          simp only [Act.put, List.setIfInBounds_toArray, List.set_cons_succ, List.set_cons_zero] at hK
          refine (if_pos (by rfl)).mpr ?_
          go_simp
          exact hK.out _ _ (Below.refl _ _) hx3
      case behind =>
        intro xv W hW hx a ha
        replace hW := undrew hW
        simp only [fillA] at ha
        simp only [List.setIfInBounds_toArray, List.set_cons_succ, List.set_cons_zero, Nat.zero_add, Nat.reduceAdd] at ha
        subst ha
        obtain ⟨aX, cX, hX, fX⟩ : ∃ AA CC, xv 4 = .slice AA (nodes (one k x y c)).length CC ∧ Fs W (Lo W.heap.size) (.slice AA (nodes (one k x y c)).length CC) (ofL (nodes (one k x y c))) := hx 4 (by decide)
        obtain ⟨aY, cY, hY, fY⟩ : ∃ AA CC, xv 5 = .slice AA (nodes (one k' x' y' c')).length CC ∧ Fs W (Lo W.heap.size) (.slice AA (nodes (one k' x' y' c')).length CC) (ofL (nodes (one k' x' y' c'))) := hx 5 (by decide)
        rw [hX, hY]
        have HB5 := Lib.hid (HB1.out.trans ((HB3.out.trans (hW.mono HB3.out.size)).mono HB1.out.size))
        replace M0 := Lib.hid (fun W' (h : Below W.heap.size W W') => M0.out W' (hW.trans (h.mono hW.size)))
        replace M1 := Lib.hid (fun W' (h : Below W.heap.size W W') => M1.out W' (hW.trans (h.mono hW.size)))
        replace S0 := Lib.hid (fun W' (h : Below W.heap.size W W') => S0.out W' (hW.trans (h.mono hW.size)))
        replace S1 := Lib.hid (fun W' (h : Below W.heap.size W W') => S1.out W' (hW.trans (h.mono hW.size)))
        have e0 : (nodes (one k x y c)).length = N0 := by rw [nodes_len, one_size]; exact HN0.out
        have e1 : (nodes (one k' x' y' c')).length = N1 := by rw [nodes_len, one_size]; exact HN1.out
        rw [e0] at fX ⊢
        rw [e1] at fY ⊢
        have HAL := Lib.hid (fun i j p q a b h1 h2 h3 h4 => marks_alike (L := nodes (one k x y c)) (M := nodes (one k' x' y' c')) (i := i) (j := j) (p := p) (q := q) (a := a) (b := b) h1 h2 h3 h4)
        have HLX : Hid (K0.length = N0) := by show _ = _; rw [← HK0.out, markL_len, e0]
        have HLY : Hid (K1.length = N1) := by show _ = _; rw [← HK1.out, markL_len, e1]
        have HQ : Hid (∀ (i j p q : Nat) (a b : Nd), (nodes (one k x y c))[i]? = some a → (nodes (one k' x' y' c'))[j]? = some b → K0[i]? = some p → K1[j]? = some q → ((p = q) ↔ a = b)) := fun i j p q a b h1 h2 h3 h4 => marks_alike h1 h2 (by rw [HK0.out]; exact h3) (by rw [HK1.out]; exact h4)
        have HZX : Hid (∀ (i : Nat) (a : Nd), (nodes (one k x y c))[i]? = some a → a.c.size ≤ 1000) := fun i a h => by have h1 := nd_size_le _ i a h; rw [one_size] at h1; have h2 := HN0.out; have h3 := HS0.out; omega
        obtain ⟨LX, hLX⟩ : ∃ L, nodes (one k x y c) = L := ⟨_, rfl⟩
        obtain ⟨LY, hLY⟩ : ∃ L, nodes (one k' x' y' c') = L := ⟨_, rfl⟩
        rw [hLX] at fX e0 HQ HZX
        rw [hLY] at fY e1 HQ
        have HFX := Lib.hid fX; have HFY := Lib.hid fY; have HE0' := Lib.hid e0; have HE1' := Lib.hid e1
        have h05 : N0 ≤ 1000 := by have := HS0.out; omega
        have h15 : N1 ≤ 1000 := by have := HS1.out; omega
        have t0 := M0.out W (Below.refl _ _); have t1 := M1.out W (Below.refl _ _)
        simp only [Nat.add_zero] at t0
        clear hx hX hY fX fY e0 e1 hLX hLY HAL HK0 HK1 HS0 HS1 HN0 HN1 HB3 HX0 HX1 HF0 HF1 HB1 HE0 HE1
        have HKW := Lib.hid (HKN.out W (HPW.out.on HB5.out))
        go_wp2_with fail
        refine HKW.out.mono ?_
        rintro e w6 ⟨rfl, hb⟩
        have HBW := Lib.hid hb
        have t0 := M0.out w6 hb; have t1 := M1.out w6 hb
        simp only [Nat.add_zero] at t0
        clear hb HKW hW
        have n0 : ((N0 : Int) != (N0 : Int)) = false := by simp
        have n1 : ((N1 : Int) != (N1 : Int)) = false := by simp
        go_wp2
        clear t0 t1 n0 n1
        go_loopw [8] (fun s8 wr => ∃ i : Nat, i ≤ N0 ∧ s8 = .int .i64 (i : Int) ∧ Hid (Below w6.heap.size w6 wr)) (fun s _ => N0 - (intOf s).toNat)
        case atStart => exact ⟨0, Nat.zero_le _, rfl, Below.refl _ _⟩
        case round =>
          obtain ⟨i, hi, rfl, HB⟩ := hrel
          by_cases hlt : i < N0
          · have hlt' : (i : Int) < (N0 : Int) := by omega
            have hi0 : (0 : Int) ≤ (i : Int) := by omega
            have HLT := Lib.hid hlt
            obtain ⟨⟨nk, nx, ny, nc⟩, hnd⟩ : ∃ nd, LX[i]? = some nd := ⟨_, List.getElem?_eq_getElem (by rw [HE0'.out]; exact hlt)⟩
            have HND := Lib.hid hnd
            obtain ⟨p, hp⟩ : ∃ p, K0[i]? = some p := ⟨_, List.getElem?_eq_getElem (by rw [HLX.out]; exact hlt)⟩
            have HP := Lib.hid hp
            have HNZ := Lib.hid (HZX.out i _ hnd)
            clear hnd hp
            go_wp2
            go_loopw [9] (fun s9 wr2 => ∃ j : Nat, j ≤ N1 ∧ s9 = .int .i64 (j : Int) ∧ Hid (Below w6.heap.size w6 wr2)) (fun s _ => N1 - (intOf s).toNat)
            case atStart => exact ⟨0, Nat.zero_le _, rfl, HB.out⟩
            case round =>
              clear HB
              obtain ⟨j, hj, rfl, HB⟩ := hrel
              by_cases hjl : j < N1
              · have hjl' : (j : Int) < (N1 : Int) := by omega
                have hj0 : (0 : Int) ≤ (j : Int) := by omega
                have HJL := Lib.hid hjl
                obtain ⟨⟨mk, mx, my, mc⟩, hmd⟩ : ∃ nd, LY[j]? = some nd := ⟨_, List.getElem?_eq_getElem (by rw [HE1'.out]; exact hjl)⟩
                obtain ⟨q, hq⟩ : ∃ q, K1[j]? = some q := ⟨_, List.getElem?_eq_getElem (by rw [HLY.out]; exact hjl)⟩
                have hiff := HQ.out i j p q _ _ HND.out hmd HP.out hq
                obtain ⟨be, hbe⟩ : ∃ be, sameN ⟨nk, nx, ny, nc⟩ ⟨mk, mx, my, mc⟩ = be := ⟨_, rfl⟩
                have hpq : ((p : Int) == (q : Int)) = be := by
                  cases be with
                  | true =>
                    have := hiff.2 (sameN_iff.1 hbe)
                    rw [this]; simp
                  | false =>
                    have : ¬ p = q := fun e => by rw [sameN_iff.2 (hiff.1 e)] at hbe; cases hbe
                    simp; omega
                have hbw : Below w.heap.size w wr := HB5.out.trans ((HBW.out.trans (HB.out.mono HBW.out.size)).mono HB5.out.size)
                have hB6 : Below W.heap.size W wr := HBW.out.trans (HB.out.mono HBW.out.size)
                obtain ⟨b0, o0, rfl, hc0⟩ := ri_at (S0.out wr hB6) (ints_at HP.out)
                obtain ⟨b1, o1, rfl, hc1⟩ := ri_at (S1.out wr hB6) (ints_at hq)
                obtain ⟨bX, oX, sX, rfl, hbX, atX⟩ := nds_at (HFX.out.later hB6) HND.out
                obtain ⟨bY, oY, sY, rfl, hbY, atY⟩ := nds_at (HFY.out.later hB6) hmd
                obtain ⟨A1, C1, rfl, _, _⟩ := atX.kids.slice
                obtain ⟨A2, C2, rfl, _, _⟩ := atY.kids.slice
                have HAX := Lib.hid atX; have HAY := Lib.hid atY; have HC0 := Lib.hid hc0; have HC1 := Lib.hid hc1
                have HSAME : Hid (∀ W', Below wr.heap.size wr W' → Calls Tryd.prog 13 #[.agg #[.int .i64 nk, .string nx, .string ny, .slice A1 nc.len C1], .agg #[.int .i64 mk, .string mx, .string my, .slice A2 mc.len C2]] W' fun e w' => e = .returned (.bool be) ∧ Below W'.heap.size W' w') := fun W' hW' => by
                  have h := rsame_any nc.size nk nx ny A1 nc.len C1 nc mk mx my A2 mc.len C2 mc W' (Nat.le_refl _) (by have := HNZ.out; omega) (atX.kids.later hW') (atY.kids.later hW')
                  rwa [show sameT nk nx ny nc mk mx my mc = be from hbe] at h
                have T0 := Lib.hid (fun W' (h : Below wr.heap.size wr W') => M0.out W' (hB6.trans (h.mono hB6.size)))
                have T1 := Lib.hid (fun W' (h : Below wr.heap.size wr W') => M1.out W' (hB6.trans (h.mono hB6.size)))
                have HBX := Lib.hid hbX; have HBY := Lib.hid hbY
                have hnn : (be != be) = false := by cases be <;> rfl
                generalize nc.len = l1 at *
                generalize mc.len = l2 at *
                clear hmd hq hiff hbe hbw hc0 hc1 atX atY hbX hbY
                go_wp2
                refine region_rel (TB) [Cd.is (.slice (some ⟨bM, oM, none⟩) 2 cM), Cd.is (.pointer (some ⟨bM, oM, none⟩)), Cd.is (.slice (some ⟨b0, o0, none⟩) N0 d0), Cd.is (.int .i64 (i : Int)), Cd.is (.pointer (some ⟨b0, o0 + i, none⟩)), Cd.is (.int .i64 (p : Int)), Cd.is (.slice (some ⟨bM, oM, none⟩) 2 cM), Cd.is (.pointer (some ⟨bM, oM + 1, none⟩)), Cd.is (.slice (some ⟨b1, o1, none⟩) N1 d1), Cd.is (.int .i64 (j : Int)), Cd.is (.pointer (some ⟨b1, o1 + j, none⟩)), Cd.is (.int .i64 (q : Int)), Cd.is (.bool be), Cd.is (.slice (some ⟨bX, oX, none⟩) N0 cX), Cd.is (.int .i64 (i : Int)), Cd.is (.pointer (some ⟨bX, oX + i * 4, none⟩)), Cd.is (.agg #[.int .i64 nk, .string nx, .string ny, .slice A1 l1 C1]), Cd.is (.slice (some ⟨bY, oY, none⟩) N1 cY), Cd.is (.int .i64 (j : Int)), Cd.is (.pointer (some ⟨bY, oY + j * 4, none⟩)), Cd.is (.agg #[.int .i64 mk, .string mx, .string my, .slice A2 l2 C2]), Cd.is (.bool be), Cd.is (.bool false)] (by kernel_rfl) (by decide) (by kernel_rfl) (Below.refl _ _) (fun _ _ _ h k => h.trans (k.mono h.size)) ?steps ?behind
                case steps =>
                  intro xv W hW a ha
                  replace hW := undrew hW
                  simp only [fillA] at ha
                  simp only [List.setIfInBounds_toArray, List.set_cons_succ, List.set_cons_zero, Nat.zero_add, Nat.reduceAdd] at ha
                  subst ha
                  refine ⟨fun hd K hK => ?s0, fun hd K hK => ?s1, fun hd K hK => ?s2, fun hd K hK => ?s3, fun hd K hK => ?s4, fun hd K hK => ?s5, fun hd K hK => ?s6, fun hd K hK => ?s7, fun hd K hK => ?s8, fun hd K hK => ?s9, fun hd K hK => ?s10, fun hd K hK => ?s11, fun hd K hK => ?s12, fun hd K hK => ?s13, fun hd K hK => ?s14, fun hd K hK => ?s15, fun hd K hK => ?s16, fun hd K hK => ?s17, fun hd K hK => ?s18, fun hd K hK => ?s19, fun hd K hK => ?s20, fun hd K hK => ?s21, fun hd K hK => ?s22, trivial⟩
                  case s0 =>
                    clear hd
                    simp only [Act.put, List.setIfInBounds_toArray, List.set_cons_succ, List.set_cons_zero] at hK
                    refine (if_pos (by rfl)).mpr ?_
                    go_simp
                    exact hK.out _ _ (Below.refl _ _) rfl
                  case s1 =>
                    have hx0 : xv 0 = .slice (some ⟨bM, oM, none⟩) 2 cM := hd 0 (by kernel_rfl)
                    clear hd
                    simp only [Act.put, List.setIfInBounds_toArray, List.set_cons_succ, List.set_cons_zero] at hK
                    rw [hx0] at hK ⊢
                    refine (if_pos (by rfl)).mpr ?_
                    go_simp
                    exact hK.out _ _ (Below.refl _ _) rfl
                  case s2 =>
                    have hx1 : xv 1 = .pointer (some ⟨bM, oM, none⟩) := hd 1 (by kernel_rfl)
                    clear hd
                    simp only [Act.put, List.setIfInBounds_toArray, List.set_cons_succ, List.set_cons_zero] at hK
                    rw [hx1] at hK ⊢
                    refine (if_pos (by rfl)).mpr ?_
                    have hcc := T0.out W hW
                    simp only [Nat.add_zero] at hcc
                    go_simp
                    exact hK.out _ _ (Below.refl _ _) rfl
                  case s3 =>
                    clear hd
                    simp only [Act.put, List.setIfInBounds_toArray, List.set_cons_succ, List.set_cons_zero] at hK
                    refine (if_pos (by rfl)).mpr ?_
                    go_simp
                    exact hK.out _ _ (Below.refl _ _) rfl
                  case s4 =>
                    have hx2 : xv 2 = .slice (some ⟨b0, o0, none⟩) N0 d0 := hd 2 (by kernel_rfl)
                    have hx3 : xv 3 = .int .i64 (i : Int) := hd 3 (by kernel_rfl)
                    clear hd
                    simp only [Act.put, List.setIfInBounds_toArray, List.set_cons_succ, List.set_cons_zero] at hK
                    rw [hx2] at hK ⊢
                    rw [hx3] at hK ⊢
                    refine (if_pos (by rfl)).mpr ?_
                    go_simp
                    exact hK.out _ _ (Below.refl _ _) rfl
                  case s5 =>
                    have hx4 : xv 4 = .pointer (some ⟨b0, o0 + i, none⟩) := hd 4 (by kernel_rfl)
                    clear hd
                    simp only [Act.put, List.setIfInBounds_toArray, List.set_cons_succ, List.set_cons_zero] at hK
                    rw [hx4] at hK ⊢
                    refine (if_pos (by rfl)).mpr ?_
                    have hcc := (hW.cell (p := ⟨b0, o0 + i, none⟩) (World.block_lt_of_cell? _ _ HC0.out)).trans HC0.out
                    go_simp
                    exact hK.out _ _ (Below.refl _ _) rfl
                  case s6 =>
                    clear hd
                    simp only [Act.put, List.setIfInBounds_toArray, List.set_cons_succ, List.set_cons_zero] at hK
                    refine (if_pos (by rfl)).mpr ?_
                    go_simp
                    exact hK.out _ _ (Below.refl _ _) rfl
                  case s7 =>
                    have hx6 : xv 6 = .slice (some ⟨bM, oM, none⟩) 2 cM := hd 6 (by kernel_rfl)
                    clear hd
                    simp only [Act.put, List.setIfInBounds_toArray, List.set_cons_succ, List.set_cons_zero] at hK
                    rw [hx6] at hK ⊢
                    refine (if_pos (by rfl)).mpr ?_
                    go_simp
                    exact hK.out _ _ (Below.refl _ _) rfl
                  case s8 =>
                    have hx7 : xv 7 = .pointer (some ⟨bM, oM + 1, none⟩) := hd 7 (by kernel_rfl)
                    clear hd
                    simp only [Act.put, List.setIfInBounds_toArray, List.set_cons_succ, List.set_cons_zero] at hK
                    rw [hx7] at hK ⊢
                    refine (if_pos (by rfl)).mpr ?_
                    have hcc := T1.out W hW
                    go_simp
                    exact hK.out _ _ (Below.refl _ _) rfl
                  case s9 =>
                    clear hd
                    simp only [Act.put, List.setIfInBounds_toArray, List.set_cons_succ, List.set_cons_zero] at hK
                    refine (if_pos (by rfl)).mpr ?_
                    go_simp
                    exact hK.out _ _ (Below.refl _ _) rfl
                  case s10 =>
                    have hx8 : xv 8 = .slice (some ⟨b1, o1, none⟩) N1 d1 := hd 8 (by kernel_rfl)
                    have hx9 : xv 9 = .int .i64 (j : Int) := hd 9 (by kernel_rfl)
                    clear hd
                    simp only [Act.put, List.setIfInBounds_toArray, List.set_cons_succ, List.set_cons_zero] at hK
                    rw [hx8] at hK ⊢
                    rw [hx9] at hK ⊢
                    refine (if_pos (by rfl)).mpr ?_
                    go_simp
                    exact hK.out _ _ (Below.refl _ _) rfl
                  case s11 =>
                    have hx10 : xv 10 = .pointer (some ⟨b1, o1 + j, none⟩) := hd 10 (by kernel_rfl)
                    clear hd
                    simp only [Act.put, List.setIfInBounds_toArray, List.set_cons_succ, List.set_cons_zero] at hK
                    rw [hx10] at hK ⊢
                    refine (if_pos (by rfl)).mpr ?_
                    have hcc := (hW.cell (p := ⟨b1, o1 + j, none⟩) (World.block_lt_of_cell? _ _ HC1.out)).trans HC1.out
                    go_simp
                    exact hK.out _ _ (Below.refl _ _) rfl
                  case s12 =>
                    have hx5 : xv 5 = .int .i64 (p : Int) := hd 5 (by kernel_rfl)
                    have hx11 : xv 11 = .int .i64 (q : Int) := hd 11 (by kernel_rfl)
                    clear hd
                    simp only [Act.put, List.setIfInBounds_toArray, List.set_cons_succ, List.set_cons_zero] at hK
                    rw [hx5] at hK ⊢
                    rw [hx11] at hK ⊢
                    refine (if_pos (by rfl)).mpr ?_
                    go_simp
                    exact hK.out _ _ (Below.refl _ _) rfl
                  case s13 =>
                    clear hd
                    simp only [Act.put, List.setIfInBounds_toArray, List.set_cons_succ, List.set_cons_zero] at hK
                    refine (if_pos (by rfl)).mpr ?_
                    go_simp
                    exact hK.out _ _ (Below.refl _ _) rfl
                  case s14 =>
                    clear hd
                    simp only [Act.put, List.setIfInBounds_toArray, List.set_cons_succ, List.set_cons_zero] at hK
                    refine (if_pos (by rfl)).mpr ?_
                    go_simp
                    exact hK.out _ _ (Below.refl _ _) rfl
                  case s15 =>
                    have hx13 : xv 13 = .slice (some ⟨bX, oX, none⟩) N0 cX := hd 13 (by kernel_rfl)
                    have hx14 : xv 14 = .int .i64 (i : Int) := hd 14 (by kernel_rfl)
                    clear hd
                    simp only [Act.put, List.setIfInBounds_toArray, List.set_cons_succ, List.set_cons_zero] at hK
                    rw [hx13] at hK ⊢
                    rw [hx14] at hK ⊢
                    refine (if_pos (by rfl)).mpr ?_
                    go_simp
                    exact hK.out _ _ (Below.refl _ _) rfl
                  case s16 =>
                    have hx15 : xv 15 = .pointer (some ⟨bX, oX + i * 4, none⟩) := hd 15 (by kernel_rfl)
                    clear hd
                    simp only [Act.put, List.setIfInBounds_toArray, List.set_cons_succ, List.set_cons_zero] at hK
                    rw [hx15] at hK ⊢
                    refine (if_pos (by rfl)).mpr ?_
                    have e0 := (hW.cell (p := ⟨bX, oX + i * 4, none⟩) HBX.out).trans HAX.out.c0
                    have e1 := (hW.cell (p := ⟨bX, oX + i * 4 + 1, none⟩) HBX.out).trans HAX.out.c1
                    have e2 := (hW.cell (p := ⟨bX, oX + i * 4 + 2, none⟩) HBX.out).trans HAX.out.c2
                    have e3 := (hW.cell (p := ⟨bX, oX + i * 4 + 3, none⟩) HBX.out).trans HAX.out.c3
                    go_simp
                    exact hK.out _ _ (Below.refl _ _) rfl
                  case s17 =>
                    clear hd
                    simp only [Act.put, List.setIfInBounds_toArray, List.set_cons_succ, List.set_cons_zero] at hK
                    refine (if_pos (by rfl)).mpr ?_
                    go_simp
                    exact hK.out _ _ (Below.refl _ _) rfl
                  case s18 =>
                    clear hd
                    simp only [Act.put, List.setIfInBounds_toArray, List.set_cons_succ, List.set_cons_zero] at hK
                    refine (if_pos (by rfl)).mpr ?_
                    go_simp
                    exact hK.out _ _ (Below.refl _ _) rfl
                  case s19 =>
                    have hx17 : xv 17 = .slice (some ⟨bY, oY, none⟩) N1 cY := hd 17 (by kernel_rfl)
                    have hx18 : xv 18 = .int .i64 (j : Int) := hd 18 (by kernel_rfl)
                    clear hd
                    simp only [Act.put, List.setIfInBounds_toArray, List.set_cons_succ, List.set_cons_zero] at hK
                    rw [hx17] at hK ⊢
                    rw [hx18] at hK ⊢
                    refine (if_pos (by rfl)).mpr ?_
                    go_simp
                    exact hK.out _ _ (Below.refl _ _) rfl
                  case s20 =>
                    have hx19 : xv 19 = .pointer (some ⟨bY, oY + j * 4, none⟩) := hd 19 (by kernel_rfl)
                    clear hd
                    simp only [Act.put, List.setIfInBounds_toArray, List.set_cons_succ, List.set_cons_zero] at hK
                    rw [hx19] at hK ⊢
                    refine (if_pos (by rfl)).mpr ?_
                    have e0 := (hW.cell (p := ⟨bY, oY + j * 4, none⟩) HBY.out).trans HAY.out.c0
                    have e1 := (hW.cell (p := ⟨bY, oY + j * 4 + 1, none⟩) HBY.out).trans HAY.out.c1
                    have e2 := (hW.cell (p := ⟨bY, oY + j * 4 + 2, none⟩) HBY.out).trans HAY.out.c2
                    have e3 := (hW.cell (p := ⟨bY, oY + j * 4 + 3, none⟩) HBY.out).trans HAY.out.c3
                    go_simp
                    exact hK.out _ _ (Below.refl _ _) rfl
                  case s21 =>
                    have hx16 : xv 16 = .agg #[.int .i64 nk, .string nx, .string ny, .slice A1 l1 C1] := hd 16 (by kernel_rfl)
                    have hx20 : xv 20 = .agg #[.int .i64 mk, .string mx, .string my, .slice A2 l2 C2] := hd 20 (by kernel_rfl)
                    clear hd
                    simp only [Act.put, List.setIfInBounds_toArray, List.set_cons_succ, List.set_cons_zero] at hK
                    rw [hx16] at hK ⊢
                    rw [hx20] at hK ⊢
                    refine (if_pos (by rfl)).mpr ?_
                    go_simp
                    go_at_call 13
                    refine (HSAME.out W hW).mono ?_
                    rintro e W' ⟨rfl, hb⟩
                    exact hK.out _ _ hb rfl
                  case s22 =>
                    have hx12 : xv 12 = .bool be := hd 12 (by kernel_rfl)
                    have hx21 : xv 21 = .bool be := hd 21 (by kernel_rfl)
                    clear hd
                    simp only [Act.put, List.setIfInBounds_toArray, List.set_cons_succ, List.set_cons_zero] at hK
                    rw [hx12] at hK ⊢
                    rw [hx21] at hK ⊢
                    refine (if_pos (by rfl)).mpr ?_
                    go_simp
                    exact hK.out _ _ (Below.refl _ _) rfl
                case behind =>
                  intro xv W hW hx a ha
                  replace hW := undrew hW
                  simp only [fillA] at ha
                  simp only [List.setIfInBounds_toArray, List.set_cons_succ, List.set_cons_zero, Nat.zero_add, Nat.reduceAdd] at ha
                  subst ha
                  have hx22 : xv 22 = .bool false := hx 22 (by decide)
                  rw [hx22]
                  have HBZ := Lib.hid (HB.out.trans (hW.mono HB.out.size))
                  clear hx hW
                  go_wp2
                  go_roundw
                  case rel => exact ⟨j + 1, (by have := HJL.out; omega), by go_num, HBZ.out⟩
                  case measure => have := HJL.out; simp [intOf]; omega
              · obtain rfl : N1 = j := by omega
                have hjl' : ¬ (N1 : Int) < (N1 : Int) := by omega
                clear hjl
                go_wp2
                go_roundw
                case rel => exact ⟨i + 1, (by have := HLT.out; omega), by go_num, HB.out⟩
                case measure => have := HLT.out; simp [intOf]; omega
          · obtain rfl : N0 = i := by omega
            have hlt' : ¬ (N0 : Int) < (N0 : Int) := by omega
            have HBF := Lib.hid (HB5.out.trans ((HBW.out.trans (HB.out.mono HBW.out.size)).mono HB5.out.size))
            clear hlt
            go_wp2
            go_ret
            exact ⟨rfl, HBF.out⟩
end Go.Proofs.YtmknghhgcecafaaDoor.Shape
