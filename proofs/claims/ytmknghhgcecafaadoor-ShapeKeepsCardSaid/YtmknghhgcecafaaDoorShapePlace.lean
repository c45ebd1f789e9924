/-
  Layer 10 (shape): (*Plan).place: one more node behind the places that are there. Written by gen_shapeplace.py.
-/
import Derived.Test.YtmknghhgcecafaaDoorJxF
namespace Go.Proofs.YtmknghhgcecafaaDoor.Shape
open Go.ChangeShapes Go.WideShapes Go.ChangeAt Go.RowKit Mem Tree
set_option linter.unusedVariables false
theorem place_end {k : Int} {x y : ByteArray} {A : Option Addr} {n C : Nat} {c : F} {p : Int} {w w1 W : World} {B : Nat} {S : Nat → Prop} {X XX : List Thing} {g gb N nP nS nK : Nat} {L : List Nd} {ps zs : List Int} {ks : List (List Nat)} {cN cP cS us : List Value} {vN vP vS vK m : Value} {nps : List (Nd × Value)} (h : PS w B S X g L ps zs ks)
    (hw : w.alloc (.cells #[.int .i64 k, .string x, .string y, .slice A n C] 24) = w1) (hg : w.heap.size = gb) (hX : boxT 24 gb [.int .i64 k, .string x, .string y, .slice A n C] :: X = XX)
    (hN : L.length = N) (hcN : nps.flatMap ndC = cN) (hnP : ps.length = nP) (hnS : zs.length = nS) (hnK : us.length = nK) (hcP : ps.map iv = cP) (hcS : zs.map iv = cS) (hL : nps.map (·.1) = L) (hs : ∀ q ∈ nps, Fs w1 S q.2 q.1.c) (hus : us.length = ks.length) (hf : Fs w S (.slice A n C) c)
    (hF : Fam W B (PR g vN vP vS vK (N + 1) (cN ++ [.int .i64 k, .string x, .string y, .slice A n C]) (nP + 1) (cP ++ [iv p]) (nS + 1) (cS ++ [iv 0]) (nK + 1) (us ++ [m]) us ks XX ++ [rowT 3 1 m 0 []])) (hb : Below B w W) : PS W B S X g (L ++ [⟨k, x, y, c⟩]) (ps ++ [p]) (zs ++ [0]) (ks ++ [[]]) := by
  subst hX
  have h1 := pr_snoc (l := []) hus hF
  have hw1 : Below w.heap.size w w1 := by rw [← hw]; exact bel1 w _
  obtain ⟨R, h0⟩ := h.fam
  have hk : ∀ b, S b → W.heap[b]? = w.heap[b]? := by
    rw [pr_split, show ∀ (P : List Thing) (t : Thing), P ++ t :: X = (P ++ [t]) ++ X from fun P t => by simp] at h1
    exact h.safe.keep h0 h1 hb
  have hk0 : ∀ b, S b → w1.heap[b]? = w.heap[b]? := h.safe.keep h0 (h0.later hw1) (hw1.mono h.le)
  have hp : PS W B S (boxT 24 gb [.int .i64 k, .string x, .string y, .slice A n C] :: X) g (L ++ [⟨k, x, y, c⟩]) (ps ++ [p]) (zs ++ [0]) (ks ++ [[]]) := by
    refine ⟨⟨vN, vP, vS, vK, us ++ [m], nps ++ [(⟨k, x, y, c⟩, .slice A n C)], ?_, by rw [List.map_append, hL]; rfl, fun q hq => ?_, by rw [List.length_append, List.length_append, hus]; rfl⟩, h.safe.more fun t ht => List.mem_cons_of_mem _ ht⟩
    · have hl : nps.length = N := by rw [← hN, ← hL, List.length_map]
      rw [List.length_append, List.length_append, List.length_append, List.length_append, List.flatMap_append, List.map_append, List.map_append, hl, hcN, hnP, hcP, hnS, hcS, hnK]
      exact h1
    · rcases List.mem_append.1 hq with hq | hq
      · exact (hs q hq).keep fun b hS => (hk b hS).trans (hk0 b hS).symm
      · rw [List.mem_singleton.1 hq]; exact hf.keep hk
  exact hp.less h.safe
set_option maxRecDepth 100000 in
set_option maxHeartbeats 16000000 in
theorem place_any (k : Int) (x y : ByteArray) (A : Option Addr) (n C : Nat) (c : F) (p : Int) (w : World) (B : Nat) (S : Nat → Prop) (X : List Thing) (g : Nat) (L : List Nd) (ps zs : List Int) (ks : List (List Nat)) (hf : Fs w S (.slice A n C) c) (hn : n ≤ 100000)
    (h : PS w B S X g L ps zs ks) (h1 : L.length ≤ 100000) (h2 : ps.length ≤ 100000) (h3 : zs.length ≤ 100000) (h4 : ks.length ≤ 100000) :
    Calls Tryd.prog 28 #[.pointer (some ⟨g, 0, none⟩), .agg #[.int .i64 k, .string x, .string y, .slice A n C], .int .i64 p] w fun e w' => e = .returned (.tuple #[]) ∧ PS w' B S X g (L ++ [⟨k, x, y, c⟩]) (ps ++ [p]) (zs ++ [0]) (ks ++ [[]]) ∧ Below B w w' := by
  obtain ⟨i0, hi0, hz0, hz1, hz2⟩ := info_parts int_info
  obtain ⟨i1, hi1, hy0, hy1, hy2⟩ := info_parts ints_info
  obtain ⟨i2, hi2, hn0, hn1, hn2⟩ := info_parts node_info
  have hb1 := (bel1 w (.cells #[.int .i64 k, .string x, .string y, .slice A n C] 24)).mono h.le
  have hp1 := h.box 24 #[.int .i64 k, .string x, .string y, .slice A n C]
  have HSAFE := Lib.hid h.safe
  have HP0 := Lib.hid h
  have HFS := Lib.hid hf
  obtain ⟨gb, hgb⟩ : ∃ gb, w.heap.size = gb := ⟨_, rfl⟩
  rw [hgb] at hp1
  obtain ⟨w1, hw1⟩ : ∃ w1, w.alloc (.cells #[.int .i64 k, .string x, .string y, .slice A n C] 24) = w1 := ⟨_, rfl⟩
  rw [hw1] at hp1 hb1
  have HW1 := Lib.hid hw1
  have HGB := Lib.hid hgb
  have HP := Lib.hid hp1
  have HB := Lib.hid hb1
  obtain ⟨vN, vP, vS, vK, us, nps, hF, hL, hfs, hus⟩ := hp1.all
  obtain ⟨aN, cNp, rfl, _, _⟩ := hF.slice (i := 1) rfl
  obtain ⟨aP, cPp, rfl, _, _⟩ := hF.slice (i := 2) rfl
  obtain ⟨aS, cSp, rfl, _, _⟩ := hF.slice (i := 3) rfl
  obtain ⟨aK, cKp, rfl, _, _⟩ := hF.slice (i := 4) rfl
  have hnl : nps.length = L.length := by rw [← hL, List.length_map]
  obtain ⟨N, hN⟩ : ∃ N, nps.length = N := ⟨_, rfl⟩
  obtain ⟨cN, hcN⟩ : ∃ cN, nps.flatMap ndC = cN := ⟨_, rfl⟩
  have hcl : cN.length = N * 4 := by rw [← hcN, MemT.flat_len ndC_len, hN]
  obtain ⟨nP, hnP⟩ : ∃ nP, ps.length = nP := ⟨_, rfl⟩
  obtain ⟨nS, hnS⟩ : ∃ nS, zs.length = nS := ⟨_, rfl⟩
  obtain ⟨nK, hnK⟩ : ∃ nK, us.length = nK := ⟨_, rfl⟩
  rw [hnl] at hN
  obtain ⟨cP, hcP⟩ : ∃ cP, ps.map iv = cP := ⟨_, rfl⟩
  obtain ⟨cS, hcS⟩ : ∃ cS, zs.map iv = cS := ⟨_, rfl⟩
  rw [hnl, hN, hcN, hnP, hnS, hnK, hcP, hcS] at hF
  obtain ⟨XX, hXX⟩ : ∃ XX, boxT 24 gb [.int .i64 k, .string x, .string y, .slice A n C] :: X = XX := ⟨_, rfl⟩
  have hmem : boxT 24 gb [.int .i64 k, .string x, .string y, .slice A n C] ∈ XX := by rw [← hXX]; exact List.mem_cons_self
  rw [show boxT 24 gb [.int .i64 k, .string x, .string y, .slice A n C] :: X = XX from hXX] at hF
  have HF := Lib.hid hF
  have HL := Lib.hid hL
  have HFSS := Lib.hid hfs
  have HUS := Lib.hid hus
  have HN := Lib.hid hN
  have HN5 : N ≤ 100000 := by omega
  have HP5 : nP ≤ 100000 := by omega
  have HS5 : nS ≤ 100000 := by omega
  have HK5 : nK ≤ 100000 := by omega
  have HNP := Lib.hid hnP
  have HNS := Lib.hid hnS
  have HNK := Lib.hid hnK
  have HCN := Lib.hid hcN
  have HCP := Lib.hid hcP
  have HCS := Lib.hid hcS
  have HCL := Lib.hid hcl
  have HXX := Lib.hid hXX
  have HMEM := Lib.hid hmem
  clear h hf hp1 hb1 hL hfs hus hF hN hnl hcN hnP hnS hnK hcP hcS h1 h2 h3 h4 hXX hmem hcl hgb
  go_enter Tryd.func28, Tryd.ntmps28
  go_wp2
  try rw [hw1]
  rw [show w.heap.size = gb from HGB.out]
  clear hw1
  refine region_inv2 (AG2 w1 B (fun jj => ([some (.pointer (some ⟨g, 0, none⟩)), some (.pointer (some ⟨g, 0, none⟩)), some (.pointer (some ⟨g, 0, none⟩)), some (.slice aN N cNp), some (.agg #[.int .i64 k, .string x, .string y, .slice A n C]), some (.int .i64 (N : Int)), none, none, none, none, some (.pointer (some ⟨g, 0, none⟩)), some (.pointer (some ⟨g, 0, none⟩)), none] : List (Option Value)).getD jj none) (fun jj => ([none, none, none, none, none, none, none, none, some (fun v => adr v (N * 4)), none, none, none, none] : List (Option (Value → Value))).getD jj none) 99 6 7 9 12 (fun b m => match b with | false => PR g (.slice aN N cNp) (.slice aP nP cPp) (.slice aS nS cSp) (.slice aK nK cKp) (N) (cN) (nP) (cP) (nS) (cS) (nK) (us) (us) (ks) XX | true => (fun _ => PR g (.slice aN N cNp) (.slice aP nP cPp) (.slice aS nS cSp) (.slice aK nK cKp) (N) (cN) (nP) (cP) (nS) (cS) (nK) (us) (us) (ks) XX) m) (fun _ => [.int .i64 0, .string ⟨#[]⟩, .string ⟨#[]⟩, .slice none 0 0]) (fun e s m v => match s, e with | false, false => (fun _ v => (PR g (.slice aN N cNp) (.slice aP nP cPp) (.slice aS nS cSp) (.slice aK nK cKp) (N) (cN) (nP) (cP) (nS) (cS) (nK) (us) (us) (ks) XX).set 1 (rowT 24 4 v (N + 1) (cN ++ [.int .i64 0, .string ⟨#[]⟩, .string ⟨#[]⟩, .slice none 0 0]))) m v | false, true => (fun _ v => (PR g (.slice aN N cNp) (.slice aP nP cPp) (.slice aS nS cSp) (.slice aK nK cKp) (N) (cN) (nP) (cP) (nS) (cS) (nK) (us) (us) (ks) XX).set 1 (rowT 24 4 v (N + 1) (cN ++ [.int .i64 k, .string x, .string y, .slice A n C]))) m v | true, false => (fun _ v => ((PR g (.slice aN N cNp) (.slice aP nP cPp) (.slice aS nS cSp) (.slice aK nK cKp) (N) (cN) (nP) (cP) (nS) (cS) (nK) (us) (us) (ks) XX).set 1 (rowT 24 4 v (N + 1) (cN ++ [.int .i64 0, .string ⟨#[]⟩, .string ⟨#[]⟩, .slice none 0 0]))).set 0 (boxT 30 g [v, .slice aP nP cPp, .slice aS nS cSp, .slice aK nK cKp])) m v | true, true => (fun _ v => PR g (v) (.slice aP nP cPp) (.slice aS nS cSp) (.slice aK nK cKp) (N + 1) (cN ++ [.int .i64 k, .string x, .string y, .slice A n C]) (nP) (cP) (nS) (cS) (nK) (us) (us) (ks) XX) m v)) (by kernel_rfl) (by decide) (by kernel_rfl) (fun _ => AG2.start HF.out (fun _ => rfl)) ?steps ?done
  case steps =>
    intro L xv W hI hcl a ha
    have hBW : B ≤ W.heap.size := Nat.le_trans (show B ≤ w1.heap.size from HF.out.B) hI.bel.size
    simp only [fillA] at ha
    simp only [List.setIfInBounds_toArray, List.set_cons_succ, List.set_cons_zero, Nat.zero_add, Nat.reduceAdd] at ha
    subst ha
    refine ⟨fun hL hd K hK => ?s0, fun hL hd K hK => ?s1, fun hL hd K hK => ?s2, fun hL hd K hK => ?s3, fun hL hd K hK => ?s4, fun hL hd K hK => ?s5, fun hL hd K hK => ?s6, fun hL hd K hK => ?s7, fun hL hd K hK => ?s8, fun hL hd K hK => ?s9, fun hL hd K hK => ?s10, fun hL hd K hK => ?s11, fun hL hd K hK => ?s12, trivial⟩
    case s0 =>
      clear hd
      simp only [Act.put, List.setIfInBounds_toArray, List.set_cons_succ, List.set_cons_zero] at hK
      refine (if_pos (by rfl)).mpr ?_
      go_simp
      exact hK.out _ _ (hI.quiet hBW (Below.refl _ _) (.inr rfl) (.inl rfl) (by decide) (by decide) (by decide) (by decide) (by decide))
    case s1 =>
      have hx0 : xv 0 = .pointer (some ⟨g, 0, none⟩) := hI.kc 0 _ rfl (hd 0 (by kernel_rfl))
      clear hd
      simp only [Act.put, List.setIfInBounds_toArray, List.set_cons_succ, List.set_cons_zero] at hK
      rw [hx0] at hK ⊢
      refine (if_pos (by rfl)).mpr ?_
      go_simp
      exact hK.out _ _ (hI.quiet hBW (Below.refl _ _) (.inr rfl) (.inl rfl) (by decide) (by decide) (by decide) (by decide) (by decide))
    case s2 =>
      have hx1 : xv 1 = .pointer (some ⟨g, 0, none⟩) := hI.kc 1 _ rfl (hd 1 (by kernel_rfl))
      clear hd
      simp only [Act.put, List.setIfInBounds_toArray, List.set_cons_succ, List.set_cons_zero] at hK
      rw [hx1] at hK ⊢
      refine (if_pos (by rfl)).mpr ?_
      go_simp
      exact hK.out _ _ (hI.quiet hBW (Below.refl _ _) (.inr rfl) (.inl rfl) (by decide) (by decide) (by decide) (by decide) (by decide))
    case s3 =>
      have hx2 : xv 2 = .pointer (some ⟨g, 0, none⟩) := hI.kc 2 _ rfl (hd 2 (by kernel_rfl))
      have hF : Fam W B (PR g (.slice aN N cNp) (.slice aP nP cPp) (.slice aS nS cSp) (.slice aK nK cKp) (N) (cN) (nP) (cP) (nS) (cS) (nK) (us) (us) (ks) XX) := by have h := hI.f0 (notRun (i := 3) (r := 7) hcl hL (by kernel_rfl)); cases hm : L 99 with | false => rw [hm] at h; exact h | true => rw [hm] at h; exact h
      clear hd
      obtain ⟨⟨q0, q1, q2, q3⟩, z0, z1, z2, z3⟩ := box_at hF (j := 0) rfl
      simp only [Act.put, List.setIfInBounds_toArray, List.set_cons_succ, List.set_cons_zero] at hK
      rw [hx2] at hK ⊢
      refine (if_pos (by rfl)).mpr ?_
      go_simp
      exact hK.out _ _ (hI.quiet hBW (Below.refl _ _) (.inr rfl) (.inl rfl) (by decide) (by decide) (by decide) (by decide) (by decide))
    case s4 =>
      have hF : Fam W B (PR g (.slice aN N cNp) (.slice aP nP cPp) (.slice aS nS cSp) (.slice aK nK cKp) (N) (cN) (nP) (cP) (nS) (cS) (nK) (us) (us) (ks) XX) := by have h := hI.f0 (notRun (i := 4) (r := 7) hcl hL (by kernel_rfl)); cases hm : L 99 with | false => rw [hm] at h; exact h | true => rw [hm] at h; exact h
      clear hd
      obtain ⟨⟨y0, y1, y2, y3⟩, _, _, _, _⟩ := box_mem hF (pr_mem HMEM.out)
      simp only [Act.put, List.setIfInBounds_toArray, List.set_cons_succ, List.set_cons_zero] at hK
      refine (if_pos (by rfl)).mpr ?_
      go_simp
      exact hK.out _ _ (hI.quiet hBW (Below.refl _ _) (.inr rfl) (.inl rfl) (by decide) (by decide) (by decide) (by decide) (by decide))
    case s5 =>
      have hx3 : xv 3 = .slice aN N cNp := hI.kc 3 _ rfl (hd 3 (by kernel_rfl))
      clear hd
      simp only [Act.put, List.setIfInBounds_toArray, List.set_cons_succ, List.set_cons_zero] at hK
      rw [hx3] at hK ⊢
      refine (if_pos (by rfl)).mpr ?_
      go_simp
      exact hK.out _ _ (hI.quiet hBW (Below.refl _ _) (.inr rfl) (.inl rfl) (by decide) (by decide) (by decide) (by decide) (by decide))
    case s6 =>
      clear hd
      simp only [Act.put, List.setIfInBounds_toArray, List.set_cons_succ, List.set_cons_zero] at hK
      refine (if_pos (by rfl)).mpr ?_
      have hbn := below1 W (.cells #[.int .i64 0, .string ⟨#[]⟩, .string ⟨#[]⟩, .slice none 0 0] 24)
      have hcn := new_cells W [.int .i64 0, .string ⟨#[]⟩, .string ⟨#[]⟩, .slice none 0 0] 24
      go_simp
      exact hK.out _ _ (hI.build hBW hbn rfl rfl (by decide) (by decide) (by decide) (by decide) rfl (hcn))
    case s7 =>
      have hx0 : xv 0 = .pointer (some ⟨g, 0, none⟩) := hI.kc 0 _ rfl (hd 0 (by kernel_rfl))
      have hx1 : xv 1 = .pointer (some ⟨g, 0, none⟩) := hI.kc 1 _ rfl (hd 1 (by kernel_rfl))
      have hx2 : xv 2 = .pointer (some ⟨g, 0, none⟩) := hI.kc 2 _ rfl (hd 2 (by kernel_rfl))
      have hx3 : xv 3 = .slice aN N cNp := hI.kc 3 _ rfl (hd 3 (by kernel_rfl))
      have hx4 : xv 4 = .agg #[.int .i64 k, .string x, .string y, .slice A n C] := hI.kc 4 _ rfl (hd 4 (by kernel_rfl))
      have hx5 : xv 5 = .int .i64 (N : Int) := hI.kc 5 _ rfl (hd 5 (by kernel_rfl))
      have hF : Fam W B (PR g (.slice aN N cNp) (.slice aP nP cPp) (.slice aS nS cSp) (.slice aK nK cKp) (N) (cN) (nP) (cP) (nS) (cS) (nK) (us) (us) (ks) XX) := by have h := hI.f0 hL; cases hm : L 99 with | false => rw [hm] at h; exact h | true => rw [hm] at h; exact h
      obtain ⟨gb, cb, hxb, hcb⟩ := hI.fb (hd 6 (by kernel_rfl)) hL
      obtain ⟨v', W', hr, hf, hb, _⟩ := hF.run_app1 (i := 1) rfl _ Tryd.underlying22 hi2 hn0 hn1 hn2 rfl (by decide) (by decide) rfl hcb (by intro u hu; simp only [List.mem_cons, List.not_mem_nil, or_false] at hu; rcases hu with rfl | rfl | rfl | rfl <;> rfl) (by omega)
      simp only [Act.put, List.setIfInBounds_toArray, List.set_cons_succ, List.set_cons_zero] at hK
      rw [hx0] at hK ⊢
      rw [hx1] at hK ⊢
      rw [hx2] at hK ⊢
      rw [hx3] at hK ⊢
      rw [hx4] at hK ⊢
      rw [hx5] at hK ⊢
      rw [hxb] at hK ⊢
      refine (if_pos (by rfl)).mpr ?_
      exact op_append rfl rfl rfl hr (hK.out _ _ (hI.app rfl rfl (by decide) (by decide) (by decide) hL hb hf))
    case s8 =>
      have hx5 : xv 5 = .int .i64 (N : Int) := hI.kc 5 _ rfl (hd 5 (by kernel_rfl))
      have hA := hd 7 (by kernel_rfl)
      have hF : ∃ gq cq, xv 7 = .slice (some ⟨gq, 0, none⟩) (N + 1) cq ∧ N + 1 ≤ cq ∧ cq ≤ maxLen := by
        have h := hI.f1 hA
        cases he : L 9 with
        | false => cases hs : L 12 with
          | false => rw [he, hs] at h; exact h.sliceAt (i := 1) rfl (by omega)
          | true => rw [he, hs] at h; exact h.sliceAt (i := 1) rfl (by omega)
        | true => cases hs : L 12 with
          | false => rw [he, hs] at h; exact h.sliceAt (i := 1) rfl (by omega)
          | true => rw [he, hs] at h; exact h.sliceAt (i := 1) rfl (by omega)
      obtain ⟨gq, cq, hxq, _, _⟩ := hF
      have hv : (fun v => adr v (N * 4)) (xv 7) = .pointer (some ⟨gq, N * 4, none⟩) := by rw [hxq]; rfl
      have hlt : (N : Int) < (N : Int) + 1 := by omega
      clear hd
      simp only [Act.put, List.setIfInBounds_toArray, List.set_cons_succ, List.set_cons_zero] at hK
      rw [hx5] at hK ⊢
      rw [hxq] at hK ⊢
      refine (if_pos (by rfl)).mpr ?_
      go_simp
      exact hK.out _ _ (hI.quiet hBW (Below.refl _ _) (.inl rfl) (.inr ⟨_, rfl, hv.symm, hA⟩) (by decide) (by decide) (by decide) (by decide) (by decide))
    case s9 =>
      have hx8 : xv 8 = adr (xv 7) (N * 4) := (hI.kd 8 _ rfl (hd 8 (by kernel_rfl))).1
      have hx4 : xv 4 = .agg #[.int .i64 k, .string x, .string y, .slice A n C] := hI.kc 4 _ rfl (hd 4 (by kernel_rfl))
      have hA := hd 7 (by kernel_rfl)
      have hF : Fam W B ((fun e s m v => match s, e with | false, false => (fun _ v => (PR g (.slice aN N cNp) (.slice aP nP cPp) (.slice aS nS cSp) (.slice aK nK cKp) (N) (cN) (nP) (cP) (nS) (cS) (nK) (us) (us) (ks) XX).set 1 (rowT 24 4 v (N + 1) (cN ++ [.int .i64 0, .string ⟨#[]⟩, .string ⟨#[]⟩, .slice none 0 0]))) m v | false, true => (fun _ v => (PR g (.slice aN N cNp) (.slice aP nP cPp) (.slice aS nS cSp) (.slice aK nK cKp) (N) (cN) (nP) (cP) (nS) (cS) (nK) (us) (us) (ks) XX).set 1 (rowT 24 4 v (N + 1) (cN ++ [.int .i64 k, .string x, .string y, .slice A n C]))) m v | true, false => (fun _ v => ((PR g (.slice aN N cNp) (.slice aP nP cPp) (.slice aS nS cSp) (.slice aK nK cKp) (N) (cN) (nP) (cP) (nS) (cS) (nK) (us) (us) (ks) XX).set 1 (rowT 24 4 v (N + 1) (cN ++ [.int .i64 0, .string ⟨#[]⟩, .string ⟨#[]⟩, .slice none 0 0]))).set 0 (boxT 30 g [v, .slice aP nP cPp, .slice aS nS cSp, .slice aK nK cKp])) m v | true, true => (fun _ v => PR g (v) (.slice aP nP cPp) (.slice aS nS cSp) (.slice aK nK cKp) (N + 1) (cN ++ [.int .i64 k, .string x, .string y, .slice A n C]) (nP) (cP) (nS) (cS) (nK) (us) (us) (ks) XX) m v) false (L 12) (xv 99) (xv 7)) := by have h := hI.f1 hA; rw [hL] at h; exact h
      clear hd
      simp only [Act.put] at hK
      rw [hx8] at hK ⊢
      rw [hx4] at hK ⊢
      obtain ⟨gq, cq, hxq, _, _⟩ := hF.sliceAt (i := 1) (by generalize L 12 = e; cases e <;> rfl) (by omega)
      have hst := Fam.store4 (i := 1) hF (by rw [hxq]; generalize L 12 = e; cases e <;> rfl) (N * 4) (.int .i64 k) (.string x) (.string y) (.slice A n C)
      rw [hxq] at hK ⊢
      have hz := fun q => hF.frz (i := 1) (by rw [hxq]; generalize L 12 = e; cases e <;> rfl) (N * 4 + q)
      obtain ⟨z0, z1, z2, z3⟩ := (⟨hz 0, hz 1, hz 2, hz 3⟩ : _ ∧ _ ∧ _ ∧ _)
      have hc : ∀ r u, ([.int .i64 0, .string ⟨#[]⟩, .string ⟨#[]⟩, .slice none 0 0] : List Value)[r]? = some u → W.cell? ⟨gq, N * 4 + r, none⟩ = some u := fun r u hr => hF.cell (i := 1) (xs := cN ++ [.int .i64 0, .string ⟨#[]⟩, .string ⟨#[]⟩, .slice none 0 0]) (by rw [hxq]; generalize L 12 = e; cases e <;> rfl) (by rw [List.getElem?_append_right (by rw [HCL.out]; omega), HCL.out, Nat.add_sub_cancel_left]; exact hr)
      have c0 := hc 0 _ rfl
      have c1 := hc 1 _ rfl
      have c2 := hc 2 _ rfl
      have c3 := hc 3 _ rfl
      simp only [Nat.add_zero] at c0 z0
      rw [show adr (.slice (some ⟨gq, 0, none⟩) (N + 1) cq) (N * 4) = .pointer (some ⟨gq, N * 4, none⟩) from rfl]
      rw [set4 cN _ _ _ _ _ _ _ _ (N * 4) HCL.out] at hst
      refine (if_pos (by rfl)).mpr ?_
      go_simp
      refine hK.out undef _ (hI.put rfl rfl (by decide) (by decide) (by decide) hA hst.2 ?_)
      rw [hxq] at hst ⊢; revert hst; generalize L 12 = e; intro hst; cases e with | false => exact hst.1 | true => exact hst.1
    case s10 =>
      have hx0 : xv 0 = .pointer (some ⟨g, 0, none⟩) := hI.kc 0 _ rfl (hd 0 (by kernel_rfl))
      clear hd
      simp only [Act.put, List.setIfInBounds_toArray, List.set_cons_succ, List.set_cons_zero] at hK
      rw [hx0] at hK ⊢
      refine (if_pos (by rfl)).mpr ?_
      go_simp
      exact hK.out _ _ (hI.quiet hBW (Below.refl _ _) (.inr rfl) (.inl rfl) (by decide) (by decide) (by decide) (by decide) (by decide))
    case s11 =>
      have hx10 : xv 10 = .pointer (some ⟨g, 0, none⟩) := hI.kc 10 _ rfl (hd 10 (by kernel_rfl))
      clear hd
      simp only [Act.put, List.setIfInBounds_toArray, List.set_cons_succ, List.set_cons_zero] at hK
      rw [hx10] at hK ⊢
      refine (if_pos (by rfl)).mpr ?_
      go_simp
      exact hK.out _ _ (hI.quiet hBW (Below.refl _ _) (.inr rfl) (.inl rfl) (by decide) (by decide) (by decide) (by decide) (by decide))
    case s12 =>
      have hx11 : xv 11 = .pointer (some ⟨g, 0, none⟩) := hI.kc 11 _ rfl (hd 11 (by kernel_rfl))
      have hA := hd 7 (by kernel_rfl)
      have hF : Fam W B ((fun e s m v => match s, e with | false, false => (fun _ v => (PR g (.slice aN N cNp) (.slice aP nP cPp) (.slice aS nS cSp) (.slice aK nK cKp) (N) (cN) (nP) (cP) (nS) (cS) (nK) (us) (us) (ks) XX).set 1 (rowT 24 4 v (N + 1) (cN ++ [.int .i64 0, .string ⟨#[]⟩, .string ⟨#[]⟩, .slice none 0 0]))) m v | false, true => (fun _ v => (PR g (.slice aN N cNp) (.slice aP nP cPp) (.slice aS nS cSp) (.slice aK nK cKp) (N) (cN) (nP) (cP) (nS) (cS) (nK) (us) (us) (ks) XX).set 1 (rowT 24 4 v (N + 1) (cN ++ [.int .i64 k, .string x, .string y, .slice A n C]))) m v | true, false => (fun _ v => ((PR g (.slice aN N cNp) (.slice aP nP cPp) (.slice aS nS cSp) (.slice aK nK cKp) (N) (cN) (nP) (cP) (nS) (cS) (nK) (us) (us) (ks) XX).set 1 (rowT 24 4 v (N + 1) (cN ++ [.int .i64 0, .string ⟨#[]⟩, .string ⟨#[]⟩, .slice none 0 0]))).set 0 (boxT 30 g [v, .slice aP nP cPp, .slice aS nS cSp, .slice aK nK cKp])) m v | true, true => (fun _ v => PR g (v) (.slice aP nP cPp) (.slice aS nS cSp) (.slice aK nK cKp) (N + 1) (cN ++ [.int .i64 k, .string x, .string y, .slice A n C]) (nP) (cP) (nS) (cS) (nK) (us) (us) (ks) XX) m v) (L 9) false (xv 99) (xv 7)) := by have h := hI.f1 hA; rw [hL] at h; exact h
      clear hd
      obtain ⟨⟨q0, q1, q2, q3⟩, z0, z1, z2, z3⟩ := box_at hF (j := 0) (by generalize L 9 = e; cases e <;> rfl)
      obtain ⟨aS, cS, hxS, _, _⟩ : ∃ a c, xv 7 = .slice a (N + 1) c ∧ N + 1 ≤ c ∧ c ≤ maxLen := by
        revert hF; generalize L 9 = e; intro hF
        cases e with | false => exact hF.slice (i := 1) rfl | true => exact hF.slice (i := 1) rfl
      have hFS := hF.store (i := 0) (by generalize L 9 = e; cases e <;> rfl) (0) (xv 7)
      rw [show W.setCell ⟨g, 0, none⟩ (xv 7) = W.setCell ⟨g, 0, none⟩ (.slice aS _ cS) from by rw [hxS]] at hFS
      simp only [Act.put] at hK
      rw [hx11] at hK ⊢
      rw [hxS] at hK ⊢
      refine (if_pos (by rfl)).mpr ?_
      go_simp
      exact hK.out undef _ (hI.store rfl rfl (by decide) (by decide) (by decide) hA hFS.2 (by revert hFS; generalize L 9 = e; intro hFS; cases e with | false => exact hFS.1 | true => exact hFS.1))
  case done =>
    intro L xv W hI hall a ha
    have hF : Fam W B ((fun _ v => PR g (v) (.slice aP nP cPp) (.slice aS nS cSp) (.slice aK nK cKp) (N + 1) (cN ++ [.int .i64 k, .string x, .string y, .slice A n C]) (nP) (cP) (nS) (cS) (nK) (us) (us) (ks) XX) (xv 99) (xv 7)) := by have h := hI.f1 (hall 7 (by decide)); rw [hall 12 (by decide), hall 9 (by decide)] at h; exact h
    have hBl := hI.bel
    have hx0 : xv 0 = .pointer (some ⟨g, 0, none⟩) := hI.kc 0 _ rfl (hall 0 (by decide))
    have hx1 : xv 1 = .pointer (some ⟨g, 0, none⟩) := hI.kc 1 _ rfl (hall 1 (by decide))
    have hx2 : xv 2 = .pointer (some ⟨g, 0, none⟩) := hI.kc 2 _ rfl (hall 2 (by decide))
    have hx3 : xv 3 = .slice aN N cNp := hI.kc 3 _ rfl (hall 3 (by decide))
    have hx4 : xv 4 = .agg #[.int .i64 k, .string x, .string y, .slice A n C] := hI.kc 4 _ rfl (hall 4 (by decide))
    have hx5 : xv 5 = .int .i64 (N : Int) := hI.kc 5 _ rfl (hall 5 (by decide))
    have hx10 : xv 10 = .pointer (some ⟨g, 0, none⟩) := hI.kc 10 _ rfl (hall 10 (by decide))
    have hx11 : xv 11 = .pointer (some ⟨g, 0, none⟩) := hI.kc 11 _ rfl (hall 11 (by decide))
    simp only [fillA] at ha
    simp only [List.setIfInBounds_toArray, List.set_cons_succ, List.set_cons_zero, Nat.zero_add, Nat.reduceAdd] at ha
    subst ha
    clear hI hall
    obtain ⟨v1, hv1⟩ : ∃ v1, xv 7 = v1 := ⟨_, rfl⟩
    rw [hv1] at hF
    try rw [hv1]
    have hF2 : Fam W B (PR g (v1) (.slice aP nP cPp) (.slice aS nS cSp) (.slice aK nK cKp) (N + 1) (cN ++ [.int .i64 k, .string x, .string y, .slice A n C]) (nP) (cP) (nS) (cS) (nK) (us) (us) (ks) XX) := hF
    have HB2 := Lib.hid (HB.out.trans hBl)
    clear hx0 hx1 hx2 hx3 hx4 hx5 hx10 hx11 hF hBl hv1 HF HB
    obtain ⟨a1, c1, rfl, _, _⟩ := hF2.slice (i := 1) rfl
    have HF2 := Lib.hid hF2
    clear hF2
    obtain ⟨⟨q0, q1, q2, q3⟩, z0, z1, z2, z3⟩ := box_at HF2.out (j := 0) rfl
    go_wp2_with (at_builtin; refine list_app1 (i := 2) HF2.out rfl rfl _ _ rfl Tryd.underlying27 hi0 hz0 hz1 hz2 rfl (by decide) rfl _ 1 (by simp) rfl rfl (by omega) ?_)
    intro v6 w6 hf6 hb6
    obtain ⟨⟨q0', q1', q2', q3'⟩, z0', z1', z2', z3'⟩ := box_at hf6 (j := 0) rfl
    obtain ⟨a6, c6, rfl, _, _⟩ := hf6.slice (i := 2) rfl
    have hs6 := hf6.store (i := 0) rfl 1 (.slice a6 (nP + 1) c6)
    have HF6 : Hid (Fam (w6.setCell ⟨g, 1, none⟩ (.slice a6 (nP + 1) c6)) B (PR g (.slice a1 (N + 1) c1) (.slice a6 (nP + 1) c6) (.slice aS nS cSp) (.slice aK nK cKp) (N + 1) (cN ++ [.int .i64 k, .string x, .string y, .slice A n C]) (nP + 1) (cP ++ [iv p]) (nS) (cS) (nK) (us) (us) (ks) XX)) := hs6.1
    have HB6 := Lib.hid ((HB2.out.trans hb6).trans hs6.2)
    clear q0 q1 q2 q3 z0 z1 z2 z3 q0' q2' q3' z0' z2' z3' hf6 hb6 hs6 HF2 HB2
    obtain ⟨⟨q0, q1, q2, q3⟩, z0, z1, z2, z3⟩ := box_at HF6.out (j := 0) rfl
    go_wp2_with (at_builtin; refine list_app1 (i := 3) HF6.out rfl rfl _ _ rfl Tryd.underlying27 hi0 hz0 hz1 hz2 rfl (by decide) rfl _ 1 (by simp) rfl rfl (by omega) ?_)
    intro v7 w7 hf7 hb7
    obtain ⟨⟨p0, p1, p2, p3⟩, y0, y1, y2, y3⟩ := box_at hf7 (j := 0) rfl
    obtain ⟨a7, c7, rfl, _, _⟩ := hf7.slice (i := 3) rfl
    have hs7 := hf7.store (i := 0) rfl 2 (.slice a7 (nS + 1) c7)
    have HF7 : Hid (Fam (w7.setCell ⟨g, 2, none⟩ (.slice a7 (nS + 1) c7)) B (PR g (.slice a1 (N + 1) c1) (.slice a6 (nP + 1) c6) (.slice a7 (nS + 1) c7) (.slice aK nK cKp) (N + 1) (cN ++ [.int .i64 k, .string x, .string y, .slice A n C]) (nP + 1) (cP ++ [iv p]) (nS + 1) (cS ++ [iv 0]) (nK) (us) (us) (ks) XX)) := hs7.1
    have HB7 := Lib.hid ((HB6.out.trans hb7).trans hs7.2)
    clear q0 q1 q2 q3 z0 z1 z2 z3 q1' z1' p0 p1 p3 y0 y1 y3 hf7 hb7 hs7 HF6 HB6
    go_wp2_with fail
    clear p2 y2
    generalize w7.setCell ⟨g, 2, none⟩ (.slice a7 (nS + 1) c7) = w8 at *
    refine region_inv2 (AG2 w8 B (fun jj => ([some (.pointer (some ⟨g, 0, none⟩)), some (.pointer (some ⟨g, 0, none⟩)), some (.pointer (some ⟨g, 0, none⟩)), some (.pointer (some ⟨g, 3, none⟩)), some (.slice aK nK cKp), some (.pointer (some ⟨gb, 3, none⟩)), some (.slice A n C), some (.int .i64 (n : Int)), none, none, none, some (.pointer (some ⟨g, 0, none⟩)), some (.pointer (some ⟨g, 3, none⟩)), none] : List (Option Value)).getD jj none) (fun jj => ([none, none, none, none, none, none, none, none, none, none, none, none, none, none] : List (Option (Value → Value))).getD jj none) 8 9 10 98 13 (fun b m => match b with | false => PR g (.slice a1 (N + 1) c1) (.slice a6 (nP + 1) c6) (.slice a7 (nS + 1) c7) (.slice aK nK cKp) (N + 1) (cN ++ [.int .i64 k, .string x, .string y, .slice A n C]) (nP + 1) (cP ++ [iv p]) (nS + 1) (cS ++ [iv 0]) (nK) (us) (us) (ks) XX | true => (fun m => PR g (.slice a1 (N + 1) c1) (.slice a6 (nP + 1) c6) (.slice a7 (nS + 1) c7) (.slice aK nK cKp) (N + 1) (cN ++ [.int .i64 k, .string x, .string y, .slice A n C]) (nP + 1) (cP ++ [iv p]) (nS + 1) (cS ++ [iv 0]) (nK) (us) (us) (ks) XX ++ [rowT 3 1 m 0 []]) m) (fun m => [m]) (fun e s m v => match s, e with | false, false => (fun m v => (PR g (.slice a1 (N + 1) c1) (.slice a6 (nP + 1) c6) (.slice a7 (nS + 1) c7) (.slice aK nK cKp) (N + 1) (cN ++ [.int .i64 k, .string x, .string y, .slice A n C]) (nP + 1) (cP ++ [iv p]) (nS + 1) (cS ++ [iv 0]) (nK) (us) (us) (ks) XX ++ [rowT 3 1 m 0 []]).set 4 (rowT 27 1 v (nK + 1) (us ++ [m]))) m v | false, true => (fun m v => (PR g (.slice a1 (N + 1) c1) (.slice a6 (nP + 1) c6) (.slice a7 (nS + 1) c7) (.slice aK nK cKp) (N + 1) (cN ++ [.int .i64 k, .string x, .string y, .slice A n C]) (nP + 1) (cP ++ [iv p]) (nS + 1) (cS ++ [iv 0]) (nK) (us) (us) (ks) XX ++ [rowT 3 1 m 0 []]).set 4 (rowT 27 1 v (nK + 1) (us ++ [m]))) m v | true, false => (fun m v => PR g (.slice a1 (N + 1) c1) (.slice a6 (nP + 1) c6) (.slice a7 (nS + 1) c7) (v) (N + 1) (cN ++ [.int .i64 k, .string x, .string y, .slice A n C]) (nP + 1) (cP ++ [iv p]) (nS + 1) (cS ++ [iv 0]) (nK + 1) (us ++ [m]) (us) (ks) XX ++ [rowT 3 1 m 0 []]) m v | true, true => (fun m v => PR g (.slice a1 (N + 1) c1) (.slice a6 (nP + 1) c6) (.slice a7 (nS + 1) c7) (v) (N + 1) (cN ++ [.int .i64 k, .string x, .string y, .slice A n C]) (nP + 1) (cP ++ [iv p]) (nS + 1) (cS ++ [iv 0]) (nK + 1) (us ++ [m]) (us) (ks) XX ++ [rowT 3 1 m 0 []]) m v)) (by kernel_rfl) (by decide) (by kernel_rfl) (fun _ => AG2.start HF7.out (fun _ => rfl)) ?steps ?done
    case steps =>
      intro L xv W hI hcl a ha
      have hBW : B ≤ W.heap.size := Nat.le_trans (show B ≤ w8.heap.size from HF7.out.B) hI.bel.size
      simp only [fillA] at ha
      simp only [List.setIfInBounds_toArray, List.set_cons_succ, List.set_cons_zero, Nat.zero_add, Nat.reduceAdd] at ha
      subst ha
      refine ⟨fun hL hd K hK => ?s0, fun hL hd K hK => ?s1, fun hL hd K hK => ?s2, fun hL hd K hK => ?s3, fun hL hd K hK => ?s4, fun hL hd K hK => ?s5, fun hL hd K hK => ?s6, fun hL hd K hK => ?s7, fun hL hd K hK => ?s8, fun hL hd K hK => ?s9, fun hL hd K hK => ?s10, fun hL hd K hK => ?s11, fun hL hd K hK => ?s12, fun hL hd K hK => ?s13, trivial⟩
      case s0 =>
        clear hd
        simp only [Act.put, List.setIfInBounds_toArray, List.set_cons_succ, List.set_cons_zero] at hK
        refine (if_pos (by rfl)).mpr ?_
        go_simp
        exact hK.out _ _ (hI.quiet hBW (Below.refl _ _) (.inr rfl) (.inl rfl) (by decide) (by decide) (by decide) (by decide) (by decide))
      case s1 =>
        clear hd
        simp only [Act.put, List.setIfInBounds_toArray, List.set_cons_succ, List.set_cons_zero] at hK
        refine (if_pos (by rfl)).mpr ?_
        go_simp
        exact hK.out _ _ (hI.quiet hBW (Below.refl _ _) (.inr rfl) (.inl rfl) (by decide) (by decide) (by decide) (by decide) (by decide))
      case s2 =>
        have hx1 : xv 1 = .pointer (some ⟨g, 0, none⟩) := hI.kc 1 _ rfl (hd 1 (by kernel_rfl))
        clear hd
        simp only [Act.put, List.setIfInBounds_toArray, List.set_cons_succ, List.set_cons_zero] at hK
        rw [hx1] at hK ⊢
        refine (if_pos (by rfl)).mpr ?_
        go_simp
        exact hK.out _ _ (hI.quiet hBW (Below.refl _ _) (.inr rfl) (.inl rfl) (by decide) (by decide) (by decide) (by decide) (by decide))
      case s3 =>
        have hx2 : xv 2 = .pointer (some ⟨g, 0, none⟩) := hI.kc 2 _ rfl (hd 2 (by kernel_rfl))
        clear hd
        simp only [Act.put, List.setIfInBounds_toArray, List.set_cons_succ, List.set_cons_zero] at hK
        rw [hx2] at hK ⊢
        refine (if_pos (by rfl)).mpr ?_
        go_simp
        exact hK.out _ _ (hI.quiet hBW (Below.refl _ _) (.inr rfl) (.inl rfl) (by decide) (by decide) (by decide) (by decide) (by decide))
      case s4 =>
        have hx3 : xv 3 = .pointer (some ⟨g, 3, none⟩) := hI.kc 3 _ rfl (hd 3 (by kernel_rfl))
        clear hd
        have hq := box_mem (hI.f0 (notRun (i := 4) (r := 10) hcl hL (by kernel_rfl))) (by cases h8 : L 8 <;> exact List.mem_cons_self)
        obtain ⟨⟨q0, q1, q2, q3⟩, z0, z1, z2, z3⟩ := hq
        simp only [Act.put, List.setIfInBounds_toArray, List.set_cons_succ, List.set_cons_zero] at hK
        rw [hx3] at hK ⊢
        refine (if_pos (by rfl)).mpr ?_
        go_simp
        exact hK.out _ _ (hI.quiet hBW (Below.refl _ _) (.inr rfl) (.inl rfl) (by decide) (by decide) (by decide) (by decide) (by decide))
      case s5 =>
        clear hd
        simp only [Act.put, List.setIfInBounds_toArray, List.set_cons_succ, List.set_cons_zero] at hK
        refine (if_pos (by rfl)).mpr ?_
        go_simp
        exact hK.out _ _ (hI.quiet hBW (Below.refl _ _) (.inr rfl) (.inl rfl) (by decide) (by decide) (by decide) (by decide) (by decide))
      case s6 =>
        have hx5 : xv 5 = .pointer (some ⟨gb, 3, none⟩) := hI.kc 5 _ rfl (hd 5 (by kernel_rfl))
        clear hd
        have hq := box_mem (g := gb) (T := 24) (a := .int .i64 k) (b := .string x) (c := .string y) (d := .slice A n C) (hI.f0 (notRun (i := 9) (r := 10) hcl (notRun (i := 8) (r := 9) hcl (notRun (i := 7) (r := 8) hcl (notRun (i := 6) (r := 7) hcl hL (by kernel_rfl)) (by kernel_rfl)) (by kernel_rfl)) (by kernel_rfl))) (by cases h8 : L 8 with | false => exact pr_mem HMEM.out | true => exact List.mem_append_left _ (pr_mem HMEM.out))
        obtain ⟨⟨q0, q1, q2, q3⟩, z0, z1, z2, z3⟩ := hq
        simp only [Act.put, List.setIfInBounds_toArray, List.set_cons_succ, List.set_cons_zero] at hK
        rw [hx5] at hK ⊢
        refine (if_pos (by rfl)).mpr ?_
        go_simp
        exact hK.out _ _ (hI.quiet hBW (Below.refl _ _) (.inr rfl) (.inl rfl) (by decide) (by decide) (by decide) (by decide) (by decide))
      case s7 =>
        have hx6 : xv 6 = .slice A n C := hI.kc 6 _ rfl (hd 6 (by kernel_rfl))
        clear hd
        simp only [Act.put, List.setIfInBounds_toArray, List.set_cons_succ, List.set_cons_zero] at hK
        rw [hx6] at hK ⊢
        refine (if_pos (by rfl)).mpr ?_
        go_simp
        exact hK.out _ _ (hI.quiet hBW (Below.refl _ _) (.inr rfl) (.inl rfl) (by decide) (by decide) (by decide) (by decide) (by decide))
      case s8 =>
        have hx7 : xv 7 = .int .i64 (n : Int) := hI.kc 7 _ rfl (hd 7 (by kernel_rfl))
        have hLA := (notRun (i := 9) (r := 10) hcl (notRun (i := 8) (r := 9) hcl hL (by kernel_rfl)) (by kernel_rfl))
        have hLB := (notRun (i := 8) (r := 9) hcl hL (by kernel_rfl))
        have hF : Fam W B (PR g (.slice a1 (N + 1) c1) (.slice a6 (nP + 1) c6) (.slice a7 (nS + 1) c7) (.slice aK nK cKp) (N + 1) (cN ++ [.int .i64 k, .string x, .string y, .slice A n C]) (nP + 1) (cP ++ [iv p]) (nS + 1) (cS ++ [iv 0]) (nK) (us) (us) (ks) XX) := by have h := hI.f0 hLA; rw [show L 8 = false from hL] at h; exact h
        clear hd
        simp only [Act.put, List.setIfInBounds_toArray, List.set_cons_succ, List.set_cons_zero] at hK
        rw [hx7] at hK ⊢
        refine (if_pos (by rfl)).mpr ?_
        obtain ⟨W', hr, ho, hg⟩ := run_make_own (P := Tryd.prog) W 0 27 3 i0 _ 1 Tryd.underlying27 hi0 hz0 hz1 .i64 .i64 n (by rw [hz2]; omega) (by unfold maxLen; omega) (Nat.zero_le _)
        have hFm := hF.snoc (t := rowT 3 1 (.slice (some ⟨W.heap.size, 0, none⟩) 0 n) 0 []) hg ho (fun q hq => by have hq : some W.heap.size = some q := hq; injection hq with hq; omega)
        go_simp
        exact hK.out _ _ (hI.make rfl rfl (by decide) (by decide) (by decide) (by decide) hLB hLA ⟨hg.os, hg.tape, hg.output, hg.size, fun q hq => hg.block q (Nat.lt_of_lt_of_le hq hBW) (by simp)⟩ hFm)
      case s9 =>
        have hM := hd 8 (by kernel_rfl)
        have hF : Fam W B (PR g (.slice a1 (N + 1) c1) (.slice a6 (nP + 1) c6) (.slice a7 (nS + 1) c7) (.slice aK nK cKp) (N + 1) (cN ++ [.int .i64 k, .string x, .string y, .slice A n C]) (nP + 1) (cP ++ [iv p]) (nS + 1) (cS ++ [iv 0]) (nK) (us) (us) (ks) XX ++ [rowT 3 1 (xv 8) 0 []]) := by have h := hI.f0 (notRun (i := 9) (r := 10) hcl hL (by kernel_rfl)); rw [hM] at h; exact h
        obtain ⟨am, cm, hxm, _, _⟩ := own_slice' (show W.ownsRow 0 3 1 (xv 8) 0 [] from hF.h _ (List.mem_append_right _ (List.mem_singleton.2 rfl)))
        clear hd
        simp only [Act.put, List.setIfInBounds_toArray, List.set_cons_succ, List.set_cons_zero] at hK
        rw [hxm] at hK ⊢
        refine (if_pos (by rfl)).mpr ?_
        have hbn := below1 W (.cells #[.slice am 0 cm] 27)
        have hcn := new_cells W [.slice am 0 cm] 27
        go_simp
        exact hK.out _ _ (hI.build hBW hbn rfl rfl (by decide) (by decide) (by decide) (by decide) rfl (by rw [hxm]; exact hcn))
      case s10 =>
        have hx4 : xv 4 = .slice aK nK cKp := hI.kc 4 _ rfl (hd 4 (by kernel_rfl))
        have hM : L 8 = true := hcl 9 8 (hd 9 (by kernel_rfl)) (by kernel_rfl)
        have hF : Fam W B ((fun m => PR g (.slice a1 (N + 1) c1) (.slice a6 (nP + 1) c6) (.slice a7 (nS + 1) c7) (.slice aK nK cKp) (N + 1) (cN ++ [.int .i64 k, .string x, .string y, .slice A n C]) (nP + 1) (cP ++ [iv p]) (nS + 1) (cS ++ [iv 0]) (nK) (us) (us) (ks) XX ++ [rowT 3 1 m 0 []]) (xv 8)) := by have h := hI.f0 hL; rw [show L 8 = true from hM] at h; exact h
        obtain ⟨gb, cb, hxb, hcb⟩ := hI.fb (hd 9 (by kernel_rfl)) hL
        obtain ⟨am, cm, hxm, _, _⟩ := own_slice' (show W.ownsRow 0 3 1 (xv 8) 0 [] from hF.h _ (List.mem_append_right _ (List.mem_singleton.2 rfl)))
        obtain ⟨v', W', hr, hf, hb, _⟩ := hF.run_app1 (i := 4) rfl _ Tryd.underlying28 hi1 hy0 hy1 hy2 rfl (by decide) (by decide) rfl hcb (by intro u hu; rw [List.mem_singleton.1 hu, hxm]; rfl) (by omega)
        simp only [Act.put, List.setIfInBounds_toArray, List.set_cons_succ, List.set_cons_zero] at hK
        rw [hx4] at hK ⊢
        rw [hxb] at hK ⊢
        refine (if_pos (by rfl)).mpr ?_
        exact op_append rfl rfl rfl hr (hK.out _ _ (hI.app rfl rfl (by decide) (by decide) (by decide) hL hb hf))
      case s11 =>
        have hx0 : xv 0 = .pointer (some ⟨g, 0, none⟩) := hI.kc 0 _ rfl (hd 0 (by kernel_rfl))
        clear hd
        simp only [Act.put, List.setIfInBounds_toArray, List.set_cons_succ, List.set_cons_zero] at hK
        rw [hx0] at hK ⊢
        refine (if_pos (by rfl)).mpr ?_
        go_simp
        exact hK.out _ _ (hI.quiet hBW (Below.refl _ _) (.inr rfl) (.inl rfl) (by decide) (by decide) (by decide) (by decide) (by decide))
      case s12 =>
        have hx11 : xv 11 = .pointer (some ⟨g, 0, none⟩) := hI.kc 11 _ rfl (hd 11 (by kernel_rfl))
        clear hd
        simp only [Act.put, List.setIfInBounds_toArray, List.set_cons_succ, List.set_cons_zero] at hK
        rw [hx11] at hK ⊢
        refine (if_pos (by rfl)).mpr ?_
        go_simp
        exact hK.out _ _ (hI.quiet hBW (Below.refl _ _) (.inr rfl) (.inl rfl) (by decide) (by decide) (by decide) (by decide) (by decide))
      case s13 =>
        have hx12 : xv 12 = .pointer (some ⟨g, 3, none⟩) := hI.kc 12 _ rfl (hd 12 (by kernel_rfl))
        have hA := hd 10 (by kernel_rfl)
        have hF : Fam W B ((fun m v => (PR g (.slice a1 (N + 1) c1) (.slice a6 (nP + 1) c6) (.slice a7 (nS + 1) c7) (.slice aK nK cKp) (N + 1) (cN ++ [.int .i64 k, .string x, .string y, .slice A n C]) (nP + 1) (cP ++ [iv p]) (nS + 1) (cS ++ [iv 0]) (nK) (us) (us) (ks) XX ++ [rowT 3 1 m 0 []]).set 4 (rowT 27 1 v (nK + 1) (us ++ [m]))) (xv 8) (xv 10)) := by have h := hI.f1 hA; rw [hL] at h; cases he : L 98 with | false => rw [he] at h; exact h | true => rw [he] at h; exact h
        clear hd
        obtain ⟨⟨q0, q1, q2, q3⟩, z0, z1, z2, z3⟩ := box_at hF (j := 0) rfl
        obtain ⟨aS, cS, hxS, _, _⟩ := hF.slice (i := 4) rfl
        have hFS := hF.store (i := 0) rfl (3) (xv 10)
        rw [show W.setCell ⟨g, 3, none⟩ (xv 10) = W.setCell ⟨g, 3, none⟩ (.slice aS _ cS) from by rw [hxS]] at hFS
        simp only [Act.put] at hK
        rw [hx12] at hK ⊢
        rw [hxS] at hK ⊢
        refine (if_pos (by rfl)).mpr ?_
        go_simp
        exact hK.out undef _ (hI.store rfl rfl (by decide) (by decide) (by decide) hA hFS.2 (by cases he : L 98 with | false => exact hFS.1 | true => exact hFS.1))
    case done =>
      intro L xv W hI hall a ha
      have hF : Fam W B ((fun m v => PR g (.slice a1 (N + 1) c1) (.slice a6 (nP + 1) c6) (.slice a7 (nS + 1) c7) (v) (N + 1) (cN ++ [.int .i64 k, .string x, .string y, .slice A n C]) (nP + 1) (cP ++ [iv p]) (nS + 1) (cS ++ [iv 0]) (nK + 1) (us ++ [m]) (us) (ks) XX ++ [rowT 3 1 m 0 []]) (xv 8) (xv 10)) := by have h := hI.f1 (hall 10 (by decide)); rw [hall 13 (by decide)] at h; cases he : L 98 with | false => rw [he] at h; exact h | true => rw [he] at h; exact h
      have hBl := hI.bel
      have hx0 : xv 0 = .pointer (some ⟨g, 0, none⟩) := hI.kc 0 _ rfl (hall 0 (by decide))
      have hx1 : xv 1 = .pointer (some ⟨g, 0, none⟩) := hI.kc 1 _ rfl (hall 1 (by decide))
      have hx2 : xv 2 = .pointer (some ⟨g, 0, none⟩) := hI.kc 2 _ rfl (hall 2 (by decide))
      have hx3 : xv 3 = .pointer (some ⟨g, 3, none⟩) := hI.kc 3 _ rfl (hall 3 (by decide))
      have hx4 : xv 4 = .slice aK nK cKp := hI.kc 4 _ rfl (hall 4 (by decide))
      have hx5 : xv 5 = .pointer (some ⟨gb, 3, none⟩) := hI.kc 5 _ rfl (hall 5 (by decide))
      have hx6 : xv 6 = .slice A n C := hI.kc 6 _ rfl (hall 6 (by decide))
      have hx7 : xv 7 = .int .i64 (n : Int) := hI.kc 7 _ rfl (hall 7 (by decide))
      have hx11 : xv 11 = .pointer (some ⟨g, 0, none⟩) := hI.kc 11 _ rfl (hall 11 (by decide))
      have hx12 : xv 12 = .pointer (some ⟨g, 3, none⟩) := hI.kc 12 _ rfl (hall 12 (by decide))
      simp only [fillA] at ha
      simp only [List.setIfInBounds_toArray, List.set_cons_succ, List.set_cons_zero, Nat.zero_add, Nat.reduceAdd] at ha
      subst ha
      clear hI hall
      clear hx0 hx1 hx2 hx3 hx4 hx5 hx6 hx7 hx11 hx12
      go_end0
      have HE := place_end HP0.out HW1.out HGB.out HXX.out HN.out HCN.out HNP.out HNS.out HNK.out HCP.out HCS.out HL.out HFSS.out HUS.out HFS.out hF (HB7.out.trans hBl)
      exact ⟨rfl, HE, HB7.out.trans hBl⟩
end Go.Proofs.YtmknghhgcecafaaDoor.Shape
