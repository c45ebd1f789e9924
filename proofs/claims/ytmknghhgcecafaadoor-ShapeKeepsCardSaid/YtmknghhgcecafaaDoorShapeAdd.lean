/-
  Layer 10 (shape): (*Plan).add: a tree behind the places that are there. Written by gen_shapeadd.py.
-/
import Derived.Test.YtmknghhgcecafaaDoorShapePlace
import Derived.StillTailTactics
namespace Go.Proofs.YtmknghhgcecafaaDoor.Shape
open Go.ChangeShapes Go.WideShapes Go.ChangeAt Go.RowKit Mem Tree
set_option linter.unusedVariables false

def AddSpec (M : Nat) : Prop := ∀ (k : Int) (x y : ByteArray) (A : Option Addr) (n C : Nat) (c : F) (p : Int) (w : World) (B : Nat) (S : Nat → Prop) (X : List Thing) (g : Nat) (L : List Nd) (ps zs : List Int) (ks : List (List Nat)), c.size ≤ M → Fs w S (.slice A n C) c → PS w B S X g L ps zs ks →
  ps.length = L.length → zs.length = L.length → ks.length = L.length → L.length + c.size + 1 ≤ 50000 → -1 ≤ p → p ≤ 100000 →
  Calls Tryd.prog 23 #[.pointer (some ⟨g, 0, none⟩), .agg #[.int .i64 k, .string x, .string y, .slice A n C], .int .i64 p] w fun e w' => e = .returned (.tuple #[]) ∧
    PS w' B S X g (L ++ nodes (one k x y c)) (ps ++ parF p L.length (one k x y c)) (zs ++ sizF (one k x y c)) (ks ++ kidF L.length (one k x y c)) ∧ Below B w w'
theorem bel_drew (w : World) : Below w.heap.size w w.drew := ⟨rfl, rfl, rfl, Nat.le_refl _, fun _ _ => rfl⟩
set_option maxRecDepth 100000 in
set_option maxHeartbeats 16000000 in
theorem add_step (M : Nat) (ih : ∀ M', M' < M → AddSpec M') : AddSpec M := by
  intro k x y A n C c p w B S X g L ps zs ks hM hf h h1 h2 h3 h4 hp1 hp2
  obtain ⟨i0, hi0, hz0, hz1, hz2⟩ := info_parts int_info
  obtain ⟨i1, hi1, hy0, hy1, hy2⟩ := info_parts ints_info
  have HIH := Lib.hid ih
  have hbw := bel1 w (.cells #[.int .i64 k, .string x, .string y, .slice A n C] 24)
  have hb1 := hbw.mono h.le
  have hbx := h.box 24 #[.int .i64 k, .string x, .string y, .slice A n C]
  have HF1 := Lib.hid (h.fs (h.later hbw) hb1 hf)
  have HSAFE := Lib.hid h.safe
  obtain ⟨gb, hgb⟩ : ∃ gb, w.heap.size = gb := ⟨_, rfl⟩
  rw [hgb] at hbx
  obtain ⟨w1, hw1⟩ : ∃ w1, w.alloc (.cells #[.int .i64 k, .string x, .string y, .slice A n C] 24) = w1 := ⟨_, rfl⟩
  rw [hw1] at hbx hb1 HF1
  have hnl : n = c.len := by
    obtain ⟨A', C', e, _⟩ := hf.slice
    injection e with _ e _
  have hcl := F.len_le_size c
  obtain ⟨a, ha⟩ : ∃ a, L.length = a := ⟨_, rfl⟩
  rw [ha] at h1 h2 h3 h4
  rw [ha]
  have HPL := Lib.hid (place_any k x y A n C c p w1 B S _ g L ps zs ks HF1.out (by omega) hbx (by omega) (by omega) (by omega) (by omega))
  have HPS := Lib.hid hbx
  have HB := Lib.hid hb1
  have HA := Lib.hid ha
  have HLP := Lib.hid h1
  have HLZ := Lib.hid h2
  have HLK := Lib.hid h3
  have HT1 := Lib.hid (t_one (p := p) (a := a) (k := k) (x := x) (y := y) (c := c))
  have HEND := Lib.hid (t_end (p := p) (a := a) (k := k) (x := x) (y := y) (c := c))
  have HD0 : Hid (dn 0 (one k x y c) = .cons k x y c .nil) := rfl
  have hfs : (one k x y c).size = c.size + 1 := one_size k x y c
  obtain ⟨f, hfe⟩ : ∃ f, one k x y c = f := ⟨_, rfl⟩
  rw [hfe] at hfs HT1 HEND HD0
  rw [hfe]
  have HSZ : Hid (f.size ≤ M + 1) := by show _ ≤ _; omega
  have HSA : Hid (a + f.size ≤ 50000) := by show _ ≤ _; omega
  have ha5 : a ≤ 50000 := by omega
  have HP1 := Lib.hid hp1
  have HP2 := Lib.hid hp2
  clear ih hM hf h h1 h2 h3 h4 hfe hfs hnl hcl hbx hb1 hbw ha hp1 hp2
  go_enter Tryd.func23, Tryd.ntmps23
  obtain ⟨aN, cN, aP, cP, aS, cS, aK, cK, ⟨q0, q1, q2, q3⟩, ⟨z0, z1, z2, z3⟩, hnode⟩ := HPS.out.rd
  rw [HA.out] at q0
  obtain ⟨R, hR⟩ := HPS.out.fam
  obtain ⟨⟨m0, m1, m2, m3⟩, f0, f1, f2, f3⟩ := box_mem hR (List.mem_append_right _ List.mem_cons_self)
  clear hnode hR
  go_wp2_with fail
  refine HPL.out.mono ?_
  rintro e w2 ⟨rfl, hp2, hb2⟩
  have HPS2 := Lib.hid (hp2.cast (L' := L ++ tN 1 0 f) (ps' := ps ++ tP p a 1 0 f) (zs' := zs ++ tS 1 0 f) (ks' := ks ++ tK a 1 0 f) (by rw [HT1.out.1]) (by rw [HT1.out.2.1]) (by rw [HT1.out.2.2.1]) (by rw [HT1.out.2.2.2]))
  have HF2 := Lib.hid (HPS.out.fs hp2 hb2 HF1.out)
  have HB2 := Lib.hid (HB.out.trans hb2)
  clear hp2 hb2 HPL HPS HF1 HB q0 q1 q2 q3 z0 z1 z2 z3 m0 m1 m2 m3 f0 f1 f2 f3 hw1 HT1
  go_wp2
  go_loopw [22] (fun _ wr => ∃ (d : Nat) (k' : Int) (x' y' : ByteArray) (A' : Option Addr) (n' C' : Nat) (c' r' : F), Hid (dn d f = .cons k' x' y' c' r') ∧ Hid (Fs wr S (.slice A' n' C') c') ∧ Hid (PS wr B S (boxT 24 gb [.int .i64 k', .string x', .string y', .slice A' n' C'] :: X) g (L ++ tN (d + 1) 0 f) (ps ++ tP p a (d + 1) 0 f) (zs ++ tS (d + 1) 0 f) (ks ++ tK a (d + 1) 0 f)) ∧ Hid (Below B w wr)) (fun _ wr => a + f.size - nLen wr g)
  case atStart => exact ⟨0, k, x, y, A, n, C, c, .nil, HD0.out, HF2.out, HPS2.out, HB2.out⟩
  case round =>
    clear HPS2 HF2 HB2
    obtain ⟨d, k', x', y', A', n', C', c', r', HD, HF, HPS, HB⟩ := hrel
    obtain ⟨aN, cN, aP, cP, aS, cS, aK, cK, ⟨q0, q1, q2, q3⟩, ⟨z0, z1, z2, z3⟩, hnode⟩ := HPS.out.rd
    have hlen := (t_len (p := p) (a := a) HD.out 0).1
    have hlp := (t_len (p := p) (a := a) HD.out 0).2.1
    have hlz := (t_len (p := p) (a := a) HD.out 0).2.2.1
    simp only [upto, F.size, Nat.add_zero] at hlen hlp hlz
    have hLL : (L ++ tN (d + 1) 0 f).length = a + (d + 1) := by rw [List.length_append, HA.out, hlen]
    rw [hLL] at q0
    obtain ⟨R, hR⟩ := HPS.out.fam
    obtain ⟨⟨m0, m1, m2, m3⟩, f0, f1, f2, f3⟩ := box_mem hR (List.mem_append_right _ List.mem_cons_self)
    have hds : d + 1 ≤ f.size := by
      rcases dn_size d f with h | h
      · rw [HD.out] at h; simp only [F.size] at h; omega
      · rw [HD.out] at h; cases h
    have HDS := Lib.hid hds
    have HW0 := Lib.hid HPS.out
    have HLL := Lib.hid hLL
    have HLP2 : Hid ((ps ++ tP p a (d + 1) 0 f).length = a + (d + 1)) := by show _ = _; rw [List.length_append, HLP.out, hlp]
    have HLZ2 : Hid ((zs ++ tS (d + 1) 0 f).length = a + (d + 1)) := by show _ = _; rw [List.length_append, HLZ.out, hlz]
    have hn' : n' = c'.len := by
      obtain ⟨A'', C'', e, _⟩ := HF.out.slice
      injection e with _ e _
    have HDN := Lib.hid (dn_succ d f k' x' y' c' r' HD.out)
    have HNN := Lib.hid hn'
    clear hnode hR hlen hlp hlz hLL
    cases c' with
    | cons k2 x2 y2 c2 r2 =>
      obtain ⟨b, off, s, rfl, hSb, hn0, hat⟩ := HF.out.at_ (i := 0) rfl
      obtain ⟨A2, C2, rfl, _, _⟩ := hat.kids.slice
      have e0 := hat.c0; have e1 := hat.c1; have e2 := hat.c2; have e3 := hat.c3
      simp only [Nat.zero_mul, Nat.add_zero] at e0 e1 e2 e3
      have hn1 : (0 : Int) < (n' : Int) := by omega
      have hput := HPS.out.put4 HSAFE.out (.int .i64 k2) (.string x2) (.string y2) (.slice A2 c2.len C2)
      have HK2 := Lib.hid hat.kids
      have HPS3 := Lib.hid hput.1
      have HB3 := Lib.hid (HB.out.trans hput.2)
      have hs2 : c2.size + (d + 1) < f.size := by
        rcases dn_size (d + 1) f with h | h
        · rw [HDN.out] at h; simp only [F.size] at h; omega
        · rw [HDN.out] at h; cases h
      have HS2 := Lib.hid hs2
      clear hat hSb hn' hput hds hs2
      go_wp2
      obtain ⟨w3, hw3⟩ : ∃ w3, ((((wr.setCell ⟨gb, 0, none⟩ (.int .i64 k2)).setCell ⟨gb, 1, none⟩ (.string x2)).setCell ⟨gb, 2, none⟩ (.string y2)).setCell ⟨gb, 3, none⟩ (.slice A2 c2.len C2)) = w3 := ⟨_, rfl⟩
      rw [hw3] at HPS3 HB3 ⊢
      clear q0 q1 q2 q3 z0 z1 z2 z3 m0 m1 m2 m3 f0 f1 f2 f3 e0 e1 e2 e3
      have HKW := Lib.hid (HK2.out.keep (w' := w3) fun q hq => (HPS.out.less HSAFE.out).keep (HPS3.out.less HSAFE.out) (by rw [← hw3]; exact (HPS.out.put4 HSAFE.out _ _ _ _).2) q hq)
      clear hw3 HPS
      obtain ⟨m, hm⟩ : ∃ m, a + (d + 1) = m := ⟨_, rfl⟩
      obtain ⟨aN, cN, aP, cP, aS, cS, aK, cK, ⟨q0, q1, q2, q3⟩, ⟨z0, z1, z2, z3⟩, hnode⟩ := HPS3.out.rd
      rw [HLL.out, hm] at q0
      obtain ⟨R, hR⟩ := HPS3.out.fam
      obtain ⟨⟨m0, m1, m2, m3⟩, f0, f1, f2, f3⟩ := box_mem hR (List.mem_append_right _ List.mem_cons_self)
      have hm5 : m ≤ 50000 := by have := HSA.out; have := HDS.out; omega
      have hm1 : 1 ≤ m := by omega
      have hc2 := F.len_le_size c2
      have HPL := Lib.hid (place_any k2 x2 y2 A2 c2.len C2 c2 ((m : Int) - 1) w3.drew B S _ g _ _ _ _ (HKW.out.drewN 1) (by have := HSA.out; have := HS2.out; omega) (HPS3.out.later (bel_drew w3)) (by rw [HLL.out]; omega) (by rw [HLP2.out]; omega) (by rw [HLZ2.out]; omega) (by rw [List.length_append, HLK.out, (show (tK a (d + 1) 0 f).length = d + 1 by simp [tK, upto, kidF])]; omega))
      have HM := Lib.hid hm
      clear hnode hR hm hc2
      go_still_tail 8, (by kernel_rfl)
      change wpList _ _ _ _ _ w3.drew
      go_wp2_with fail
      refine HPL.out.mono ?_
      rintro e w4 ⟨rfl, hp4, hb4⟩
      have HT := Lib.hid (t_down (p := p) (a := a) HDN.out)
      have HPS4 := Lib.hid (hp4.cast (L' := L ++ tN (d + 1 + 1) 0 f) (ps' := ps ++ tP p a (d + 1 + 1) 0 f) (zs' := zs ++ tS (d + 1 + 1) 0 f) (ks' := ks ++ tK a (d + 1 + 1) 0 f) (by rw [← HT.out.1, List.append_assoc]) (by rw [← HT.out.2.1, List.append_assoc, show pl p a (d + 1) = (m : Int) - 1 by unfold pl; rw [if_neg (by omega)]; have := HM.out; omega]) (by rw [← HT.out.2.2.1, List.append_assoc]) (by rw [← HT.out.2.2.2, List.append_assoc]))
      have HF4 := Lib.hid ((HPS3.out.later (bel_drew w3)).fs hp4 hb4 (HKW.out.drewN 1))
      have HB4 := Lib.hid ((HB3.out.trans ((bel_drew w3).mono HPS3.out.le)).trans hb4)
      have hlen4 := HPS4.out.len
      have hlen0 : nLen wr g = a + (d + 1) := by rw [HW0.out.len, HLL.out]
      have hl4 := (t_len (p := p) (a := a) HDN.out 0).1
      rw [List.length_append, HA.out, hl4] at hlen4
      simp only [upto, F.size, Nat.add_zero] at hlen4
      clear q0 q1 q2 q3 z0 z1 z2 z3 m0 m1 m2 m3 f0 f1 f2 f3 hp4 hb4 hl4
      go_wp2
      go_roundw
      case rel => exact ⟨d + 1, k2, x2, y2, A2, c2.len, C2, c2, r2, HDN.out, HF4.out, HPS4.out, HB4.out⟩
      case measure => rw [hlen0, hlen4]; have := HS2.out; omega
    | nil =>
      obtain rfl : n' = 0 := HNN.out
      have HTB := Lib.hid (t_bottom (p := p) (a := a) HDN.out)
      have HPX := Lib.hid (((HPS.out.less HSAFE.out).cast (L' := L ++ tN (d + 1) 1 f) (ps' := ps ++ tP p a (d + 1) 1 f) (zs' := zs ++ tS (d + 1) 1 f) (ks' := ks ++ tK a (d + 1) 1 f) (by rw [HTB.out.1]) (by rw [HTB.out.2.1]) (by rw [HTB.out.2.2.1]) (by rw [HTB.out.2.2.2])))
      obtain ⟨m, hm⟩ : ∃ m, a + (d + 1) = m := ⟨_, rfl⟩
      rw [hm] at q0
      have hm5 : m ≤ 50000 := by have := HSA.out; have := HDS.out; omega
      have hm1 : 1 ≤ m := by omega
      have HM := Lib.hid hm
      have HCO : Hid (∀ i, i ≤ d → dn i f ≠ .nil) := fun i hi => dn_some d f i hi (by rw [HD.out]; intro h; cases h)
      clear HTB HPS hm hds HW0 HNN hn'
      go_wp2
      clear q0 q1 q2 q3 z0 z1 z2 z3 m0 m1 m2 m3 f0 f1 f2 f3
      go_loopw [7] (fun s7 wr => ∃ (e : Nat) (z : Int), e ≤ d + 1 ∧ z + 1 = (a : Int) + e ∧ s7 = .int .i64 z ∧ Hid (PS wr B S X g (L ++ tN e 1 f) (ps ++ tP p a e 1 f) (zs ++ tS e 1 f) (ks ++ tK a e 1 f)) ∧ Hid (Below B w wr)) (fun s _ => ((intOf s) - a + 1).toNat)
      case atStart => exact ⟨d + 1, (m : Int) - 1, Nat.le_refl _, by have := HM.out; omega, by go_num, HPX.out, HB.out⟩
      case round =>
        clear HPX HB HF HD HDN HLL HLP2 HLZ2
        obtain ⟨e, z, he, hz, rfl, HPS, HB⟩ := hrel
        cases e with
        | zero =>
          have hz' : ¬ (a : Int) ≤ z := by omega
          have HPE := Lib.hid (HPS.out.cast (L' := L ++ nodes f) (ps' := ps ++ parF p a f) (zs' := zs ++ sizF f) (ks' := ks ++ kidF a f) (by rw [HEND.out.1]) (by rw [HEND.out.2.1]) (by rw [HEND.out.2.2.1]) (by rw [HEND.out.2.2.2]))
          clear HPS
          go_wp2
          go_end0
          exact ⟨rfl, HPE.out, HB.out⟩
        | succ d' =>
          obtain ⟨t, ht⟩ : ∃ t, a + d' = t := ⟨_, rfl⟩
          obtain rfl : z = (t : Int) := by omega
          obtain ⟨nk, nx, ny, nc, nr, hdn⟩ := dn_cons (HCO.out d' (by omega))
          have HDQ := Lib.hid hdn
          have HDR := Lib.hid (dn_succ d' f nk nx ny nc nr hdn)
          have hl := t_len (p := p) (a := a) hdn 1
          obtain ⟨ℓ, hℓ⟩ : ∃ ℓ, a + (d' + 1 + (upto 1 nc).size) = ℓ := ⟨_, rfl⟩
          have hL1 : (L ++ tN (d' + 1) 1 f).length = ℓ := by rw [List.length_append, HA.out, hl.1, hℓ]
          have hS1 : (zs ++ tS (d' + 1) 1 f).length = ℓ := by rw [List.length_append, HLZ.out, hl.2.2.1, hℓ]
          have htl : t < ℓ := by omega
          obtain ⟨aN, cN, aP, cP, aS, cS, aK, cK, ⟨q0, q1, q2, q3⟩, ⟨z0, z1, z2, z3⟩, hnode⟩ := HPS.out.rd
          rw [hL1] at q0
          obtain ⟨gN, s, rfl, ⟨v0, v1, v2, v3⟩, hfn⟩ := hnode t _ (by have := t_at hdn 1 L; rwa [HA.out, ht] at this)
          obtain ⟨As, Cs, rfl, _, _⟩ := hfn.slice
          obtain ⟨ln, hln⟩ : ∃ ln, nc.len = ln := ⟨_, rfl⟩
          rw [show (⟨nk, nx, ny, nc⟩ : Nd).c.len = ln from hln] at v3 hfn
          have HFN : Hid (Fs wr S (.slice As ln Cs) nc) := hfn
          have HT := Lib.hid ht
          have HLN := Lib.hid hln
          have hds2 : d' + 1 + nc.size ≤ f.size := by
            rcases dn_size d' f with h | h
            · rw [hdn] at h; simp only [F.size] at h; omega
            · rw [hdn] at h; cases h
          have hln5 : ln ≤ 50000 := by have := HSA.out; have := F.len_le_size nc; omega
          have HDS2 := Lib.hid hds2
          have ht5 : t ≤ 50000 := by have := HSA.out; omega
          have hat0 : (a : Int) ≤ (t : Int) := by omega
          have htl' : (t : Int) < (ℓ : Int) := by omega
          have HPX := Lib.hid (HPS.out.cast rfl rfl rfl (show ks ++ tK a (d' + 1) 1 f = ks ++ tKm a d' 1 0 f by rw [tK_start]))
          have HZ := Lib.hid hz
          have HE := Lib.hid he
          clear hdn hl hL1 hS1 hnode hfn ht hln hds2 hz he hℓ
          go_wp2
          clear q0 q1 q2 q3 z0 z1 z2 z3 v0 v1 v2 v3
          obtain ⟨w5, hw5⟩ : ∃ w5, w5 = wr := ⟨_, rfl⟩
          have HPW := Lib.hid HPS.out
          rw [← hw5] at HPX HB HFN HPS HPW ⊢
          clear hw5
          go_loopw [56] (fun s56 wr => ∃ j : Nat, j ≤ ln ∧ s56 = .int .i64 (j : Int) ∧ Hid (PS wr B S X g (L ++ tN (d' + 1) (max 1 j) f) (ps ++ tP p a (d' + 1) (max 1 j) f) (zs ++ tS (d' + 1) (max 1 j) f) (ks ++ tKm a d' (max 1 j) j f)) ∧ Hid (Below B w5 wr)) (fun s _ => ln - (intOf s).toNat)
          case atStart => exact ⟨0, Nat.zero_le _, rfl, HPX.out, Below.refl _ _⟩
          case round =>
            obtain ⟨j, hj, rfl, HPJ, HBJ⟩ := hrel
            obtain ⟨J, hJ⟩ : ∃ J, max 1 j = J := ⟨_, rfl⟩
            rw [hJ] at HPJ
            have HFJ := Lib.hid (HPW.out.fs HPJ.out HBJ.out HFN.out)
            have HJJ := Lib.hid hJ
            clear HPX hJ
            by_cases hjl : j < ln
            · have hjl' : (j : Int) < (ln : Int) := by omega
              obtain ⟨k3, x3, y3, c3, r3, hdr, _⟩ := F.drop_cons (n := j) (f := nc) (by rw [HLN.out]; exact hjl)
              obtain ⟨b, off, s, rfl, hSb, hjn, hat⟩ := HFJ.out.at_ hdr
              obtain ⟨A3, C3, rfl, _, _⟩ := hat.kids.slice
              have e0 := hat.c0; have e1 := hat.c1; have e2 := hat.c2; have e3 := hat.c3
              have hpb := HPJ.out.box 24 #[.int .i64 k3, .string x3, .string y3, .slice A3 c3.len C3]
              have HB6 : Hid (Below B wr (wr.alloc (.cells #[.int .i64 k3, .string x3, .string y3, .slice A3 c3.len C3] 24))) := (bel1 wr _).mono HPJ.out.le
              have HP6 : Hid (PS (wr.alloc (.cells #[.int .i64 k3, .string x3, .string y3, .slice A3 c3.len C3] 24)) B S (boxT 24 wr.heap.size [.int .i64 k3, .string x3, .string y3, .slice A3 c3.len C3] :: X) g _ _ _ _) := hpb
              have HK6 := Lib.hid (hat.kids.keep (HPJ.out.keep (hpb.less HSAFE.out) HB6.out))
              have HDRJ := Lib.hid hdr
              have HJL := Lib.hid hjl
              clear hat hSb hdr hpb
              by_cases hj0 : j = 0
              · subst hj0
                simp only [Nat.zero_mul, Nat.add_zero] at e0 e1 e2 e3
                have hjl0 : (0 : Int) < (ln : Int) := by omega
                go_wp2
                clear e0 e1 e2 e3
                obtain ⟨XX, hXX⟩ : ∃ XX, boxT 24 wr.heap.size [.int .i64 k3, .string x3, .string y3, .slice A3 c3.len C3] :: X = XX := ⟨_, rfl⟩
                rw [show boxT 24 wr.heap.size [.int .i64 k3, .string x3, .string y3, .slice A3 c3.len C3] :: X = XX from hXX] at HP6
                have HXX := Lib.hid hXX
                clear hXX
                obtain ⟨w6, hw6⟩ : ∃ w6, (wr.alloc (.cells #[.int .i64 k3, .string x3, .string y3, .slice A3 c3.len C3] 24)) = w6 := ⟨_, rfl⟩
                rw [hw6] at HP6 HB6 HK6 ⊢
                clear hw6
                obtain ⟨vN, vP, vS, vK, us, nps, hF, hL, hfs, hus⟩ := HP6.out.all
                have hkt := tKm_at (a := a) J 0 HDQ.out ks HLK.out
                rw [HT.out] at hkt
                obtain ⟨lj, hlj⟩ : ∃ lj, (places (t + 1) nc).take 0 = lj := ⟨_, rfl⟩
                rw [hlj] at hkt
                have htK : t < us.length := by rw [hus]; exact (List.getElem?_eq_some_iff.1 hkt).1
                obtain ⟨aN, cNp, rfl, _, _⟩ := hF.slice (i := 1) rfl
                obtain ⟨gK, cKp, rfl, _, _⟩ := hF.sliceAt (i := 4) rfl (by omega)
                obtain ⟨u, hu⟩ : ∃ u, us[t]? = some u := ⟨_, List.getElem?_eq_getElem htK⟩
                obtain ⟨au, cu, rfl, _, _⟩ := hF.slice (i := t + 5) (pr_at hu hkt)
                have hnl : nps.length = a + (d' + 1 + (upto J nc).size) := by rw [← List.length_map (f := (·.1)), hL, List.length_append, HA.out, (t_len (p := p) (a := a) HDQ.out J).1]
                have hljl : lj.length ≤ 60000 := by rw [← hlj, List.length_take, places_len, HLN.out]; omega
                have hNN5 : (upto J nc).size ≤ nc.size := upto_le J nc
                obtain ⟨NN, hNN⟩ : ∃ NN, nps.length = NN := ⟨_, rfl⟩
                have hN6 : NN ≤ 60000 := by have := HSA.out; have := HDS2.out; omega
                obtain ⟨cN, hcN⟩ : ∃ cN, nps.flatMap ndC = cN := ⟨_, rfl⟩
                obtain ⟨nP, hnP⟩ : ∃ nP, (ps ++ tP p a (d' + 1) J f).length = nP := ⟨_, rfl⟩
                obtain ⟨nS, hnS⟩ : ∃ nS, (zs ++ tS (d' + 1) J f).length = nS := ⟨_, rfl⟩
                obtain ⟨nK, hnK⟩ : ∃ nK, us.length = nK := ⟨_, rfl⟩
                obtain ⟨cP, hcP⟩ : ∃ cP, (ps ++ tP p a (d' + 1) J f).map iv = cP := ⟨_, rfl⟩
                obtain ⟨cS, hcS⟩ : ∃ cS, (zs ++ tS (d' + 1) J f).map iv = cS := ⟨_, rfl⟩
                obtain ⟨kk, hkk⟩ : ∃ kk, ks ++ tKm a d' J 0 f = kk := ⟨_, rfl⟩
                rw [hNN, hcN, hnP, hnS, hnK, hcP, hcS, hkk] at hF
                rw [hkk] at hkt hus
                rw [hNN] at hnl
                rw [hnK] at htK
                have HF6 := Lib.hid hF
                have HUT := Lib.hid hu
                have HKT := Lib.hid hkt
                have HLJ := Lib.hid hljl
                have HO1 := Lib.hid hL
                have HO2 := Lib.hid hfs
                have HO3 := Lib.hid hus
                have HO4 := Lib.hid hNN
                have HO5 := Lib.hid hcN
                have HO6 := Lib.hid hnP
                have HO7 := Lib.hid hcP
                have HO8 := Lib.hid hnS
                have HO9 := Lib.hid hcS
                have HOA := Lib.hid hnK
                have HNL := Lib.hid hnl
                have HKK := Lib.hid hkk
                have HLQ := Lib.hid hlj
                have htK' : (t : Int) < (nK : Int) := by omega
                have HWT := Lib.hid (show IntKind.i64.wrap ((t : Int) + 1) = (t : Int) + 1 by rw [IntKind.wrap_i64]; omega)
                have ht0 : (0 : Int) ≤ (t : Int) := by omega
                clear hF hL hfs hus hkt hu hljl hNN hcN hnP hcP hnS hcS hnK hnl hkk hlj htK hNN5
                refine region_inv2 (AG2 w6 B (fun jj => ([some (.pointer (some ⟨g, 0, none⟩)), some (.pointer (some ⟨g, 0, none⟩)), some (.pointer (some ⟨g, 3, none⟩)), some (.slice (some ⟨gK, 0, none⟩) nK cKp), some (.int .i64 (t : Int)), some (.pointer (some ⟨g, 0, none⟩)), some (.pointer (some ⟨g, 0, none⟩)), some (.pointer (some ⟨g, 3, none⟩)), some (.slice (some ⟨gK, 0, none⟩) nK cKp), some (.int .i64 (t : Int)), some (.pointer (some ⟨gK, t, none⟩)), some (.slice au lj.length cu), some (.int .i64 (t : Int)), some (.int .i64 ((t : Int) + 1)), none, none, some (.pointer (some ⟨gK, t, none⟩)), none] : List (Option Value)).getD jj none) (fun jj => ([none, none, none, none, none, none, none, none, none, none, none, none, none, none, none, none, none, none] : List (Option (Value → Value))).getD jj none) 99 14 15 98 17 (fun b m => match b with | false => PR g (.slice aN NN cNp) vP vS (.slice (some ⟨gK, 0, none⟩) nK cKp) NN cN nP cP nS cS nK us us kk XX | true => (fun _ => PR g (.slice aN NN cNp) vP vS (.slice (some ⟨gK, 0, none⟩) nK cKp) NN cN nP cP nS cS nK us us kk XX) m) (fun _ => [.int .i64 ((t : Int) + 1)]) (fun e s m v => match s, e with | false, false => (fun _ v => (PR g (.slice aN NN cNp) vP vS (.slice (some ⟨gK, 0, none⟩) nK cKp) NN cN nP cP nS cS nK us us kk XX).set (t + 5) (rowT 3 1 v (lj.length + 1) (lj.map nv ++ [.int .i64 ((t : Int) + 1)]))) m v | false, true => (fun _ v => (PR g (.slice aN NN cNp) vP vS (.slice (some ⟨gK, 0, none⟩) nK cKp) NN cN nP cP nS cS nK us us kk XX).set (t + 5) (rowT 3 1 v (lj.length + 1) (lj.map nv ++ [.int .i64 ((t : Int) + 1)]))) m v | true, false => (fun _ v => ((PR g (.slice aN NN cNp) vP vS (.slice (some ⟨gK, 0, none⟩) nK cKp) NN cN nP cP nS cS nK us us kk XX).set (t + 5) (rowT 3 1 v (lj.length + 1) (lj.map nv ++ [.int .i64 ((t : Int) + 1)]))).set 4 (rowT 27 1 (.slice (some ⟨gK, 0, none⟩) nK cKp) nK (us.set t v))) m v | true, true => (fun _ v => ((PR g (.slice aN NN cNp) vP vS (.slice (some ⟨gK, 0, none⟩) nK cKp) NN cN nP cP nS cS nK us us kk XX).set (t + 5) (rowT 3 1 v (lj.length + 1) (lj.map nv ++ [.int .i64 ((t : Int) + 1)]))).set 4 (rowT 27 1 (.slice (some ⟨gK, 0, none⟩) nK cKp) nK (us.set t v))) m v)) (by kernel_rfl) (by decide) (by kernel_rfl) (fun _ => AG2.start HF6.out (fun _ => rfl)) ?steps ?done
                case steps =>
                  intro L xv W hI hcl a ha
                  have hBW : B ≤ W.heap.size := Nat.le_trans (show B ≤ w6.heap.size from HF6.out.B) hI.bel.size
                  simp only [fillA] at ha
                  simp only [List.setIfInBounds_toArray, List.set_cons_succ, List.set_cons_zero, Nat.zero_add, Nat.reduceAdd] at ha
                  subst ha
                  refine ⟨fun hL hd K hK => ?s0, fun hL hd K hK => ?s1, fun hL hd K hK => ?s2, fun hL hd K hK => ?s3, fun hL hd K hK => ?s4, fun hL hd K hK => ?s5, fun hL hd K hK => ?s6, fun hL hd K hK => ?s7, fun hL hd K hK => ?s8, fun hL hd K hK => ?s9, fun hL hd K hK => ?s10, fun hL hd K hK => ?s11, fun hL hd K hK => ?s12, fun hL hd K hK => ?s13, fun hL hd K hK => ?s14, fun hL hd K hK => ?s15, fun hL hd K hK => ?s16, fun hL hd K hK => ?s17, trivial⟩
                  case s0 =>
                    clear hd
                    simp only [Act.put, List.setIfInBounds_toArray, List.set_cons_succ, List.set_cons_zero] at hK
                    refine (if_pos (by rfl)).mpr ?_
                    go_simp
                    exact hK.out _ _ (hI.quiet hBW (Below.refl _ _) (.inr rfl) (.inl rfl) (by decide) (by decide) (by decide) (by decide) (by decide))
                  case s1 =>
                    have hx0 : xv 0 = .pointer (some ⟨g, 0, none⟩) := hI.kc 0 _ rfl (hd 0 (by kernel_rfl))
                    clear hd
                    simp only [Act.put, List.setIfInBounds_toArray, List.set_cons_succ, List.set_cons_zero] at hK
                    rw [hx0] at hK ⊢
                    refine (if_pos (by rfl)).mpr ?_
                    go_simp
                    exact hK.out _ _ (hI.quiet hBW (Below.refl _ _) (.inr rfl) (.inl rfl) (by decide) (by decide) (by decide) (by decide) (by decide))
                  case s2 =>
                    have hx1 : xv 1 = .pointer (some ⟨g, 0, none⟩) := hI.kc 1 _ rfl (hd 1 (by kernel_rfl))
                    clear hd
                    simp only [Act.put, List.setIfInBounds_toArray, List.set_cons_succ, List.set_cons_zero] at hK
                    rw [hx1] at hK ⊢
                    refine (if_pos (by rfl)).mpr ?_
                    go_simp
                    exact hK.out _ _ (hI.quiet hBW (Below.refl _ _) (.inr rfl) (.inl rfl) (by decide) (by decide) (by decide) (by decide) (by decide))
                  case s3 =>
                    have hx2 : xv 2 = .pointer (some ⟨g, 3, none⟩) := hI.kc 2 _ rfl (hd 2 (by kernel_rfl))
                    have hq3 : W.cell? ⟨g, 3, none⟩ = some (.slice (some ⟨gK, 0, none⟩) nK cKp) := by
                      cases hA : L 15 with
                      | false => have hF : Fam W B (PR g (.slice aN NN cNp) vP vS (.slice (some ⟨gK, 0, none⟩) nK cKp) NN cN nP cP nS cS nK us us kk XX) := by have h := hI.f0 hA; cases hm : L 99 with | false => rw [hm] at h; exact h | true => rw [hm] at h; exact h
                                 exact (box_at hF (j := 0) rfl).1.2.2.2
                      | true => have hF : Fam W B ((fun _ v => (PR g (.slice aN NN cNp) vP vS (.slice (some ⟨gK, 0, none⟩) nK cKp) NN cN nP cP nS cS nK us us kk XX).set (t + 5) (rowT 3 1 v (lj.length + 1) (lj.map nv ++ [.int .i64 ((t : Int) + 1)]))) (xv 99) (xv 15)) := by have h := hI.f1 hA; rw [show L 17 = false from (notRun (i := 16) (r := 17) hcl (notRun (i := 3) (r := 16) hcl hL (by kernel_rfl)) (by kernel_rfl))] at h; cases he : L 98 with | false => rw [he] at h; exact h | true => rw [he] at h; exact h
                                exact (box_at hF (j := 0) rfl).1.2.2.2
                    clear hd
                    simp only [Act.put, List.setIfInBounds_toArray, List.set_cons_succ, List.set_cons_zero] at hK
                    rw [hx2] at hK ⊢
                    refine (if_pos (by rfl)).mpr ?_
                    go_simp
                    exact hK.out _ _ (hI.quiet hBW (Below.refl _ _) (.inr rfl) (.inl rfl) (by decide) (by decide) (by decide) (by decide) (by decide))
                  case s4 =>
                    clear hd
                    simp only [Act.put, List.setIfInBounds_toArray, List.set_cons_succ, List.set_cons_zero] at hK
                    refine (if_pos (by rfl)).mpr ?_
                    go_simp
                    exact hK.out _ _ (hI.quiet hBW (Below.refl _ _) (.inr rfl) (.inl rfl) (by decide) (by decide) (by decide) (by decide) (by decide))
                  case s5 =>
                    clear hd
                    simp only [Act.put, List.setIfInBounds_toArray, List.set_cons_succ, List.set_cons_zero] at hK
                    refine (if_pos (by rfl)).mpr ?_
                    go_simp
                    exact hK.out _ _ (hI.quiet hBW (Below.refl _ _) (.inr rfl) (.inl rfl) (by decide) (by decide) (by decide) (by decide) (by decide))
                  case s6 =>
                    have hx5 : xv 5 = .pointer (some ⟨g, 0, none⟩) := hI.kc 5 _ rfl (hd 5 (by kernel_rfl))
                    clear hd
                    simp only [Act.put, List.setIfInBounds_toArray, List.set_cons_succ, List.set_cons_zero] at hK
                    rw [hx5] at hK ⊢
                    refine (if_pos (by rfl)).mpr ?_
                    go_simp
                    exact hK.out _ _ (hI.quiet hBW (Below.refl _ _) (.inr rfl) (.inl rfl) (by decide) (by decide) (by decide) (by decide) (by decide))
                  case s7 =>
                    have hx6 : xv 6 = .pointer (some ⟨g, 0, none⟩) := hI.kc 6 _ rfl (hd 6 (by kernel_rfl))
                    clear hd
                    simp only [Act.put, List.setIfInBounds_toArray, List.set_cons_succ, List.set_cons_zero] at hK
                    rw [hx6] at hK ⊢
                    refine (if_pos (by rfl)).mpr ?_
                    go_simp
                    exact hK.out _ _ (hI.quiet hBW (Below.refl _ _) (.inr rfl) (.inl rfl) (by decide) (by decide) (by decide) (by decide) (by decide))
                  case s8 =>
                    have hx7 : xv 7 = .pointer (some ⟨g, 3, none⟩) := hI.kc 7 _ rfl (hd 7 (by kernel_rfl))
                    have hF : Fam W B (PR g (.slice aN NN cNp) vP vS (.slice (some ⟨gK, 0, none⟩) nK cKp) NN cN nP cP nS cS nK us us kk XX) := by have h := hI.f0 (notRun (i := 11) (r := 15) hcl (notRun (i := 10) (r := 11) hcl (notRun (i := 8) (r := 10) hcl hL (by kernel_rfl)) (by kernel_rfl)) (by kernel_rfl)); cases hm : L 99 with | false => rw [hm] at h; exact h | true => rw [hm] at h; exact h
                    clear hd
                    obtain ⟨⟨q0, q1, q2, q3⟩, z0, z1, z2, z3⟩ := box_at hF (j := 0) rfl
                    simp only [Act.put, List.setIfInBounds_toArray, List.set_cons_succ, List.set_cons_zero] at hK
                    rw [hx7] at hK ⊢
                    refine (if_pos (by rfl)).mpr ?_
                    go_simp
                    exact hK.out _ _ (hI.quiet hBW (Below.refl _ _) (.inr rfl) (.inl rfl) (by decide) (by decide) (by decide) (by decide) (by decide))
                  case s9 =>
                    clear hd
                    simp only [Act.put, List.setIfInBounds_toArray, List.set_cons_succ, List.set_cons_zero] at hK
                    refine (if_pos (by rfl)).mpr ?_
                    go_simp
                    exact hK.out _ _ (hI.quiet hBW (Below.refl _ _) (.inr rfl) (.inl rfl) (by decide) (by decide) (by decide) (by decide) (by decide))
                  case s10 =>
                    have hx8 : xv 8 = .slice (some ⟨gK, 0, none⟩) nK cKp := hI.kc 8 _ rfl (hd 8 (by kernel_rfl))
                    have hx9 : xv 9 = .int .i64 (t : Int) := hI.kc 9 _ rfl (hd 9 (by kernel_rfl))
                    clear hd
                    simp only [Act.put, List.setIfInBounds_toArray, List.set_cons_succ, List.set_cons_zero] at hK
                    rw [hx8] at hK ⊢
                    rw [hx9] at hK ⊢
                    refine (if_pos (by rfl)).mpr ?_
                    go_simp
                    exact hK.out _ _ (hI.quiet hBW (Below.refl _ _) (.inr rfl) (.inl rfl) (by decide) (by decide) (by decide) (by decide) (by decide))
                  case s11 =>
                    have hx10 : xv 10 = .pointer (some ⟨gK, t, none⟩) := hI.kc 10 _ rfl (hd 10 (by kernel_rfl))
                    have hF : Fam W B (PR g (.slice aN NN cNp) vP vS (.slice (some ⟨gK, 0, none⟩) nK cKp) NN cN nP cP nS cS nK us us kk XX) := by have h := hI.f0 (notRun (i := 11) (r := 15) hcl hL (by kernel_rfl)); cases hm : L 99 with | false => rw [hm] at h; exact h | true => rw [hm] at h; exact h
                    clear hd
                    have hku := hF.cell (i := 4) rfl HUT.out
                    simp only [Act.put, List.setIfInBounds_toArray, List.set_cons_succ, List.set_cons_zero] at hK
                    rw [hx10] at hK ⊢
                    refine (if_pos (by rfl)).mpr ?_
                    go_simp
                    exact hK.out _ _ (hI.quiet hBW (Below.refl _ _) (.inr rfl) (.inl rfl) (by decide) (by decide) (by decide) (by decide) (by decide))
                  case s12 =>
                    clear hd
                    simp only [Act.put, List.setIfInBounds_toArray, List.set_cons_succ, List.set_cons_zero] at hK
                    refine (if_pos (by rfl)).mpr ?_
                    go_simp
                    exact hK.out _ _ (hI.quiet hBW (Below.refl _ _) (.inr rfl) (.inl rfl) (by decide) (by decide) (by decide) (by decide) (by decide))
                  case s13 =>
                    have hx12 : xv 12 = .int .i64 (t : Int) := hI.kc 12 _ rfl (hd 12 (by kernel_rfl))
                    clear hd
                    have hwr := HWT.out
                    simp only [Act.put, List.setIfInBounds_toArray, List.set_cons_succ, List.set_cons_zero] at hK
                    rw [hx12] at hK ⊢
                    refine (if_pos (by rfl)).mpr ?_
                    go_simp
                    exact hK.out _ _ (hI.quiet hBW (Below.refl _ _) (.inr rfl) (.inl rfl) (by decide) (by decide) (by decide) (by decide) (by decide))
                  case s14 =>
                    have hx13 : xv 13 = .int .i64 ((t : Int) + 1) := hI.kc 13 _ rfl (hd 13 (by kernel_rfl))
                    clear hd
                    simp only [Act.put, List.setIfInBounds_toArray, List.set_cons_succ, List.set_cons_zero] at hK
                    rw [hx13] at hK ⊢
                    refine (if_pos (by rfl)).mpr ?_
                    have hbn := below1 W (.cells #[.int .i64 ((t : Int) + 1)] 3)
                    have hcn := new_cells W [.int .i64 ((t : Int) + 1)] 3
                    go_simp
                    exact hK.out _ _ (hI.build hBW hbn rfl rfl (by decide) (by decide) (by decide) (by decide) rfl (hcn))
                  case s15 =>
                    have hx11 : xv 11 = .slice au lj.length cu := hI.kc 11 _ rfl (hd 11 (by kernel_rfl))
                    have hF : Fam W B (PR g (.slice aN NN cNp) vP vS (.slice (some ⟨gK, 0, none⟩) nK cKp) NN cN nP cP nS cS nK us us kk XX) := by have h := hI.f0 hL; cases hm : L 99 with | false => rw [hm] at h; exact h | true => rw [hm] at h; exact h
                    obtain ⟨gb, cb, hxb, hcb⟩ := hI.fb (hd 14 (by kernel_rfl)) hL
                    obtain ⟨v', W', hr, hf, hb, _⟩ := hF.run_app1 (i := t + 5) (pr_at HUT.out HKT.out) _ Tryd.underlying27 hi0 hz0 hz1 hz2 rfl (by decide) (by decide) rfl hcb (by intro u hu; rw [List.mem_singleton.1 hu]; rfl) (by have := HLJ.out; omega)
                    simp only [Act.put, List.setIfInBounds_toArray, List.set_cons_succ, List.set_cons_zero] at hK
                    rw [hx11] at hK ⊢
                    rw [hxb] at hK ⊢
                    refine (if_pos (by rfl)).mpr ?_
                    exact op_append rfl rfl rfl hr (hK.out _ _ (hI.app rfl rfl (by decide) (by decide) (by decide) hL hb hf))
                  case s16 =>
                    have hx3 : xv 3 = .slice (some ⟨gK, 0, none⟩) nK cKp := hI.kc 3 _ rfl (hd 3 (by kernel_rfl))
                    have hx4 : xv 4 = .int .i64 (t : Int) := hI.kc 4 _ rfl (hd 4 (by kernel_rfl))
                    clear hd
                    simp only [Act.put, List.setIfInBounds_toArray, List.set_cons_succ, List.set_cons_zero] at hK
                    rw [hx3] at hK ⊢
                    rw [hx4] at hK ⊢
                    refine (if_pos (by rfl)).mpr ?_
                    go_simp
                    exact hK.out _ _ (hI.quiet hBW (Below.refl _ _) (.inr rfl) (.inl rfl) (by decide) (by decide) (by decide) (by decide) (by decide))
                  case s17 =>
                    have hx16 : xv 16 = .pointer (some ⟨gK, t, none⟩) := hI.kc 16 _ rfl (hd 16 (by kernel_rfl))
                    have hA := hd 15 (by kernel_rfl)
                    have hF : Fam W B ((fun _ v => (PR g (.slice aN NN cNp) vP vS (.slice (some ⟨gK, 0, none⟩) nK cKp) NN cN nP cP nS cS nK us us kk XX).set (t + 5) (rowT 3 1 v (lj.length + 1) (lj.map nv ++ [.int .i64 ((t : Int) + 1)]))) (xv 99) (xv 15)) := by have h := hI.f1 hA; rw [hL] at h; cases he : L 98 with | false => rw [he] at h; exact h | true => rw [he] at h; exact h
                    clear hd
                    have hku := hF.cell (i := 4) rfl HUT.out
                    have zku := hF.frz (i := 4) rfl t
                    obtain ⟨aS, cS, hxS, _, _⟩ := hF.slice (i := t + 5) (pr_set_at (pr_at HUT.out HKT.out))
                    have hFS := hF.store (i := 4) rfl (t) (xv 15)
                    rw [show W.setCell ⟨gK, t, none⟩ (xv 15) = W.setCell ⟨gK, t, none⟩ (.slice aS _ cS) from by rw [hxS]] at hFS
                    simp only [Act.put] at hK
                    rw [hx16] at hK ⊢
                    rw [hxS] at hK ⊢
                    refine (if_pos (by rfl)).mpr ?_
                    go_simp
                    exact hK.out undef _ (hI.store rfl rfl (by decide) (by decide) (by decide) hA hFS.2 (by cases he : L 98 with | false => exact hFS.1 | true => exact hFS.1))
                case done =>
                  intro Lq xv W hI hall a ha
                  have hF : Fam W B ((fun _ v => ((PR g (.slice aN NN cNp) vP vS (.slice (some ⟨gK, 0, none⟩) nK cKp) NN cN nP cP nS cS nK us us kk XX).set (t + 5) (rowT 3 1 v (lj.length + 1) (lj.map nv ++ [.int .i64 ((t : Int) + 1)]))).set 4 (rowT 27 1 (.slice (some ⟨gK, 0, none⟩) nK cKp) nK (us.set t v))) (xv 99) (xv 15)) := by have h := hI.f1 (hall 15 (by decide)); rw [hall 17 (by decide)] at h; cases he : Lq 98 with | false => rw [he] at h; exact h | true => rw [he] at h; exact h
                  have hBl := hI.bel
                  have hx0 : xv 0 = .pointer (some ⟨g, 0, none⟩) := hI.kc 0 _ rfl (hall 0 (by decide))
                  have hx1 : xv 1 = .pointer (some ⟨g, 0, none⟩) := hI.kc 1 _ rfl (hall 1 (by decide))
                  have hx2 : xv 2 = .pointer (some ⟨g, 3, none⟩) := hI.kc 2 _ rfl (hall 2 (by decide))
                  have hx3 : xv 3 = .slice (some ⟨gK, 0, none⟩) nK cKp := hI.kc 3 _ rfl (hall 3 (by decide))
                  have hx4 : xv 4 = .int .i64 (t : Int) := hI.kc 4 _ rfl (hall 4 (by decide))
                  have hx5 : xv 5 = .pointer (some ⟨g, 0, none⟩) := hI.kc 5 _ rfl (hall 5 (by decide))
                  have hx6 : xv 6 = .pointer (some ⟨g, 0, none⟩) := hI.kc 6 _ rfl (hall 6 (by decide))
                  have hx7 : xv 7 = .pointer (some ⟨g, 3, none⟩) := hI.kc 7 _ rfl (hall 7 (by decide))
                  have hx8 : xv 8 = .slice (some ⟨gK, 0, none⟩) nK cKp := hI.kc 8 _ rfl (hall 8 (by decide))
                  have hx9 : xv 9 = .int .i64 (t : Int) := hI.kc 9 _ rfl (hall 9 (by decide))
                  have hx10 : xv 10 = .pointer (some ⟨gK, t, none⟩) := hI.kc 10 _ rfl (hall 10 (by decide))
                  have hx11 : xv 11 = .slice au lj.length cu := hI.kc 11 _ rfl (hall 11 (by decide))
                  have hx12 : xv 12 = .int .i64 (t : Int) := hI.kc 12 _ rfl (hall 12 (by decide))
                  have hx13 : xv 13 = .int .i64 ((t : Int) + 1) := hI.kc 13 _ rfl (hall 13 (by decide))
                  have hx16 : xv 16 = .pointer (some ⟨gK, t, none⟩) := hI.kc 16 _ rfl (hall 16 (by decide))
                  simp only [fillA] at ha
                  simp only [List.setIfInBounds_toArray, List.set_cons_succ, List.set_cons_zero, Nat.zero_add, Nat.reduceAdd] at ha
                  subst ha
                  clear hI hall
                  have HE := HP6.out.appended (q := t + 1) HO1.out HO2.out (by rw [HKK.out]; exact HO3.out) HO4.out HO5.out HO6.out HO7.out HO8.out HO9.out HOA.out (by rw [HKK.out]; exact HKT.out) (by rw [HKK.out]; exact hF) hBl
                  have hpl := places_at (a + d' + 1) HDRJ.out
                  have hset := tKm_set (q := t + 1) J 0 HDQ.out ks HLK.out (by rw [hpl, ← HT.out]; rfl)
                  rw [HT.out, HLQ.out] at hset
                  rw [← HXX.out] at HE
                  have hJ1 : J = max 1 (0 + 1) := by have := HJJ.out; omega
                  have hpn := (HE.less HSAFE.out).cast rfl rfl rfl hset
                  rw [hJ1] at hpn
                  have HPN := Lib.hid hpn
                  clear hpn
                  have HBN := Lib.hid ((HBJ.out.trans HB6.out).trans hBl)
                  clear hF hBl HE hset hpl hJ1 hx0 hx1 hx2 hx3 hx4 hx5 hx6 hx7 hx8 hx9 hx10 hx11 hx12 hx13 hx16
                  go_wp2
                  go_roundw
                  case rel => exact ⟨0 + 1, by have := HJL.out; omega, by go_num, HPN.out, HBN.out⟩
                  case measure => have := HJL.out; simp [intOf]; omega
              · have hj0' : ((j : Int) == 0) = false := by simp; omega
                obtain rfl : j = J := by have := HJJ.out; omega
                go_wp2
                clear e0 e1 e2 e3
                obtain ⟨XX, hXX⟩ : ∃ XX, boxT 24 wr.heap.size [.int .i64 k3, .string x3, .string y3, .slice A3 c3.len C3] :: X = XX := ⟨_, rfl⟩
                rw [show boxT 24 wr.heap.size [.int .i64 k3, .string x3, .string y3, .slice A3 c3.len C3] :: X = XX from hXX] at HP6
                have HXX := Lib.hid hXX
                clear hXX
                obtain ⟨gk, hgk⟩ : ∃ gk, wr.heap.size = gk := ⟨_, rfl⟩
                have HGK := Lib.hid hgk
                obtain ⟨w6, hw6⟩ : ∃ w6, (wr.alloc (.cells #[.int .i64 k3, .string x3, .string y3, .slice A3 c3.len C3] 24)) = w6 := ⟨_, rfl⟩
                rw [hw6] at HP6 HB6 HK6 ⊢
                rw [hgk]
                clear hw6 hgk
                obtain ⟨vN, vP, vS, vK, us, nps, hF, hL, hfs, hus⟩ := HP6.out.all
                have hkt := tKm_at (a := a) j j HDQ.out ks HLK.out
                rw [HT.out] at hkt
                obtain ⟨lj, hlj⟩ : ∃ lj, (places (t + 1) nc).take j = lj := ⟨_, rfl⟩
                rw [hlj] at hkt
                have htK : t < us.length := by rw [hus]; exact (List.getElem?_eq_some_iff.1 hkt).1
                obtain ⟨aN, cNp, rfl, _, _⟩ := hF.slice (i := 1) rfl
                obtain ⟨gK, cKp, rfl, _, _⟩ := hF.sliceAt (i := 4) rfl (by omega)
                obtain ⟨u, hu⟩ : ∃ u, us[t]? = some u := ⟨_, List.getElem?_eq_getElem htK⟩
                obtain ⟨au, cu, rfl, _, _⟩ := hF.slice (i := t + 5) (pr_at hu hkt)
                have hnl : nps.length = a + (d' + 1 + (upto j nc).size) := by rw [← List.length_map (f := (·.1)), hL, List.length_append, HA.out, (t_len (p := p) (a := a) HDQ.out j).1]
                have hljl : lj.length ≤ 60000 := by rw [← hlj, List.length_take, places_len, HLN.out]; omega
                have hNN5 : (upto j nc).size ≤ nc.size := upto_le j nc
                obtain ⟨NN, hNN⟩ : ∃ NN, nps.length = NN := ⟨_, rfl⟩
                have hN6 : NN ≤ 60000 := by have := HSA.out; have := HDS2.out; omega
                obtain ⟨cN, hcN⟩ : ∃ cN, nps.flatMap ndC = cN := ⟨_, rfl⟩
                obtain ⟨nP, hnP⟩ : ∃ nP, (ps ++ tP p a (d' + 1) j f).length = nP := ⟨_, rfl⟩
                obtain ⟨nS, hnS⟩ : ∃ nS, (zs ++ tS (d' + 1) j f).length = nS := ⟨_, rfl⟩
                obtain ⟨nK, hnK⟩ : ∃ nK, us.length = nK := ⟨_, rfl⟩
                obtain ⟨cP, hcP⟩ : ∃ cP, (ps ++ tP p a (d' + 1) j f).map iv = cP := ⟨_, rfl⟩
                obtain ⟨cS, hcS⟩ : ∃ cS, (zs ++ tS (d' + 1) j f).map iv = cS := ⟨_, rfl⟩
                obtain ⟨kk, hkk⟩ : ∃ kk, ks ++ tKm a d' j j f = kk := ⟨_, rfl⟩
                rw [hNN, hcN, hnP, hnS, hnK, hcP, hcS, hkk] at hF
                rw [hkk] at hkt hus
                rw [hNN] at hnl
                rw [hnK] at htK
                have HF6 := Lib.hid hF
                have HUT := Lib.hid hu
                have HKT := Lib.hid hkt
                have HLJ := Lib.hid hljl
                have HO1 := Lib.hid hL
                have HO2 := Lib.hid hfs
                have HO3 := Lib.hid hus
                have HO4 := Lib.hid hNN
                have HO5 := Lib.hid hcN
                have HO6 := Lib.hid hnP
                have HO7 := Lib.hid hcP
                have HO8 := Lib.hid hnS
                have HO9 := Lib.hid hcS
                have HOA := Lib.hid hnK
                have HNL := Lib.hid hnl
                have HKK := Lib.hid hkk
                have HLQ := Lib.hid hlj
                have htK' : (t : Int) < (nK : Int) := by omega
                have HWT := Lib.hid (show IntKind.i64.wrap ((t : Int) + 1) = (t : Int) + 1 by rw [IntKind.wrap_i64]; omega)
                have ht0 : (0 : Int) ≤ (t : Int) := by omega
                clear hF hL hfs hus hkt hu hljl hNN hcN hnP hcP hnS hcS hnK hnl hkk hlj htK hNN5
                refine region_inv2 (AG2 w6 B (fun jj => ([some (.pointer (some ⟨g, 0, none⟩)), some (.pointer (some ⟨g, 0, none⟩)), some (.pointer (some ⟨g, 3, none⟩)), some (.slice (some ⟨gK, 0, none⟩) nK cKp), some (.int .i64 (t : Int)), some (.pointer (some ⟨g, 0, none⟩)), some (.pointer (some ⟨g, 0, none⟩)), some (.pointer (some ⟨g, 3, none⟩)), some (.slice (some ⟨gK, 0, none⟩) nK cKp), some (.int .i64 (t : Int)), some (.pointer (some ⟨gK, t, none⟩)), some (.slice au lj.length cu), some (.pointer (some ⟨g, 0, none⟩)), some (.pointer (some ⟨g, 0, none⟩)), some (.pointer (some ⟨g, 0, none⟩)), some (.slice aN NN cNp), some (.int .i64 (NN : Int)), none, none, some (.pointer (some ⟨gK, t, none⟩)), none] : List (Option Value)).getD jj none) (fun jj => ([none, none, none, none, none, none, none, none, none, none, none, none, none, none, none, none, none, none, none, none, none] : List (Option (Value → Value))).getD jj none) 99 17 18 98 20 (fun b m => match b with | false => PR g (.slice aN NN cNp) vP vS (.slice (some ⟨gK, 0, none⟩) nK cKp) NN cN nP cP nS cS nK us us kk XX | true => (fun _ => PR g (.slice aN NN cNp) vP vS (.slice (some ⟨gK, 0, none⟩) nK cKp) NN cN nP cP nS cS nK us us kk XX) m) (fun _ => [.int .i64 ((NN : Int))]) (fun e s m v => match s, e with | false, false => (fun _ v => (PR g (.slice aN NN cNp) vP vS (.slice (some ⟨gK, 0, none⟩) nK cKp) NN cN nP cP nS cS nK us us kk XX).set (t + 5) (rowT 3 1 v (lj.length + 1) (lj.map nv ++ [.int .i64 ((NN : Int))]))) m v | false, true => (fun _ v => (PR g (.slice aN NN cNp) vP vS (.slice (some ⟨gK, 0, none⟩) nK cKp) NN cN nP cP nS cS nK us us kk XX).set (t + 5) (rowT 3 1 v (lj.length + 1) (lj.map nv ++ [.int .i64 ((NN : Int))]))) m v | true, false => (fun _ v => ((PR g (.slice aN NN cNp) vP vS (.slice (some ⟨gK, 0, none⟩) nK cKp) NN cN nP cP nS cS nK us us kk XX).set (t + 5) (rowT 3 1 v (lj.length + 1) (lj.map nv ++ [.int .i64 ((NN : Int))]))).set 4 (rowT 27 1 (.slice (some ⟨gK, 0, none⟩) nK cKp) nK (us.set t v))) m v | true, true => (fun _ v => ((PR g (.slice aN NN cNp) vP vS (.slice (some ⟨gK, 0, none⟩) nK cKp) NN cN nP cP nS cS nK us us kk XX).set (t + 5) (rowT 3 1 v (lj.length + 1) (lj.map nv ++ [.int .i64 ((NN : Int))]))).set 4 (rowT 27 1 (.slice (some ⟨gK, 0, none⟩) nK cKp) nK (us.set t v))) m v)) (by kernel_rfl) (by decide) (by kernel_rfl) (fun _ => AG2.start HF6.out (fun _ => rfl)) ?steps ?done
                case steps =>
                  intro L xv W hI hcl a ha
                  have hBW : B ≤ W.heap.size := Nat.le_trans (show B ≤ w6.heap.size from HF6.out.B) hI.bel.size
                  simp only [fillA] at ha
                  simp only [List.setIfInBounds_toArray, List.set_cons_succ, List.set_cons_zero, Nat.zero_add, Nat.reduceAdd] at ha
                  subst ha
                  refine ⟨fun hL hd K hK => ?s0, fun hL hd K hK => ?s1, fun hL hd K hK => ?s2, fun hL hd K hK => ?s3, fun hL hd K hK => ?s4, fun hL hd K hK => ?s5, fun hL hd K hK => ?s6, fun hL hd K hK => ?s7, fun hL hd K hK => ?s8, fun hL hd K hK => ?s9, fun hL hd K hK => ?s10, fun hL hd K hK => ?s11, fun hL hd K hK => ?s12, fun hL hd K hK => ?s13, fun hL hd K hK => ?s14, fun hL hd K hK => ?s15, fun hL hd K hK => ?s16, fun hL hd K hK => ?s17, fun hL hd K hK => ?s18, fun hL hd K hK => ?s19, fun hL hd K hK => ?s20, trivial⟩
                  case s0 =>
                    clear hd
                    simp only [Act.put, List.setIfInBounds_toArray, List.set_cons_succ, List.set_cons_zero] at hK
                    refine (if_pos (by rfl)).mpr ?_
                    go_simp
                    exact hK.out _ _ (hI.quiet hBW (Below.refl _ _) (.inr rfl) (.inl rfl) (by decide) (by decide) (by decide) (by decide) (by decide))
                  case s1 =>
                    have hx0 : xv 0 = .pointer (some ⟨g, 0, none⟩) := hI.kc 0 _ rfl (hd 0 (by kernel_rfl))
                    clear hd
                    simp only [Act.put, List.setIfInBounds_toArray, List.set_cons_succ, List.set_cons_zero] at hK
                    rw [hx0] at hK ⊢
                    refine (if_pos (by rfl)).mpr ?_
                    go_simp
                    exact hK.out _ _ (hI.quiet hBW (Below.refl _ _) (.inr rfl) (.inl rfl) (by decide) (by decide) (by decide) (by decide) (by decide))
                  case s2 =>
                    have hx1 : xv 1 = .pointer (some ⟨g, 0, none⟩) := hI.kc 1 _ rfl (hd 1 (by kernel_rfl))
                    clear hd
                    simp only [Act.put, List.setIfInBounds_toArray, List.set_cons_succ, List.set_cons_zero] at hK
                    rw [hx1] at hK ⊢
                    refine (if_pos (by rfl)).mpr ?_
                    go_simp
                    exact hK.out _ _ (hI.quiet hBW (Below.refl _ _) (.inr rfl) (.inl rfl) (by decide) (by decide) (by decide) (by decide) (by decide))
                  case s3 =>
                    have hx2 : xv 2 = .pointer (some ⟨g, 3, none⟩) := hI.kc 2 _ rfl (hd 2 (by kernel_rfl))
                    have hq3 : W.cell? ⟨g, 3, none⟩ = some (.slice (some ⟨gK, 0, none⟩) nK cKp) := by
                      cases hA : L 18 with
                      | false => have hF : Fam W B (PR g (.slice aN NN cNp) vP vS (.slice (some ⟨gK, 0, none⟩) nK cKp) NN cN nP cP nS cS nK us us kk XX) := by have h := hI.f0 hA; cases hm : L 99 with | false => rw [hm] at h; exact h | true => rw [hm] at h; exact h
                                 exact (box_at hF (j := 0) rfl).1.2.2.2
                      | true => have hF : Fam W B ((fun _ v => (PR g (.slice aN NN cNp) vP vS (.slice (some ⟨gK, 0, none⟩) nK cKp) NN cN nP cP nS cS nK us us kk XX).set (t + 5) (rowT 3 1 v (lj.length + 1) (lj.map nv ++ [.int .i64 ((NN : Int))]))) (xv 99) (xv 18)) := by have h := hI.f1 hA; rw [show L 20 = false from (notRun (i := 19) (r := 20) hcl (notRun (i := 3) (r := 19) hcl hL (by kernel_rfl)) (by kernel_rfl))] at h; cases he : L 98 with | false => rw [he] at h; exact h | true => rw [he] at h; exact h
                                exact (box_at hF (j := 0) rfl).1.2.2.2
                    clear hd
                    simp only [Act.put, List.setIfInBounds_toArray, List.set_cons_succ, List.set_cons_zero] at hK
                    rw [hx2] at hK ⊢
                    refine (if_pos (by rfl)).mpr ?_
                    go_simp
                    exact hK.out _ _ (hI.quiet hBW (Below.refl _ _) (.inr rfl) (.inl rfl) (by decide) (by decide) (by decide) (by decide) (by decide))
                  case s4 =>
                    clear hd
                    simp only [Act.put, List.setIfInBounds_toArray, List.set_cons_succ, List.set_cons_zero] at hK
                    refine (if_pos (by rfl)).mpr ?_
                    go_simp
                    exact hK.out _ _ (hI.quiet hBW (Below.refl _ _) (.inr rfl) (.inl rfl) (by decide) (by decide) (by decide) (by decide) (by decide))
                  case s5 =>
                    clear hd
                    simp only [Act.put, List.setIfInBounds_toArray, List.set_cons_succ, List.set_cons_zero] at hK
                    refine (if_pos (by rfl)).mpr ?_
                    go_simp
                    exact hK.out _ _ (hI.quiet hBW (Below.refl _ _) (.inr rfl) (.inl rfl) (by decide) (by decide) (by decide) (by decide) (by decide))
                  case s6 =>
                    have hx5 : xv 5 = .pointer (some ⟨g, 0, none⟩) := hI.kc 5 _ rfl (hd 5 (by kernel_rfl))
                    clear hd
                    simp only [Act.put, List.setIfInBounds_toArray, List.set_cons_succ, List.set_cons_zero] at hK
                    rw [hx5] at hK ⊢
                    refine (if_pos (by rfl)).mpr ?_
                    go_simp
                    exact hK.out _ _ (hI.quiet hBW (Below.refl _ _) (.inr rfl) (.inl rfl) (by decide) (by decide) (by decide) (by decide) (by decide))
                  case s7 =>
                    have hx6 : xv 6 = .pointer (some ⟨g, 0, none⟩) := hI.kc 6 _ rfl (hd 6 (by kernel_rfl))
                    clear hd
                    simp only [Act.put, List.setIfInBounds_toArray, List.set_cons_succ, List.set_cons_zero] at hK
                    rw [hx6] at hK ⊢
                    refine (if_pos (by rfl)).mpr ?_
                    go_simp
                    exact hK.out _ _ (hI.quiet hBW (Below.refl _ _) (.inr rfl) (.inl rfl) (by decide) (by decide) (by decide) (by decide) (by decide))
                  case s8 =>
                    have hx7 : xv 7 = .pointer (some ⟨g, 3, none⟩) := hI.kc 7 _ rfl (hd 7 (by kernel_rfl))
                    have hF : Fam W B (PR g (.slice aN NN cNp) vP vS (.slice (some ⟨gK, 0, none⟩) nK cKp) NN cN nP cP nS cS nK us us kk XX) := by have h := hI.f0 (notRun (i := 11) (r := 18) hcl (notRun (i := 10) (r := 11) hcl (notRun (i := 8) (r := 10) hcl hL (by kernel_rfl)) (by kernel_rfl)) (by kernel_rfl)); cases hm : L 99 with | false => rw [hm] at h; exact h | true => rw [hm] at h; exact h
                    clear hd
                    obtain ⟨⟨q0, q1, q2, q3⟩, z0, z1, z2, z3⟩ := box_at hF (j := 0) rfl
                    simp only [Act.put, List.setIfInBounds_toArray, List.set_cons_succ, List.set_cons_zero] at hK
                    rw [hx7] at hK ⊢
                    refine (if_pos (by rfl)).mpr ?_
                    go_simp
                    exact hK.out _ _ (hI.quiet hBW (Below.refl _ _) (.inr rfl) (.inl rfl) (by decide) (by decide) (by decide) (by decide) (by decide))
                  case s9 =>
                    clear hd
                    simp only [Act.put, List.setIfInBounds_toArray, List.set_cons_succ, List.set_cons_zero] at hK
                    refine (if_pos (by rfl)).mpr ?_
                    go_simp
                    exact hK.out _ _ (hI.quiet hBW (Below.refl _ _) (.inr rfl) (.inl rfl) (by decide) (by decide) (by decide) (by decide) (by decide))
                  case s10 =>
                    have hx8 : xv 8 = .slice (some ⟨gK, 0, none⟩) nK cKp := hI.kc 8 _ rfl (hd 8 (by kernel_rfl))
                    have hx9 : xv 9 = .int .i64 (t : Int) := hI.kc 9 _ rfl (hd 9 (by kernel_rfl))
                    clear hd
                    simp only [Act.put, List.setIfInBounds_toArray, List.set_cons_succ, List.set_cons_zero] at hK
                    rw [hx8] at hK ⊢
                    rw [hx9] at hK ⊢
                    refine (if_pos (by rfl)).mpr ?_
                    go_simp
                    exact hK.out _ _ (hI.quiet hBW (Below.refl _ _) (.inr rfl) (.inl rfl) (by decide) (by decide) (by decide) (by decide) (by decide))
                  case s11 =>
                    have hx10 : xv 10 = .pointer (some ⟨gK, t, none⟩) := hI.kc 10 _ rfl (hd 10 (by kernel_rfl))
                    have hF : Fam W B (PR g (.slice aN NN cNp) vP vS (.slice (some ⟨gK, 0, none⟩) nK cKp) NN cN nP cP nS cS nK us us kk XX) := by have h := hI.f0 (notRun (i := 11) (r := 18) hcl hL (by kernel_rfl)); cases hm : L 99 with | false => rw [hm] at h; exact h | true => rw [hm] at h; exact h
                    clear hd
                    have hku := hF.cell (i := 4) rfl HUT.out
                    simp only [Act.put, List.setIfInBounds_toArray, List.set_cons_succ, List.set_cons_zero] at hK
                    rw [hx10] at hK ⊢
                    refine (if_pos (by rfl)).mpr ?_
                    go_simp
                    exact hK.out _ _ (hI.quiet hBW (Below.refl _ _) (.inr rfl) (.inl rfl) (by decide) (by decide) (by decide) (by decide) (by decide))
                  case s12 =>
                    clear hd
                    simp only [Act.put, List.setIfInBounds_toArray, List.set_cons_succ, List.set_cons_zero] at hK
                    refine (if_pos (by rfl)).mpr ?_
                    go_simp
                    exact hK.out _ _ (hI.quiet hBW (Below.refl _ _) (.inr rfl) (.inl rfl) (by decide) (by decide) (by decide) (by decide) (by decide))
                  case s13 =>
                    have hx12 : xv 12 = .pointer (some ⟨g, 0, none⟩) := hI.kc 12 _ rfl (hd 12 (by kernel_rfl))
                    clear hd
                    simp only [Act.put, List.setIfInBounds_toArray, List.set_cons_succ, List.set_cons_zero] at hK
                    rw [hx12] at hK ⊢
                    refine (if_pos (by rfl)).mpr ?_
                    go_simp
                    exact hK.out _ _ (hI.quiet hBW (Below.refl _ _) (.inr rfl) (.inl rfl) (by decide) (by decide) (by decide) (by decide) (by decide))
                  case s14 =>
                    have hx13 : xv 13 = .pointer (some ⟨g, 0, none⟩) := hI.kc 13 _ rfl (hd 13 (by kernel_rfl))
                    clear hd
                    simp only [Act.put, List.setIfInBounds_toArray, List.set_cons_succ, List.set_cons_zero] at hK
                    rw [hx13] at hK ⊢
                    refine (if_pos (by rfl)).mpr ?_
                    go_simp
                    exact hK.out _ _ (hI.quiet hBW (Below.refl _ _) (.inr rfl) (.inl rfl) (by decide) (by decide) (by decide) (by decide) (by decide))
                  case s15 =>
                    have hx14 : xv 14 = .pointer (some ⟨g, 0, none⟩) := hI.kc 14 _ rfl (hd 14 (by kernel_rfl))
                    have hF : Fam W B (PR g (.slice aN NN cNp) vP vS (.slice (some ⟨gK, 0, none⟩) nK cKp) NN cN nP cP nS cS nK us us kk XX) := by have h := hI.f0 (notRun (i := 17) (r := 18) hcl (notRun (i := 16) (r := 17) hcl (notRun (i := 15) (r := 16) hcl hL (by kernel_rfl)) (by kernel_rfl)) (by kernel_rfl)); cases hm : L 99 with | false => rw [hm] at h; exact h | true => rw [hm] at h; exact h
                    clear hd
                    obtain ⟨⟨q0, q1, q2, q3⟩, z0, z1, z2, z3⟩ := box_at hF (j := 0) rfl
                    simp only [Act.put, List.setIfInBounds_toArray, List.set_cons_succ, List.set_cons_zero] at hK
                    rw [hx14] at hK ⊢
                    refine (if_pos (by rfl)).mpr ?_
                    go_simp
                    exact hK.out _ _ (hI.quiet hBW (Below.refl _ _) (.inr rfl) (.inl rfl) (by decide) (by decide) (by decide) (by decide) (by decide))
                  case s16 =>
                    have hx15 : xv 15 = .slice aN NN cNp := hI.kc 15 _ rfl (hd 15 (by kernel_rfl))
                    clear hd
                    simp only [Act.put, List.setIfInBounds_toArray, List.set_cons_succ, List.set_cons_zero] at hK
                    rw [hx15] at hK ⊢
                    refine (if_pos (by rfl)).mpr ?_
                    go_simp
                    exact hK.out _ _ (hI.quiet hBW (Below.refl _ _) (.inr rfl) (.inl rfl) (by decide) (by decide) (by decide) (by decide) (by decide))
                  case s17 =>
                    have hx16 : xv 16 = .int .i64 (NN : Int) := hI.kc 16 _ rfl (hd 16 (by kernel_rfl))
                    clear hd
                    simp only [Act.put, List.setIfInBounds_toArray, List.set_cons_succ, List.set_cons_zero] at hK
                    rw [hx16] at hK ⊢
                    refine (if_pos (by rfl)).mpr ?_
                    have hbn := below1 W (.cells #[.int .i64 ((NN : Int))] 3)
                    have hcn := new_cells W [.int .i64 ((NN : Int))] 3
                    go_simp
                    exact hK.out _ _ (hI.build hBW hbn rfl rfl (by decide) (by decide) (by decide) (by decide) rfl (hcn))
                  case s18 =>
                    have hx11 : xv 11 = .slice au lj.length cu := hI.kc 11 _ rfl (hd 11 (by kernel_rfl))
                    have hF : Fam W B (PR g (.slice aN NN cNp) vP vS (.slice (some ⟨gK, 0, none⟩) nK cKp) NN cN nP cP nS cS nK us us kk XX) := by have h := hI.f0 hL; cases hm : L 99 with | false => rw [hm] at h; exact h | true => rw [hm] at h; exact h
                    obtain ⟨gb, cb, hxb, hcb⟩ := hI.fb (hd 17 (by kernel_rfl)) hL
                    obtain ⟨v', W', hr, hf, hb, _⟩ := hF.run_app1 (i := t + 5) (pr_at HUT.out HKT.out) _ Tryd.underlying27 hi0 hz0 hz1 hz2 rfl (by decide) (by decide) rfl hcb (by intro u hu; rw [List.mem_singleton.1 hu]; rfl) (by have := HLJ.out; omega)
                    simp only [Act.put, List.setIfInBounds_toArray, List.set_cons_succ, List.set_cons_zero] at hK
                    rw [hx11] at hK ⊢
                    rw [hxb] at hK ⊢
                    refine (if_pos (by rfl)).mpr ?_
                    exact op_append rfl rfl rfl hr (hK.out _ _ (hI.app rfl rfl (by decide) (by decide) (by decide) hL hb hf))
                  case s19 =>
                    have hx3 : xv 3 = .slice (some ⟨gK, 0, none⟩) nK cKp := hI.kc 3 _ rfl (hd 3 (by kernel_rfl))
                    have hx4 : xv 4 = .int .i64 (t : Int) := hI.kc 4 _ rfl (hd 4 (by kernel_rfl))
                    clear hd
                    simp only [Act.put, List.setIfInBounds_toArray, List.set_cons_succ, List.set_cons_zero] at hK
                    rw [hx3] at hK ⊢
                    rw [hx4] at hK ⊢
                    refine (if_pos (by rfl)).mpr ?_
                    go_simp
                    exact hK.out _ _ (hI.quiet hBW (Below.refl _ _) (.inr rfl) (.inl rfl) (by decide) (by decide) (by decide) (by decide) (by decide))
                  case s20 =>
                    have hx19 : xv 19 = .pointer (some ⟨gK, t, none⟩) := hI.kc 19 _ rfl (hd 19 (by kernel_rfl))
                    have hA := hd 18 (by kernel_rfl)
                    have hF : Fam W B ((fun _ v => (PR g (.slice aN NN cNp) vP vS (.slice (some ⟨gK, 0, none⟩) nK cKp) NN cN nP cP nS cS nK us us kk XX).set (t + 5) (rowT 3 1 v (lj.length + 1) (lj.map nv ++ [.int .i64 ((NN : Int))]))) (xv 99) (xv 18)) := by have h := hI.f1 hA; rw [hL] at h; cases he : L 98 with | false => rw [he] at h; exact h | true => rw [he] at h; exact h
                    clear hd
                    have hku := hF.cell (i := 4) rfl HUT.out
                    have zku := hF.frz (i := 4) rfl t
                    obtain ⟨aS, cS, hxS, _, _⟩ := hF.slice (i := t + 5) (pr_set_at (pr_at HUT.out HKT.out))
                    have hFS := hF.store (i := 4) rfl (t) (xv 18)
                    rw [show W.setCell ⟨gK, t, none⟩ (xv 18) = W.setCell ⟨gK, t, none⟩ (.slice aS _ cS) from by rw [hxS]] at hFS
                    simp only [Act.put] at hK
                    rw [hx19] at hK ⊢
                    rw [hxS] at hK ⊢
                    refine (if_pos (by rfl)).mpr ?_
                    go_simp
                    exact hK.out undef _ (hI.store rfl rfl (by decide) (by decide) (by decide) hA hFS.2 (by cases he : L 98 with | false => exact hFS.1 | true => exact hFS.1))
                case done =>
                  intro Lq xv W hI hall a ha
                  have hF : Fam W B ((fun _ v => ((PR g (.slice aN NN cNp) vP vS (.slice (some ⟨gK, 0, none⟩) nK cKp) NN cN nP cP nS cS nK us us kk XX).set (t + 5) (rowT 3 1 v (lj.length + 1) (lj.map nv ++ [.int .i64 ((NN : Int))]))).set 4 (rowT 27 1 (.slice (some ⟨gK, 0, none⟩) nK cKp) nK (us.set t v))) (xv 99) (xv 18)) := by have h := hI.f1 (hall 18 (by decide)); rw [hall 20 (by decide)] at h; cases he : Lq 98 with | false => rw [he] at h; exact h | true => rw [he] at h; exact h
                  have hBl := hI.bel
                  have hx0 : xv 0 = .pointer (some ⟨g, 0, none⟩) := hI.kc 0 _ rfl (hall 0 (by decide))
                  have hx1 : xv 1 = .pointer (some ⟨g, 0, none⟩) := hI.kc 1 _ rfl (hall 1 (by decide))
                  have hx2 : xv 2 = .pointer (some ⟨g, 3, none⟩) := hI.kc 2 _ rfl (hall 2 (by decide))
                  have hx3 : xv 3 = .slice (some ⟨gK, 0, none⟩) nK cKp := hI.kc 3 _ rfl (hall 3 (by decide))
                  have hx4 : xv 4 = .int .i64 (t : Int) := hI.kc 4 _ rfl (hall 4 (by decide))
                  have hx5 : xv 5 = .pointer (some ⟨g, 0, none⟩) := hI.kc 5 _ rfl (hall 5 (by decide))
                  have hx6 : xv 6 = .pointer (some ⟨g, 0, none⟩) := hI.kc 6 _ rfl (hall 6 (by decide))
                  have hx7 : xv 7 = .pointer (some ⟨g, 3, none⟩) := hI.kc 7 _ rfl (hall 7 (by decide))
                  have hx8 : xv 8 = .slice (some ⟨gK, 0, none⟩) nK cKp := hI.kc 8 _ rfl (hall 8 (by decide))
                  have hx9 : xv 9 = .int .i64 (t : Int) := hI.kc 9 _ rfl (hall 9 (by decide))
                  have hx10 : xv 10 = .pointer (some ⟨gK, t, none⟩) := hI.kc 10 _ rfl (hall 10 (by decide))
                  have hx11 : xv 11 = .slice au lj.length cu := hI.kc 11 _ rfl (hall 11 (by decide))
                  have hx12 : xv 12 = .pointer (some ⟨g, 0, none⟩) := hI.kc 12 _ rfl (hall 12 (by decide))
                  have hx13 : xv 13 = .pointer (some ⟨g, 0, none⟩) := hI.kc 13 _ rfl (hall 13 (by decide))
                  have hx14 : xv 14 = .pointer (some ⟨g, 0, none⟩) := hI.kc 14 _ rfl (hall 14 (by decide))
                  have hx15 : xv 15 = .slice aN NN cNp := hI.kc 15 _ rfl (hall 15 (by decide))
                  have hx16 : xv 16 = .int .i64 (NN : Int) := hI.kc 16 _ rfl (hall 16 (by decide))
                  have hx19 : xv 19 = .pointer (some ⟨gK, t, none⟩) := hI.kc 19 _ rfl (hall 19 (by decide))
                  simp only [fillA] at ha
                  simp only [List.setIfInBounds_toArray, List.set_cons_succ, List.set_cons_zero, Nat.zero_add, Nat.reduceAdd] at ha
                  subst ha
                  clear hI hall
                  have HE := HP6.out.appended (q := NN) HO1.out HO2.out (by rw [HKK.out]; exact HO3.out) HO4.out HO5.out HO6.out HO7.out HO8.out HO9.out HOA.out (by rw [HKK.out]; exact HKT.out) (by rw [HKK.out]; exact hF) hBl
                  have hpl := places_at (a + d' + 1) HDRJ.out
                  have hset := tKm_set (q := NN) j j HDQ.out ks HLK.out (by rw [hpl, HNL.out]; congr 1; omega)
                  rw [HT.out, HLQ.out] at hset
                  have HPA := Lib.hid (HE.cast rfl rfl rfl hset)
                  have HKA := Lib.hid (HP6.out.fs HE hBl HK6.out)
                  have hsz := upto_step j nc k3 x3 y3 c3 r3 HDRJ.out
                  have hul := upto_le (j + 1) nc
                  have htl := t_len (p := p) (a := a) HDQ.out j
                  have hL9 : (L ++ tN (d' + 1) j f).length = a + (d' + 1 + (upto j nc).size) := by rw [List.length_append, HA.out, htl.1]
                  have HIN := Lib.hid (HIH.out c3.size (by have := hsz.2.2.1; have := HSZ.out; have := HDS2.out; omega) k3 x3 y3 A3 c3.len C3 c3 (t : Int) W B S XX g _ _ _ _ (Nat.le_refl _) HKA.out HPA.out (by rw [hL9, List.length_append, HLP.out, htl.2.1]) (by rw [hL9, List.length_append, HLZ.out, htl.2.2.1]) (by rw [hL9, List.length_append, HLK.out, htl.2.2.2]) (by rw [hL9]; have := hsz.2.2.1; have := HSA.out; have := HDS2.out; omega) (by omega) (by omega))
                  rw [hL9] at HIN
                  obtain ⟨R, hR⟩ := HPA.out.fam
                  obtain ⟨⟨m0, m1, m2, m3⟩, f0, f1, f2, f3⟩ := box_mem (g := gk) hR (List.mem_append_right _ (by rw [← HXX.out, HGK.out]; exact List.mem_cons_self))
                  have HB7 := Lib.hid ((HBJ.out.trans HB6.out).trans hBl)
                  clear hF hBl HE hset hpl hsz hul htl hL9 hR hx0 hx1 hx2 hx3 hx4 hx5 hx6 hx7 hx8 hx9 hx10 hx11 hx12 hx13 hx14 hx15 hx16 hx19
                  go_wp2_with fail
                  refine HIN.out.mono ?_
                  rintro e w7 ⟨rfl, hp7, hb7⟩
                  have hk := t_kid (p := p) (a := a) HDQ.out HDRJ.out (j + 1)
                  rw [List.append_assoc, List.append_assoc, List.append_assoc, List.append_assoc, ← hk.1, ← hk.2.2.1, ← hk.2.2.2, show ((t : Nat) : Int) = ((a + d' : Nat) : Int) by rw [HT.out], ← hk.2.1] at hp7
                  rw [← HXX.out] at hp7
                  have hpn := hp7.less HSAFE.out
                  have hJ1 : j + 1 = max 1 (j + 1) := by omega
                  have HPN : Hid (PS w7 B S X g (L ++ tN (d' + 1) (max 1 (j + 1)) f) (ps ++ tP p a (d' + 1) (max 1 (j + 1)) f) (zs ++ tS (d' + 1) (max 1 (j + 1)) f) (ks ++ tKm a d' (max 1 (j + 1)) (j + 1) f)) := by rw [← hJ1]; exact hpn
                  have HBN := Lib.hid (HB7.out.trans hb7)
                  clear hpn hp7 hb7 hJ1 hk m0 m1 m2 m3 f0 f1 f2 f3 HIN
                  go_wp2
                  go_roundw
                  case rel => exact ⟨j + 1, by have := HJL.out; omega, by go_num, HPN.out, HBN.out⟩
                  case measure => have := HJL.out; simp [intOf]; omega
            · obtain rfl : ln = j := by omega
              have hjl' : ¬ (ln : Int) < (ln : Int) := by omega
              have hup := t_up (p := p) (a := a) (z0 := zs) (k0 := ks) HDQ.out J ln (by rw [HLN.out]; have := HJJ.out; omega) (by rw [HLN.out]; exact Nat.le_refl _)
              have htl := t_len (p := p) (a := a) HDQ.out J
              rw [upto_all J nc (by rw [HLN.out]; have := HJJ.out; omega)] at htl
              have hL9 : (L ++ tN (d' + 1) J f).length = a + (d' + 1 + nc.size) := by rw [List.length_append, HA.out, htl.1]
              have hS9 : (zs ++ tS (d' + 1) J f).length = a + (d' + 1 + nc.size) := by rw [List.length_append, HLZ.out, htl.2.2.1]
              obtain ⟨aN, cN, aP, cP, aS, cS, aK, cK, ⟨q0, q1, q2, q3⟩, ⟨z0, z1, z2, z3⟩, hnode⟩ := HPJ.out.rd
              have htz : t < (zs ++ tS (d' + 1) J f).length := by rw [hS9]; have := HT.out; omega
              obtain ⟨l2, hl2⟩ : ∃ l2, a + (d' + 1 + nc.size) = l2 := ⟨_, rfl⟩
              rw [hL9, hl2] at q0
              rw [hS9, hl2] at q2
              have ht2 : t < l2 := by have := HT.out; omega
              have hl25 : l2 ≤ 60000 := by have := HSA.out; have := HDS2.out; omega
              obtain ⟨gS, u, rfl, hu, zu, hps, hbs⟩ := HPJ.out.size q2 htz ((l2 : Int) - t)
              have hval : (l2 : Int) - t = ((nc.size + 1 : Nat) : Int) := by have := HT.out; omega
              have hset := hup.2.2.1
              rw [HLZ.out, HT.out, ← hval] at hset
              rw [hset] at hps
              have HPN := Lib.hid (hps.cast (L' := L ++ tN d' 1 f) (ps' := ps ++ tP p a d' 1 f) (ks' := ks ++ tK a d' 1 f) (by rw [hup.1]) (by rw [hup.2.1]) rfl (by rw [hup.2.2.2]))
              have HBN := Lib.hid ((HB.out.trans HBJ.out).trans hbs)
              have ht2' : (t : Int) < (l2 : Int) := by omega
              have ht0 : (0 : Int) ≤ (t : Int) := by omega
              clear hup htl hL9 hS9 hnode htz hl2 hval hset hps hbs
              go_wp2
              go_region
              go_wp2
              go_roundw
              case rel => exact ⟨d', (t : Int) - 1, by have := HE.out; omega, by have := HT.out; omega, by go_num, HPN.out.later (bel_drew _), HBN.out.trans ((bel_drew _).mono HPN.out.le)⟩
              case measure => simp [intOf]; omega
theorem add_any (M : Nat) : AddSpec M := by
  induction M using Nat.strongRecOn with
  | _ M ih => exact add_step M ih
end Go.Proofs.YtmknghhgcecafaaDoor.Shape
