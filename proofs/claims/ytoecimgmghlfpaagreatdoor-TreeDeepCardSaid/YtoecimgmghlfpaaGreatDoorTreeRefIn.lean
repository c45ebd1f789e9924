/-
  Layer 5 (tree): the document's within and Right. Written by gen_treerefin.py.
-/
import Derived.Test.YtoecimgmghlfpaaGreatDoorTreeRefShapeB
import Derived.Test.YtoecimgmghlfpaaGreatDoorTreeRefDown
import Derived.Test.YtoecimgmghlfpaaGreatDoorTreeRight
import Derived.Deep.Cut
import Derived.Deep.CutRange
namespace Go.Proofs.YtoecimgmghlfpaaGreatDoor.Tree
open Go.ChangeShapes Go.WideShapes Go.ChangeAt Go.RowKit Mem
set_option linter.unusedVariables false

/-- No text is longer than a hundred thousand bytes. -/
def SmallT : F → Prop
  | .nil => True
  | .cons k x y c r => x.size ≤ 100000 ∧ y.size ≤ 100000 ∧ SmallT c ∧ SmallT r
theorem SmallT.drop : ∀ {n : Nat} {f : F}, SmallT f → SmallT (f.drop n)
  | 0, f, h => h
  | n + 1, .nil, _ => by simp [F.drop, SmallT]
  | n + 1, .cons k x y c r, h => SmallT.drop (n := n) h.2.2.2
theorem fitsN_shape (k : Int) (x y : ByteArray) (c : F) (it : Bool) : fitsN nmB tkB k x y c it = (shapeOK k x c && trailOK tkB k y it) := by
  unfold fitsN shapeOK
  cases textOK nmB tkB k x <;> cases trailOK tkB k y it <;> cases kidsOK k x c <;> rfl
theorem nodeR_split {k : Int} {x y : ByteArray} {c : F} {it : Bool} {d : Nat} (hd : d ≤ 256) (hs : shapeOK k x c = true) : nodeR nmB tkB k x y c it d = (trailOK tkB k y it && kidsR nmB tkB k x (holds k) d 0 c) := by
  unfold nodeR; rw [decide_eq_true hd, fitsN_shape, hs]; rfl
theorem nodeR_shape {k : Int} {x y : ByteArray} {c : F} {it : Bool} {d : Nat} (hs : shapeOK k x c = false) : nodeR nmB tkB k x y c it d = false := nodeR_fits (by rw [fitsN_shape, hs]; rfl)

def InSpec (N : Nat) : Prop := ∀ (k : Int) (x y : ByteArray) (A : Option Addr) (n C : Nat) (c : F) (it : Bool) (d : Nat) (w : World), c.size ≤ N → Fs w (Lo w.heap.size) (.slice A n C) c → x.size ≤ 100000 → y.size ≤ 100000 → SmallT c → d ≤ 1000 →
  Calls Tryz.prog 25 #[.agg #[.int .i64 k, .string x, .string y, .slice A n C], .int .i64 (d : Int), .bool it] w fun e w' => e = .returned (.bool (nodeR nmB tkB k x y c it d)) ∧ Below w.heap.size w w'

set_option maxRecDepth 100000 in
set_option maxHeartbeats 16000000 in
theorem in_step (N : Nat) (ih : ∀ M, M < N → InSpec M) : InSpec N := by
  intro k x y A n C c it d w hN hf hx hy hsm hd1
  have HIHS := Lib.hid ih
  have b1 := below1 w (.cells #[.int .i64 k, .string x, .string y, .slice A n C] 24)
  have HB1 := Lib.hid b1
  have HF := Lib.hid hf
  have HSM := Lib.hid hsm
  have HSZ : Hid (c.size ≤ N) := hN
  have HS := Lib.hid (shape_any k x y A n C c (w.alloc (.cells #[.int .i64 k, .string x, .string y, .slice A n C] 24)) (hf.later b1) hx)
  have HY := Lib.hid (fun W => refTk_any y 5 hy W)
  have HBX : Hid (∀ W, Below (w.alloc (.cells #[.int .i64 k, .string x, .string y, .slice A n C] 24)).heap.size (w.alloc (.cells #[.int .i64 k, .string x, .string y, .slice A n C] 24)) W → W.cell? ⟨w.heap.size, 0, none⟩ = some (.int .i64 k) ∧ W.cell? ⟨w.heap.size, 1, none⟩ = some (.string x) ∧ W.cell? ⟨w.heap.size, 2, none⟩ = some (.string y) ∧ W.cell? ⟨w.heap.size, 3, none⟩ = some (.slice A n C)) := fun W hW => ((boxed_new w k x y (.slice A n C)).below hW (by simp)).cells
  clear ih b1 hsm hN hx hy
  by_cases hd : 256 < d
  · rw [nodeR_deep hd]
    have hdi : (256 : Int) < (d : Int) := by omega
    clear hd hf HS
    go_enter Tryz.func25, Tryz.ntmps25
    go_wp2
    go_ret
    exact ⟨rfl, HB1.out⟩
  have hd2 : d ≤ 256 := by omega
  have hdi : ¬ (256 : Int) < (d : Int) := by omega
  cases hs : shapeOK k x c with
  | false =>
    rw [nodeR_shape hs]
    rw [hs] at HS
    clear hd hf hs
    go_enter Tryz.func25, Tryz.ntmps25
    go_wp2_with fail
    refine HS.out.mono ?_
    rintro e w2 ⟨rfl, hb⟩
    have HB2 := Lib.hid (HB1.out.trans (hb.mono HB1.out.size))
    clear hb
    go_wp2
    go_ret
    exact ⟨rfl, HB2.out⟩
  | true =>
    obtain ⟨res, hres⟩ : ∃ res, nodeR nmB tkB k x y c it d = res := ⟨_, rfl⟩
    rw [hres]
    have HEQ : Hid ((trailOK tkB k y it && kidsR nmB tkB k x (holds k) d 0 c) = res) := (nodeR_split hd2 hs).symm.trans hres
    rw [hs] at HS
    obtain ⟨A0, C0, e, hnC, hCm⟩ := hf.slice
    injection e with e1 e2 e3
    subst e1; subst e3
    have HLN : Hid (c.len = n) := e2.symm
    rw [← e2] at hnC
    clear hd hf hs hres e2
    go_enter Tryz.func25, Tryz.ntmps25
    go_wp2_with fail
    refine HS.out.mono ?_
    rintro e w2 ⟨rfl, hb⟩
    have HB2 := Lib.hid (HB1.out.trans (hb.mono HB1.out.size))
    obtain ⟨q0, q1, q2, q3⟩ := HBX.out w2 hb
    have HBX2 : Hid (∀ W, Below w2.heap.size w2 W → W.cell? ⟨w.heap.size, 0, none⟩ = some (.int .i64 k) ∧ W.cell? ⟨w.heap.size, 1, none⟩ = some (.string x) ∧ W.cell? ⟨w.heap.size, 2, none⟩ = some (.string y) ∧ W.cell? ⟨w.heap.size, 3, none⟩ = some (.slice A n C)) := fun W hW => HBX.out W (hb.trans (hW.mono hb.size))
    have HK := Lib.hid (HY.out w2)
    clear hb HBX HS HY
    go_upto_region 3 with (fail)
    go_cut [32] from 16 to 32 (fun s W => s = .bool (!trailOK tkB k y it) ∧ Hid (Below w2.heap.size w2 W))
    case first =>
      cases hyy : (y.toList == []) with
      | true =>
        have he : y.toList = [] := by simpa using hyy
        have HTR : Hid (trailOK tkB k y it = true) := by show _ = _; unfold trailOK; rw [hyy]; rfl
        go_wp2
        go_meet
        case rel => exact ⟨by rw [HTR.out]; rfl, Below.refl _ _⟩
      | false =>
        have he : ¬ y.toList = [] := by simpa using hyy
        have he2 : y.toList.isEmpty = false := by simpa using hyy
        cases it with
        | false =>
          have HTR : Hid (trailOK tkB k y false = false) := by show _ = _; unfold trailOK; rw [hyy]; rfl
          go_wp2
          go_meet
          case rel => exact ⟨by rw [HTR.out]; rfl, Below.refl _ _⟩
        | true =>
          by_cases h8 : k = 8
          · subst h8
            have HTR : Hid (trailOK tkB 8 y true = false) := by show _ = _; unfold trailOK; rw [hyy]; rfl
            go_wp2
            go_meet
            case rel => exact ⟨by rw [HTR.out]; rfl, Below.refl _ _⟩
          · have hk8 : (k != 8) = true := by simpa using h8
            have hk8' := kno h8
            have HTR : Hid (trailOK tkB k y true = tkB y 5) := by show _ = _; unfold trailOK; rw [hyy, hk8]; rfl
            generalize tkB y 5 = tv at *
            clear hyy h8
            go_wp2_with fail
            refine HK.out.mono ?_
            rintro e w3 ⟨rfl, hb⟩
            have HB3 := Lib.hid hb
            clear hb
            go_wp2
            go_meet
            case rel => exact ⟨by rw [HTR.out], HB3.out⟩
    case rest =>
      obtain ⟨rfl, HB3⟩ := hcut
      have HB4 := Lib.hid (HB2.out.trans (HB3.out.mono HB2.out.size))
      have HBX4 : Hid (∀ W, Below wc.heap.size wc W → W.cell? ⟨w.heap.size, 0, none⟩ = some (.int .i64 k) ∧ W.cell? ⟨w.heap.size, 1, none⟩ = some (.string x) ∧ W.cell? ⟨w.heap.size, 2, none⟩ = some (.string y) ∧ W.cell? ⟨w.heap.size, 3, none⟩ = some (.slice A n C)) := fun W hW => HBX2.out W (HB3.out.trans (hW.mono HB3.out.size))
      clear q0 q1 q2 q3 HK HBX2 HB3 HB2
      obtain ⟨q0, q1, q2, q3⟩ := HBX4.out wc (Below.refl _ _)
      generalize trailOK tkB k y it = tr at *
      cases tr with
      | false =>
        have HE : Hid (res = false) := HEQ.out.symm
        go_wp2
        go_ret
        exact ⟨by rw [HE.out]; rfl, HB4.out⟩
      | true =>
        have HEQ2 : Hid (kidsR nmB tkB k x (holds k) d 0 c = res) := HEQ.out
        clear HEQ
        go_upto_region 5 with (fail)
        go_cut [7] from 33 to 45 (fun s W => s = .bool (holds k) ∧ W = wc)
        case first =>
          by_cases h1 : k = 1
          · subst h1
            go_wp2
            go_meet
            case rel => exact ⟨rfl, rfl⟩
          by_cases h17 : k = 17
          · subst h17
            go_wp2
            go_meet
            case rel => exact ⟨rfl, rfl⟩
          by_cases h13 : k = 13
          · subst h13
            go_wp2
            go_meet
            case rel => exact ⟨rfl, rfl⟩
          have HHK : Hid (holds k = false) := by show _ = _; unfold holds; simp [h1, h17, h13]
          have b1 := kno h1
          have b17 := kno h17
          have b13 := kno h13
          clear h1 h17 h13
          go_wp2
          go_meet
          case rel => exact ⟨by rw [HHK.out], rfl⟩
        case rest =>
          obtain ⟨rfl, hw⟩ := hcut
          subst hw
          go_wp2
          go_loopw [8] (fun i wr => ∃ j : Nat, j ≤ n ∧ i = .int .i64 (j : Int) ∧ Hid (kidsR nmB tkB k x (holds k) d j (c.drop j) = kidsR nmB tkB k x (holds k) d 0 c) ∧ Hid (Below wc.heap.size wc wr)) (fun i _ => n - (intOf i).toNat)
          case atStart => exact ⟨0, Nat.zero_le _, rfl, rfl, Below.refl _ _⟩
          case round =>
            clear q0 q1 q2 q3
            obtain ⟨j, hj, rfl, hkr, hbw⟩ := hrel
            obtain ⟨q0, q1, q2, q3⟩ := HBX4.out wr hbw.out
            by_cases hlt : j < n
            · obtain ⟨kk, kx, ky, kc, kr, hdr, hdr2⟩ := F.drop_cons (n := j) (f := c) (by rw [HLN.out]; exact hlt)
              obtain ⟨b, off, s2, rfl, hbS, _, hat⟩ := HF.out.at_ hdr
              obtain ⟨Ak, Ck, rfl, _, _⟩ := hat.kids.slice
              have hlt' : (j : Int) < (n : Int) := by omega
              have hj0 : (0 : Int) ≤ (j : Int) := by omega
              have hdn := down_le k x j kk kx
              have HBA := Lib.hid (HB4.out.trans (hbw.out.mono HB4.out.size))
              have H9 : Hid (∀ W, Below wr.heap.size wr W →
                  (W.cell? ⟨w.heap.size, 0, none⟩ = some (.int .i64 k) ∧ W.cell? ⟨w.heap.size, 1, none⟩ = some (.string x) ∧ W.cell? ⟨w.heap.size, 2, none⟩ = some (.string y) ∧ W.cell? ⟨w.heap.size, 3, none⟩ = some (.slice (some ⟨b, off, none⟩) n C)) ∧
                  (W.cell? ⟨b, off + j * 4, none⟩ = some (.int .i64 kk) ∧ W.cell? ⟨b, off + j * 4 + 1, none⟩ = some (.string kx) ∧ W.cell? ⟨b, off + j * 4 + 2, none⟩ = some (.string ky) ∧ W.cell? ⟨b, off + j * 4 + 3, none⟩ = some (.slice Ak kc.len Ck))) := fun W hW => by
                have hww := HBA.out.trans (hW.mono HBA.out.size)
                exact ⟨HBX4.out W (hbw.out.trans (hW.mono hbw.out.size)), (hww.cell (p := ⟨b, off + j * 4, none⟩) hbS).trans hat.c0, (hww.cell (p := ⟨b, off + j * 4 + 1, none⟩) hbS).trans hat.c1, (hww.cell (p := ⟨b, off + j * 4 + 2, none⟩) hbS).trans hat.c2, (hww.cell (p := ⟨b, off + j * 4 + 3, none⟩) hbS).trans hat.c3⟩
              have hsz2 : kc.size < N := Nat.lt_of_lt_of_le (size_drop hdr) HSZ.out
              have hsm2 : SmallT (F.cons kk kx ky kc kr) := by
                have h2 := SmallT.drop (n := j) HSM.out
                rwa [hdr] at h2
              have HDP : Hid (∀ W, Below wr.heap.size wr W → Calls Tryz.prog 32 #[.agg #[.int .i64 k, .string x, .string y, .slice (some ⟨b, off, none⟩) n C], .int .i64 (j : Int)] W fun e w' => e = .returned (.int .i64 ((down k x j kk kx : Nat) : Int)) ∧ Below W.heap.size W w') := fun W hW =>
                refDown_any k x y (some ⟨b, off, none⟩) n C c j kk kx ky kc kr W (HF.out.later (HBA.out.trans (hW.mono HBA.out.size))) hdr
              obtain ⟨rk, hrk⟩ : ∃ rk, nodeR nmB tkB kk kx ky kc (holds k) (d + down k x j kk kx) = rk := ⟨_, rfl⟩
              have HIH : Hid (∀ W, Below wr.heap.size wr W → Calls Tryz.prog 25 #[.agg #[.int .i64 kk, .string kx, .string ky, .slice Ak kc.len Ck], .int .i64 ((d : Int) + ((down k x j kk kx : Nat) : Int)), .bool (holds k)] W fun e w' => e = .returned (.bool rk) ∧ Below W.heap.size W w') := fun W hW => by
                have hww := HBA.out.trans (hW.mono HBA.out.size)
                have := HIHS.out kc.size hsz2 kk kx ky Ak kc.len Ck kc (holds k) (d + down k x j kk kx) W (Nat.le_refl _) (hat.kids.later hww) hsm2.1 hsm2.2.1 hsm2.2.2.1 (by omega)
                rwa [hrk, Int.natCast_add] at this
              have HKR : Hid (kidsR nmB tkB k x (holds k) d 0 c = (rk && kidsR nmB tkB k x (holds k) d (j + 1) (c.drop (j + 1)))) := by
                show _ = _
                rw [← hkr.out, hdr, kidsR_cons, hrk, hdr2]
              have hwr1 : IntKind.i64.wrap ((j : Int) + 1) = (j : Int) + 1 := wrap_small (by omega) (by omega)
              have hwr : IntKind.i64.wrap ((d : Int) + ((down k x j kk kx : Nat) : Int)) = (d : Int) + ((down k x j kk kx : Nat) : Int) := wrap_small (by omega) (by omega)
              clear hdr hdr2 hat hdn hsz2 hsm2 hrk hkr
              generalize down k x j kk kx = dn at *
              go_wp2
              refine region_rel (fun W W' => Below W.heap.size W W') [Cd.is (Value.pointer (some ⟨w.heap.size, 3, none⟩)), Cd.is (Value.slice (some ⟨b, off, none⟩) n C), Cd.is (Value.int .i64 (j : Int)), Cd.is (Value.pointer (some ⟨b, off + j * 4, none⟩)), Cd.is (Value.agg #[.int .i64 kk, .string kx, .string ky, .slice Ak kc.len Ck]), Cd.is (Value.int .i64 (d : Int)), Cd.is (Value.agg #[.int .i64 k, .string x, .string y, .slice (some ⟨b, off, none⟩) n C]), Cd.is (Value.int .i64 (j : Int)), Cd.is (Value.int .i64 (dn : Int)), Cd.is (Value.int .i64 ((d : Int) + (dn : Int))), Cd.is (Value.bool (holds k)), Cd.is (Value.bool rk), Cd.is (Value.bool (!rk))] (by kernel_rfl) (by decide) (by kernel_rfl) (Below.refl _ _) (fun _ _ _ h k => h.trans (k.mono h.size)) ?steps ?behind
              case steps =>
                intro xv W hW a ha
                replace hW := undrew hW
                simp only [fillA] at ha
                simp only [List.setIfInBounds_toArray, List.set_cons_succ, List.set_cons_zero, Nat.zero_add, Nat.reduceAdd] at ha
                subst ha
                refine ⟨fun hd K hK => ?s0, fun hd K hK => ?s1, fun hd K hK => ?s2, fun hd K hK => ?s3, fun hd K hK => ?s4, fun hd K hK => ?s5, fun hd K hK => ?s6, fun hd K hK => ?s7, fun hd K hK => ?s8, fun hd K hK => ?s9, fun hd K hK => ?s10, fun hd K hK => ?s11, fun hd K hK => ?s12, trivial⟩
                case s0 =>
                  clear hd
                  simp only [Act.put, List.setIfInBounds_toArray, List.set_cons_succ, List.set_cons_zero] at hK
                  refine (if_pos (by rfl)).mpr ?_
                  go_simp
                  exact hK.out _ _ (Below.refl _ _) rfl
                case s1 =>
                  have hx0 : xv 0 = Value.pointer (some ⟨w.heap.size, 3, none⟩) := hd 0 (by kernel_rfl)
                  clear hd
                  simp only [Act.put, List.setIfInBounds_toArray, List.set_cons_succ, List.set_cons_zero] at hK
                  rw [hx0] at hK ⊢
                  refine (if_pos (by rfl)).mpr ?_
                  obtain ⟨⟨hq0, hq1, hq2, hq3⟩, _⟩ := H9.out W hW
                  go_simp
                  exact hK.out _ _ (Below.refl _ _) rfl
                case s2 =>
                  clear hd
                  simp only [Act.put, List.setIfInBounds_toArray, List.set_cons_succ, List.set_cons_zero] at hK
                  refine (if_pos (by rfl)).mpr ?_
                  go_simp
                  exact hK.out _ _ (Below.refl _ _) rfl
                case s3 =>
                  have hx1 : xv 1 = Value.slice (some ⟨b, off, none⟩) n C := hd 1 (by kernel_rfl)
                  have hx2 : xv 2 = Value.int .i64 (j : Int) := hd 2 (by kernel_rfl)
                  clear hd
                  simp only [Act.put, List.setIfInBounds_toArray, List.set_cons_succ, List.set_cons_zero] at hK
                  rw [hx1] at hK ⊢
                  rw [hx2] at hK ⊢
                  refine (if_pos (by rfl)).mpr ?_
                  go_simp
                  exact hK.out _ _ (Below.refl _ _) rfl
                case s4 =>
                  have hx3 : xv 3 = Value.pointer (some ⟨b, off + j * 4, none⟩) := hd 3 (by kernel_rfl)
                  clear hd
                  simp only [Act.put, List.setIfInBounds_toArray, List.set_cons_succ, List.set_cons_zero] at hK
                  rw [hx3] at hK ⊢
                  refine (if_pos (by rfl)).mpr ?_
                  obtain ⟨_, ⟨hq0, hq1, hq2, hq3⟩⟩ := H9.out W hW
                  go_simp
                  exact hK.out _ _ (Below.refl _ _) rfl
                case s5 =>
                  clear hd
                  simp only [Act.put, List.setIfInBounds_toArray, List.set_cons_succ, List.set_cons_zero] at hK
                  refine (if_pos (by rfl)).mpr ?_
                  go_simp
                  exact hK.out _ _ (Below.refl _ _) rfl
                case s6 =>
                  clear hd
                  simp only [Act.put, List.setIfInBounds_toArray, List.set_cons_succ, List.set_cons_zero] at hK
                  refine (if_pos (by rfl)).mpr ?_
                  obtain ⟨⟨hq0, hq1, hq2, hq3⟩, _⟩ := H9.out W hW
                  go_simp
                  exact hK.out _ _ (Below.refl _ _) rfl
                case s7 =>
                  clear hd
                  simp only [Act.put, List.setIfInBounds_toArray, List.set_cons_succ, List.set_cons_zero] at hK
                  refine (if_pos (by rfl)).mpr ?_
                  go_simp
                  exact hK.out _ _ (Below.refl _ _) rfl
                case s8 =>
                  have hx6 : xv 6 = Value.agg #[.int .i64 k, .string x, .string y, .slice (some ⟨b, off, none⟩) n C] := hd 6 (by kernel_rfl)
                  have hx7 : xv 7 = Value.int .i64 (j : Int) := hd 7 (by kernel_rfl)
                  clear hd
                  simp only [Act.put, List.setIfInBounds_toArray, List.set_cons_succ, List.set_cons_zero] at hK
                  rw [hx6] at hK ⊢
                  rw [hx7] at hK ⊢
                  refine (if_pos (by rfl)).mpr ?_
                  go_simp
                  go_at_call 32
                  refine (HDP.out W hW).mono ?_
                  rintro e w' ⟨rfl, hb⟩
                  exact hK.out _ _ hb rfl
                case s9 =>
                  have hx5 : xv 5 = Value.int .i64 (d : Int) := hd 5 (by kernel_rfl)
                  have hx8 : xv 8 = Value.int .i64 (dn : Int) := hd 8 (by kernel_rfl)
                  clear hd
                  simp only [Act.put, List.setIfInBounds_toArray, List.set_cons_succ, List.set_cons_zero] at hK
                  rw [hx5] at hK ⊢
                  rw [hx8] at hK ⊢
                  refine (if_pos (by rfl)).mpr ?_
                  go_simp
                  exact hK.out _ _ (Below.refl _ _) rfl
                case s10 =>
                  clear hd
                  simp only [Act.put, List.setIfInBounds_toArray, List.set_cons_succ, List.set_cons_zero] at hK
                  refine (if_pos (by rfl)).mpr ?_
                  go_simp
                  exact hK.out _ _ (Below.refl _ _) rfl
                case s11 =>
                  have hx4 : xv 4 = Value.agg #[.int .i64 kk, .string kx, .string ky, .slice Ak kc.len Ck] := hd 4 (by kernel_rfl)
                  have hx9 : xv 9 = Value.int .i64 ((d : Int) + (dn : Int)) := hd 9 (by kernel_rfl)
                  have hx10 : xv 10 = Value.bool (holds k) := hd 10 (by kernel_rfl)
                  clear hd
                  simp only [Act.put, List.setIfInBounds_toArray, List.set_cons_succ, List.set_cons_zero] at hK
                  rw [hx4] at hK ⊢
                  rw [hx9] at hK ⊢
                  rw [hx10] at hK ⊢
                  refine (if_pos (by rfl)).mpr ?_
                  go_simp
                  go_at_call 25
                  refine (HIH.out W hW).mono ?_
                  rintro e w' ⟨rfl, hb⟩
                  exact hK.out _ _ hb rfl
                case s12 =>
                  have hx11 : xv 11 = Value.bool rk := hd 11 (by kernel_rfl)
                  clear hd
                  simp only [Act.put, List.setIfInBounds_toArray, List.set_cons_succ, List.set_cons_zero] at hK
                  rw [hx11] at hK ⊢
                  refine (if_pos (by rfl)).mpr ?_
                  go_simp
                  exact hK.out _ _ (Below.refl _ _) rfl
              case behind =>
                intro xv W hW hx a ha
                replace hW := undrew hW
                simp only [fillA] at ha
                simp only [List.setIfInBounds_toArray, List.set_cons_succ, List.set_cons_zero, Nat.zero_add, Nat.reduceAdd] at ha
                subst ha
                have h12 : xv 12 = Value.bool (!rk) := hx 12 (by decide)
                rw [h12]
                have HW := Lib.hid (hbw.out.trans (hW.mono hbw.out.size))
                clear hx h12 hW H9 HDP HIH
                cases rk with
                | true =>
                  have HK2 : Hid (kidsR nmB tkB k x (holds k) d (j + 1) (c.drop (j + 1)) = kidsR nmB tkB k x (holds k) d 0 c) := by
                    show _ = _
                    rw [HKR.out]; rfl
                  go_wp2
                  go_roundw
                  case rel => exact ⟨j + 1, by omega, by go_num, HK2.out, HW.out⟩
                  case measure => simp [intOf]; omega
                | false =>
                  have HE : Hid (res = false) := by
                    show _ = _
                    rw [← HEQ2.out, HKR.out]; simp
                  go_wp2
                  go_ret
                  exact ⟨by rw [HE.out]; rfl, HB4.out.trans (HW.out.mono HB4.out.size)⟩
            · have hn' : ¬ (j : Int) < (n : Int) := by omega
              obtain rfl : j = n := by omega
              have HE : Hid (res = true) := by
                show _ = _
                rw [← HEQ2.out, ← hkr.out, F.drop_all _ _ (by rw [HLN.out]; exact Nat.le_refl _)]
                simp [kidsR]
              have HBE := Lib.hid (HB4.out.trans (hbw.out.mono HB4.out.size))
              clear hkr hbw
              go_wp2
              go_ret
              exact ⟨by rw [HE.out]; rfl, HBE.out⟩

theorem in_any (N : Nat) : InSpec N := by
  induction N using Nat.strongRecOn with
  | _ N ih => exact in_step N ih

set_option maxRecDepth 100000 in
set_option maxHeartbeats 4000000 in
theorem refRight_any (k : Int) (x y : ByteArray) (A : Option Addr) (n C : Nat) (c : F) (w : World) (hf : Fs w (Lo w.heap.size) (.slice A n C) c) (hx : x.size ≤ 100000) (hy : y.size ≤ 100000) (hsm : SmallT c) :
    Calls Tryz.prog 10 #[.agg #[.int .i64 k, .string x, .string y, .slice A n C]] w fun e w' => e = .returned (.bool (rightT nmB tkB k x y c)) ∧ Below w.heap.size w w' := by
  have b1 := below1 w (.cells #[.int .i64 k, .string x, .string y, .slice A n C] 24)
  have HC := Lib.hid (in_any c.size k x y A n C c false 0 _ (Nat.le_refl _) (hf.later b1) hx hy hsm (by omega))
  have HB := Lib.hid b1
  clear b1 hf hx hy hsm
  by_cases hk : k = 1
  · subst hk
    rw [show rightT nmB tkB 1 x y c = nodeR nmB tkB 1 x y c false 0 from rfl]
    generalize nodeR nmB tkB 1 x y c false 0 = bb at *
    go_enter Tryz.func10, Tryz.ntmps10
    go_wp2_with fail
    refine HC.out.mono ?_
    rintro e w' ⟨rfl, hb⟩
    have HE := Lib.hid (HB.out.trans (hb.mono HB.out.size))
    clear hb
    go_wp2
    go_ret
    exact ⟨rfl, HE.out⟩
  · have k1 := kno hk
    rw [show rightT nmB tkB k x y c = false by unfold rightT; rw [k1]; rfl]
    clear hk HC
    go_enter Tryz.func10, Tryz.ntmps10
    go_wp2
    go_ret
    exact ⟨rfl, HB.out⟩
end Go.Proofs.YtoecimgmghlfpaaGreatDoor.Tree
