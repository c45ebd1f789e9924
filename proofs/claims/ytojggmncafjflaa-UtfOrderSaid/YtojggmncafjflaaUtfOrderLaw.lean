/-
  Layer 1 (utf): the law on the order of texts: the walk.
-/
import Derived.Test.YtojggmncafjflaaUtfTake
import Derived.Test.YtojggmncafjflaaUtfMore
namespace Go.Proofs.Ytojggmncafjflaa.Utf
open Go.ChangeShapes Go.WideShapes Go.ChangeAt Go.RowKit
set_option linter.unusedVariables false

theorem bytesLess_map : ∀ (a b : List Int), Byt a → Byt b → Op.bytesLess (a.map fun n => UInt8.ofNat n.toNat) (b.map fun n => UInt8.ofNat n.toNat) = lexI a b
  | [], [], _, _ => rfl
  | _ :: _, [], _, _ => rfl
  | [], _ :: _, _, _ => rfl
  | x :: a, y :: b, ha, hb => by
    have hx := ha x (by simp)
    have hy := hb y (by simp)
    have ih := bytesLess_map a b (fun z hz => ha z (by simp [hz])) (fun z hz => hb z (by simp [hz]))
    have ux := u8_of x.toNat (by omega)
    have uy := u8_of y.toNat (by omega)
    have h1 : decide (UInt8.ofNat x.toNat < UInt8.ofNat y.toNat) = decide (x < y) := by
      apply decide_eq_decide.2
      rw [UInt8.lt_iff_toNat_lt, ux, uy]; omega
    have h2 : (UInt8.ofNat x.toNat == UInt8.ofNat y.toNat) = decide (x = y) := by
      rw [Bool.eq_iff_iff, beq_iff_eq, decide_eq_true_eq, ← UInt8.toNat_inj, ux, uy]; omega
    simp only [List.map_cons, Op.bytesLess, lexI, ih, h1, h2]
    by_cases e : x = y
    · simp [e]
    · simp [e]

theorem less_eq (a b : List Int) (ha : Byt a) (hb : Byt b) : Op.bytesLess (strOfNums a).toList (strOfNums b).toList = lexI a b := by
  rw [ByteArray.toList_eq, ByteArray.toList_eq, strOfNums_data, strOfNums_data]
  exact bytesLess_map a b ha hb

set_option maxHeartbeats 4000000 in
set_option maxRecDepth 100000 in
theorem utfOrder_core (A A2 : Option Addr) (n cap n2 cap2 : Nat) (xs ys : List Int) (w : World) (h : RI w w.heap.size A xs) (hi : IntsIn xs) (hn : xs.length = n) (hcap : n ≤ cap) (hcap' : cap ≤ maxLen)
    (h2 : RI w w.heap.size A2 ys) (hi2 : IntsIn ys) (hn2 : ys.length = n2) (hcap2 : n2 ≤ cap2) (hcap2' : cap2 ≤ maxLen) :
    Calls Try.prog 8 #[.slice A n cap, .slice A2 n2 cap2] w fun e w' => e = .returned (.bool true) ∧ Below w.heap.size w w' := by
  have T1 := Lib.hid (texts_any A n cap xs w _ h hi hn (Nat.le_refl _) hcap hcap')
  have T2 := Lib.hid (fun w1 (hb : Below w.heap.size w w1) => texts_any A2 n2 cap2 ys w1 _ (h2.below hb (Nat.le_refl _)) hi2 hn2 hb.size hcap2 hcap2')
  clear h hi hn h2 hi2 hn2
  unfold maxLen at hcap' hcap2'
  go_enter Try.func8, Try.ntmps8
  go_wp2_with fail
  refine T1.out.mono ?_
  rintro e w1 ⟨hb1, vb, vs, rfl, hbo⟩
  go_wp2_with fail
  refine (T2.out w1 hb1).mono ?_
  rintro e w2 ⟨hb2, vb2, vs2, rfl, hbo2⟩
  have hbo1 : Both w.heap.size (sel (xs.take 5000)) vb vs w2 := ⟨own_below hbo.1 hb2 (Nat.le_refl _), own_below hbo.2 hb2 (Nat.le_refl _)⟩
  obtain ⟨a1, c1, rfl, hc1, hc1x⟩ := own_slice hbo1.1
  obtain ⟨a2, c2, rfl, hc2, hc2x⟩ := own_slice hbo1.2
  obtain ⟨a3, c3, rfl, hc3, hc3x⟩ := own_slice hbo2.1
  obtain ⟨a4, c4, rfl, hc4, hc4x⟩ := own_slice hbo2.2
  have r1 := Lib.hid (own_rb hbo1.1 (encs_byt _))
  have r2 := Lib.hid (own_ri hbo1.2)
  have r3 := Lib.hid (own_rb hbo2.1 (encs_byt _))
  have r4 := Lib.hid (own_ri hbo2.2)
  have s1 := sel_sgs (xs.take 5000)
  have s2 := sel_sgs (ys.take 5000)
  have HB := Lib.hid (hb1.trans (hb2.mono hb1.size))
  clear hbo hbo1 hbo2 hb1 hb2 T1 T2
  generalize sel (xs.take 5000) = ks at *
  generalize sel (ys.take 5000) = ms at *
  have hlex := Lib.hid ((less_eq _ _ (encs_byt ks) (encs_byt ms)).trans (lexI_encs ks ms s1 s2))
  have CV1 := Lib.hid (fun w3 (hb : Below w2.heap.size w2 w3) => run_conv (P := Try.prog) w3 22 9 5 Try.underlying22 Try.underlying5 Try.underlying9 (r1.out.below hb (Nat.le_refl _)) c1)
  have CV2 := Lib.hid (fun w3 (hb : Below w2.heap.size w2 w3) => run_conv (P := Try.prog) w3 22 9 5 Try.underlying22 Try.underlying5 Try.underlying9 (r3.out.below hb (Nat.le_refl _)) c3)
  clear s1 s2 r1 r3
  generalize strOfNums (encs ks) = S1 at *
  generalize strOfNums (encs ms) = S2 at *
  unfold maxLen at hc2x hc4x
  have hk9 : ks.length ≤ 9223372036854775807 := by omega
  have hm9 : ms.length ≤ 9223372036854775807 := by omega
  go_wp2_with fail
  go_loopw [9, 10] (fun ls i wr => ∃ j q : Nat, j ≤ ks.length ∧ j ≤ ms.length ∧ i = .int .i64 j ∧ ls = .bool (decide (ks.length < ms.length)) ∧ Hid (ks.take j = ms.take j) ∧ wr = w2.drewN q) (fun _ i _ => ks.length - (intOf i).toNat)
  case atStart => exact ⟨0, 0, Nat.zero_le _, Nat.zero_le _, rfl, rfl, rfl, rfl⟩
  case round =>
    obtain ⟨j, q, hj, hj2, rfl, rfl, hpre, rfl⟩ := hrel
    have hbq : ∀ q, Below w2.heap.size w2 (w2.drewN q) := fun q => below_drewN (Below.refl _ _) q
    by_cases hlt : j < ks.length ∧ j < ms.length
    · obtain ⟨hl1, hl2⟩ := hlt
      have hl1' : (j : Int) < (ks.length : Int) := by omega
      have hl2' : (j : Int) < (ms.length : Int) := by omega
      obtain ⟨b, off, rfl, _, hc⟩ := r2.out.at_ hl1
      obtain ⟨b', off', rfl, _, hc'⟩ := r4.out.at_ hl2
      have hpart := fun hne => lexI_part j ks ms hpre.out hl1 hl2 hne
      have hnext : ks.getD j 0 = ms.getD j 0 → ks.take (j + 1) = ms.take (j + 1) := fun he => by
        rw [List.take_succ_eq_append_getElem hl1, List.take_succ_eq_append_getElem hl2, hpre.out]
        congr 1
        simpa [List.getD, hl1, hl2] using he
      generalize ks.getD j 0 = x at *
      generalize ms.getD j 0 = y at *
      by_cases hxy : x = y
      · have hn := Lib.hid (hnext hxy)
        subst hxy
        have hbne : (x != x) = false := by simp
        clear hpart hnext
        go_wp2
        go_quiet (fail)
        go_wp2
        go_roundw
        case rel => exact ⟨j + 1, _, by omega, by omega, by go_num, rfl, hn.out, rfl⟩
        case measure => simp [intOf]; omega
      · have hp := Lib.hid (hpart hxy)
        have hbne : (x != y) = true := by rw [bne_iff_ne]; exact hxy
        clear hpart hnext hxy
        go_wp2
        go_quiet (fail)
        go_wp2
        go_quiet (fail)
        go_wp2_with fail
        refine (known_any _).mono ?_
        rintro e w3 ⟨rfl, hb3⟩
        have hb4 := (hbq _).trans (hb3.mono (Nat.le_refl _))
        have cv1 := CV1.out w3 hb4
        have cv2 := CV2.out w3 hb4
        have hx1 := hlex.out
        rw [hp.out] at hx1
        have HB2 := Lib.hid (HB.out.trans (hb4.mono HB.out.size))
        clear hb3 hb4 hbq
        generalize decide (x < y) = t at *
        go_wp2_with fail
        go_ret
        exact ⟨rfl, HB2.out⟩
    · have hend := lexI_end j ks ms hpre.out hj hj2 (by omega)
      have hx1 := hlex.out
      rw [hend] at hx1
      generalize decide (ks.length < ms.length) = t at *
      clear hend
      by_cases hl1 : j < ks.length
      · have hl1' : (j : Int) < (ks.length : Int) := by omega
        have hl2' : ¬ (j : Int) < (ms.length : Int) := by omega
        clear hl1 hlt
        go_wp2_with fail
        refine (known_any _).mono ?_
        rintro e w3 ⟨rfl, hb3⟩
        have hb4 := (hbq _).trans (hb3.mono (Nat.le_refl _))
        have cv1 := CV1.out w3 hb4
        have cv2 := CV2.out w3 hb4
        have HB2 := Lib.hid (HB.out.trans (hb4.mono HB.out.size))
        clear hb3 hb4 hbq
        go_wp2_with fail
        go_ret
        exact ⟨rfl, HB2.out⟩
      · have hl1' : ¬ (j : Int) < (ks.length : Int) := by omega
        clear hl1 hlt
        go_wp2_with fail
        refine (known_any _).mono ?_
        rintro e w3 ⟨rfl, hb3⟩
        have hb4 := (hbq _).trans (hb3.mono (Nat.le_refl _))
        have cv1 := CV1.out w3 hb4
        have cv2 := CV2.out w3 hb4
        have HB2 := Lib.hid (HB.out.trans (hb4.mono HB.out.size))
        clear hb3 hb4 hbq
        go_wp2_with fail
        go_ret
        exact ⟨rfl, HB2.out⟩

theorem utfOrder_walk (A : Option Addr) (n cap : Nat) (zs : List Int) (A2 : Option Addr) (n2 cap2 : Nat) (zs2 : List Int) (w : World) (hrow : Row .i64 w A n cap zs) (hrow2 : Row .i64 w A2 n2 cap2 zs2) :
    Calls Try.prog 8 #[.slice A n cap, .slice A2 n2 cap2] w fun e w' => e = .returned (.bool true) ∧ Below w.heap.size w w' := by
  obtain ⟨xs, hn, hcap, hcap', h, hi⟩ := row_ri hrow
  obtain ⟨ys, hn2, hcap2, hcap2', h2, hi2⟩ := row_ri hrow2
  exact utfOrder_core A A2 n cap n2 cap2 xs ys w h hi hn hcap hcap' h2 hi2 hn2 hcap2 hcap2'
end Go.Proofs.Ytojggmncafjflaa.Utf
