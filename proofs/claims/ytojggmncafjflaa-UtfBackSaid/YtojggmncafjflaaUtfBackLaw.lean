/-
  Layer 1 (utf): the law on signs and bytes, there and back: the walk.
-/
import Derived.Test.YtojggmncafjflaaUtfTake
import Derived.Test.YtojggmncafjflaaUtfMore
namespace Go.Proofs.Ytojggmncafjflaa.Utf
open Go.ChangeShapes Go.WideShapes Go.ChangeAt Go.RowKit
set_option linter.unusedVariables false

theorem signs_text {ks : List Int} {w w' : World} {e : Ending} (hs : Sgs ks) (h : SignsPost (encs ks) w e w') : Below w.heap.size w w' ∧ ∃ a c, e = .returned (.tuple #[.slice a ks.length c, .int .i64 0]) ∧ RI w' w'.heap.size a ks := by
  obtain ⟨h1, h2⟩ := text_encs hs
  obtain ⟨hb, hp⟩ := h
  refine ⟨hb, ?_⟩
  rcases hp with ⟨hne, _⟩ | ⟨_, v, he, hown⟩
  · exact absurd h2 hne
  · rw [h1] at hown
    obtain ⟨a, c, rfl, _, _⟩ := own_slice hown
    exact ⟨a, c, he, own_ri hown⟩

theorem signs_yes {ys : List Int} {w w' : World} {e : Ending} (hy : bad ys = ys.length) (h : SignsPost ys w e w') : Below w.heap.size w w' ∧ ∃ a c, e = .returned (.tuple #[.slice a (sgn ys).length c, .int .i64 0]) ∧ RI w' w'.heap.size a (sgn ys) := by
  obtain ⟨hb, hp⟩ := h
  refine ⟨hb, ?_⟩
  rcases hp with ⟨hne, _⟩ | ⟨_, v, he, hown⟩
  · exact absurd hy hne
  · obtain ⟨a, c, rfl, _, _⟩ := own_slice hown
    exact ⟨a, c, he, own_ri hown⟩
theorem signs_no {ys : List Int} {w w' : World} {e : Ending} (hy : bad ys ≠ ys.length) (h : SignsPost ys w e w') : Below w.heap.size w w' ∧ e = .returned (.tuple #[.slice none 0 0, .int .i64 3]) := by
  obtain ⟨hb, hp⟩ := h
  refine ⟨hb, ?_⟩
  rcases hp with ⟨_, he⟩ | ⟨he, _⟩
  · exact he
  · exact absurd he hy

set_option maxHeartbeats 8000000 in
set_option maxRecDepth 100000 in
theorem utfBack_ss (A A2 : Option Addr) (n cap n2 cap2 : Nat) (xs ys : List Int) (w : World) (h : RI w w.heap.size A xs) (hi : IntsIn xs) (hn : xs.length = n) (hcap : n ≤ cap) (hcap' : cap ≤ maxLen) (hl : n ≤ 20000)
    (h2 : RB w w.heap.size A2 ys) (hn2 : ys.length = n2) (hcap2 : n2 ≤ cap2) (hcap2' : cap2 ≤ maxLen) (hl2 : n2 ≤ 100000) :
    Calls Try.prog 6 #[.slice A n cap, .slice A2 n2 cap2] w fun e w' => e = .returned (.bool true) ∧ Below w.heap.size w w' := by
  have Hn := Lib.hid hn; have H := Lib.hid h; have HI := Lib.hid hi
  have HY := Lib.hid h2.byt
  have S2 := Lib.hid (fun w1 (hb : Below w.heap.size w w1) => signs_any A2 n2 cap2 ys w1 _ (h2.below hb (Nat.le_refl _)) hn2 hb.size (by omega) hcap2' (by omega))
  have X2 := Lib.hid (fun w1 (hb : Below w.heap.size w w1) t ht => text_any A2 n2 cap2 ys w1 _ (h2.below hb (Nat.le_refl _)) hn2 (by omega) hcap2' t ht)
  have CV := Lib.hid (fun w1 (hb : Below w.heap.size w w1) => run_conv (P := Try.prog) w1 22 9 5 Try.underlying22 Try.underlying5 Try.underlying9 (h2.below hb (Nat.le_refl _)) cap2)
  rw [hn2] at CV
  have Hn2 := Lib.hid hn2
  clear hn h hi h2 hn2
  unfold maxLen at hcap' hcap2'
  have Q1 : (n : Int) ≤ cap := by omega
  have Q2 : (n2 : Int) ≤ cap2 := by omega
  go_enter Try.func6, Try.ntmps6
  go_wp2_with fail
  go_loopw [5, 6, 7, 8, 9] (fun vb vs i _ _ wr => ∃ (k : Nat), k ≤ n ∧ i = .int .i64 k ∧ Both w.heap.size (sel (xs.take k)) vb vs wr ∧ Below w.heap.size w wr) (fun _ _ i _ _ _ => n - (intOf i).toNat)
  case atStart => exact ⟨0, Nat.zero_le _, rfl, both_nil _ _, Below.refl _ _⟩
  case round =>
    obtain ⟨k, hk, rfl, hboth, hbel⟩ := hrel
    by_cases hlt : k < n
    · obtain ⟨b, off, rfl, hbB, hc⟩ := (H.out.below hbel (Nat.le_refl _)).at_ (i := k) (by rw [Hn.out]; exact hlt)
      have hz := HI.out.getD k
      have htk : xs.take (k + 1) = xs.take k ++ [xs.getD k 0] := by
        have hkl : k < xs.length := by rw [Hn.out]; exact hlt
        rw [List.take_succ_eq_append_getElem hkl]; simp [List.getD, hkl]
      have hsel := sel_snoc (xs.take k) (xs.getD k 0)
      rw [← htk] at hsel
      have hsl : (sel (xs.take k)).length ≤ 20000 := by
        have := sel_len (xs.take k)
        rw [List.length_take] at this; omega
      have hel : (encs (sel (xs.take k))).length ≤ 80000 := by have := encs_len (sel (xs.take k)); omega
      generalize xs.getD k 0 = z at *
      generalize sel (xs.take k) = ks at *
      have Hsel := Lib.hid hsel; clear hsel htk
      have h1' : (k : Int) < (n : Int) := by omega
      obtain ⟨hz0, hz1⟩ := hz
      by_cases hl0 : lenI z = 0
      · have hno := Lib.hid (bytes_no z wr hz0 hz1 hl0)
        rw [if_neg (by simp [hl0])] at Hsel
        clear hl0
        go_wp2_with (go_at_call 13; refine hno.out.mono ?_; rintro e w1 ⟨rfl, rfl⟩)
        go_roundw
        case rel => exact ⟨k + 1, by omega, by go_num, by rw [Hsel.out]; exact hboth, hbel⟩
        case measure => simp [intOf]; omega
      · have hyes := Lib.hid (bytes_yes z wr hl0)
        rw [if_pos hl0] at Hsel
        have r1 := Lib.hid (rb_enc wr z 5)
        have hln := Lib.hid (enc_length z)
        have hle := lenI_le z
        have hb2 : Both w.heap.size ks _ _ (wr.alloc (.cells (encV z) 5)) := ⟨hboth.1.alloc _, hboth.2.alloc _⟩
        have hbelA : Below w.heap.size w (wr.alloc (.cells (encV z) 5)) := hbel.alloc hbel.size _
        have hcA : (wr.alloc (.cells (encV z) 5)).cell? ⟨b, off + k, none⟩ = some (.int .i64 z) := (World.cell?_alloc_lt _ _ _ (by have := hbel.size; show b < _; omega)).trans hc
        clear hboth hl0
        generalize lenI z = L at *
        go_wp2_with (first
          | (go_at_call 13; refine hyes.out.mono ?_; rintro e w1 ⟨rfl, rfl⟩)
          | (at_builtin; refine app_rb _ rfl (.tmp 44) (.tmp 45) rfl w.heap.size _ _ _ rfl hb2.1 _ _ _ _ (enc z) rfl r1.out hln.out (by omega) hbelA.size ?_; intro v1 w1 hown1 hg1 hat1; have hb1 : Below w.heap.size w w1 := hbelA.grown hg1 hbelA.size (fun q hq => (hb2.1.lt q hq).1); have hc1 : w1.cell? ⟨b, off + k, none⟩ = some (.int .i64 z) := (hb1.cell (by show b < _; omega)).trans ((hbelA.cell (p := ⟨b, off + k, none⟩) (by show b < _; omega)).symm.trans hcA); obtain ⟨ho1, ho2⟩ := both_step hln.out hb2 hown1 hg1; clear hcA hc hown1 hg1 hat1 hb2 hbelA hbel)
          | (at_builtin; refine app_int w1 rfl (.tmp 47) (.tmp 52) rfl w.heap.size _ ks z rfl ho2 _ rfl rfl (by omega) hb1.size ?_; intro v2 w2 hown2 hd2 hB2 hat2; have hb3 : Below w.heap.size w w2 := hb1.trans (hB2 _ (fun q hq => (ho2.lt q hq).1) hb1.size); have ho3 := both_done ho1 ho2 hd2; clear hd2 hB2 hat2))
        go_roundw
        case rel => exact ⟨k + 1, by omega, by go_num, by rw [Hsel.out]; exact ⟨ho3, hown2⟩, hb3⟩
        case measure => simp [intOf]; omega
    · obtain rfl : n = k := by omega
      have hge : ¬ (n : Int) < (n : Int) := by omega
      have htk : xs.take n = xs := by rw [← Hn.out, List.take_length]
      rw [htk] at hboth
      have hks := sel_sgs xs
      have hsl : (sel xs).length ≤ 20000 := by
        have := sel_len xs
        rw [Hn.out] at this; omega
      have hel : (encs (sel xs)).length ≤ 80000 := by have := encs_len (sel xs); omega
      generalize sel xs = ks at *
      obtain ⟨a1, c1, rfl, hc1, hc1x⟩ := own_slice hboth.1
      obtain ⟨a2, c2, rfl, hc2, hc2x⟩ := own_slice hboth.2
      have r1 := Lib.hid (own_rb hboth.1 (encs_byt _))
      have r2 := Lib.hid (own_ri hboth.2)
      have hm1 := Lib.hid hc1x
      unfold maxLen at hc1x hc2x
      obtain ⟨nb, hnb⟩ : ∃ nb, (encs ks).length = nb := ⟨_, rfl⟩
      have HK := Lib.hid (text_encs hks).2
      rw [hnb] at hboth hc1 hel HK ⊢
      have SP := Lib.hid (signs_any a1 nb c1 (encs ks) wr _ r1.out hnb (Nat.le_refl _) hc1 hm1.out (by omega))
      have Hnb := Lib.hid hnb
      have HKS := Lib.hid hks
      have HW := Lib.hid hbel
      clear hboth hlt htk hnb hks hbel hk
      go_wp2_with fail
      refine SP.out.mono ?_
      rintro e w2 hpost
      obtain ⟨hb2, a3, c3, rfl, r3⟩ := signs_text HKS.out hpost
      have R3 := Lib.hid r3
      have HB2 := Lib.hid hb2
      clear hpost r3 hb2
      go_wp2_with fail
      refine (known_any w2).mono ?_
      rintro e w3 ⟨rfl, hb3⟩
      have SY := Lib.hid (same_yes a3 a2 ks.length c3 c2 ks w3 _ _ (R3.out.below hb3 (Nat.le_refl _)) (r2.out.below (HB2.out.trans (hb3.mono HB2.out.size)) (Nat.le_refl _)) rfl (by omega))
      have HB3 := Lib.hid (HB2.out.trans (hb3.mono HB2.out.size))
      clear hb3
      go_wp2_with fail
      refine SY.out.mono ?_
      rintro e w4 ⟨rfl, q, rfl⟩
      have TX := Lib.hid (text_any a1 nb c1 (encs ks) (w3.drewN q) _ (r1.out.below (below_drewN HB3.out q) (Nat.le_refl _)) Hnb.out hc1 hm1.out true (by rw [HK.out]; simp))
      go_wp2_with fail
      refine TX.out.mono ?_
      rintro e w4 ⟨rfl, rfl⟩
      have HB4 : Hid (Below w.heap.size w (w3.drewN q)) := HW.out.trans ((below_drewN HB3.out q).mono HW.out.size)
      have S2w := Lib.hid (S2.out _ HB4.out)
      go_wp2_with fail
      refine S2w.out.mono ?_
      rintro e w5 hpost
      clear SY TX SP R3 r1 r2 HK HKS S2w
      by_cases hy : bad ys = ys.length
      · obtain ⟨hb5, a6, c6, rfl, r6⟩ := signs_yes hy hpost
        have HB5 := Lib.hid (HB4.out.trans (hb5.mono HB4.out.size))
        have R6 := Lib.hid r6
        obtain ⟨t1, t2⟩ := text_of HY.out hy
        have hsl2 := sgs_len _ t1
        rw [t2, Hn2.out] at hsl2
        have T1 := Lib.hid t1; have T2 := Lib.hid t2
        clear hpost hb5 r6 hy t1 t2
        generalize sgn ys = ss at *
        go_wp2_with fail
        go_loopw [14, 15, 16, 17] (fun va i _ _ wq => ∃ (j : Nat), j ≤ ss.length ∧ i = .int .i64 j ∧ wq.ownsRow w5.heap.size 5 1 va (encs (ss.take j)).length ((encs (ss.take j)).map (Value.int .u8)) ∧ Below w5.heap.size w5 wq) (fun _ i _ _ _ => ss.length - (intOf i).toNat)
        case atStart => exact ⟨0, Nat.zero_le _, rfl, World.ownsRow_nil _ _ _ _, Below.refl _ _⟩
        case round =>
          obtain ⟨j, hj, rfl, hown, hbj⟩ := hrel
          by_cases hlt : j < ss.length
          · obtain ⟨b, off, rfl, hbB, hc⟩ := (R6.out.below hbj (Nat.le_refl _)).at_ (i := j) hlt
            have hz : lenI (ss.getD j 0) ≠ 0 := T1.out _ (by simp [List.getD, hlt])
            have htk : ss.take (j + 1) = ss.take j ++ [ss.getD j 0] := by
              rw [List.take_succ_eq_append_getElem hlt]; simp [List.getD, hlt]
            have hsn : encs (ss.take (j + 1)) = encs (ss.take j) ++ enc (ss.getD j 0) := by rw [htk, encs_snoc]
            have hle4 := lenI_le (ss.getD j 0)
            have hel4 := encs_len (ss.take j)
            rw [List.length_take] at hel4
            generalize ss.getD j 0 = z at *
            generalize encs (ss.take j) = es at *
            have hyes := Lib.hid (bytes_yes z wr hz)
            have r1 := Lib.hid (rb_enc wr z 5)
            have hln := Lib.hid (enc_length z)
            have Hsn := Lib.hid hsn
            have hbA := hbj.alloc hbj.size (.cells (encV z) 5)
            have hoA := hown.alloc (.cells (encV z) 5)
            have hlt' : (j : Int) < (ss.length : Int) := by omega
            clear hown hz htk hsn
            generalize lenI z = L at *
            go_wp2_with (first
              | (go_at_call 13; refine hyes.out.mono ?_; rintro e w6 ⟨rfl, rfl⟩)
              | (at_builtin; refine app_rb _ rfl (.tmp 102) (.tmp 103) rfl w5.heap.size _ _ _ rfl hoA _ _ _ _ (enc z) rfl r1.out hln.out (by omega) hbA.size ?_; intro v6 w6 hown6 hg6 hat6; have hb6 : Below w5.heap.size w5 w6 := hbA.grown hg6 hbA.size (fun q hq => (hoA.lt q hq).1)))
            go_roundw
            case rel => exact ⟨j + 1, by omega, by go_num, by rw [Hsn.out, List.map_append, List.length_append, hln.out]; exact hown6, hb6⟩
            case measure => simp [intOf]; omega
          · obtain rfl : j = ss.length := by omega
            have hge2 : ¬ (ss.length : Int) < (ss.length : Int) := by omega
            rw [List.take_length, T2.out] at hown
            have hyl := Hn2.out
            obtain ⟨a7, c7, rfl, _, _⟩ := own_slice hown
            have cv1 := run_conv (P := Try.prog) wr 22 9 5 Try.underlying22 Try.underlying5 Try.underlying9 (own_rb hown HY.out) c7
            have HB6 := Lib.hid (HB5.out.trans (hbj.mono HB5.out.size))
            have cv2 := CV.out wr HB6.out
            rw [hyl] at cv1 ⊢
            clear hown hyl hlt hbj
            generalize strOfNums ys = s at *
            go_wp2_with fail
            go_ret
            exact ⟨rfl, HB6.out⟩
      · obtain ⟨hb5, rfl⟩ := signs_no hy hpost
        have HB5 := Lib.hid (HB4.out.trans (hb5.mono HB4.out.size))
        have TF := Lib.hid (X2.out _ HB5.out false (by rw [← Hn2.out]; simp [hy]))
        clear hpost hb5 hy
        go_wp2_with fail
        refine TF.out.mono ?_
        rintro e w6 ⟨rfl, rfl⟩
        go_wp2_with fail
        go_ret
        exact ⟨rfl, HB5.out⟩

set_option maxHeartbeats 8000000 in
set_option maxRecDepth 100000 in
theorem utfBack_sl (A A2 : Option Addr) (n cap n2 cap2 : Nat) (xs ys : List Int) (w : World) (h : RI w w.heap.size A xs) (hi : IntsIn xs) (hn : xs.length = n) (hcap : n ≤ cap) (hcap' : cap ≤ maxLen) (hl : n ≤ 20000)
    (h2 : RB w w.heap.size A2 ys) (hn2 : ys.length = 100000) (hcap2 : n2 ≤ cap2) (hcap2' : cap2 ≤ maxLen) (hl2 : 100000 < n2) :
    Calls Try.prog 6 #[.slice A n cap, .slice A2 n2 cap2] w fun e w' => e = .returned (.bool true) ∧ Below w.heap.size w w' := by
  have Hn := Lib.hid hn; have H := Lib.hid h; have HI := Lib.hid hi
  have HY := Lib.hid h2.byt
  have S2 := Lib.hid (fun w1 (hb : Below w.heap.size w w1) => signs_any A2 100000 cap2 ys w1 _ (h2.below hb (Nat.le_refl _)) hn2 hb.size (by omega) hcap2' (by omega))
  have X2 := Lib.hid (fun w1 (hb : Below w.heap.size w w1) t ht => text_any A2 100000 cap2 ys w1 _ (h2.below hb (Nat.le_refl _)) hn2 (by omega) hcap2' t ht)
  have CV := Lib.hid (fun w1 (hb : Below w.heap.size w w1) => run_conv (P := Try.prog) w1 22 9 5 Try.underlying22 Try.underlying5 Try.underlying9 (h2.below hb (Nat.le_refl _)) cap2)
  rw [hn2] at CV
  have Hn2 := Lib.hid hn2
  clear hn h hi h2 hn2
  unfold maxLen at hcap' hcap2'
  have Q1 : (n : Int) ≤ cap := by omega
  have Q2 : (100000 : Int) ≤ cap2 := by omega
  have W2 : (100000 : Int) < (n2 : Int) := by omega
  go_enter Try.func6, Try.ntmps6
  go_wp2_with fail
  go_loopw [5, 6, 7, 8, 9] (fun vb vs i _ _ wr => ∃ (k : Nat), k ≤ n ∧ i = .int .i64 k ∧ Both w.heap.size (sel (xs.take k)) vb vs wr ∧ Below w.heap.size w wr) (fun _ _ i _ _ _ => n - (intOf i).toNat)
  case atStart => exact ⟨0, Nat.zero_le _, rfl, both_nil _ _, Below.refl _ _⟩
  case round =>
    obtain ⟨k, hk, rfl, hboth, hbel⟩ := hrel
    by_cases hlt : k < n
    · obtain ⟨b, off, rfl, hbB, hc⟩ := (H.out.below hbel (Nat.le_refl _)).at_ (i := k) (by rw [Hn.out]; exact hlt)
      have hz := HI.out.getD k
      have htk : xs.take (k + 1) = xs.take k ++ [xs.getD k 0] := by
        have hkl : k < xs.length := by rw [Hn.out]; exact hlt
        rw [List.take_succ_eq_append_getElem hkl]; simp [List.getD, hkl]
      have hsel := sel_snoc (xs.take k) (xs.getD k 0)
      rw [← htk] at hsel
      have hsl : (sel (xs.take k)).length ≤ 20000 := by
        have := sel_len (xs.take k)
        rw [List.length_take] at this; omega
      have hel : (encs (sel (xs.take k))).length ≤ 80000 := by have := encs_len (sel (xs.take k)); omega
      generalize xs.getD k 0 = z at *
      generalize sel (xs.take k) = ks at *
      have Hsel := Lib.hid hsel; clear hsel htk
      have h1' : (k : Int) < (n : Int) := by omega
      obtain ⟨hz0, hz1⟩ := hz
      by_cases hl0 : lenI z = 0
      · have hno := Lib.hid (bytes_no z wr hz0 hz1 hl0)
        rw [if_neg (by simp [hl0])] at Hsel
        clear hl0
        go_wp2_with (go_at_call 13; refine hno.out.mono ?_; rintro e w1 ⟨rfl, rfl⟩)
        go_roundw
        case rel => exact ⟨k + 1, by omega, by go_num, by rw [Hsel.out]; exact hboth, hbel⟩
        case measure => simp [intOf]; omega
      · have hyes := Lib.hid (bytes_yes z wr hl0)
        rw [if_pos hl0] at Hsel
        have r1 := Lib.hid (rb_enc wr z 5)
        have hln := Lib.hid (enc_length z)
        have hle := lenI_le z
        have hb2 : Both w.heap.size ks _ _ (wr.alloc (.cells (encV z) 5)) := ⟨hboth.1.alloc _, hboth.2.alloc _⟩
        have hbelA : Below w.heap.size w (wr.alloc (.cells (encV z) 5)) := hbel.alloc hbel.size _
        have hcA : (wr.alloc (.cells (encV z) 5)).cell? ⟨b, off + k, none⟩ = some (.int .i64 z) := (World.cell?_alloc_lt _ _ _ (by have := hbel.size; show b < _; omega)).trans hc
        clear hboth hl0
        generalize lenI z = L at *
        go_wp2_with (first
          | (go_at_call 13; refine hyes.out.mono ?_; rintro e w1 ⟨rfl, rfl⟩)
          | (at_builtin; refine app_rb _ rfl (.tmp 44) (.tmp 45) rfl w.heap.size _ _ _ rfl hb2.1 _ _ _ _ (enc z) rfl r1.out hln.out (by omega) hbelA.size ?_; intro v1 w1 hown1 hg1 hat1; have hb1 : Below w.heap.size w w1 := hbelA.grown hg1 hbelA.size (fun q hq => (hb2.1.lt q hq).1); have hc1 : w1.cell? ⟨b, off + k, none⟩ = some (.int .i64 z) := (hb1.cell (by show b < _; omega)).trans ((hbelA.cell (p := ⟨b, off + k, none⟩) (by show b < _; omega)).symm.trans hcA); obtain ⟨ho1, ho2⟩ := both_step hln.out hb2 hown1 hg1; clear hcA hc hown1 hg1 hat1 hb2 hbelA hbel)
          | (at_builtin; refine app_int w1 rfl (.tmp 47) (.tmp 52) rfl w.heap.size _ ks z rfl ho2 _ rfl rfl (by omega) hb1.size ?_; intro v2 w2 hown2 hd2 hB2 hat2; have hb3 : Below w.heap.size w w2 := hb1.trans (hB2 _ (fun q hq => (ho2.lt q hq).1) hb1.size); have ho3 := both_done ho1 ho2 hd2; clear hd2 hB2 hat2))
        go_roundw
        case rel => exact ⟨k + 1, by omega, by go_num, by rw [Hsel.out]; exact ⟨ho3, hown2⟩, hb3⟩
        case measure => simp [intOf]; omega
    · obtain rfl : n = k := by omega
      have hge : ¬ (n : Int) < (n : Int) := by omega
      have htk : xs.take n = xs := by rw [← Hn.out, List.take_length]
      rw [htk] at hboth
      have hks := sel_sgs xs
      have hsl : (sel xs).length ≤ 20000 := by
        have := sel_len xs
        rw [Hn.out] at this; omega
      have hel : (encs (sel xs)).length ≤ 80000 := by have := encs_len (sel xs); omega
      generalize sel xs = ks at *
      obtain ⟨a1, c1, rfl, hc1, hc1x⟩ := own_slice hboth.1
      obtain ⟨a2, c2, rfl, hc2, hc2x⟩ := own_slice hboth.2
      have r1 := Lib.hid (own_rb hboth.1 (encs_byt _))
      have r2 := Lib.hid (own_ri hboth.2)
      have hm1 := Lib.hid hc1x
      unfold maxLen at hc1x hc2x
      obtain ⟨nb, hnb⟩ : ∃ nb, (encs ks).length = nb := ⟨_, rfl⟩
      have HK := Lib.hid (text_encs hks).2
      rw [hnb] at hboth hc1 hel HK ⊢
      have SP := Lib.hid (signs_any a1 nb c1 (encs ks) wr _ r1.out hnb (Nat.le_refl _) hc1 hm1.out (by omega))
      have Hnb := Lib.hid hnb
      have HKS := Lib.hid hks
      have HW := Lib.hid hbel
      clear hboth hlt htk hnb hks hbel hk
      go_wp2_with fail
      refine SP.out.mono ?_
      rintro e w2 hpost
      obtain ⟨hb2, a3, c3, rfl, r3⟩ := signs_text HKS.out hpost
      have R3 := Lib.hid r3
      have HB2 := Lib.hid hb2
      clear hpost r3 hb2
      go_wp2_with fail
      refine (known_any w2).mono ?_
      rintro e w3 ⟨rfl, hb3⟩
      have SY := Lib.hid (same_yes a3 a2 ks.length c3 c2 ks w3 _ _ (R3.out.below hb3 (Nat.le_refl _)) (r2.out.below (HB2.out.trans (hb3.mono HB2.out.size)) (Nat.le_refl _)) rfl (by omega))
      have HB3 := Lib.hid (HB2.out.trans (hb3.mono HB2.out.size))
      clear hb3
      go_wp2_with fail
      refine SY.out.mono ?_
      rintro e w4 ⟨rfl, q, rfl⟩
      have TX := Lib.hid (text_any a1 nb c1 (encs ks) (w3.drewN q) _ (r1.out.below (below_drewN HB3.out q) (Nat.le_refl _)) Hnb.out hc1 hm1.out true (by rw [HK.out]; simp))
      go_wp2_with fail
      refine TX.out.mono ?_
      rintro e w4 ⟨rfl, rfl⟩
      have HB4 : Hid (Below w.heap.size w (w3.drewN q)) := HW.out.trans ((below_drewN HB3.out q).mono HW.out.size)
      have S2w := Lib.hid (S2.out _ HB4.out)
      go_wp2_with fail
      refine S2w.out.mono ?_
      rintro e w5 hpost
      clear SY TX SP R3 r1 r2 HK HKS S2w
      by_cases hy : bad ys = ys.length
      · obtain ⟨hb5, a6, c6, rfl, r6⟩ := signs_yes hy hpost
        have HB5 := Lib.hid (HB4.out.trans (hb5.mono HB4.out.size))
        have R6 := Lib.hid r6
        obtain ⟨t1, t2⟩ := text_of HY.out hy
        have hsl2 := sgs_len _ t1
        rw [t2, Hn2.out] at hsl2
        have T1 := Lib.hid t1; have T2 := Lib.hid t2
        clear hpost hb5 r6 hy t1 t2
        generalize sgn ys = ss at *
        go_wp2_with fail
        go_loopw [14, 15, 16, 17] (fun va i _ _ wq => ∃ (j : Nat), j ≤ ss.length ∧ i = .int .i64 j ∧ wq.ownsRow w5.heap.size 5 1 va (encs (ss.take j)).length ((encs (ss.take j)).map (Value.int .u8)) ∧ Below w5.heap.size w5 wq) (fun _ i _ _ _ => ss.length - (intOf i).toNat)
        case atStart => exact ⟨0, Nat.zero_le _, rfl, World.ownsRow_nil _ _ _ _, Below.refl _ _⟩
        case round =>
          obtain ⟨j, hj, rfl, hown, hbj⟩ := hrel
          by_cases hlt : j < ss.length
          · obtain ⟨b, off, rfl, hbB, hc⟩ := (R6.out.below hbj (Nat.le_refl _)).at_ (i := j) hlt
            have hz : lenI (ss.getD j 0) ≠ 0 := T1.out _ (by simp [List.getD, hlt])
            have htk : ss.take (j + 1) = ss.take j ++ [ss.getD j 0] := by
              rw [List.take_succ_eq_append_getElem hlt]; simp [List.getD, hlt]
            have hsn : encs (ss.take (j + 1)) = encs (ss.take j) ++ enc (ss.getD j 0) := by rw [htk, encs_snoc]
            have hle4 := lenI_le (ss.getD j 0)
            have hel4 := encs_len (ss.take j)
            rw [List.length_take] at hel4
            generalize ss.getD j 0 = z at *
            generalize encs (ss.take j) = es at *
            have hyes := Lib.hid (bytes_yes z wr hz)
            have r1 := Lib.hid (rb_enc wr z 5)
            have hln := Lib.hid (enc_length z)
            have Hsn := Lib.hid hsn
            have hbA := hbj.alloc hbj.size (.cells (encV z) 5)
            have hoA := hown.alloc (.cells (encV z) 5)
            have hlt' : (j : Int) < (ss.length : Int) := by omega
            clear hown hz htk hsn
            generalize lenI z = L at *
            go_wp2_with (first
              | (go_at_call 13; refine hyes.out.mono ?_; rintro e w6 ⟨rfl, rfl⟩)
              | (at_builtin; refine app_rb _ rfl (.tmp 102) (.tmp 103) rfl w5.heap.size _ _ _ rfl hoA _ _ _ _ (enc z) rfl r1.out hln.out (by omega) hbA.size ?_; intro v6 w6 hown6 hg6 hat6; have hb6 : Below w5.heap.size w5 w6 := hbA.grown hg6 hbA.size (fun q hq => (hoA.lt q hq).1)))
            go_roundw
            case rel => exact ⟨j + 1, by omega, by go_num, by rw [Hsn.out, List.map_append, List.length_append, hln.out]; exact hown6, hb6⟩
            case measure => simp [intOf]; omega
          · obtain rfl : j = ss.length := by omega
            have hge2 : ¬ (ss.length : Int) < (ss.length : Int) := by omega
            rw [List.take_length, T2.out] at hown
            have hyl := Hn2.out
            obtain ⟨a7, c7, rfl, _, _⟩ := own_slice hown
            have cv1 := run_conv (P := Try.prog) wr 22 9 5 Try.underlying22 Try.underlying5 Try.underlying9 (own_rb hown HY.out) c7
            have HB6 := Lib.hid (HB5.out.trans (hbj.mono HB5.out.size))
            have cv2 := CV.out wr HB6.out
            rw [hyl] at cv1 ⊢
            clear hown hyl hlt hbj
            generalize strOfNums ys = s at *
            go_wp2_with fail
            go_ret
            exact ⟨rfl, HB6.out⟩
      · obtain ⟨hb5, rfl⟩ := signs_no hy hpost
        have HB5 := Lib.hid (HB4.out.trans (hb5.mono HB4.out.size))
        have TF := Lib.hid (X2.out _ HB5.out false (by rw [← Hn2.out]; simp [hy]))
        clear hpost hb5 hy
        go_wp2_with fail
        refine TF.out.mono ?_
        rintro e w6 ⟨rfl, rfl⟩
        go_wp2_with fail
        go_ret
        exact ⟨rfl, HB5.out⟩

set_option maxHeartbeats 8000000 in
set_option maxRecDepth 100000 in
theorem utfBack_ls (A A2 : Option Addr) (n cap n2 cap2 : Nat) (xs ys : List Int) (w : World) (h : RI w w.heap.size A xs) (hi : IntsIn xs) (hn : xs.length = 20000) (hcap : n ≤ cap) (hcap' : cap ≤ maxLen) (hl : 20000 < n)
    (h2 : RB w w.heap.size A2 ys) (hn2 : ys.length = n2) (hcap2 : n2 ≤ cap2) (hcap2' : cap2 ≤ maxLen) (hl2 : n2 ≤ 100000) :
    Calls Try.prog 6 #[.slice A n cap, .slice A2 n2 cap2] w fun e w' => e = .returned (.bool true) ∧ Below w.heap.size w w' := by
  have Hn := Lib.hid hn; have H := Lib.hid h; have HI := Lib.hid hi
  have HY := Lib.hid h2.byt
  have S2 := Lib.hid (fun w1 (hb : Below w.heap.size w w1) => signs_any A2 n2 cap2 ys w1 _ (h2.below hb (Nat.le_refl _)) hn2 hb.size (by omega) hcap2' (by omega))
  have X2 := Lib.hid (fun w1 (hb : Below w.heap.size w w1) t ht => text_any A2 n2 cap2 ys w1 _ (h2.below hb (Nat.le_refl _)) hn2 (by omega) hcap2' t ht)
  have CV := Lib.hid (fun w1 (hb : Below w.heap.size w w1) => run_conv (P := Try.prog) w1 22 9 5 Try.underlying22 Try.underlying5 Try.underlying9 (h2.below hb (Nat.le_refl _)) cap2)
  rw [hn2] at CV
  have Hn2 := Lib.hid hn2
  clear hn h hi h2 hn2
  unfold maxLen at hcap' hcap2'
  have Q1 : (20000 : Int) ≤ cap := by omega
  have Q2 : (n2 : Int) ≤ cap2 := by omega
  have W1 : (20000 : Int) < (n : Int) := by omega
  go_enter Try.func6, Try.ntmps6
  go_wp2_with fail
  go_loopw [5, 6, 7, 8, 9] (fun vb vs i _ _ wr => ∃ (k : Nat), k ≤ 20000 ∧ i = .int .i64 k ∧ Both w.heap.size (sel (xs.take k)) vb vs wr ∧ Below w.heap.size w wr) (fun _ _ i _ _ _ => 20000 - (intOf i).toNat)
  case atStart => exact ⟨0, Nat.zero_le _, rfl, both_nil _ _, Below.refl _ _⟩
  case round =>
    obtain ⟨k, hk, rfl, hboth, hbel⟩ := hrel
    by_cases hlt : k < 20000
    · obtain ⟨b, off, rfl, hbB, hc⟩ := (H.out.below hbel (Nat.le_refl _)).at_ (i := k) (by rw [Hn.out]; exact hlt)
      have hz := HI.out.getD k
      have htk : xs.take (k + 1) = xs.take k ++ [xs.getD k 0] := by
        have hkl : k < xs.length := by rw [Hn.out]; exact hlt
        rw [List.take_succ_eq_append_getElem hkl]; simp [List.getD, hkl]
      have hsel := sel_snoc (xs.take k) (xs.getD k 0)
      rw [← htk] at hsel
      have hsl : (sel (xs.take k)).length ≤ 20000 := by
        have := sel_len (xs.take k)
        rw [List.length_take] at this; omega
      have hel : (encs (sel (xs.take k))).length ≤ 80000 := by have := encs_len (sel (xs.take k)); omega
      generalize xs.getD k 0 = z at *
      generalize sel (xs.take k) = ks at *
      have Hsel := Lib.hid hsel; clear hsel htk
      have h1' : (k : Int) < (20000 : Int) := by omega
      obtain ⟨hz0, hz1⟩ := hz
      by_cases hl0 : lenI z = 0
      · have hno := Lib.hid (bytes_no z wr hz0 hz1 hl0)
        rw [if_neg (by simp [hl0])] at Hsel
        clear hl0
        go_wp2_with (go_at_call 13; refine hno.out.mono ?_; rintro e w1 ⟨rfl, rfl⟩)
        go_roundw
        case rel => exact ⟨k + 1, by omega, by go_num, by rw [Hsel.out]; exact hboth, hbel⟩
        case measure => simp [intOf]; omega
      · have hyes := Lib.hid (bytes_yes z wr hl0)
        rw [if_pos hl0] at Hsel
        have r1 := Lib.hid (rb_enc wr z 5)
        have hln := Lib.hid (enc_length z)
        have hle := lenI_le z
        have hb2 : Both w.heap.size ks _ _ (wr.alloc (.cells (encV z) 5)) := ⟨hboth.1.alloc _, hboth.2.alloc _⟩
        have hbelA : Below w.heap.size w (wr.alloc (.cells (encV z) 5)) := hbel.alloc hbel.size _
        have hcA : (wr.alloc (.cells (encV z) 5)).cell? ⟨b, off + k, none⟩ = some (.int .i64 z) := (World.cell?_alloc_lt _ _ _ (by have := hbel.size; show b < _; omega)).trans hc
        clear hboth hl0
        generalize lenI z = L at *
        go_wp2_with (first
          | (go_at_call 13; refine hyes.out.mono ?_; rintro e w1 ⟨rfl, rfl⟩)
          | (at_builtin; refine app_rb _ rfl (.tmp 44) (.tmp 45) rfl w.heap.size _ _ _ rfl hb2.1 _ _ _ _ (enc z) rfl r1.out hln.out (by omega) hbelA.size ?_; intro v1 w1 hown1 hg1 hat1; have hb1 : Below w.heap.size w w1 := hbelA.grown hg1 hbelA.size (fun q hq => (hb2.1.lt q hq).1); have hc1 : w1.cell? ⟨b, off + k, none⟩ = some (.int .i64 z) := (hb1.cell (by show b < _; omega)).trans ((hbelA.cell (p := ⟨b, off + k, none⟩) (by show b < _; omega)).symm.trans hcA); obtain ⟨ho1, ho2⟩ := both_step hln.out hb2 hown1 hg1; clear hcA hc hown1 hg1 hat1 hb2 hbelA hbel)
          | (at_builtin; refine app_int w1 rfl (.tmp 47) (.tmp 52) rfl w.heap.size _ ks z rfl ho2 _ rfl rfl (by omega) hb1.size ?_; intro v2 w2 hown2 hd2 hB2 hat2; have hb3 : Below w.heap.size w w2 := hb1.trans (hB2 _ (fun q hq => (ho2.lt q hq).1) hb1.size); have ho3 := both_done ho1 ho2 hd2; clear hd2 hB2 hat2))
        go_roundw
        case rel => exact ⟨k + 1, by omega, by go_num, by rw [Hsel.out]; exact ⟨ho3, hown2⟩, hb3⟩
        case measure => simp [intOf]; omega
    · obtain rfl : 20000 = k := by omega
      have hge : ¬ (20000 : Int) < (20000 : Int) := by omega
      have htk : xs.take 20000 = xs := by rw [← Hn.out, List.take_length]
      rw [htk] at hboth
      have hks := sel_sgs xs
      have hsl : (sel xs).length ≤ 20000 := by
        have := sel_len xs
        rw [Hn.out] at this; omega
      have hel : (encs (sel xs)).length ≤ 80000 := by have := encs_len (sel xs); omega
      generalize sel xs = ks at *
      obtain ⟨a1, c1, rfl, hc1, hc1x⟩ := own_slice hboth.1
      obtain ⟨a2, c2, rfl, hc2, hc2x⟩ := own_slice hboth.2
      have r1 := Lib.hid (own_rb hboth.1 (encs_byt _))
      have r2 := Lib.hid (own_ri hboth.2)
      have hm1 := Lib.hid hc1x
      unfold maxLen at hc1x hc2x
      obtain ⟨nb, hnb⟩ : ∃ nb, (encs ks).length = nb := ⟨_, rfl⟩
      have HK := Lib.hid (text_encs hks).2
      rw [hnb] at hboth hc1 hel HK ⊢
      have SP := Lib.hid (signs_any a1 nb c1 (encs ks) wr _ r1.out hnb (Nat.le_refl _) hc1 hm1.out (by omega))
      have Hnb := Lib.hid hnb
      have HKS := Lib.hid hks
      have HW := Lib.hid hbel
      clear hboth hlt htk hnb hks hbel hk
      go_wp2_with fail
      refine SP.out.mono ?_
      rintro e w2 hpost
      obtain ⟨hb2, a3, c3, rfl, r3⟩ := signs_text HKS.out hpost
      have R3 := Lib.hid r3
      have HB2 := Lib.hid hb2
      clear hpost r3 hb2
      go_wp2_with fail
      refine (known_any w2).mono ?_
      rintro e w3 ⟨rfl, hb3⟩
      have SY := Lib.hid (same_yes a3 a2 ks.length c3 c2 ks w3 _ _ (R3.out.below hb3 (Nat.le_refl _)) (r2.out.below (HB2.out.trans (hb3.mono HB2.out.size)) (Nat.le_refl _)) rfl (by omega))
      have HB3 := Lib.hid (HB2.out.trans (hb3.mono HB2.out.size))
      clear hb3
      go_wp2_with fail
      refine SY.out.mono ?_
      rintro e w4 ⟨rfl, q, rfl⟩
      have TX := Lib.hid (text_any a1 nb c1 (encs ks) (w3.drewN q) _ (r1.out.below (below_drewN HB3.out q) (Nat.le_refl _)) Hnb.out hc1 hm1.out true (by rw [HK.out]; simp))
      go_wp2_with fail
      refine TX.out.mono ?_
      rintro e w4 ⟨rfl, rfl⟩
      have HB4 : Hid (Below w.heap.size w (w3.drewN q)) := HW.out.trans ((below_drewN HB3.out q).mono HW.out.size)
      have S2w := Lib.hid (S2.out _ HB4.out)
      go_wp2_with fail
      refine S2w.out.mono ?_
      rintro e w5 hpost
      clear SY TX SP R3 r1 r2 HK HKS S2w
      by_cases hy : bad ys = ys.length
      · obtain ⟨hb5, a6, c6, rfl, r6⟩ := signs_yes hy hpost
        have HB5 := Lib.hid (HB4.out.trans (hb5.mono HB4.out.size))
        have R6 := Lib.hid r6
        obtain ⟨t1, t2⟩ := text_of HY.out hy
        have hsl2 := sgs_len _ t1
        rw [t2, Hn2.out] at hsl2
        have T1 := Lib.hid t1; have T2 := Lib.hid t2
        clear hpost hb5 r6 hy t1 t2
        generalize sgn ys = ss at *
        go_wp2_with fail
        go_loopw [14, 15, 16, 17] (fun va i _ _ wq => ∃ (j : Nat), j ≤ ss.length ∧ i = .int .i64 j ∧ wq.ownsRow w5.heap.size 5 1 va (encs (ss.take j)).length ((encs (ss.take j)).map (Value.int .u8)) ∧ Below w5.heap.size w5 wq) (fun _ i _ _ _ => ss.length - (intOf i).toNat)
        case atStart => exact ⟨0, Nat.zero_le _, rfl, World.ownsRow_nil _ _ _ _, Below.refl _ _⟩
        case round =>
          obtain ⟨j, hj, rfl, hown, hbj⟩ := hrel
          by_cases hlt : j < ss.length
          · obtain ⟨b, off, rfl, hbB, hc⟩ := (R6.out.below hbj (Nat.le_refl _)).at_ (i := j) hlt
            have hz : lenI (ss.getD j 0) ≠ 0 := T1.out _ (by simp [List.getD, hlt])
            have htk : ss.take (j + 1) = ss.take j ++ [ss.getD j 0] := by
              rw [List.take_succ_eq_append_getElem hlt]; simp [List.getD, hlt]
            have hsn : encs (ss.take (j + 1)) = encs (ss.take j) ++ enc (ss.getD j 0) := by rw [htk, encs_snoc]
            have hle4 := lenI_le (ss.getD j 0)
            have hel4 := encs_len (ss.take j)
            rw [List.length_take] at hel4
            generalize ss.getD j 0 = z at *
            generalize encs (ss.take j) = es at *
            have hyes := Lib.hid (bytes_yes z wr hz)
            have r1 := Lib.hid (rb_enc wr z 5)
            have hln := Lib.hid (enc_length z)
            have Hsn := Lib.hid hsn
            have hbA := hbj.alloc hbj.size (.cells (encV z) 5)
            have hoA := hown.alloc (.cells (encV z) 5)
            have hlt' : (j : Int) < (ss.length : Int) := by omega
            clear hown hz htk hsn
            generalize lenI z = L at *
            go_wp2_with (first
              | (go_at_call 13; refine hyes.out.mono ?_; rintro e w6 ⟨rfl, rfl⟩)
              | (at_builtin; refine app_rb _ rfl (.tmp 102) (.tmp 103) rfl w5.heap.size _ _ _ rfl hoA _ _ _ _ (enc z) rfl r1.out hln.out (by omega) hbA.size ?_; intro v6 w6 hown6 hg6 hat6; have hb6 : Below w5.heap.size w5 w6 := hbA.grown hg6 hbA.size (fun q hq => (hoA.lt q hq).1)))
            go_roundw
            case rel => exact ⟨j + 1, by omega, by go_num, by rw [Hsn.out, List.map_append, List.length_append, hln.out]; exact hown6, hb6⟩
            case measure => simp [intOf]; omega
          · obtain rfl : j = ss.length := by omega
            have hge2 : ¬ (ss.length : Int) < (ss.length : Int) := by omega
            rw [List.take_length, T2.out] at hown
            have hyl := Hn2.out
            obtain ⟨a7, c7, rfl, _, _⟩ := own_slice hown
            have cv1 := run_conv (P := Try.prog) wr 22 9 5 Try.underlying22 Try.underlying5 Try.underlying9 (own_rb hown HY.out) c7
            have HB6 := Lib.hid (HB5.out.trans (hbj.mono HB5.out.size))
            have cv2 := CV.out wr HB6.out
            rw [hyl] at cv1 ⊢
            clear hown hyl hlt hbj
            generalize strOfNums ys = s at *
            go_wp2_with fail
            go_ret
            exact ⟨rfl, HB6.out⟩
      · obtain ⟨hb5, rfl⟩ := signs_no hy hpost
        have HB5 := Lib.hid (HB4.out.trans (hb5.mono HB4.out.size))
        have TF := Lib.hid (X2.out _ HB5.out false (by rw [← Hn2.out]; simp [hy]))
        clear hpost hb5 hy
        go_wp2_with fail
        refine TF.out.mono ?_
        rintro e w6 ⟨rfl, rfl⟩
        go_wp2_with fail
        go_ret
        exact ⟨rfl, HB5.out⟩

set_option maxHeartbeats 8000000 in
set_option maxRecDepth 100000 in
theorem utfBack_ll (A A2 : Option Addr) (n cap n2 cap2 : Nat) (xs ys : List Int) (w : World) (h : RI w w.heap.size A xs) (hi : IntsIn xs) (hn : xs.length = 20000) (hcap : n ≤ cap) (hcap' : cap ≤ maxLen) (hl : 20000 < n)
    (h2 : RB w w.heap.size A2 ys) (hn2 : ys.length = 100000) (hcap2 : n2 ≤ cap2) (hcap2' : cap2 ≤ maxLen) (hl2 : 100000 < n2) :
    Calls Try.prog 6 #[.slice A n cap, .slice A2 n2 cap2] w fun e w' => e = .returned (.bool true) ∧ Below w.heap.size w w' := by
  have Hn := Lib.hid hn; have H := Lib.hid h; have HI := Lib.hid hi
  have HY := Lib.hid h2.byt
  have S2 := Lib.hid (fun w1 (hb : Below w.heap.size w w1) => signs_any A2 100000 cap2 ys w1 _ (h2.below hb (Nat.le_refl _)) hn2 hb.size (by omega) hcap2' (by omega))
  have X2 := Lib.hid (fun w1 (hb : Below w.heap.size w w1) t ht => text_any A2 100000 cap2 ys w1 _ (h2.below hb (Nat.le_refl _)) hn2 (by omega) hcap2' t ht)
  have CV := Lib.hid (fun w1 (hb : Below w.heap.size w w1) => run_conv (P := Try.prog) w1 22 9 5 Try.underlying22 Try.underlying5 Try.underlying9 (h2.below hb (Nat.le_refl _)) cap2)
  rw [hn2] at CV
  have Hn2 := Lib.hid hn2
  clear hn h hi h2 hn2
  unfold maxLen at hcap' hcap2'
  have Q1 : (20000 : Int) ≤ cap := by omega
  have Q2 : (100000 : Int) ≤ cap2 := by omega
  have W1 : (20000 : Int) < (n : Int) := by omega
  have W2 : (100000 : Int) < (n2 : Int) := by omega
  go_enter Try.func6, Try.ntmps6
  go_wp2_with fail
  go_loopw [5, 6, 7, 8, 9] (fun vb vs i _ _ wr => ∃ (k : Nat), k ≤ 20000 ∧ i = .int .i64 k ∧ Both w.heap.size (sel (xs.take k)) vb vs wr ∧ Below w.heap.size w wr) (fun _ _ i _ _ _ => 20000 - (intOf i).toNat)
  case atStart => exact ⟨0, Nat.zero_le _, rfl, both_nil _ _, Below.refl _ _⟩
  case round =>
    obtain ⟨k, hk, rfl, hboth, hbel⟩ := hrel
    by_cases hlt : k < 20000
    · obtain ⟨b, off, rfl, hbB, hc⟩ := (H.out.below hbel (Nat.le_refl _)).at_ (i := k) (by rw [Hn.out]; exact hlt)
      have hz := HI.out.getD k
      have htk : xs.take (k + 1) = xs.take k ++ [xs.getD k 0] := by
        have hkl : k < xs.length := by rw [Hn.out]; exact hlt
        rw [List.take_succ_eq_append_getElem hkl]; simp [List.getD, hkl]
      have hsel := sel_snoc (xs.take k) (xs.getD k 0)
      rw [← htk] at hsel
      have hsl : (sel (xs.take k)).length ≤ 20000 := by
        have := sel_len (xs.take k)
        rw [List.length_take] at this; omega
      have hel : (encs (sel (xs.take k))).length ≤ 80000 := by have := encs_len (sel (xs.take k)); omega
      generalize xs.getD k 0 = z at *
      generalize sel (xs.take k) = ks at *
      have Hsel := Lib.hid hsel; clear hsel htk
      have h1' : (k : Int) < (20000 : Int) := by omega
      obtain ⟨hz0, hz1⟩ := hz
      by_cases hl0 : lenI z = 0
      · have hno := Lib.hid (bytes_no z wr hz0 hz1 hl0)
        rw [if_neg (by simp [hl0])] at Hsel
        clear hl0
        go_wp2_with (go_at_call 13; refine hno.out.mono ?_; rintro e w1 ⟨rfl, rfl⟩)
        go_roundw
        case rel => exact ⟨k + 1, by omega, by go_num, by rw [Hsel.out]; exact hboth, hbel⟩
        case measure => simp [intOf]; omega
      · have hyes := Lib.hid (bytes_yes z wr hl0)
        rw [if_pos hl0] at Hsel
        have r1 := Lib.hid (rb_enc wr z 5)
        have hln := Lib.hid (enc_length z)
        have hle := lenI_le z
        have hb2 : Both w.heap.size ks _ _ (wr.alloc (.cells (encV z) 5)) := ⟨hboth.1.alloc _, hboth.2.alloc _⟩
        have hbelA : Below w.heap.size w (wr.alloc (.cells (encV z) 5)) := hbel.alloc hbel.size _
        have hcA : (wr.alloc (.cells (encV z) 5)).cell? ⟨b, off + k, none⟩ = some (.int .i64 z) := (World.cell?_alloc_lt _ _ _ (by have := hbel.size; show b < _; omega)).trans hc
        clear hboth hl0
        generalize lenI z = L at *
        go_wp2_with (first
          | (go_at_call 13; refine hyes.out.mono ?_; rintro e w1 ⟨rfl, rfl⟩)
          | (at_builtin; refine app_rb _ rfl (.tmp 44) (.tmp 45) rfl w.heap.size _ _ _ rfl hb2.1 _ _ _ _ (enc z) rfl r1.out hln.out (by omega) hbelA.size ?_; intro v1 w1 hown1 hg1 hat1; have hb1 : Below w.heap.size w w1 := hbelA.grown hg1 hbelA.size (fun q hq => (hb2.1.lt q hq).1); have hc1 : w1.cell? ⟨b, off + k, none⟩ = some (.int .i64 z) := (hb1.cell (by show b < _; omega)).trans ((hbelA.cell (p := ⟨b, off + k, none⟩) (by show b < _; omega)).symm.trans hcA); obtain ⟨ho1, ho2⟩ := both_step hln.out hb2 hown1 hg1; clear hcA hc hown1 hg1 hat1 hb2 hbelA hbel)
          | (at_builtin; refine app_int w1 rfl (.tmp 47) (.tmp 52) rfl w.heap.size _ ks z rfl ho2 _ rfl rfl (by omega) hb1.size ?_; intro v2 w2 hown2 hd2 hB2 hat2; have hb3 : Below w.heap.size w w2 := hb1.trans (hB2 _ (fun q hq => (ho2.lt q hq).1) hb1.size); have ho3 := both_done ho1 ho2 hd2; clear hd2 hB2 hat2))
        go_roundw
        case rel => exact ⟨k + 1, by omega, by go_num, by rw [Hsel.out]; exact ⟨ho3, hown2⟩, hb3⟩
        case measure => simp [intOf]; omega
    · obtain rfl : 20000 = k := by omega
      have hge : ¬ (20000 : Int) < (20000 : Int) := by omega
      have htk : xs.take 20000 = xs := by rw [← Hn.out, List.take_length]
      rw [htk] at hboth
      have hks := sel_sgs xs
      have hsl : (sel xs).length ≤ 20000 := by
        have := sel_len xs
        rw [Hn.out] at this; omega
      have hel : (encs (sel xs)).length ≤ 80000 := by have := encs_len (sel xs); omega
      generalize sel xs = ks at *
      obtain ⟨a1, c1, rfl, hc1, hc1x⟩ := own_slice hboth.1
      obtain ⟨a2, c2, rfl, hc2, hc2x⟩ := own_slice hboth.2
      have r1 := Lib.hid (own_rb hboth.1 (encs_byt _))
      have r2 := Lib.hid (own_ri hboth.2)
      have hm1 := Lib.hid hc1x
      unfold maxLen at hc1x hc2x
      obtain ⟨nb, hnb⟩ : ∃ nb, (encs ks).length = nb := ⟨_, rfl⟩
      have HK := Lib.hid (text_encs hks).2
      rw [hnb] at hboth hc1 hel HK ⊢
      have SP := Lib.hid (signs_any a1 nb c1 (encs ks) wr _ r1.out hnb (Nat.le_refl _) hc1 hm1.out (by omega))
      have Hnb := Lib.hid hnb
      have HKS := Lib.hid hks
      have HW := Lib.hid hbel
      clear hboth hlt htk hnb hks hbel hk
      go_wp2_with fail
      refine SP.out.mono ?_
      rintro e w2 hpost
      obtain ⟨hb2, a3, c3, rfl, r3⟩ := signs_text HKS.out hpost
      have R3 := Lib.hid r3
      have HB2 := Lib.hid hb2
      clear hpost r3 hb2
      go_wp2_with fail
      refine (known_any w2).mono ?_
      rintro e w3 ⟨rfl, hb3⟩
      have SY := Lib.hid (same_yes a3 a2 ks.length c3 c2 ks w3 _ _ (R3.out.below hb3 (Nat.le_refl _)) (r2.out.below (HB2.out.trans (hb3.mono HB2.out.size)) (Nat.le_refl _)) rfl (by omega))
      have HB3 := Lib.hid (HB2.out.trans (hb3.mono HB2.out.size))
      clear hb3
      go_wp2_with fail
      refine SY.out.mono ?_
      rintro e w4 ⟨rfl, q, rfl⟩
      have TX := Lib.hid (text_any a1 nb c1 (encs ks) (w3.drewN q) _ (r1.out.below (below_drewN HB3.out q) (Nat.le_refl _)) Hnb.out hc1 hm1.out true (by rw [HK.out]; simp))
      go_wp2_with fail
      refine TX.out.mono ?_
      rintro e w4 ⟨rfl, rfl⟩
      have HB4 : Hid (Below w.heap.size w (w3.drewN q)) := HW.out.trans ((below_drewN HB3.out q).mono HW.out.size)
      have S2w := Lib.hid (S2.out _ HB4.out)
      go_wp2_with fail
      refine S2w.out.mono ?_
      rintro e w5 hpost
      clear SY TX SP R3 r1 r2 HK HKS S2w
      by_cases hy : bad ys = ys.length
      · obtain ⟨hb5, a6, c6, rfl, r6⟩ := signs_yes hy hpost
        have HB5 := Lib.hid (HB4.out.trans (hb5.mono HB4.out.size))
        have R6 := Lib.hid r6
        obtain ⟨t1, t2⟩ := text_of HY.out hy
        have hsl2 := sgs_len _ t1
        rw [t2, Hn2.out] at hsl2
        have T1 := Lib.hid t1; have T2 := Lib.hid t2
        clear hpost hb5 r6 hy t1 t2
        generalize sgn ys = ss at *
        go_wp2_with fail
        go_loopw [14, 15, 16, 17] (fun va i _ _ wq => ∃ (j : Nat), j ≤ ss.length ∧ i = .int .i64 j ∧ wq.ownsRow w5.heap.size 5 1 va (encs (ss.take j)).length ((encs (ss.take j)).map (Value.int .u8)) ∧ Below w5.heap.size w5 wq) (fun _ i _ _ _ => ss.length - (intOf i).toNat)
        case atStart => exact ⟨0, Nat.zero_le _, rfl, World.ownsRow_nil _ _ _ _, Below.refl _ _⟩
        case round =>
          obtain ⟨j, hj, rfl, hown, hbj⟩ := hrel
          by_cases hlt : j < ss.length
          · obtain ⟨b, off, rfl, hbB, hc⟩ := (R6.out.below hbj (Nat.le_refl _)).at_ (i := j) hlt
            have hz : lenI (ss.getD j 0) ≠ 0 := T1.out _ (by simp [List.getD, hlt])
            have htk : ss.take (j + 1) = ss.take j ++ [ss.getD j 0] := by
              rw [List.take_succ_eq_append_getElem hlt]; simp [List.getD, hlt]
            have hsn : encs (ss.take (j + 1)) = encs (ss.take j) ++ enc (ss.getD j 0) := by rw [htk, encs_snoc]
            have hle4 := lenI_le (ss.getD j 0)
            have hel4 := encs_len (ss.take j)
            rw [List.length_take] at hel4
            generalize ss.getD j 0 = z at *
            generalize encs (ss.take j) = es at *
            have hyes := Lib.hid (bytes_yes z wr hz)
            have r1 := Lib.hid (rb_enc wr z 5)
            have hln := Lib.hid (enc_length z)
            have Hsn := Lib.hid hsn
            have hbA := hbj.alloc hbj.size (.cells (encV z) 5)
            have hoA := hown.alloc (.cells (encV z) 5)
            have hlt' : (j : Int) < (ss.length : Int) := by omega
            clear hown hz htk hsn
            generalize lenI z = L at *
            go_wp2_with (first
              | (go_at_call 13; refine hyes.out.mono ?_; rintro e w6 ⟨rfl, rfl⟩)
              | (at_builtin; refine app_rb _ rfl (.tmp 102) (.tmp 103) rfl w5.heap.size _ _ _ rfl hoA _ _ _ _ (enc z) rfl r1.out hln.out (by omega) hbA.size ?_; intro v6 w6 hown6 hg6 hat6; have hb6 : Below w5.heap.size w5 w6 := hbA.grown hg6 hbA.size (fun q hq => (hoA.lt q hq).1)))
            go_roundw
            case rel => exact ⟨j + 1, by omega, by go_num, by rw [Hsn.out, List.map_append, List.length_append, hln.out]; exact hown6, hb6⟩
            case measure => simp [intOf]; omega
          · obtain rfl : j = ss.length := by omega
            have hge2 : ¬ (ss.length : Int) < (ss.length : Int) := by omega
            rw [List.take_length, T2.out] at hown
            have hyl := Hn2.out
            obtain ⟨a7, c7, rfl, _, _⟩ := own_slice hown
            have cv1 := run_conv (P := Try.prog) wr 22 9 5 Try.underlying22 Try.underlying5 Try.underlying9 (own_rb hown HY.out) c7
            have HB6 := Lib.hid (HB5.out.trans (hbj.mono HB5.out.size))
            have cv2 := CV.out wr HB6.out
            rw [hyl] at cv1 ⊢
            clear hown hyl hlt hbj
            generalize strOfNums ys = s at *
            go_wp2_with fail
            go_ret
            exact ⟨rfl, HB6.out⟩
      · obtain ⟨hb5, rfl⟩ := signs_no hy hpost
        have HB5 := Lib.hid (HB4.out.trans (hb5.mono HB4.out.size))
        have TF := Lib.hid (X2.out _ HB5.out false (by rw [← Hn2.out]; simp [hy]))
        clear hpost hb5 hy
        go_wp2_with fail
        refine TF.out.mono ?_
        rintro e w6 ⟨rfl, rfl⟩
        go_wp2_with fail
        go_ret
        exact ⟨rfl, HB5.out⟩

theorem utfBack_walk (A : Option Addr) (n cap : Nat) (zs : List Int) (A2 : Option Addr) (n2 cap2 : Nat) (zs2 : List Int) (w : World) (hrow : Row .i64 w A n cap zs) (hrow2 : Row .u8 w A2 n2 cap2 zs2) :
    Calls Try.prog 6 #[.slice A n cap, .slice A2 n2 cap2] w fun e w' => e = .returned (.bool true) ∧ Below w.heap.size w w' := by
  obtain ⟨xs, hn, hcap, hcap', h, hi⟩ := row_ri hrow
  obtain ⟨ys, hn2, hcap2, hcap2', h2⟩ := row_rb hrow2
  by_cases hl : n ≤ 20000
  · by_cases hl2 : n2 ≤ 100000
    · exact utfBack_ss A A2 n cap n2 cap2 xs ys w h hi hn hcap hcap' hl h2 hn2 hcap2 hcap2' hl2
    · exact utfBack_sl A A2 n cap n2 cap2 xs (ys.take 100000) w h hi hn hcap hcap' hl (h2.take _) (by rw [List.length_take]; omega) hcap2 hcap2' (by omega)
  · by_cases hl2 : n2 ≤ 100000
    · exact utfBack_ls A A2 n cap n2 cap2 (xs.take 20000) ys w (h.take _) (hi.take _) (by rw [List.length_take]; omega) hcap hcap' (by omega) h2 hn2 hcap2 hcap2' hl2
    · exact utfBack_ll A A2 n cap n2 cap2 (xs.take 20000) (ys.take 100000) w (h.take _) (hi.take _) (by rw [List.length_take]; omega) hcap hcap' (by omega) (h2.take _) (by rw [List.length_take]; omega) hcap2 hcap2' (by omega)
end Go.Proofs.Ytojggmncafjflaa.Utf
