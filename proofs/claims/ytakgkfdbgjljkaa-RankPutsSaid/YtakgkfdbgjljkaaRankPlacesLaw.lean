/-
  Layer 3 (rank): the law on where a number stands: the walk.
-/
import Derived.Test.YtakgkfdbgjljkaaRankKnown
namespace Go.Proofs.Ytakgkfdbgjljkaa.Rank
open Go.ChangeShapes Go.WideShapes Go.ChangeAt Go.RowKit MemC
set_option linter.unusedVariables false

theorem put_step (xs : List Int) (i o : Nat) (hi : i < xs.length) (ho : (oI xs).getD i 0 = o) : (put xs).take (i + 1) = (put xs).take i ++ [xs.getD o 0] := by
  rw [List.take_succ_eq_append_getElem (by rw [put_len]; exact hi)]
  have := put_getD xs i hi
  rw [ho] at this
  rw [← this]
  simp [List.getD, show i < (put xs).length by rw [put_len]; exact hi]

set_option maxRecDepth 100000 in
set_option maxHeartbeats 2000000 in
theorem rankPlaces_core (A : Option Addr) (n cap m : Nat) (xs : List Int) (x : Int) (w : World) (hm : m = min n 300) (hx : xs.length = m) (hcap : n ≤ cap) (hcap' : cap ≤ maxLen) (h : RI w w.heap.size A xs) :
    Calls Try.prog 6 #[.slice A n cap, .int .i64 x] w (True1 w) := by
  obtain ⟨i0, hi0, hz0, hz1, hz2⟩ := info_parts int_info
  have H := Lib.hid h
  have Hn := Lib.hid hx
  unfold maxLen at hcap'
  clear h hx
  by_cases hl : n ≤ 300
  · obtain rfl : n = m := by omega
    have hl' : ¬ (300 : Int) < (n : Int) := by omega
    clear hm
    go_enter Try.func6, Try.ntmps6
    go_wp2_with fail
    refine (place_any A n cap xs x w H.out Hn.out (by omega)).mono ?_
    rintro e w1 ⟨k, rfl, hk, hb⟩
    have B1 := Lib.hid hb
    have HK := Lib.hid hk
    have Hk := Lib.hid hk.1
    clear hb hk
    go_wp2_with fail
    refine (refI_any A n cap xs w1 ((H.out.below B1.out (Nat.le_refl _)).more B1.out.size) Hn.out (by omega)).mono ?_
    rintro e w4 ⟨v4, rfl, hb4, ho4⟩
    obtain ⟨a4, c4, rfl, _, _⟩ := own_slice ho4
    have R4 := Lib.hid (by_reads rfl ho4)
    have B4 := Lib.hid (below_next B1.out hb4)
    clear hb4 ho4
    go_wp2_with fail
    obtain ⟨wo, rfl⟩ : ∃ wo : World, wo = w4 := ⟨_, rfl⟩
    go_loopw [6, 8] (fun s6 s8 wr => ∃ (i : Nat) (va : Option Addr) (vc : Nat), i ≤ n ∧ s8 = .int .i64 i ∧ s6 = .slice va i vc ∧ Hid (wr.ownsRow wo.heap.size 3 1 (.slice va i vc) i (((put xs).take i).map (Value.int .i64))) ∧ Hid (Below wo.heap.size wo wr)) (fun _ s8 _ => n - (intOf s8).toNat)
    case atStart => exact ⟨0, none, 0, Nat.zero_le _, rfl, rfl, World.ownsRow_nil _ _ _ _, Below.refl _ _⟩
    case round =>
      obtain ⟨i, va, vc, hi, rfl, rfl, HO, HB⟩ := hrel
      by_cases hlt : i < n
      · have hlt' : (i : Int) < (n : Int) := by omega
        have hol : (oI xs).length = n := (oI_len xs).trans Hn.out
        obtain ⟨b1, f1, rfl, _, hc1⟩ := (R4.out.below HB.out (Nat.le_refl _)).at_ (i := i) (by rw [ints_len]; exact (ordN_len (ltI_wo xs) n).symm ▸ hlt)
        rw [ints_getD] at hc1
        obtain ⟨o, HOo⟩ : ∃ o, Hid ((oI xs).getD i 0 = o) := ⟨_, rfl⟩
        have ho1 : (ordN (ltI xs) n).getD i 0 = o := by rw [← HOo.out, oI, Hn.out]
        rw [ho1] at hc1
        have hom : o < n := by
          have h2 : (oI xs).getD i 0 ∈ oI xs := by
            have : i < (oI xs).length := by rw [hol]; exact hlt
            simp only [List.getD, List.getElem?_eq_getElem this, Option.getD_some]; exact List.getElem_mem this
          rw [HOo.out] at h2
          have := (oI_is xs).below h2
          rw [Hn.out] at this; exact this
        obtain ⟨b2, f2, rfl, _, hc2⟩ := ((H.out.below B4.out (Nat.le_refl _)).below HB.out B4.out.size).at_ (i := o) (by rw [Hn.out]; exact hom)
        have hom' : (o : Int) < (n : Int) := by omega
        have HV := Lib.hid (put_step xs i o (by rw [Hn.out]; exact hlt) HOo.out)
        clear hol ho1
        generalize xs.getD o 0 = y at *
        go_wp2_with (at_builtin; refine app_one wr rfl (.tmp 25) (.tmp 33) rfl Try.underlying22 hi0 hz0 hz1 hz2 rfl wo.heap.size _ i _ (.int .i64 y) rfl HO.out rfl _ rfl rfl (by omega) (by omega) HB.out.size ?_; intro v2 w2 hown2 hg2 hb2 hat2; obtain ⟨a2, p2, rfl, _, _⟩ := own_slice hown2; have HB2 : Hid (Below wo.heap.size wo w2) := HB.out.trans (hb2 _ (fun q hq => (HO.out.lt q hq).1) HB.out.size); have HO2 : Hid (w2.ownsRow wo.heap.size 3 1 (.slice a2 (i + 1) p2) (i + 1) (((put xs).take (i + 1)).map (Value.int .i64))) := (by rw [HV.out, List.map_append]; exact hown2); clear hown2 hg2 hb2 hat2)
        go_roundw
        case rel => exact ⟨i + 1, a2, p2, by omega, by go_num, rfl, HO2.out, HB2.out⟩
        case measure => simp [intOf]; omega
      · obtain rfl : n = i := by omega
        have hge : ¬ ((n : Nat) : Int) < (n : Int) := by omega
        have hpl : Hid ((put xs).length = n) := by show _ = _; rw [put_len]; exact Hn.out
        have hfull : (put xs).take n = put xs := List.take_of_length_le (by rw [hpl.out]; exact Nat.le_refl _)
        have hown := HO.out
        rw [hfull] at hown
        have RM := Lib.hid (own_rc (d := 0) hown)
        have B5 := Lib.hid (below_next B4.out HB.out)
        have hkk : (k : Int) ≤ (n : Int) := by have := Hk.out; have := Hn.out; omega
        clear hown hfull HO HB R4 B4
        go_wp2_with fail
        refine (known_any wr).mono ?_
        rintro e w6 ⟨rfl, hb6⟩
        have B6 := Lib.hid (below_next B5.out hb6)
        have R6 := Lib.hid ((RM.out.below hb6 (Nat.le_refl _)).more hb6.size)
        clear hb6
        go_wp2_with fail
        refine (place_any va n vc (put xs) x w6 R6.out hpl.out (by omega)).mono ?_
        rintro e w7 ⟨k2, rfl, hk2, hb7⟩
        have B7 := Lib.hid (below_next B6.out hb7)
        have R7 := Lib.hid (R6.out.below hb7 (Nat.le_refl _))
        have HE := Lib.hid (spot_cnt (put_up xs) hk2)
        clear hb7 hk2
        go_wp2_with fail
        refine (refPlace_any va n vc (put xs) x w7 _ R7.out hpl.out (by omega)).mono ?_
        rintro e w8 ⟨rfl, rfl⟩
        rw [HE.out]
        have hkeq : ((k2 : Int) == (k2 : Int)) = true := by simp
        go_wp2_with fail
        go_ret
        exact ⟨rfl, B7.out⟩
  · obtain rfl : m = 300 := by omega
    have hl' : (300 : Int) < (n : Int) := by omega
    have hcl : (300 : Int) ≤ (cap : Int) := by omega
    clear hm
    go_enter Try.func6, Try.ntmps6
    go_wp2_with fail
    refine (place_any A 300 cap xs x w H.out Hn.out (by omega)).mono ?_
    rintro e w1 ⟨k, rfl, hk, hb⟩
    have B1 := Lib.hid hb
    have HK := Lib.hid hk
    have Hk := Lib.hid hk.1
    clear hb hk
    go_wp2_with fail
    refine (refI_any A 300 cap xs w1 ((H.out.below B1.out (Nat.le_refl _)).more B1.out.size) Hn.out (by omega)).mono ?_
    rintro e w4 ⟨v4, rfl, hb4, ho4⟩
    obtain ⟨a4, c4, rfl, _, _⟩ := own_slice ho4
    have R4 := Lib.hid (by_reads rfl ho4)
    have B4 := Lib.hid (below_next B1.out hb4)
    clear hb4 ho4
    go_wp2_with fail
    obtain ⟨wo, rfl⟩ : ∃ wo : World, wo = w4 := ⟨_, rfl⟩
    go_loopw [6, 8] (fun s6 s8 wr => ∃ (i : Nat) (va : Option Addr) (vc : Nat), i ≤ 300 ∧ s8 = .int .i64 i ∧ s6 = .slice va i vc ∧ Hid (wr.ownsRow wo.heap.size 3 1 (.slice va i vc) i (((put xs).take i).map (Value.int .i64))) ∧ Hid (Below wo.heap.size wo wr)) (fun _ s8 _ => 300 - (intOf s8).toNat)
    case atStart => exact ⟨0, none, 0, Nat.zero_le _, rfl, rfl, World.ownsRow_nil _ _ _ _, Below.refl _ _⟩
    case round =>
      obtain ⟨i, va, vc, hi, rfl, rfl, HO, HB⟩ := hrel
      by_cases hlt : i < 300
      · have hlt' : (i : Int) < (300 : Int) := by omega
        have hol : (oI xs).length = 300 := (oI_len xs).trans Hn.out
        obtain ⟨b1, f1, rfl, _, hc1⟩ := (R4.out.below HB.out (Nat.le_refl _)).at_ (i := i) (by rw [ints_len]; exact (ordN_len (ltI_wo xs) 300).symm ▸ hlt)
        rw [ints_getD] at hc1
        obtain ⟨o, HOo⟩ : ∃ o, Hid ((oI xs).getD i 0 = o) := ⟨_, rfl⟩
        have ho1 : (ordN (ltI xs) 300).getD i 0 = o := by rw [← HOo.out, oI, Hn.out]
        rw [ho1] at hc1
        have hom : o < 300 := by
          have h2 : (oI xs).getD i 0 ∈ oI xs := by
            have : i < (oI xs).length := by rw [hol]; exact hlt
            simp only [List.getD, List.getElem?_eq_getElem this, Option.getD_some]; exact List.getElem_mem this
          rw [HOo.out] at h2
          have := (oI_is xs).below h2
          rw [Hn.out] at this; exact this
        obtain ⟨b2, f2, rfl, _, hc2⟩ := ((H.out.below B4.out (Nat.le_refl _)).below HB.out B4.out.size).at_ (i := o) (by rw [Hn.out]; exact hom)
        have hom' : (o : Int) < (300 : Int) := by omega
        have HV := Lib.hid (put_step xs i o (by rw [Hn.out]; exact hlt) HOo.out)
        clear hol ho1
        generalize xs.getD o 0 = y at *
        go_wp2_with (at_builtin; refine app_one wr rfl (.tmp 25) (.tmp 33) rfl Try.underlying22 hi0 hz0 hz1 hz2 rfl wo.heap.size _ i _ (.int .i64 y) rfl HO.out rfl _ rfl rfl (by omega) (by omega) HB.out.size ?_; intro v2 w2 hown2 hg2 hb2 hat2; obtain ⟨a2, p2, rfl, _, _⟩ := own_slice hown2; have HB2 : Hid (Below wo.heap.size wo w2) := HB.out.trans (hb2 _ (fun q hq => (HO.out.lt q hq).1) HB.out.size); have HO2 : Hid (w2.ownsRow wo.heap.size 3 1 (.slice a2 (i + 1) p2) (i + 1) (((put xs).take (i + 1)).map (Value.int .i64))) := (by rw [HV.out, List.map_append]; exact hown2); clear hown2 hg2 hb2 hat2)
        go_roundw
        case rel => exact ⟨i + 1, a2, p2, by omega, by go_num, rfl, HO2.out, HB2.out⟩
        case measure => simp [intOf]; omega
      · obtain rfl : i = 300 := by omega
        have hge : ¬ ((300 : Nat) : Int) < (300 : Int) := by omega
        have hpl : Hid ((put xs).length = 300) := by show _ = _; rw [put_len]; exact Hn.out
        have hfull : (put xs).take 300 = put xs := List.take_of_length_le (by rw [hpl.out]; exact Nat.le_refl _)
        have hown := HO.out
        rw [hfull] at hown
        have RM := Lib.hid (own_rc (d := 0) hown)
        have B5 := Lib.hid (below_next B4.out HB.out)
        have hkk : (k : Int) ≤ (300 : Int) := by have := Hk.out; have := Hn.out; omega
        clear hown hfull HO HB R4 B4
        go_wp2_with fail
        refine (known_any wr).mono ?_
        rintro e w6 ⟨rfl, hb6⟩
        have B6 := Lib.hid (below_next B5.out hb6)
        have R6 := Lib.hid ((RM.out.below hb6 (Nat.le_refl _)).more hb6.size)
        clear hb6
        go_wp2_with fail
        refine (place_any va 300 vc (put xs) x w6 R6.out hpl.out (by omega)).mono ?_
        rintro e w7 ⟨k2, rfl, hk2, hb7⟩
        have B7 := Lib.hid (below_next B6.out hb7)
        have R7 := Lib.hid (R6.out.below hb7 (Nat.le_refl _))
        have HE := Lib.hid (spot_cnt (put_up xs) hk2)
        clear hb7 hk2
        go_wp2_with fail
        refine (refPlace_any va 300 vc (put xs) x w7 _ R7.out hpl.out (by omega)).mono ?_
        rintro e w8 ⟨rfl, rfl⟩
        rw [HE.out]
        have hkeq : ((k2 : Int) == (k2 : Int)) = true := by simp
        go_wp2_with fail
        go_ret
        exact ⟨rfl, B7.out⟩

theorem rankPlaces_walk (A : Option Addr) (n cap : Nat) (zs : List Int) (x : Int) (w : World) (hrow : Row .i64 w A n cap zs) (hxw : (Lit.int .i64 x).wf = true) :
    Calls Try.prog 6 #[.slice A n cap, .int .i64 x] w fun e w' => e = .returned (.bool true) ∧ Below w.heap.size w w' := by
  obtain ⟨xs, hx, hcap, hcap', h, _⟩ := row_ri hrow
  exact rankPlaces_core A n cap (min n 300) (xs.take 300) x w rfl (by rw [List.length_take, hx, Nat.min_comm]) hcap hcap' (h.take 300)
end Go.Proofs.Ytakgkfdbgjljkaa.Rank
