/-
  Layer 3 (rank): the law on a number that is put in its place: the walk.
-/
import Derived.Test.YtakgkfdbgjljkaaRankPlacesLaw
import Derived.Test.YtakgkfdbgjljkaaMemStep
namespace Go.Proofs.Ytakgkfdbgjljkaa.Rank
open Go.ChangeShapes Go.WideShapes Go.ChangeAt Go.RowKit MemC
set_option linter.unusedVariables false

theorem own_zero_c (w : World) (c : Obj) (E : TypeId) : ((w.alloc c).alloc (.cells #[] E)).drew.ownsRow w.heap.size E 1 (.slice (some ⟨w.heap.size + 1, 0, none⟩) 0 0) 0 [] := by
  have := own_base (own_zero (w.alloc c) E) (base' := w.heap.size) (by rw [World.size_alloc]; omega)
  rw [World.size_alloc] at this
  exact this
theorem addr_at (g k : Nat) : (Option.map (fun x => x.add k) (some (⟨g, 0, none⟩ : Addr))) = some ⟨g, k, none⟩ := by
  simp only [Option.map_some, Addr.add]; split <;> simp_all
theorem two_snd (w : World) (a b : Obj) : ((w.alloc a).alloc b).heap[w.heap.size + 1]? = some b := by
  have := heap_alloc_new' (w.alloc a) b
  rw [World.size_alloc] at this
  exact this
theorem two_fst (w : World) (a b : Obj) : ((w.alloc a).alloc b).heap[w.heap.size]? = some a :=
  (Below.heap_alloc _ _ _ (by rw [World.size_alloc]; omega)).trans (heap_alloc_new' w a)

set_option maxRecDepth 100000 in
set_option maxHeartbeats 4000000 in
theorem rankPuts_core (A : Option Addr) (n cap m : Nat) (xs : List Int) (x : Int) (w : World) (hm : m = min n 300) (hx : xs.length = m) (hcap : n ≤ cap) (hcap' : cap ≤ maxLen) (h : RI w w.heap.size A xs) :
    Calls Try.prog 8 #[.slice A n cap, .int .i64 x] w (True1 w) := by
  obtain ⟨i0, hi0, hz0, hz1, hz2⟩ := info_parts int_info
  have H := Lib.hid h
  have Hn := Lib.hid hx
  unfold maxLen at hcap'
  clear h hx
  by_cases hl : n ≤ 300
  · obtain rfl : n = m := by omega
    have hl' : ¬ (300 : Int) < (n : Int) := by omega
    clear hm
    go_enter Try.func8, Try.ntmps8
    go_wp2_with fail
    refine (ints_any A n cap xs w H.out Hn.out (by omega)).mono ?_
    rintro e w4 ⟨v4, rfl, hb4, ho4⟩
    obtain ⟨a4, c4, rfl, _, _⟩ := own_slice ho4
    have R4 := Lib.hid (by_reads rfl ho4)
    have B4 := Lib.hid hb4
    clear hb4 ho4
    go_wp2_with fail
    obtain ⟨wo, rfl⟩ : ∃ wo : World, wo = w4 := ⟨_, rfl⟩
    go_loopw [5, 7] (fun s5 s7 wr => ∃ (i : Nat) (va : Option Addr) (vc : Nat), i ≤ n ∧ s7 = .int .i64 i ∧ s5 = .slice va i vc ∧ Hid (wr.ownsRow wo.heap.size 3 1 (.slice va i vc) i (((put xs).take i).map (Value.int .i64))) ∧ Hid (Below wo.heap.size wo wr)) (fun _ s7 _ => n - (intOf s7).toNat)
    case atStart => exact ⟨0, none, 0, Nat.zero_le _, rfl, rfl, World.ownsRow_nil _ _ _ _, Below.refl _ _⟩
    case round =>
      obtain ⟨i, va, vc, hi, rfl, rfl, HO, HB⟩ := hrel
      by_cases hlt : i < n
      · have hlt' : (i : Int) < (n : Int) := by omega
        have hol : (oI xs).length = n := (oI_len xs).trans Hn.out
        obtain ⟨b1, f1, rfl, _, hc1⟩ := (R4.out.below HB.out (Nat.le_refl _)).at_ (i := i) (by rw [ints_len]; exact (ordN_len (ltI_wo xs) n).symm ▸ hlt)
        rw [ints_getD] at hc1
        obtain ⟨o, HOo⟩ : ∃ o, Hid ((oI xs).getD i 0 = o) := ⟨_, rfl⟩
        have ho1 : (ordN (ltI xs) n).getD i 0 = o := by rw [← HOo.out, oI, Hn.out]
        rw [ho1] at hc1
        have hom : o < n := by
          have h2 : (oI xs).getD i 0 ∈ oI xs := by
            have : i < (oI xs).length := by rw [hol]; exact hlt
            simp only [List.getD, List.getElem?_eq_getElem this, Option.getD_some]; exact List.getElem_mem this
          rw [HOo.out] at h2
          have := (oI_is xs).below h2
          rw [Hn.out] at this; exact this
        obtain ⟨b2, f2, rfl, _, hc2⟩ := ((H.out.below B4.out (Nat.le_refl _)).below HB.out B4.out.size).at_ (i := o) (by rw [Hn.out]; exact hom)
        have hom' : (o : Int) < (n : Int) := by omega
        have hom1 : decide ((o : Int) < 0) = false := by rw [decide_eq_false_iff_not]; omega
        have hom2 : decide ((n : Int) ≤ (o : Int)) = false := by rw [decide_eq_false_iff_not]; omega
        have HV := Lib.hid (put_step xs i o (by rw [Hn.out]; exact hlt) HOo.out)
        clear hol ho1
        generalize xs.getD o 0 = y at *
        go_wp2_with (at_builtin; refine app_one wr rfl (.tmp 40) (.tmp 48) rfl Try.underlying22 hi0 hz0 hz1 hz2 rfl wo.heap.size _ i _ (.int .i64 y) rfl HO.out rfl _ rfl rfl (by omega) (by omega) HB.out.size ?_; intro v2 w2 hown2 hg2 hb2 hat2; obtain ⟨a2, p2, rfl, _, _⟩ := own_slice hown2; have HB2 : Hid (Below wo.heap.size wo w2) := HB.out.trans (hb2 _ (fun q hq => (HO.out.lt q hq).1) HB.out.size); have HO2 : Hid (w2.ownsRow wo.heap.size 3 1 (.slice a2 (i + 1) p2) (i + 1) (((put xs).take (i + 1)).map (Value.int .i64))) := (by rw [HV.out, List.map_append]; exact hown2); clear hown2 hg2 hb2 hat2)
        go_roundw
        case rel => exact ⟨i + 1, a2, p2, by omega, by go_num, rfl, HO2.out, HB2.out⟩
        case measure => simp [intOf]; omega
      · obtain rfl : n = i := by omega
        have hge : ¬ ((n : Nat) : Int) < (n : Int) := by omega
        have hpl : Hid ((put xs).length = n) := by show _ = _; rw [put_len]; exact Hn.out
        have hfull : (put xs).take n = put xs := List.take_of_length_le (by rw [hpl.out]; exact Nat.le_refl _)
        have hown := HO.out
        rw [hfull] at hown
        have HA := Lib.hid (addr0 hown)
        have hvc : Hid (n ≤ vc ∧ vc ≤ 9223372036854775807) := by
          rcases hown.2 with ⟨hv, h0⟩ | ⟨g, cap', cur, hv, _, _, h1, h2, _⟩
          · injection hv with _ _ h3; exact ⟨by omega, by omega⟩
          · injection hv with _ _ h3; unfold maxLen at h2; exact ⟨by omega, by omega⟩
        have RM := Lib.hid (own_rc (d := 0) hown)
        have B5 := Lib.hid (below_next B4.out HB.out)
        clear hown hfull HO HB R4 B4
        generalize hys : put xs = ys at *
        have HU : Hid (Up ys) := hys ▸ put_up xs
        clear hys
        go_wp2_with fail
        refine (place_any va n vc ys x wr RM.out hpl.out (by omega)).mono ?_
        rintro e w7 ⟨k, rfl, hk, hb7⟩
        have B7 := Lib.hid (below_next B5.out hb7)
        have R7 := Lib.hid ((RM.out.below hb7 (Nat.le_refl _)).more hb7.size)
        have HK := Lib.hid hk
        have hkm : k ≤ n := by have := hk.1; rw [hpl.out] at this; exact this
        clear hb7 hk RM
        have R7k := Lib.hid (R7.out.take k)
        have Hk := Lib.hid (show (ys.take k).length = k by rw [List.length_take, hpl.out]; omega)
        have Hd := Lib.hid (show (ys.drop k).length = n - k by rw [List.length_drop, hpl.out])
        have hkm' : (k : Int) ≤ (n : Int) := by omega
        have hkc' : (k : Int) ≤ (vc : Int) := by have := hvc.out; omega
        have hkn1 : decide ((k : Int) < 0) = false := by rw [decide_eq_false_iff_not]; omega
        have hkn2 : decide ((n : Int) < (k : Int)) = false := by rw [decide_eq_false_iff_not]; omega
        have hkn3 : decide (n < k) = false := by rw [decide_eq_false_iff_not]; omega
        have R7d := Lib.hid (R7.out.drop (k := k) (cap := vc) (by rw [hpl.out]; exact hkm) (by rw [hpl.out]; exact hvc.out.1))
        have hvc1 := hvc.out.1
        go_upto_region 14 with (fail)
        go_cut [9] from 61 (fun s9 W => ∃ (a8 : Option Addr) (c8 : Nat), s9 = .slice a8 (n + 1) c8 ∧ Hid (W.ownsRow w7.heap.size 3 1 (.slice a8 (n + 1) c8) (n + 1) ((ys.take k ++ [x] ++ ys.drop k).map (Value.int .i64))) ∧ Hid (Below w7.heap.size w7 W))
        case first =>
          by_cases hck : vc = k
          · rw [if_pos hck] at R7d
            clear HK
            obtain rfl : n = k := by omega
            obtain rfl : n = vc := by omega
            clear hck hkm hkm' hkc' hkn2 hkn3
            go_region_held3 (fun W => Below w7.heap.size w7 W) (first | assumption | (have hh : Below w7.heap.size w7 _ := (by assumption); exact Below.alloc hh (Below.size hh) _) | exact (Below.refl _ _).drew) (first | (refine step_app_b rfl (.tmp 61) (.tmp 64) rfl Try.underlying22 hi0 hz0 hz1 hz2 rfl w7.heap.size _ 0 [] rfl (own_zero w7.drew 3) (Value.int .i64) 0 (fun _ => rfl) w7.heap.size va n n (ys.take n) rfl (R7k.out.below (by assumption) (Nat.le_refl _)) Hk.out (by unfold maxLen; omega) (by omega) (Below.size (by assumption)) ?_; intro v5 w5 hown5 hbel5 hkeep5; have s5 := hbel5 w7 (by assumption); simp only [Nat.zero_add, List.nil_append] at hown5; clear hbel5 hkeep5) | (refine step_app_b rfl (.tmp 61) (.tmp 64) rfl Try.underlying22 hi0 hz0 hz1 hz2 rfl w7.heap.size _ 0 [] rfl ((own_zero w7.drew 3).alloc _) (Value.int .i64) 0 (fun _ => rfl) w7.heap.size va n n (ys.take n) rfl (R7k.out.below (by assumption) (Nat.le_refl _)) Hk.out (by unfold maxLen; omega) (by omega) (Below.size (by assumption)) ?_; intro v5 w5 hown5 hbel5 hkeep5; have s5 := hbel5 w7 (by assumption); simp only [Nat.zero_add, List.nil_append] at hown5; have hx5 : w5.heap[w7.heap.size + 1]? = some (.cells #[.int .i64 x] 3) := (hkeep5 (w7.heap.size + 1) (by simp) (by simp [Act.eval, Value.ownBlock])).trans (two_snd w7 (.cells #[] 3) (.cells #[.int .i64 x] 3)); clear hbel5 hkeep5) | (refine step_app_b rfl (.tmp 61) (.tmp 64) rfl Try.underlying22 hi0 hz0 hz1 hz2 rfl w7.heap.size _ 0 [] rfl (own_zero_c w7 (.cells #[.int .i64 x] 3) 3) (Value.int .i64) 0 (fun _ => rfl) w7.heap.size va n n (ys.take n) rfl (R7k.out.below (by assumption) (Nat.le_refl _)) Hk.out (by unfold maxLen; omega) (by omega) (Below.size (by assumption)) ?_; intro v5 w5 hown5 hbel5 hkeep5; have s5 := hbel5 w7 (by assumption); simp only [Nat.zero_add, List.nil_append] at hown5; have hx5 : w5.heap[w7.heap.size]? = some (.cells #[.int .i64 x] 3) := (hkeep5 w7.heap.size (by simp; omega) (by simp [Act.eval, Value.ownBlock])).trans (two_fst w7 (.cells #[.int .i64 x] 3) (.cells #[] 3)); clear hbel5 hkeep5) | (refine step_app_b rfl (.tmp 65) (.tmp 67) rfl Try.underlying22 hi0 hz0 hz1 hz2 rfl w7.heap.size _ n _ rfl (hown5.alloc _) (Value.int .i64) 0 (fun _ => rfl) _ (some ⟨w5.heap.size, 0, none⟩) 1 1 [x] rfl (rc_new (f := Value.int .i64) w5 [x] 3) rfl (by unfold maxLen; omega) (by omega) (Below.size (by assumption)) ?_; intro v6 w6 hown6 hbel6 hkeep6; have s6 := hbel6 w7 (by assumption); clear hbel6 hkeep6) | (refine step_app_b rfl (.tmp 65) (.tmp 67) rfl Try.underlying22 hi0 hz0 hz1 hz2 rfl w7.heap.size _ n _ rfl hown5 (Value.int .i64) 0 (fun _ => rfl) _ (some ⟨w7.heap.size + 1, 0, none⟩) 1 1 [x] rfl (rc_one hx5 (Nat.lt_succ_self _)) rfl (by unfold maxLen; omega) (by omega) (Below.size (by assumption)) ?_; intro v6 w6 hown6 hbel6 hkeep6; have s6 := hbel6 w7 (by assumption); clear hbel6 hkeep6) | (refine step_app_b rfl (.tmp 65) (.tmp 67) rfl Try.underlying22 hi0 hz0 hz1 hz2 rfl w7.heap.size _ n _ rfl hown5 (Value.int .i64) 0 (fun _ => rfl) _ (some ⟨w7.heap.size, 0, none⟩) 1 1 [x] rfl (rc_one hx5 (Nat.lt_succ_self _)) rfl (by unfold maxLen; omega) (by omega) (Below.size (by assumption)) ?_; intro v6 w6 hown6 hbel6 hkeep6; have s6 := hbel6 w7 (by assumption); clear hbel6 hkeep6) | (refine step_app_b rfl (.tmp 68) (.tmp 71) rfl Try.underlying22 hi0 hz0 hz1 hz2 rfl w7.heap.size _ (n + 1) _ rfl hown6 (Value.int .i64) 0 (fun _ => rfl) w7.heap.size va 0 0 (ys.drop n) rfl (R7d.out.below (by assumption) (Nat.le_refl _)) (by have := Hd.out; omega) (by unfold maxLen; omega) (by omega) (Below.size (by assumption)) ?_; intro v8 w8 hown8 hbel8 hkeep8; have s8 := hbel8 w7 (by assumption); rw [show n + 1 + 0 = n + 1 by omega] at hown8; obtain ⟨a8, c8, rfl, _, _⟩ := own_slice hown8; clear hbel8 hkeep8))
            all_goals (go_wp2_with fail; go_meet)
            all_goals exact ⟨a8, c8, rfl, (by rw [List.map_append, List.map_append]; exact hown8 : World.ownsRow _ _ _ _ _ _ _), s8⟩
          · rw [if_neg hck] at R7d
            rcases HA.out with ⟨_, hz⟩ | ⟨g, rfl⟩
            · exfalso; omega
            have R7e : Hid (RI w7 w7.heap.size (some ⟨g, k, none⟩) (ys.drop k)) := by
              have := R7d.out
              rw [addr_at] at this
              exact this
            clear R7d
            have R7d := R7e
            clear R7e
            go_region_held3 (fun W => Below w7.heap.size w7 W) (first | assumption | (have hh : Below w7.heap.size w7 _ := (by assumption); exact Below.alloc hh (Below.size hh) _) | exact (Below.refl _ _).drew) (first | (refine step_app_b rfl (.tmp 61) (.tmp 64) rfl Try.underlying22 hi0 hz0 hz1 hz2 rfl w7.heap.size _ 0 [] rfl (own_zero w7.drew 3) (Value.int .i64) 0 (fun _ => rfl) w7.heap.size (some ⟨g, 0, none⟩) k vc (ys.take k) rfl (R7k.out.below (by assumption) (Nat.le_refl _)) Hk.out (by unfold maxLen; omega) (by omega) (Below.size (by assumption)) ?_; intro v5 w5 hown5 hbel5 hkeep5; have s5 := hbel5 w7 (by assumption); simp only [Nat.zero_add, List.nil_append] at hown5; clear hbel5 hkeep5) | (refine step_app_b rfl (.tmp 61) (.tmp 64) rfl Try.underlying22 hi0 hz0 hz1 hz2 rfl w7.heap.size _ 0 [] rfl ((own_zero w7.drew 3).alloc _) (Value.int .i64) 0 (fun _ => rfl) w7.heap.size (some ⟨g, 0, none⟩) k vc (ys.take k) rfl (R7k.out.below (by assumption) (Nat.le_refl _)) Hk.out (by unfold maxLen; omega) (by omega) (Below.size (by assumption)) ?_; intro v5 w5 hown5 hbel5 hkeep5; have s5 := hbel5 w7 (by assumption); simp only [Nat.zero_add, List.nil_append] at hown5; have hx5 : w5.heap[w7.heap.size + 1]? = some (.cells #[.int .i64 x] 3) := (hkeep5 (w7.heap.size + 1) (by simp) (by simp [Act.eval, Value.ownBlock])).trans (two_snd w7 (.cells #[] 3) (.cells #[.int .i64 x] 3)); clear hbel5 hkeep5) | (refine step_app_b rfl (.tmp 61) (.tmp 64) rfl Try.underlying22 hi0 hz0 hz1 hz2 rfl w7.heap.size _ 0 [] rfl (own_zero_c w7 (.cells #[.int .i64 x] 3) 3) (Value.int .i64) 0 (fun _ => rfl) w7.heap.size (some ⟨g, 0, none⟩) k vc (ys.take k) rfl (R7k.out.below (by assumption) (Nat.le_refl _)) Hk.out (by unfold maxLen; omega) (by omega) (Below.size (by assumption)) ?_; intro v5 w5 hown5 hbel5 hkeep5; have s5 := hbel5 w7 (by assumption); simp only [Nat.zero_add, List.nil_append] at hown5; have hx5 : w5.heap[w7.heap.size]? = some (.cells #[.int .i64 x] 3) := (hkeep5 w7.heap.size (by simp; omega) (by simp [Act.eval, Value.ownBlock])).trans (two_fst w7 (.cells #[.int .i64 x] 3) (.cells #[] 3)); clear hbel5 hkeep5) | (refine step_app_b rfl (.tmp 65) (.tmp 67) rfl Try.underlying22 hi0 hz0 hz1 hz2 rfl w7.heap.size _ k _ rfl (hown5.alloc _) (Value.int .i64) 0 (fun _ => rfl) _ (some ⟨w5.heap.size, 0, none⟩) 1 1 [x] rfl (rc_new (f := Value.int .i64) w5 [x] 3) rfl (by unfold maxLen; omega) (by omega) (Below.size (by assumption)) ?_; intro v6 w6 hown6 hbel6 hkeep6; have s6 := hbel6 w7 (by assumption); clear hbel6 hkeep6) | (refine step_app_b rfl (.tmp 65) (.tmp 67) rfl Try.underlying22 hi0 hz0 hz1 hz2 rfl w7.heap.size _ k _ rfl hown5 (Value.int .i64) 0 (fun _ => rfl) _ (some ⟨w7.heap.size + 1, 0, none⟩) 1 1 [x] rfl (rc_one hx5 (Nat.lt_succ_self _)) rfl (by unfold maxLen; omega) (by omega) (Below.size (by assumption)) ?_; intro v6 w6 hown6 hbel6 hkeep6; have s6 := hbel6 w7 (by assumption); clear hbel6 hkeep6) | (refine step_app_b rfl (.tmp 65) (.tmp 67) rfl Try.underlying22 hi0 hz0 hz1 hz2 rfl w7.heap.size _ k _ rfl hown5 (Value.int .i64) 0 (fun _ => rfl) _ (some ⟨w7.heap.size, 0, none⟩) 1 1 [x] rfl (rc_one hx5 (Nat.lt_succ_self _)) rfl (by unfold maxLen; omega) (by omega) (Below.size (by assumption)) ?_; intro v6 w6 hown6 hbel6 hkeep6; have s6 := hbel6 w7 (by assumption); clear hbel6 hkeep6) | (refine step_app_b rfl (.tmp 68) (.tmp 71) rfl Try.underlying22 hi0 hz0 hz1 hz2 rfl w7.heap.size _ (k + 1) _ rfl hown6 (Value.int .i64) 0 (fun _ => rfl) w7.heap.size (some ⟨g, k, none⟩) (n - k) (vc - k) (ys.drop k) rfl (R7d.out.below (by assumption) (Nat.le_refl _)) (by have := Hd.out; omega) (by unfold maxLen; omega) (by omega) (Below.size (by assumption)) ?_; intro v8 w8 hown8 hbel8 hkeep8; have s8 := hbel8 w7 (by assumption); rw [show k + 1 + (n - k) = n + 1 by omega] at hown8; obtain ⟨a8, c8, rfl, _, _⟩ := own_slice hown8; clear hbel8 hkeep8))
            all_goals (go_wp2_with fail; go_meet)
            all_goals exact ⟨a8, c8, rfl, (by rw [List.map_append, List.map_append]; exact hown8 : World.ownsRow _ _ _ _ _ _ _), s8⟩
        case rest =>
          clear R7k Hk Hd R7d
          obtain ⟨a8, c8, rfl, HO8, HB8⟩ := hcut
          obtain ⟨w8, rfl⟩ : ∃ w8 : World, w8 = wc := ⟨_, rfl⟩
          have hL : Hid ((ys.take k ++ [x] ++ ys.drop k).length = n + 1) := by
            show _ = _
            have h1 := hpl.out
            simp only [List.length_append, List.length_take, List.length_drop, List.length_cons, List.length_nil]; omega
          have HUL := Lib.hid (spot_up HU.out HK.out)
          have R8 := Lib.hid (own_rc (d := 0) HO8.out)
          have B8 := Lib.hid (below_next B7.out HB8.out)
          have M8 := Lib.hid (R7.out.below HB8.out (Nat.le_refl _))
          have HB8s := Lib.hid HB8.out.size
          clear HO8 HB8 R7 B7
          generalize hLs : ys.take k ++ [x] ++ ys.drop k = L at *
          clear hLs
          go_wp2_with fail
          go_loopw [10] (fun s10 wr => ∃ j q : Nat, j ≤ n ∧ s10 = .int .i64 (j + 1 : Nat) ∧ wr = w8.drewN q) (fun s10 _ => n + 1 - (intOf s10).toNat)
          case atStart => exact ⟨0, 0, Nat.zero_le _, rfl, rfl⟩
          case round =>
            obtain ⟨j, q, hj, rfl, rfl⟩ := hrel
            by_cases hlt : j < n
            · have hlt' : (j : Int) < (n : Int) := by omega
              have hlt2 : (j : Int) + 1 < (n : Int) + 1 := by omega
              have hlt3 : (j : Int) < (n : Int) + 1 := by omega
              obtain ⟨b1, f1, rfl, _, hc⟩ := R8.out.cell (by have := hL.out; omega)
              have hc1 := hc j (by have := hL.out; omega)
              have hc2 := hc (j + 1) (by have := hL.out; omega)
              have hup := HUL.out j (by have := hL.out; omega)
              clear hc
              generalize L.getD j 0 = y1 at *
              generalize L.getD (j + 1) 0 = y2 at *
              have hny : ¬ y2 < y1 := by omega
              go_wp2
              go_quiet (fail)
              go_wp2
              go_roundw
              case rel => exact ⟨j + 1, _, by omega, by first | rfl | go_num | (congr 1; omega), by first | rfl | rw [World.drewN_drewN]⟩
              case measure => simp [intOf]; omega
            · obtain rfl : n = j := by omega
              have hge : ¬ (n : Int) + 1 < (n : Int) + 1 := by omega
              have B9 := Lib.hid (below_drewN B8.out q)
              have M9 : Hid (RI (w8.drewN q) (w8.drewN q).heap.size va ys) := (M8.out.more HB8s.out).keep fun _ _ => rfl
              clear R8 HUL hL B8 M8 HB8s
              generalize w8.drewN q = w9 at *
              go_wp2_with fail
              refine (ints_any va n vc ys w9 M9.out hpl.out (by omega)).mono ?_
              rintro e w10 ⟨v10, rfl, hb10, ho10⟩
              obtain ⟨a10, c10, rfl, _, _⟩ := own_slice ho10
              have hrange : ordN (ltI ys) n = List.range n := by have h1 := oI_up HU.out; unfold oI at h1; rw [hpl.out] at h1; exact h1
              have R10 := Lib.hid (by_reads hrange ho10)
              have B10 := Lib.hid (below_next B9.out hb10)
              have M10 := Lib.hid ((M9.out.below hb10 (Nat.le_refl _)).more hb10.size)
              clear hb10 ho10 hrange B9 M9
              obtain ⟨wp, rfl⟩ : ∃ wp : World, wp = w10 := ⟨_, rfl⟩
              go_wp2_with fail
              go_loop [12] (fun s12 => ∃ j : Nat, j ≤ n ∧ s12 = .int .i64 j) (fun s12 => n - (intOf s12).toNat)
              case atStart => exact ⟨0, Nat.zero_le _, rfl⟩
              case round =>
                obtain ⟨j, hj, rfl⟩ := hrel
                by_cases hlt4 : j < n
                · have hlt' : (j : Int) < (n : Int) := by omega
                  obtain ⟨b1, f1, rfl, _, hc⟩ := R10.out.at_ (i := j) (by rw [ints_len, List.length_range]; exact hlt4)
                  have he : (ints (List.range n)).getD j 0 = (j : Int) := by rw [ints_getD]; simp [List.getD, hlt4]
                  rw [he] at hc
                  have hjj : ((j : Int) != (j : Int)) = false := by simp
                  clear he
                  go_wp2
                  go_round
                  case rel => exact ⟨j + 1, by omega, by go_num⟩
                  case measure => simp [intOf]; omega
                · obtain rfl : n = j := by omega
                  have hge : ¬ ((n : Nat) : Int) < (n : Int) := by omega
                  clear R10
                  go_wp2_with fail
                  refine (known_any wp).mono ?_
                  rintro e w11 ⟨rfl, hb11⟩
                  have B11 := Lib.hid (below_next B10.out hb11)
                  have M11 := Lib.hid (M10.out.below hb11 (Nat.le_refl _))
                  clear hb11 M10 B10
                  have hk1 := HK.out.2.1
                  have hk2 := HK.out.2.2
                  rw [hpl.out] at hk2
                  rcases k with _ | k
                  · by_cases h1 : n = 0
                    · have e1 : ((0 : Int) == (n : Int)) = true := by rw [beq_iff_eq]; omega
                      have e2 : (0 == n) = true := by rw [beq_iff_eq]; omega
                      have H1 := Lib.hid h1
                      clear h1 hk1 hk2
                      go_wp2_with fail
                      go_ret
                      exact ⟨rfl, B11.out⟩
                    · have h0m : 0 < n := by omega
                      obtain ⟨b3, f3, rfl, _, hcc⟩ := M11.out.cell (by have := hpl.out; omega)
                      have hc3 := hcc 0 (by have := hpl.out; omega)
                      rw [Nat.add_zero] at hc3
                      have hx4 := hk2 h0m
                      have hkp : (0 : Int) < (n : Int) := by omega
                      have e1 : ((0 : Int) == (n : Int)) = false := by rw [beq_eq_false_iff_ne]; omega
                      have e2 : (0 == n) = false := by rw [beq_eq_false_iff_ne]; omega
                      clear hcc hk1 hk2
                      generalize ys.getD 0 0 = y4 at *
                      go_wp2_with fail
                      go_ret
                      exact ⟨rfl, B11.out⟩
                  · have hc0 := hk1 (Nat.succ_pos _)
                    rw [Nat.add_sub_cancel] at hc0
                    obtain ⟨b3, f3, rfl, _, hcc⟩ := M11.out.cell (by have := hpl.out; omega)
                    have hc3 := hcc k (by have := hpl.out; omega)
                    have hkp : (k : Int) < (n : Int) := by omega
                    have z2 : ((k : Int) + 1 == 0) = false := by rw [beq_eq_false_iff_ne]; omega
                    by_cases h1 : k + 1 = n
                    · have e1 : ((k : Int) + 1 == (n : Int)) = true := by rw [beq_iff_eq]; omega
                      have e2 : (k + 1 == n) = true := by rw [beq_iff_eq]; omega
                      clear h1 hcc hk1 hk2
                      generalize ys.getD k 0 = y3 at *
                      go_wp2_with fail
                      go_ret
                      exact ⟨rfl, B11.out⟩
                    · have e1 : ((k : Int) + 1 == (n : Int)) = false := by rw [beq_eq_false_iff_ne]; omega
                      have e2 : (k + 1 == n) = false := by rw [beq_eq_false_iff_ne]; omega
                      have hkq : (k : Int) + 1 < (n : Int) := by omega
                      have hc4 := hcc (k + 1) (by have := hpl.out; omega)
                      have hx4 := hk2 (by omega)
                      clear h1 hcc hk1 hk2
                      generalize ys.getD k 0 = y3 at *
                      generalize ys.getD (k + 1) 0 = y4 at *
                      go_wp2_with fail
                      go_ret
                      exact ⟨rfl, B11.out⟩
  · obtain rfl : m = 300 := by omega
    have hl' : (300 : Int) < (n : Int) := by omega
    have hcl : (300 : Int) ≤ (cap : Int) := by omega
    clear hm
    go_enter Try.func8, Try.ntmps8
    go_wp2_with fail
    refine (ints_any A 300 cap xs w H.out Hn.out (by omega)).mono ?_
    rintro e w4 ⟨v4, rfl, hb4, ho4⟩
    obtain ⟨a4, c4, rfl, _, _⟩ := own_slice ho4
    have R4 := Lib.hid (by_reads rfl ho4)
    have B4 := Lib.hid hb4
    clear hb4 ho4
    go_wp2_with fail
    obtain ⟨wo, rfl⟩ : ∃ wo : World, wo = w4 := ⟨_, rfl⟩
    go_loopw [5, 7] (fun s5 s7 wr => ∃ (i : Nat) (va : Option Addr) (vc : Nat), i ≤ 300 ∧ s7 = .int .i64 i ∧ s5 = .slice va i vc ∧ Hid (wr.ownsRow wo.heap.size 3 1 (.slice va i vc) i (((put xs).take i).map (Value.int .i64))) ∧ Hid (Below wo.heap.size wo wr)) (fun _ s7 _ => 300 - (intOf s7).toNat)
    case atStart => exact ⟨0, none, 0, Nat.zero_le _, rfl, rfl, World.ownsRow_nil _ _ _ _, Below.refl _ _⟩
    case round =>
      obtain ⟨i, va, vc, hi, rfl, rfl, HO, HB⟩ := hrel
      by_cases hlt : i < 300
      · have hlt' : (i : Int) < (300 : Int) := by omega
        have hol : (oI xs).length = 300 := (oI_len xs).trans Hn.out
        obtain ⟨b1, f1, rfl, _, hc1⟩ := (R4.out.below HB.out (Nat.le_refl _)).at_ (i := i) (by rw [ints_len]; exact (ordN_len (ltI_wo xs) 300).symm ▸ hlt)
        rw [ints_getD] at hc1
        obtain ⟨o, HOo⟩ : ∃ o, Hid ((oI xs).getD i 0 = o) := ⟨_, rfl⟩
        have ho1 : (ordN (ltI xs) 300).getD i 0 = o := by rw [← HOo.out, oI, Hn.out]
        rw [ho1] at hc1
        have hom : o < 300 := by
          have h2 : (oI xs).getD i 0 ∈ oI xs := by
            have : i < (oI xs).length := by rw [hol]; exact hlt
            simp only [List.getD, List.getElem?_eq_getElem this, Option.getD_some]; exact List.getElem_mem this
          rw [HOo.out] at h2
          have := (oI_is xs).below h2
          rw [Hn.out] at this; exact this
        obtain ⟨b2, f2, rfl, _, hc2⟩ := ((H.out.below B4.out (Nat.le_refl _)).below HB.out B4.out.size).at_ (i := o) (by rw [Hn.out]; exact hom)
        have hom' : (o : Int) < (300 : Int) := by omega
        have hom1 : decide ((o : Int) < 0) = false := by rw [decide_eq_false_iff_not]; omega
        have hom2 : decide ((300 : Int) ≤ (o : Int)) = false := by rw [decide_eq_false_iff_not]; omega
        have HV := Lib.hid (put_step xs i o (by rw [Hn.out]; exact hlt) HOo.out)
        clear hol ho1
        generalize xs.getD o 0 = y at *
        go_wp2_with (at_builtin; refine app_one wr rfl (.tmp 40) (.tmp 48) rfl Try.underlying22 hi0 hz0 hz1 hz2 rfl wo.heap.size _ i _ (.int .i64 y) rfl HO.out rfl _ rfl rfl (by omega) (by omega) HB.out.size ?_; intro v2 w2 hown2 hg2 hb2 hat2; obtain ⟨a2, p2, rfl, _, _⟩ := own_slice hown2; have HB2 : Hid (Below wo.heap.size wo w2) := HB.out.trans (hb2 _ (fun q hq => (HO.out.lt q hq).1) HB.out.size); have HO2 : Hid (w2.ownsRow wo.heap.size 3 1 (.slice a2 (i + 1) p2) (i + 1) (((put xs).take (i + 1)).map (Value.int .i64))) := (by rw [HV.out, List.map_append]; exact hown2); clear hown2 hg2 hb2 hat2)
        go_roundw
        case rel => exact ⟨i + 1, a2, p2, by omega, by go_num, rfl, HO2.out, HB2.out⟩
        case measure => simp [intOf]; omega
      · obtain rfl : i = 300 := by omega
        have hge : ¬ ((300 : Nat) : Int) < (300 : Int) := by omega
        have hpl : Hid ((put xs).length = 300) := by show _ = _; rw [put_len]; exact Hn.out
        have hfull : (put xs).take 300 = put xs := List.take_of_length_le (by rw [hpl.out]; exact Nat.le_refl _)
        have hown := HO.out
        rw [hfull] at hown
        have HA := Lib.hid (addr0 hown)
        have hvc : Hid (300 ≤ vc ∧ vc ≤ 9223372036854775807) := by
          rcases hown.2 with ⟨hv, h0⟩ | ⟨g, cap', cur, hv, _, _, h1, h2, _⟩
          · injection hv with _ _ h3; exact ⟨by omega, by omega⟩
          · injection hv with _ _ h3; unfold maxLen at h2; exact ⟨by omega, by omega⟩
        have RM := Lib.hid (own_rc (d := 0) hown)
        have B5 := Lib.hid (below_next B4.out HB.out)
        clear hown hfull HO HB R4 B4
        generalize hys : put xs = ys at *
        have HU : Hid (Up ys) := hys ▸ put_up xs
        clear hys
        go_wp2_with fail
        refine (place_any va 300 vc ys x wr RM.out hpl.out (by omega)).mono ?_
        rintro e w7 ⟨k, rfl, hk, hb7⟩
        have B7 := Lib.hid (below_next B5.out hb7)
        have R7 := Lib.hid ((RM.out.below hb7 (Nat.le_refl _)).more hb7.size)
        have HK := Lib.hid hk
        have hkm : k ≤ 300 := by have := hk.1; rw [hpl.out] at this; exact this
        clear hb7 hk RM
        have R7k := Lib.hid (R7.out.take k)
        have Hk := Lib.hid (show (ys.take k).length = k by rw [List.length_take, hpl.out]; omega)
        have Hd := Lib.hid (show (ys.drop k).length = 300 - k by rw [List.length_drop, hpl.out])
        have hkm' : (k : Int) ≤ (300 : Int) := by omega
        have hkc' : (k : Int) ≤ (vc : Int) := by have := hvc.out; omega
        have hkn1 : decide ((k : Int) < 0) = false := by rw [decide_eq_false_iff_not]; omega
        have hkn2 : decide ((300 : Int) < (k : Int)) = false := by rw [decide_eq_false_iff_not]; omega
        have hkn3 : decide (300 < k) = false := by rw [decide_eq_false_iff_not]; omega
        have R7d := Lib.hid (R7.out.drop (k := k) (cap := vc) (by rw [hpl.out]; exact hkm) (by rw [hpl.out]; exact hvc.out.1))
        have hvc1 := hvc.out.1
        go_upto_region 14 with (fail)
        go_cut [9] from 61 (fun s9 W => ∃ (a8 : Option Addr) (c8 : Nat), s9 = .slice a8 (301) c8 ∧ Hid (W.ownsRow w7.heap.size 3 1 (.slice a8 (301) c8) (301) ((ys.take k ++ [x] ++ ys.drop k).map (Value.int .i64))) ∧ Hid (Below w7.heap.size w7 W))
        case first =>
          by_cases hck : vc = k
          · rw [if_pos hck] at R7d
            clear HK
            obtain rfl : k = 300 := by omega
            obtain rfl : vc = 300 := by omega
            clear hck hkm hkm' hkc' hkn2 hkn3
            go_region_held3 (fun W => Below w7.heap.size w7 W) (first | assumption | (have hh : Below w7.heap.size w7 _ := (by assumption); exact Below.alloc hh (Below.size hh) _) | exact (Below.refl _ _).drew) (first | (refine step_app_b rfl (.tmp 61) (.tmp 64) rfl Try.underlying22 hi0 hz0 hz1 hz2 rfl w7.heap.size _ 0 [] rfl (own_zero w7.drew 3) (Value.int .i64) 0 (fun _ => rfl) w7.heap.size va 300 300 (ys.take 300) rfl (R7k.out.below (by assumption) (Nat.le_refl _)) Hk.out (by unfold maxLen; omega) (by omega) (Below.size (by assumption)) ?_; intro v5 w5 hown5 hbel5 hkeep5; have s5 := hbel5 w7 (by assumption); simp only [Nat.zero_add, List.nil_append] at hown5; clear hbel5 hkeep5) | (refine step_app_b rfl (.tmp 61) (.tmp 64) rfl Try.underlying22 hi0 hz0 hz1 hz2 rfl w7.heap.size _ 0 [] rfl ((own_zero w7.drew 3).alloc _) (Value.int .i64) 0 (fun _ => rfl) w7.heap.size va 300 300 (ys.take 300) rfl (R7k.out.below (by assumption) (Nat.le_refl _)) Hk.out (by unfold maxLen; omega) (by omega) (Below.size (by assumption)) ?_; intro v5 w5 hown5 hbel5 hkeep5; have s5 := hbel5 w7 (by assumption); simp only [Nat.zero_add, List.nil_append] at hown5; have hx5 : w5.heap[w7.heap.size + 1]? = some (.cells #[.int .i64 x] 3) := (hkeep5 (w7.heap.size + 1) (by simp) (by simp [Act.eval, Value.ownBlock])).trans (two_snd w7 (.cells #[] 3) (.cells #[.int .i64 x] 3)); clear hbel5 hkeep5) | (refine step_app_b rfl (.tmp 61) (.tmp 64) rfl Try.underlying22 hi0 hz0 hz1 hz2 rfl w7.heap.size _ 0 [] rfl (own_zero_c w7 (.cells #[.int .i64 x] 3) 3) (Value.int .i64) 0 (fun _ => rfl) w7.heap.size va 300 300 (ys.take 300) rfl (R7k.out.below (by assumption) (Nat.le_refl _)) Hk.out (by unfold maxLen; omega) (by omega) (Below.size (by assumption)) ?_; intro v5 w5 hown5 hbel5 hkeep5; have s5 := hbel5 w7 (by assumption); simp only [Nat.zero_add, List.nil_append] at hown5; have hx5 : w5.heap[w7.heap.size]? = some (.cells #[.int .i64 x] 3) := (hkeep5 w7.heap.size (by simp; omega) (by simp [Act.eval, Value.ownBlock])).trans (two_fst w7 (.cells #[.int .i64 x] 3) (.cells #[] 3)); clear hbel5 hkeep5) | (refine step_app_b rfl (.tmp 65) (.tmp 67) rfl Try.underlying22 hi0 hz0 hz1 hz2 rfl w7.heap.size _ 300 _ rfl (hown5.alloc _) (Value.int .i64) 0 (fun _ => rfl) _ (some ⟨w5.heap.size, 0, none⟩) 1 1 [x] rfl (rc_new (f := Value.int .i64) w5 [x] 3) rfl (by unfold maxLen; omega) (by omega) (Below.size (by assumption)) ?_; intro v6 w6 hown6 hbel6 hkeep6; have s6 := hbel6 w7 (by assumption); clear hbel6 hkeep6) | (refine step_app_b rfl (.tmp 65) (.tmp 67) rfl Try.underlying22 hi0 hz0 hz1 hz2 rfl w7.heap.size _ 300 _ rfl hown5 (Value.int .i64) 0 (fun _ => rfl) _ (some ⟨w7.heap.size + 1, 0, none⟩) 1 1 [x] rfl (rc_one hx5 (Nat.lt_succ_self _)) rfl (by unfold maxLen; omega) (by omega) (Below.size (by assumption)) ?_; intro v6 w6 hown6 hbel6 hkeep6; have s6 := hbel6 w7 (by assumption); clear hbel6 hkeep6) | (refine step_app_b rfl (.tmp 65) (.tmp 67) rfl Try.underlying22 hi0 hz0 hz1 hz2 rfl w7.heap.size _ 300 _ rfl hown5 (Value.int .i64) 0 (fun _ => rfl) _ (some ⟨w7.heap.size, 0, none⟩) 1 1 [x] rfl (rc_one hx5 (Nat.lt_succ_self _)) rfl (by unfold maxLen; omega) (by omega) (Below.size (by assumption)) ?_; intro v6 w6 hown6 hbel6 hkeep6; have s6 := hbel6 w7 (by assumption); clear hbel6 hkeep6) | (refine step_app_b rfl (.tmp 68) (.tmp 71) rfl Try.underlying22 hi0 hz0 hz1 hz2 rfl w7.heap.size _ (300 + 1) _ rfl hown6 (Value.int .i64) 0 (fun _ => rfl) w7.heap.size va 0 0 (ys.drop 300) rfl (R7d.out.below (by assumption) (Nat.le_refl _)) (by have := Hd.out; omega) (by unfold maxLen; omega) (by omega) (Below.size (by assumption)) ?_; intro v8 w8 hown8 hbel8 hkeep8; have s8 := hbel8 w7 (by assumption); rw [show 300 + 1 + 0 = 301 by omega] at hown8; obtain ⟨a8, c8, rfl, _, _⟩ := own_slice hown8; clear hbel8 hkeep8))
            all_goals (go_wp2_with fail; go_meet)
            all_goals exact ⟨a8, c8, rfl, (by rw [List.map_append, List.map_append]; exact hown8 : World.ownsRow _ _ _ _ _ _ _), s8⟩
          · rw [if_neg hck] at R7d
            rcases HA.out with ⟨_, hz⟩ | ⟨g, rfl⟩
            · exfalso; omega
            have R7e : Hid (RI w7 w7.heap.size (some ⟨g, k, none⟩) (ys.drop k)) := by
              have := R7d.out
              rw [addr_at] at this
              exact this
            clear R7d
            have R7d := R7e
            clear R7e
            go_region_held3 (fun W => Below w7.heap.size w7 W) (first | assumption | (have hh : Below w7.heap.size w7 _ := (by assumption); exact Below.alloc hh (Below.size hh) _) | exact (Below.refl _ _).drew) (first | (refine step_app_b rfl (.tmp 61) (.tmp 64) rfl Try.underlying22 hi0 hz0 hz1 hz2 rfl w7.heap.size _ 0 [] rfl (own_zero w7.drew 3) (Value.int .i64) 0 (fun _ => rfl) w7.heap.size (some ⟨g, 0, none⟩) k vc (ys.take k) rfl (R7k.out.below (by assumption) (Nat.le_refl _)) Hk.out (by unfold maxLen; omega) (by omega) (Below.size (by assumption)) ?_; intro v5 w5 hown5 hbel5 hkeep5; have s5 := hbel5 w7 (by assumption); simp only [Nat.zero_add, List.nil_append] at hown5; clear hbel5 hkeep5) | (refine step_app_b rfl (.tmp 61) (.tmp 64) rfl Try.underlying22 hi0 hz0 hz1 hz2 rfl w7.heap.size _ 0 [] rfl ((own_zero w7.drew 3).alloc _) (Value.int .i64) 0 (fun _ => rfl) w7.heap.size (some ⟨g, 0, none⟩) k vc (ys.take k) rfl (R7k.out.below (by assumption) (Nat.le_refl _)) Hk.out (by unfold maxLen; omega) (by omega) (Below.size (by assumption)) ?_; intro v5 w5 hown5 hbel5 hkeep5; have s5 := hbel5 w7 (by assumption); simp only [Nat.zero_add, List.nil_append] at hown5; have hx5 : w5.heap[w7.heap.size + 1]? = some (.cells #[.int .i64 x] 3) := (hkeep5 (w7.heap.size + 1) (by simp) (by simp [Act.eval, Value.ownBlock])).trans (two_snd w7 (.cells #[] 3) (.cells #[.int .i64 x] 3)); clear hbel5 hkeep5) | (refine step_app_b rfl (.tmp 61) (.tmp 64) rfl Try.underlying22 hi0 hz0 hz1 hz2 rfl w7.heap.size _ 0 [] rfl (own_zero_c w7 (.cells #[.int .i64 x] 3) 3) (Value.int .i64) 0 (fun _ => rfl) w7.heap.size (some ⟨g, 0, none⟩) k vc (ys.take k) rfl (R7k.out.below (by assumption) (Nat.le_refl _)) Hk.out (by unfold maxLen; omega) (by omega) (Below.size (by assumption)) ?_; intro v5 w5 hown5 hbel5 hkeep5; have s5 := hbel5 w7 (by assumption); simp only [Nat.zero_add, List.nil_append] at hown5; have hx5 : w5.heap[w7.heap.size]? = some (.cells #[.int .i64 x] 3) := (hkeep5 w7.heap.size (by simp; omega) (by simp [Act.eval, Value.ownBlock])).trans (two_fst w7 (.cells #[.int .i64 x] 3) (.cells #[] 3)); clear hbel5 hkeep5) | (refine step_app_b rfl (.tmp 65) (.tmp 67) rfl Try.underlying22 hi0 hz0 hz1 hz2 rfl w7.heap.size _ k _ rfl (hown5.alloc _) (Value.int .i64) 0 (fun _ => rfl) _ (some ⟨w5.heap.size, 0, none⟩) 1 1 [x] rfl (rc_new (f := Value.int .i64) w5 [x] 3) rfl (by unfold maxLen; omega) (by omega) (Below.size (by assumption)) ?_; intro v6 w6 hown6 hbel6 hkeep6; have s6 := hbel6 w7 (by assumption); clear hbel6 hkeep6) | (refine step_app_b rfl (.tmp 65) (.tmp 67) rfl Try.underlying22 hi0 hz0 hz1 hz2 rfl w7.heap.size _ k _ rfl hown5 (Value.int .i64) 0 (fun _ => rfl) _ (some ⟨w7.heap.size + 1, 0, none⟩) 1 1 [x] rfl (rc_one hx5 (Nat.lt_succ_self _)) rfl (by unfold maxLen; omega) (by omega) (Below.size (by assumption)) ?_; intro v6 w6 hown6 hbel6 hkeep6; have s6 := hbel6 w7 (by assumption); clear hbel6 hkeep6) | (refine step_app_b rfl (.tmp 65) (.tmp 67) rfl Try.underlying22 hi0 hz0 hz1 hz2 rfl w7.heap.size _ k _ rfl hown5 (Value.int .i64) 0 (fun _ => rfl) _ (some ⟨w7.heap.size, 0, none⟩) 1 1 [x] rfl (rc_one hx5 (Nat.lt_succ_self _)) rfl (by unfold maxLen; omega) (by omega) (Below.size (by assumption)) ?_; intro v6 w6 hown6 hbel6 hkeep6; have s6 := hbel6 w7 (by assumption); clear hbel6 hkeep6) | (refine step_app_b rfl (.tmp 68) (.tmp 71) rfl Try.underlying22 hi0 hz0 hz1 hz2 rfl w7.heap.size _ (k + 1) _ rfl hown6 (Value.int .i64) 0 (fun _ => rfl) w7.heap.size (some ⟨g, k, none⟩) (300 - k) (vc - k) (ys.drop k) rfl (R7d.out.below (by assumption) (Nat.le_refl _)) (by have := Hd.out; omega) (by unfold maxLen; omega) (by omega) (Below.size (by assumption)) ?_; intro v8 w8 hown8 hbel8 hkeep8; have s8 := hbel8 w7 (by assumption); rw [show k + 1 + (300 - k) = 301 by omega] at hown8; obtain ⟨a8, c8, rfl, _, _⟩ := own_slice hown8; clear hbel8 hkeep8))
            all_goals (go_wp2_with fail; go_meet)
            all_goals exact ⟨a8, c8, rfl, (by rw [List.map_append, List.map_append]; exact hown8 : World.ownsRow _ _ _ _ _ _ _), s8⟩
        case rest =>
          clear R7k Hk Hd R7d
          obtain ⟨a8, c8, rfl, HO8, HB8⟩ := hcut
          obtain ⟨w8, rfl⟩ : ∃ w8 : World, w8 = wc := ⟨_, rfl⟩
          have hL : Hid ((ys.take k ++ [x] ++ ys.drop k).length = 301) := by
            show _ = _
            have h1 := hpl.out
            simp only [List.length_append, List.length_take, List.length_drop, List.length_cons, List.length_nil]; omega
          have HUL := Lib.hid (spot_up HU.out HK.out)
          have R8 := Lib.hid (own_rc (d := 0) HO8.out)
          have B8 := Lib.hid (below_next B7.out HB8.out)
          have M8 := Lib.hid (R7.out.below HB8.out (Nat.le_refl _))
          have HB8s := Lib.hid HB8.out.size
          clear HO8 HB8 R7 B7
          generalize hLs : ys.take k ++ [x] ++ ys.drop k = L at *
          clear hLs
          go_wp2_with fail
          go_loopw [10] (fun s10 wr => ∃ j q : Nat, j ≤ 300 ∧ s10 = .int .i64 (j + 1 : Nat) ∧ wr = w8.drewN q) (fun s10 _ => 301 - (intOf s10).toNat)
          case atStart => exact ⟨0, 0, Nat.zero_le _, rfl, rfl⟩
          case round =>
            obtain ⟨j, q, hj, rfl, rfl⟩ := hrel
            by_cases hlt : j < 300
            · have hlt' : (j : Int) < (300 : Int) := by omega
              have hlt2 : (j : Int) + 1 < 301 := by omega
              have hlt3 : (j : Int) < 301 := by omega
              obtain ⟨b1, f1, rfl, _, hc⟩ := R8.out.cell (by have := hL.out; omega)
              have hc1 := hc j (by have := hL.out; omega)
              have hc2 := hc (j + 1) (by have := hL.out; omega)
              have hup := HUL.out j (by have := hL.out; omega)
              clear hc
              generalize L.getD j 0 = y1 at *
              generalize L.getD (j + 1) 0 = y2 at *
              have hny : ¬ y2 < y1 := by omega
              go_wp2
              go_quiet (fail)
              go_wp2
              go_roundw
              case rel => exact ⟨j + 1, _, by omega, by first | rfl | go_num | (congr 1; omega), by first | rfl | rw [World.drewN_drewN]⟩
              case measure => simp [intOf]; omega
            · obtain rfl : j = 300 := by omega
              have hge : ¬ (301 : Int) < 301 := by omega
              have B9 := Lib.hid (below_drewN B8.out q)
              have M9 : Hid (RI (w8.drewN q) (w8.drewN q).heap.size va ys) := (M8.out.more HB8s.out).keep fun _ _ => rfl
              clear R8 HUL hL B8 M8 HB8s
              generalize w8.drewN q = w9 at *
              go_wp2_with fail
              refine (ints_any va 300 vc ys w9 M9.out hpl.out (by omega)).mono ?_
              rintro e w10 ⟨v10, rfl, hb10, ho10⟩
              obtain ⟨a10, c10, rfl, _, _⟩ := own_slice ho10
              have hrange : ordN (ltI ys) 300 = List.range 300 := by have h1 := oI_up HU.out; unfold oI at h1; rw [hpl.out] at h1; exact h1
              have R10 := Lib.hid (by_reads hrange ho10)
              have B10 := Lib.hid (below_next B9.out hb10)
              have M10 := Lib.hid ((M9.out.below hb10 (Nat.le_refl _)).more hb10.size)
              clear hb10 ho10 hrange B9 M9
              obtain ⟨wp, rfl⟩ : ∃ wp : World, wp = w10 := ⟨_, rfl⟩
              go_wp2_with fail
              go_loop [12] (fun s12 => ∃ j : Nat, j ≤ 300 ∧ s12 = .int .i64 j) (fun s12 => 300 - (intOf s12).toNat)
              case atStart => exact ⟨0, Nat.zero_le _, rfl⟩
              case round =>
                obtain ⟨j, hj, rfl⟩ := hrel
                by_cases hlt4 : j < 300
                · have hlt' : (j : Int) < (300 : Int) := by omega
                  obtain ⟨b1, f1, rfl, _, hc⟩ := R10.out.at_ (i := j) (by rw [ints_len, List.length_range]; exact hlt4)
                  have he : (ints (List.range 300)).getD j 0 = (j : Int) := by rw [ints_getD]; simp [List.getD, hlt4]
                  rw [he] at hc
                  have hjj : ((j : Int) != (j : Int)) = false := by simp
                  clear he
                  go_wp2
                  go_round
                  case rel => exact ⟨j + 1, by omega, by go_num⟩
                  case measure => simp [intOf]; omega
                · obtain rfl : j = 300 := by omega
                  have hge : ¬ ((300 : Nat) : Int) < (300 : Int) := by omega
                  clear R10
                  go_wp2_with fail
                  refine (known_any wp).mono ?_
                  rintro e w11 ⟨rfl, hb11⟩
                  have B11 := Lib.hid (below_next B10.out hb11)
                  have M11 := Lib.hid (M10.out.below hb11 (Nat.le_refl _))
                  clear hb11 M10 B10
                  have hk1 := HK.out.2.1
                  have hk2 := HK.out.2.2
                  rw [hpl.out] at hk2
                  rcases k with _ | k
                  · have h0m : 0 < 300 := by omega
                    obtain ⟨b3, f3, rfl, _, hcc⟩ := M11.out.cell (by have := hpl.out; omega)
                    have hc3 := hcc 0 (by have := hpl.out; omega)
                    rw [Nat.add_zero] at hc3
                    have hx4 := hk2 h0m
                    have hkp : (0 : Int) < (300 : Int) := by omega
                    have e1 : ((0 : Int) == (300 : Int)) = false := by rw [beq_eq_false_iff_ne]; omega
                    have e2 : (0 == 300) = false := by rw [beq_eq_false_iff_ne]; omega
                    clear hcc hk1 hk2
                    generalize ys.getD 0 0 = y4 at *
                    go_wp2_with fail
                    go_ret
                    exact ⟨rfl, B11.out⟩
                  · have hc0 := hk1 (Nat.succ_pos _)
                    rw [Nat.add_sub_cancel] at hc0
                    obtain ⟨b3, f3, rfl, _, hcc⟩ := M11.out.cell (by have := hpl.out; omega)
                    have hc3 := hcc k (by have := hpl.out; omega)
                    have hkp : (k : Int) < (300 : Int) := by omega
                    have z2 : ((k : Int) + 1 == 0) = false := by rw [beq_eq_false_iff_ne]; omega
                    by_cases h1 : k + 1 = 300
                    · have e1 : ((k : Int) + 1 == (300 : Int)) = true := by rw [beq_iff_eq]; omega
                      have e2 : (k + 1 == 300) = true := by rw [beq_iff_eq]; omega
                      clear h1 hcc hk1 hk2
                      generalize ys.getD k 0 = y3 at *
                      go_wp2_with fail
                      go_ret
                      exact ⟨rfl, B11.out⟩
                    · have e1 : ((k : Int) + 1 == (300 : Int)) = false := by rw [beq_eq_false_iff_ne]; omega
                      have e2 : (k + 1 == 300) = false := by rw [beq_eq_false_iff_ne]; omega
                      have hkq : (k : Int) + 1 < (300 : Int) := by omega
                      have hc4 := hcc (k + 1) (by have := hpl.out; omega)
                      have hx4 := hk2 (by omega)
                      clear h1 hcc hk1 hk2
                      generalize ys.getD k 0 = y3 at *
                      generalize ys.getD (k + 1) 0 = y4 at *
                      go_wp2_with fail
                      go_ret
                      exact ⟨rfl, B11.out⟩

theorem rankPuts_walk (A : Option Addr) (n cap : Nat) (zs : List Int) (x : Int) (w : World) (hrow : Row .i64 w A n cap zs) (hxw : (Lit.int .i64 x).wf = true) :
    Calls Try.prog 8 #[.slice A n cap, .int .i64 x] w fun e w' => e = .returned (.bool true) ∧ Below w.heap.size w w' := by
  obtain ⟨xs, hx, hcap, hcap', h, _⟩ := row_ri hrow
  exact rankPuts_core A n cap (min n 300) (xs.take 300) x w rfl (by rw [List.length_take, hx, Nat.min_comm]) hcap hcap' (h.take 300)
end Go.Proofs.Ytakgkfdbgjljkaa.Rank
