/-
  Layer 2 (line): the law that lines lead there and back: the walk.
-/
import Derived.Test.YtccbbmkdmdllgaaLineSame
import Derived.Deep.RegionHeld3
namespace Go.Proofs.Ytccbbmkdmdllgaa.Line
open Go.ChangeShapes Go.WideShapes Go.ChangeAt Go.RowKit Mem
set_option linter.unusedVariables false

/-- Of a line: it isn't empty; ahead of its last byte no newline; the last byte is one, but of the last line. -/
theorem lns_facts (xs : List Int) {i : Nat} (hi : i < (lns xs).length) : 0 < ((lns xs).getD i []).length ∧ (∀ j, j + 1 < ((lns xs).getD i []).length → ((lns xs).getD i []).getD j 0 ≠ 10) ∧ (i + 1 < (lns xs).length → ((lns xs).getD i []).getD (((lns xs).getD i []).length - 1) 0 = 10) := by
  refine ⟨lns_pos xs hi, ?_⟩
  have key : ∀ (body : List Int) (j : Nat), 10 ∉ body → j < body.length → body.getD j 0 ≠ 10 := fun body j hb hj e => by
    apply hb
    rw [← e]
    simp only [List.getD, List.getElem?_eq_getElem hj, Option.getD_some]
    exact List.getElem_mem _
  obtain ⟨b, hb, h | ⟨h, h2, h3⟩⟩ := lns_form xs i hi
  · rw [h]
    refine ⟨fun j hj => ?_, fun _ => by simp [List.getD]⟩
    have hj2 : j < b.length := by simpa using hj
    have e : (b ++ [10]).getD j 0 = b.getD j 0 := by simp [List.getD, List.getElem?_append_left hj2]
    rw [e]; exact key b j hb hj2
  · rw [h]
    exact ⟨fun j hj => key b j hb (by omega), fun h4 => by omega⟩

theorem lv_conv {w : World} {base : Nat} {v : Value} {x : List Int} (h : LV w base v x) : ∃ A c, v = .slice A x.length c ∧ (convert 22 9 (.slice A x.length c)).run Try.prog w = .ok (.string (strOfNums x)) w := by
  obtain ⟨A, c, e, _, _, r⟩ := h.lr
  exact ⟨A, c, e, conv_lr r rfl w (fun _ _ => rfl)⟩
theorem bel_step {w1 W w3 : World} (hb3 : Below W.heap.size W w3) (h : Below w1.heap.size w1 W) : Below w1.heap.size w1 w3 := h.trans (hb3.mono h.size)

set_option maxHeartbeats 8000000 in
set_option maxRecDepth 100000 in
theorem lineBack_walk (A : Option Addr) (n cap : Nat) (zs : List Int) (at_ : Int) (w : World) (hrow : Row .u8 w A n cap zs) (hat : (Lit.int .i64 at_).wf = true) :
    Calls Try.prog 5 #[.slice A n cap, .int .i64 at_] w fun e w' => e = .returned (.bool true) ∧ Below w.heap.size w w' := by
  obtain ⟨xs0, hn0, hcap0, hcap', h0⟩ := row_rb hrow
  clear hrow hat
  have F := Lib.hid (few_any A n cap w hcap0 hcap')
  have h := h0.take 20000
  have hn : (xs0.take 20000).length = min n 20000 := by rw [List.length_take, hn0, Nat.min_comm]
  have hcap : min n 20000 ≤ cap := by omega
  have hsm : min n 20000 ≤ 20000 := by omega
  generalize xs0.take 20000 = xs at *
  generalize min n 20000 = m at *
  have hll := lns_len xs
  have hsl := sts_le xs
  have SP := Lib.hid (split_any A m cap xs w _ h (Nat.le_refl _) hn hcap hcap' (by omega))
  have ST := Lib.hid (fun w1 (hb : Below w.heap.size w w1) => starts_any A m cap xs w1 _ (h.below hb (Nat.le_refl _)) hb.size hn hcap hcap' (by omega))
  have HCB := Lib.hid (fun w1 (hb : Below w.heap.size w w1) => conv_lr h hn (c := cap) w1 (fun p hp => hb.cell hp))
  have HN := Lib.hid hn
  unfold maxLen at hcap'
  obtain ⟨kx, hkx, hkxm⟩ := idx_of at_ m (by omega)
  have HPx := Lib.hid (pl_back xs kx (by omega))
  obtain ⟨ls, hls⟩ : ∃ ls, (sts xs).length = ls := ⟨_, rfl⟩
  obtain ⟨ll, hlle⟩ : ∃ ll, (lns xs).length = ll := ⟨_, rfl⟩
  rw [hls] at hsl HPx
  rw [hlle] at hll HPx
  have HFL := Lib.hid (fun i hi => lns_facts xs (i := i) hi)
  have HLS := Lib.hid hls
  have HLL := Lib.hid hlle
  have HKX := Lib.hid hkx
  have hlsm : ls ≤ 20001 := by omega
  have hllm : ll ≤ 20001 := by omega
  have hfl := Lib.hid (lns_flat xs)
  clear h0 hn0 hcap0 h hn hls hlle hkx hsl hll
  go_enter Try.func5, Try.ntmps5
  go_wp2_with fail
  refine F.out.mono ?_
  rintro e w' ⟨rfl, rfl⟩
  go_wp2_with fail
  refine SP.out.mono ?_
  rintro e w1 ⟨hb1, v1, rfl, hO1⟩
  obtain ⟨a1, c1, vs, rfl, _, _, hvl, hv1, hl1⟩ := hO1.reads
  rw [HLL.out] at hvl
  rw [HLL.out]
  have J1 := Lib.hid (fun w2 (hb : Below w1.heap.size w1 w2) => join_any a1 ll c1 vs (lns xs) w2 _ (hv1.below hb (Nat.le_refl _)) (hl1.mono fun _ _ hh => hh.below hb (Nat.le_refl _)) hb.size HLL.out (by omega) (by rw [lns_flat]; have := HN.out; omega))
  have HV := Lib.hid hv1
  have HL := Lib.hid hl1
  have HB1 := Lib.hid hb1
  have hcb : ∀ W, Below w1.heap.size w1 W → (convert 22 9 (.slice A m cap)).run Try.prog W = .ok (.string (strOfNums xs)) W := fun W hW => HCB.out W (HB1.out.trans (hW.mono HB1.out.size))
  clear hO1 hv1 hl1 hb1 SP F
  rw [hfl.out] at J1
  generalize hs : strOfNums xs = s at *
  have HS := Lib.hid hs
  clear hs
  have hrefl : Below w1.heap.size w1 w1.drew := (Below.refl _ _).drew
  go_wp2_with fail
  refine wp_region_noPanic ?_
  refine wp_region_held_drew (S := fun W => Below w1.heap.size w1 W) (by kernel_rfl) hrefl (fun hHeld => ?_)
  refine wpAnyH_ready (rs := [0]) (by kernel_rfl) (by simp) ?_
  refine AllReadyH.cons rfl (fun K hK => ?_) AllReadyH.nil
  go_simp
  go_at_call 12
  refine (known_any _).mono ?_
  rintro e w2 ⟨rfl, hb2⟩
  have hk2 : Below w1.heap.size w1 w2 := bel_step hb2 hHeld
  go_wp2_with fail
  refine hK.out _ _ ?_ (fun hHeld1 => ?_)
  · exact hk2
  clear hK K hHeld
  try simp only [Act.put]
  try simp only [List.setIfInBounds_toArray]
  try simp only [List.set_cons_succ]
  try simp only [List.set_cons_zero]
  refine wpAnyH_take (i := 1) (v := ?v2) rfl (by kernel_rfl) (by kernel_rfl) (by kernel_rfl) (fun _ _ _ h => h) (Or.inl ⟨by rfl, ?y2⟩) hHeld1 ?r2
  case y2 => (intro W hSw; (try dsimp only at hSw); go_simp; try with_reducible rfl)
  try simp only [Act.put]
  try simp only [List.setIfInBounds_toArray]
  try simp only [List.set_cons_succ]
  try simp only [List.set_cons_zero]
  refine wpAnyH_take (i := 2) (v := ?v3) rfl (by kernel_rfl) (by kernel_rfl) (by kernel_rfl) (fun _ _ _ h => h) (Or.inl ⟨by rfl, ?y3⟩) hHeld1 ?r3
  case y3 => (intro W hSw; (try dsimp only at hSw); go_simp; try with_reducible rfl)
  try simp only [Act.put]
  try simp only [List.setIfInBounds_toArray]
  try simp only [List.set_cons_succ]
  try simp only [List.set_cons_zero]
  refine wpAnyH_take (i := 3) (v := ?v4) rfl (by kernel_rfl) (by kernel_rfl) (by kernel_rfl) (fun _ _ _ h => h) (Or.inl ⟨by rfl, ?y4⟩) hHeld1 ?r4
  case y4 => (intro W hSw; (try dsimp only at hSw); go_simp; try with_reducible rfl)
  try simp only [Act.put]
  try simp only [List.setIfInBounds_toArray]
  try simp only [List.set_cons_succ]
  try simp only [List.set_cons_zero]
  refine wpAnyH_take (i := 6) (v := ?v5) rfl (by kernel_rfl) (by kernel_rfl) (by kernel_rfl) (fun _ _ _ h => h) (Or.inl ⟨by rfl, ?y5⟩) hHeld1 ?r5
  case y5 => (intro W hSw; (try dsimp only at hSw); go_simp; try with_reducible rfl)
  try simp only [Act.put]
  try simp only [List.setIfInBounds_toArray]
  try simp only [List.set_cons_succ]
  try simp only [List.set_cons_zero]
  refine wpAnyH_take (i := 7) (v := ?v6) rfl (by kernel_rfl) (by kernel_rfl) (by kernel_rfl) (fun _ _ _ h => h) (Or.inl ⟨by rfl, ?y6⟩) hHeld1 ?r6
  case y6 => (intro W hSw; (try dsimp only at hSw); go_simp; try with_reducible rfl)
  try simp only [Act.put]
  try simp only [List.setIfInBounds_toArray]
  try simp only [List.set_cons_succ]
  try simp only [List.set_cons_zero]
  refine wpAnyH_ready (rs := [4]) (by kernel_rfl) (by simp) ?_
  refine AllReadyH.cons rfl (fun K hK => ?_) AllReadyH.nil
  go_simp
  go_at_call 17
  refine (J1.out _ hHeld1).mono ?_
  rintro e w3 ⟨hb3, v3, rfl, hv3⟩
  have hb3' : Below w1.heap.size w1 w3 := bel_step hb3 hHeld1
  obtain ⟨A3, c3, rfl, hcv3⟩ := lv_conv hv3
  rw [HS.out] at hcv3
  go_wp2_with fail
  refine hK.out _ _ ?_ (fun hHeld7 => ?_)
  · exact hb3'
  clear hK K hHeld1
  try simp only [Act.put]
  try simp only [List.setIfInBounds_toArray]
  try simp only [List.set_cons_succ]
  try simp only [List.set_cons_zero]
  refine wpAnyH_ready (rs := [5]) (by kernel_rfl) (by simp) ?_
  refine AllReadyH.cons rfl (fun K hK => ?_) AllReadyH.nil
  go_simp
  refine hK.out _ _ ?_ (fun hHeld8 => ?_)
  · exact hHeld7
  clear hK K hHeld7
  try simp only [Act.put]
  try simp only [List.setIfInBounds_toArray]
  try simp only [List.set_cons_succ]
  try simp only [List.set_cons_zero]
  refine wpAnyH_take (i := 8) (v := ?v9) rfl (by kernel_rfl) (by kernel_rfl) (by kernel_rfl) (fun _ _ _ h => h) (Or.inl ⟨by rfl, ?y9⟩) hHeld8 ?r9
  case y9 => (intro W hSw; (try dsimp only at hSw); go_simp; try with_reducible rfl)
  try simp only [Act.put]
  try simp only [List.setIfInBounds_toArray]
  try simp only [List.set_cons_succ]
  try simp only [List.set_cons_zero]
  refine wpAnyH_take (i := 9) (v := ?v10) rfl (by kernel_rfl) (by kernel_rfl) (by kernel_rfl) (fun _ _ _ h => h) (Or.inl ⟨by rfl, ?y10⟩) hHeld8 ?r10
  case y10 => (intro W hSw; (try dsimp only at hSw); go_simp; try with_reducible rfl)
  try simp only [Act.put]
  try simp only [List.setIfInBounds_toArray]
  try simp only [List.set_cons_succ]
  try simp only [List.set_cons_zero]
  refine wpAnyH_done (by kernel_rfl) ?_ _
  refine NoPanic.normal ?_
  have hV3 := HV.out.below hb3' (Nat.le_refl _)
  have hL3 := HL.out.mono fun _ _ hh => LR.below hh hb3' (Nat.le_refl _)
  have hsz13 := hb3'.size
  have HB3 := Lib.hid (HB1.out.trans (hb3'.mono HB1.out.size))
  have hvl2 := Lib.hid hvl
  have HV3 := Lib.hid hV3
  have HL3 := Lib.hid hL3
  clear hb3 hb3' hcv3 hV3 hL3 hcb hv3 hvl hrefl
  go_wp2
  go_loopw [6, 7] (fun i _ wr => ∃ (k q : Nat), k ≤ ll ∧ i = .int .i64 k ∧ wr = w3.drewN q) (fun i _ _ => ll - (intOf i).toNat)
  case atStart => exact ⟨0, 0, Nat.zero_le _, rfl, rfl⟩
  case round =>
    obtain ⟨k, q, hk, rfl, rfl⟩ := hrel
    by_cases hlt : k < ll
    · obtain ⟨b, off, rfl, _, hc⟩ := HV3.out.at_ (i := k) (by rw [hvl2.out]; exact hlt)
      obtain ⟨A1, d1, e1, hd1, hd1x, r1⟩ := HL3.out.at_ (i := k) (by rw [HLL.out]; exact hlt) undef []
      rw [e1] at hc
      obtain ⟨f1, f2, f3⟩ := HFL.out k (by rw [HLL.out]; exact hlt)
      rw [HLL.out] at f3
      obtain ⟨X, hX⟩ : ∃ X, (lns xs).getD k [] = X := ⟨_, rfl⟩
      rw [hX] at hc hd1 r1 f1 f2 f3
      obtain ⟨b2, off2, rfl, _, hcx⟩ := r1.cell (by intro e; rw [e] at f1; simp at f1)
      have hby := r1.byt
      obtain ⟨r, hr⟩ : ∃ r, X.length = r + 1 := ⟨X.length - 1, by omega⟩
      rw [hr] at hc hd1 f2 f3
      have HR := Lib.hid hr
      have F2 := Lib.hid f2
      have F3 := Lib.hid f3
      have HCX := Lib.hid hcx
      unfold maxLen at hd1x
      have hr0 : ((r : Int) + 1 == 0) = false := by rw [beq_eq_false_iff_ne]; omega
      have hr1 : ((r : Int) + 1) - 1 = (r : Int) := by omega
      have hlt' : (k : Int) < (ll : Int) := by omega
      clear e1 r1 f1 f2 f3 hX hcx hr hby
      go_wp2
      go_loop [7] (fun j => ∃ t : Nat, t ≤ r ∧ j = .int .i64 t) (fun j => r - (intOf j).toNat)
      case atStart => exact ⟨0, Nat.zero_le _, rfl⟩
      case round =>
        obtain ⟨t, ht, rfl⟩ := hrel
        by_cases htl : t < r
        · have hz := F2.out t (by omega)
          have hcz := HCX.out t (by rw [HR.out]; omega)
          generalize X.getD t 0 = z at *
          have hz2 : (z == 10) = false := by rw [beq_eq_false_iff_ne]; exact hz
          have htl' : (t : Int) < (r : Int) := by omega
          clear hz
          go_wp2
          go_round
          case rel => exact ⟨t + 1, by omega, by first | rfl | go_num⟩
          case measure => simp [intOf]; omega
        · obtain rfl : t = r := by omega
          have htg : ¬ (t : Int) < (t : Int) := by omega
          by_cases hk1 : k + 1 < ll
          · have hcz := HCX.out t (by rw [HR.out]; omega)
            have hz := F3.out hk1
            rw [Nat.add_sub_cancel] at hz
            rw [hz] at hcz
            have hk1' : decide ((k : Int) < (ll : Int) - 1) = true := decide_eq_true (by omega)
            clear hz htl
            go_wp2
            go_quiet (fail)
            go_wp2
            go_roundw
            case rel => exact ⟨k + 1, _, by omega, by first | rfl | go_num, rfl⟩
            case measure => simp [intOf]; omega
          · have hk1' : decide ((k : Int) < (ll : Int) - 1) = false := decide_eq_false (by omega)
            clear htl
            go_wp2
            go_quiet (fail)
            go_wp2
            go_roundw
            case rel => exact ⟨k + 1, _, by omega, by first | rfl | go_num, rfl⟩
            case measure => simp [intOf]; omega
    · obtain rfl : k = ll := by omega
      have hge : ¬ (k : Int) < (k : Int) := by omega
      have hkx := HKX.out
      have hbq : ∀ q, Below w3.heap.size w3 (w3.drewN q) := fun q => below_drewN (Below.refl _ _) q
      have ST2 := Lib.hid (fun q => ST.out (w3.drewN q) (HB3.out.trans ((hbq q).mono HB3.out.size)))
      clear hlt
      go_wp2_with fail
      refine (ST2.out _).mono ?_
      rintro e w4 ⟨hb4, v4, rfl, hO4⟩
      obtain ⟨a4, c4, rfl, hc4, hc4x⟩ := own_slice hO4
      rw [HLS.out] at hc4
      rw [HLS.out]
      have hri := own_ri hO4
      obtain ⟨p1, p2, p3, p4, p5⟩ := HPx.out
      have P4 := Lib.hid (place_any a4 ls c4 (sts xs) kx w4 _ hri (Nat.le_refl _) HLS.out ⟨sts_rise xs, fun i hi => (sts_bd xs hi).1⟩ (by omega) (by omega))
      have hbel4 := (hbq _).trans (hb4.mono (Nat.le_refl _))
      have RS := Lib.hid (fun i (hi : i < ls) w5 (hb : Below w4.heap.size w4 w5) => (hri.below hb (Nat.le_refl _)).at_ (i := i) (by rw [HLS.out]; exact hi))
      obtain ⟨nn, hnn⟩ : ∃ nn, plN (sts xs) kx = nn := ⟨_, rfl⟩
      obtain ⟨cc, hcc⟩ : ∃ cc, plC (sts xs) kx = cc := ⟨_, rfl⟩
      obtain ⟨sn, hsn⟩ : ∃ sn, (sts xs).getD nn 0 = sn := ⟨_, rfl⟩
      rw [hnn, hcc] at P4 p3 p5
      rw [hnn] at p1
      rw [hcc] at p2 p4
      rw [hsn] at p3
      have hsb := sts_bd xs (i := nn) (by rw [HLS.out]; exact p1)
      rw [hsn, HN.out] at hsb
      obtain ⟨hsb0, hsb1⟩ := hsb
      have HSN := Lib.hid hsn
      have HBF := Lib.hid (HB3.out.trans (hbel4.mono HB3.out.size))
      have HB4 := Lib.hid hbel4
      clear hb4 hbel4 hri hO4 hnn hcc hsn hkx
      go_wp2_with fail
      refine P4.out.mono ?_
      rintro e w5 ⟨rfl, hb5⟩
      obtain ⟨b4, o4, rfl, _, hcs⟩ := RS.out nn p1 w5 hb5
      rw [HSN.out] at hcs
      have HFIN := Lib.hid (HBF.out.trans (hb5.mono HBF.out.size))
      have hsum : (sn + cc == (kx : Int)) = true := by rw [beq_iff_eq]; exact p3
      have hn1 : (nn : Int) < (ls : Int) := by omega
      by_cases hnk : nn < k
      · have p6 := p5 hnk
        obtain ⟨b, off, rfl, _, hc⟩ := (HV3.out.below (HB4.out.trans (hb5.mono HB4.out.size)) hsz13).at_ (i := nn) (by rw [hvl2.out]; exact hnk)
        obtain ⟨A1, d1, e1, hd1, hd1x, r1⟩ := HL3.out.at_ (i := nn) (by rw [HLL.out]; exact hnk) undef []
        rw [e1] at hc
        generalize ((lns xs).getD nn []).length = ln at *
        have hnk' : ¬ (k : Int) ≤ (nn : Int) := by omega
        clear e1 r1 hb5 p5 p3 hnk
        go_wp2
        go_ret
        exact ⟨rfl, HFIN.out⟩
      · have hnk' : (k : Int) ≤ (nn : Int) := by omega
        clear hb5 p5 p3 hnk
        go_wp2
        go_ret
        exact ⟨rfl, HFIN.out⟩
end Go.Proofs.Ytccbbmkdmdllgaa.Line
