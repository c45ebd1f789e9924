/-
  Layer 2 (line): the law that lines and starts are the document's, and new: the walk.
-/
import Derived.Test.YtccbbmkdmdllgaaLineSame
namespace Go.Proofs.Ytccbbmkdmdllgaa.Line
open Go.ChangeShapes Go.WideShapes Go.ChangeAt Go.RowKit Mem
set_option linter.unusedVariables false

/-- A slice of bytes that may be written: its row lies from block 'base' on. -/
def WV (w : World) (base : Nat) (v : Value) (n : Nat) : Prop := ∃ g c cur, v = .slice (some ⟨g, 0, none⟩) n c ∧ base ≤ g ∧ w.heap[g]? = some (.cells cur 5 (0, 0)) ∧ n ≤ cur.size ∧ ∀ j, j < n → ∃ z, cur[j]? = some (.int .u8 z) ∧ 0 ≤ z ∧ z < 256
theorem heap_setCell_same {w : World} {g i : Nat} {cur : Array Value} {T : TypeId} {fr : Nat × Nat} (h : w.heap[g]? = some (.cells cur T fr)) (u : Value) : (w.setCell ⟨g, i, none⟩ u).heap[g]? = some (.cells (cur.setIfInBounds i u) T fr) := by
  rw [setCell_eq_setRow w g i cur T fr u h]
  exact setRow_heap w g _ _ T _ h
/-- It may still be written when a byte of some row of bytes has turned. -/
theorem WV.set {w : World} {base : Nat} {v : Value} {n : Nat} (h : WV w base v n) (g i : Nat) (z : Int) (hz : 0 ≤ z ∧ z < 256) : WV (w.setCell ⟨g, i, none⟩ (.int .u8 z)) base v n := by
  obtain ⟨g', c, cur, e, hb, hh, hs, hc⟩ := h
  by_cases hg : g' = g
  · subst hg
    refine ⟨g', c, _, e, hb, heap_setCell_same hh _, by simpa using hs, fun j hj => ?_⟩
    by_cases hij : i = j
    · subst hij
      exact ⟨z, by rw [Array.getElem?_setIfInBounds_self]; simp [show i < cur.size by omega], hz⟩
    · rw [Array.getElem?_setIfInBounds_ne hij]; exact hc j hj
  · exact ⟨g', c, cur, e, hb, (Below.heap_setCell _ _ _ _ hg).trans hh, hs, hc⟩
theorem lv_wv {w : World} {base : Nat} {v : Value} {x : List Int} (h : LV w base v x) (hx : 0 < x.length) : WV w base v x.length := by
  rcases h.1.2 with ⟨_, h0⟩ | ⟨g, cap, cur, hv, hg0, hg, h1, h2, h3, h4⟩
  · omega
  · refine ⟨g, cap, cur, hv, hg0, hg, by omega, fun j hj => ⟨x.getD j 0, ?_, h.2.getD j⟩⟩
    have e2 : (x.map (Value.int .u8))[j]? = cur.toList[j]? := by rw [← h4, List.getElem?_take]; simp; omega
    rw [← Array.getElem?_toList, ← e2]
    simp [List.getD, hj]
theorem own_set {w : World} {base n : Nat} {v : Value} {vs : List Value} (h : w.ownsRow base 22 1 v n vs) {g : Nat} {cur : Array Value} (hg : w.heap[g]? = some (.cells cur 5 (0, 0))) (i : Nat) (u : Value) : (w.setCell ⟨g, i, none⟩ u).ownsRow base 22 1 v n vs := by
  refine ⟨h.1, ?_⟩
  rcases h.2 with h' | ⟨g', cap, cur', a, b, hg', r⟩
  · exact .inl h'
  · refine .inr ⟨g', cap, cur', a, b, (Below.heap_setCell _ _ _ _ (fun e => ?_)).trans hg', r⟩
    have e : g' = g := e
    subst e
    rw [hg] at hg'; injection hg' with hg'; injection hg' with _ he
    exact absurd he (by decide)
theorem xor_table : ∀ c : Fin 256, 0 ≤ bits .xor .u8 (c.val : Int) 255 ∧ bits .xor .u8 (c.val : Int) 255 < 256 := by decide +kernel
theorem xor_of (c : Int) (h0 : 0 ≤ c) (h1 : c < 256) : 0 ≤ bits .xor .u8 c 255 ∧ bits .xor .u8 c 255 < 256 := by
  obtain ⟨n, rfl⟩ := Int.eq_ofNat_of_zero_le h0
  exact xor_table ⟨n, by omega⟩

set_option maxHeartbeats 8000000 in
set_option maxRecDepth 100000 in
theorem lineSplits_walk (A : Option Addr) (n cap : Nat) (zs : List Int) (w : World) (hrow : Row .u8 w A n cap zs) :
    Calls Try.prog 3 #[.slice A n cap] w fun e w' => e = .returned (.bool true) ∧ Below w.heap.size w w' := by
  obtain ⟨xs0, hn0, hcap0, hcap', h0⟩ := row_rb hrow
  clear hrow
  have F := Lib.hid (few_any A n cap w hcap0 hcap')
  have h := h0.take 20000
  have hn : (xs0.take 20000).length = min n 20000 := by rw [List.length_take, hn0, Nat.min_comm]
  have hcap : min n 20000 ≤ cap := by omega
  have hsm : min n 20000 ≤ 20000 := by omega
  generalize xs0.take 20000 = xs at *
  generalize min n 20000 = m at *
  have hll := lns_len xs
  have hsl := sts_le xs
  have SP := Lib.hid (split_any A m cap xs w _ h (Nat.le_refl _) hn hcap hcap' (by omega))
  have ST := Lib.hid (fun w1 (hb : Below w.heap.size w w1) => starts_any A m cap xs w1 _ (h.below hb (Nat.le_refl _)) hb.size hn hcap hcap' (by omega))
  have RST := Lib.hid (fun w1 (hb : Below w.heap.size w w1) => refStarts_any A m cap xs w1 _ (h.below hb (Nat.le_refl _)) hb.size hn (by omega))
  have RSP := Lib.hid (fun w1 (hb : Below w.heap.size w w1) => refSplit_any A m cap xs w1 _ (h.below hb (Nat.le_refl _)) hb.size hn hcap hcap' (by omega))
  have HCB := Lib.hid (fun w1 (hb : Below w.heap.size w w1) => conv_lr h hn (c := cap) w1 (fun p hp => hb.cell hp))
  have HN := Lib.hid hn
  unfold maxLen at hcap'
  obtain ⟨ls, hls⟩ : ∃ ls, (sts xs).length = ls := ⟨_, rfl⟩
  obtain ⟨ll, hlle⟩ : ∃ ll, (lns xs).length = ll := ⟨_, rfl⟩
  rw [hls] at hsl
  rw [hlle] at hll
  have HPOS := Lib.hid (fun i hi => lns_pos xs (i := i) hi)
  have HLS := Lib.hid hls
  have HLL := Lib.hid hlle
  have hlsm : ls ≤ 20001 := by omega
  have hllm : ll ≤ 20001 := by omega
  generalize strOfNums xs = s at *
  have hcb0 := HCB.out w (Below.refl _ _)
  clear h0 hn0 hcap0 h hn hls hlle hsl hll
  go_enter Try.func3, Try.ntmps3
  go_wp2_with fail
  refine F.out.mono ?_
  rintro e w' ⟨rfl, rfl⟩
  go_wp2_with fail
  refine SP.out.mono ?_
  rintro e w1 ⟨hb1, v1, rfl, hO1⟩
  clear hcb0
  obtain ⟨vs, hrow1, hlv1⟩ := hO1
  obtain ⟨a1, c1, rfl, _, _⟩ := own_slice hrow1
  rw [HLL.out] at hrow1
  rw [HLL.out]
  have HB1 := Lib.hid hb1
  have ST2 := Lib.hid (ST.out w1 hb1)
  have HR1 := Lib.hid hrow1
  have HL1 := Lib.hid hlv1
  clear hrow1 hlv1 hb1 SP F
  go_wp2_with fail
  refine ST2.out.mono ?_
  rintro e w2 ⟨hb2, v2, rfl, hO2⟩
  obtain ⟨a2, c2, rfl, hc2, hc2x⟩ := own_slice hO2
  rw [HLS.out] at hc2
  rw [HLS.out]
  have HRI2 := Lib.hid (own_ri hO2)
  have HB2 := Lib.hid hb2
  have HBW2 := Lib.hid (HB1.out.trans (hb2.mono HB1.out.size))
  clear hO2 hb2 ST2 ST
  go_wp2_with fail
  refine (RST.out w2 HBW2.out).mono ?_
  rintro e w3 ⟨hb3, v3, rfl, hO3⟩
  obtain ⟨a3, c3, rfl, hc3, hc3x⟩ := own_slice hO3
  rw [HLS.out] at hc3
  rw [HLS.out]
  have HRI3 := Lib.hid (own_ri hO3)
  have HB3 := Lib.hid hb3
  have HBW3 := Lib.hid (HBW2.out.trans (hb3.mono HBW2.out.size))
  clear hO3 hb3 RST
  go_wp2_with fail
  refine (known_any w3).mono ?_
  rintro e w4 ⟨rfl, hb4⟩
  have HB4 := Lib.hid hb4
  have HBW4 := Lib.hid (HBW3.out.trans (hb4.mono HBW3.out.size))
  clear hb4
  go_wp2_with fail
  refine (RSP.out w4 HBW4.out).mono ?_
  rintro e w5 ⟨hb5, v5, rfl, hO5⟩
  obtain ⟨a5, c5, vs5, rfl, _, _, hvl5, hv5, hl5⟩ := hO5.reads
  rw [HLL.out]
  have HBW5 := Lib.hid (HBW4.out.trans (hb5.mono HBW4.out.size))
  have hb35 : Below w3.heap.size w3 w5 := HB4.out.trans (hb5.mono HB4.out.size)
  have hb25 : Below w2.heap.size w2 w5 := HB3.out.trans (hb35.mono HB3.out.size)
  have hb15 : Below w1.heap.size w1 w5 := HB2.out.trans (hb25.mono HB2.out.size)
  have HR5 := Lib.hid (own_below HR1.out hb15 (Nat.le_refl _))
  have HL5 := Lib.hid (HL1.out.mono fun _ _ hh => LV.below hh hb15 (Nat.le_refl _))
  have HRI25 := Lib.hid (HRI2.out.below hb25 (Nat.le_refl _))
  have HRI35 := Lib.hid (HRI3.out.below hb35 (Nat.le_refl _))
  have SM := Lib.hid (same_any a1 a5 ll c1 c5 vs vs5 (lns xs) w5 _ (own_rv HR5.out) (HL5.out.mono fun _ _ hh => LV.lr hh) hv5 hl5 HLL.out (by omega))
  clear hO5 hv5 hl5 hvl5 hb15 hb5
  go_wp2_with fail
  refine SM.out.mono ?_
  rintro e w6 ⟨rfl, q6, hq6⟩
  have HR6 : Hid (w6.ownsRow w.heap.size 22 1 (.slice a1 ll c1) ll vs) := by rw [hq6]; exact HR5.out
  have HL6 : Hid (All2 (LV w6 w.heap.size) vs (lns xs)) := by rw [hq6]; exact HL5.out
  have hb56 : Below w5.heap.size w5 w6 := by rw [hq6]; exact below_drewN (Below.refl _ _) _
  have h35 : w2.heap.size ≤ w5.heap.size := hb25.size
  have h35' : w3.heap.size ≤ w5.heap.size := hb35.size
  have HRI26 := Lib.hid (HRI25.out.below hb56 h35)
  have HRI36 := Lib.hid (HRI35.out.below hb56 h35')
  have HBW6 := Lib.hid (HBW5.out.trans (hb56.mono HBW5.out.size))
  clear hq6 hb56 hb25 hb35 HR5 HL5 HRI25 HRI35 SM HR1 HL1 HRI2 HRI3 RSP HB1 HB2 HB3 HB4 h35 h35'
  go_wp2
  go_loopw [7] (fun i wr => ∃ k q : Nat, k ≤ ls ∧ i = .int .i64 k ∧ wr = w6.drewN q) (fun i _ => ls - (intOf i).toNat)
  case atStart => exact ⟨0, 0, Nat.zero_le _, rfl, rfl⟩
  case round =>
    obtain ⟨k, q, hk, rfl, rfl⟩ := hrel
    by_cases hlt : k < ls
    · obtain ⟨b, off, rfl, _, hc⟩ := HRI26.out.at_ (i := k) (by rw [HLS.out]; exact hlt)
      obtain ⟨b', off', rfl, _, hc'⟩ := HRI36.out.at_ (i := k) (by rw [HLS.out]; exact hlt)
      generalize (sts xs).getD k 0 = z at *
      have hlt' : (k : Int) < (ls : Int) := by omega
      have hzz : (z != z) = false := by simp
      go_wp2
      go_quiet (fail)
      go_wp2
      go_roundw
      case rel => exact ⟨k + 1, _, by omega, by first | rfl | go_num, rfl⟩
      case measure => simp [intOf]; omega
    · have hge : ¬ (k : Int) < (ls : Int) := by omega
      clear hlt
      go_wp2
      have HBQ : Hid (Below w.heap.size w (w6.drewN q)) := below_drewN HBW6.out q
      have HRQ : Hid ((w6.drewN q).ownsRow w.heap.size 22 1 (.slice a1 ll c1) ll vs) := HR6.out
      have HLQ : Hid (All2 (fun v x => WV (w6.drewN q) w.heap.size v x.length) vs (lns xs)) := ⟨HL6.out.1, fun i u x h1 h2 => lv_wv (HL6.out.2 i u x h1 h2) (by
        have hi : i < (lns xs).length := (List.getElem?_eq_some_iff.1 h2).1
        have := HPOS.out i hi
        have e : (lns xs).getD i [] = x := by simp [List.getD, h2]
        rw [e] at this; exact this)⟩
      generalize w6.drewN q = w7 at *
      go_loopw [8, 9] (fun i _ wr => ∃ k : Nat, k ≤ ll ∧ i = .int .i64 k ∧ Hid (wr.ownsRow w.heap.size 22 1 (.slice a1 ll c1) ll vs) ∧ Hid (All2 (fun v x => WV wr w.heap.size v x.length) vs (lns xs)) ∧ Hid (Below w.heap.size w wr)) (fun i _ _ => ll - (intOf i).toNat)
      case atStart => exact ⟨0, Nat.zero_le _, rfl, HRQ.out, HLQ.out, HBQ.out⟩
      case round =>
        obtain ⟨i, hi, rfl, hrow, hls, hbel⟩ := hrel
        by_cases hlt : i < ll
        · have hlen : ((lns xs).getD i []).length ≤ 20000 := by
            have h1 := congrArg List.length (lns_flat xs)
            have h2 := flat_take (L := lns xs) (k := i) (by rw [HLL.out]; exact hlt)
            have h3 := flat_le (L := lns xs) (i + 1)
            have h4 := HN.out
            rw [h2, List.length_append] at h3
            omega
          have hlt' : (i : Int) < (ll : Int) := by omega
          have hlx := Lib.hid (show ((lns xs)[i]?).isSome by simp [HLL.out, hlt])
          obtain ⟨X, hX⟩ : ∃ X, (lns xs).getD i [] = X := ⟨_, rfl⟩
          rw [hX] at hlen
          have HX := Lib.hid hX
          clear hX
          go_wp2
          go_loopw [9] (fun j wr => ∃ t : Nat, t ≤ X.length ∧ j = .int .i64 t ∧ Hid (wr.ownsRow w.heap.size 22 1 (.slice a1 ll c1) ll vs) ∧ Hid (All2 (fun v x => WV wr w.heap.size v x.length) vs (lns xs)) ∧ Hid (Below w.heap.size w wr)) (fun j _ => X.length - (intOf j).toNat)
          case atStart => exact ⟨0, Nat.zero_le _, rfl, hrow.out, hls.out, hbel.out⟩
          case round =>
            obtain ⟨t, ht, rfl, hrow2, hls2, hbel2⟩ := hrel
            have hvl := hls2.out.1
            obtain ⟨b, off, e1, _, hc⟩ := (own_rv hrow2.out).at_ (i := i) (by rw [hvl, HLL.out]; exact hlt)
            obtain ⟨g, c, cur, e2, hg0, hg, hgs, hgc⟩ := hls2.out.at_ (i := i) (by rw [HLL.out]; exact hlt) undef []
            rw [e2, HX.out] at hc
            rw [HX.out] at hgs hgc
            subst e1
            by_cases htl : t < X.length
            · obtain ⟨z, hz, hz0, hz1⟩ := hgc t htl
              have hcz : wr.cell? ⟨g, t, none⟩ = some (.int .u8 z) := by rw [cell_of_row wr g t cur _ _ hg]; exact hz
              have hfz : wr.frozen? ⟨g, t, none⟩ = false := by simp [World.frozen?, hg]
              obtain ⟨x0, x1⟩ := xor_of z hz0 hz1
              have hrow3 := Lib.hid (own_set hrow2.out hg t (.int .u8 (bits .xor .u8 z 255)))
              have hls3 := Lib.hid (hls2.out.mono fun _ _ hh => WV.set hh g t (bits .xor .u8 z 255) ⟨x0, x1⟩)
              have hbel3 := Lib.hid (hbel2.out.setCell (p := ⟨g, t, none⟩) hg0 (.int .u8 (bits .xor .u8 z 255)))
              have htl' : (t : Int) < (X.length : Int) := by omega
              clear hg hgc e2 hz hvl
              go_wp2
              go_roundw
              case rel => exact ⟨t + 1, by omega, by first | rfl | go_num, hrow3.out, hls3.out, hbel3.out⟩
              case measure => simp [intOf]; omega
            · obtain rfl : t = X.length := by omega
              have htg : ¬ (X.length : Int) < (X.length : Int) := by omega
              clear hg hgc e2 htl
              go_wp2
              go_roundw
              case rel => exact ⟨i + 1, by omega, by first | rfl | go_num, hrow2.out, hls2.out, hbel2.out⟩
              case measure => simp [intOf]; omega
        · have hge2 : ¬ (i : Int) < (ll : Int) := by omega
          have hcb := HCB.out wr hbel.out
          have HF := Lib.hid hbel.out
          clear hlt hbel hls hrow
          go_wp2
          go_ret
          exact ⟨rfl, HF.out⟩
end Go.Proofs.Ytccbbmkdmdllgaa.Line
