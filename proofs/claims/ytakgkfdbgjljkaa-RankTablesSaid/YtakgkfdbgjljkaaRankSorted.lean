/-
  Layer 3 (rank): places, and sorted: runs are merged, two by two, into ever longer ones.
-/
import Derived.Test.YtakgkfdbgjljkaaRankMerge
import Derived.Laws.OwnMore
import Derived.WalkLawsBesides
import Derived.RegionCalls
import Derived.Deep.RegionWith
import Derived.Deep.DeepCutAuto
import Derived.Deep.LoopGhost
namespace Go.Proofs.Ytakgkfdbgjljkaa.Rank
open Go.ChangeShapes Go.WideShapes Go.ChangeAt Go.RowKit MemC
set_option linter.unusedVariables false

theorem make_ints (n : Nat) (hn : n ≤ 1000000) (w : World) : (Instr.makeSlice 22 (.int .i64 (n : Int)) (.int .i64 (n : Int))).run Try.prog w = .ok (.slice (some ⟨w.heap.size, 0, none⟩) n n) (w.alloc (.cells (vals (List.replicate n 0)).toArray 3)) := by
  obtain ⟨i0, hi0, hz0, hz1, hz2⟩ := info_parts int_info
  have h := run_make (P := Try.prog) w 22 3 i0 (.int .i64 0) Try.underlying22 hi0 hz0 .i64 .i64 n n (by omega) (Int.le_refl _) (by rw [hz2]; omega) (by omega)
  rw [h]
  simp only [Int.toNat_natCast]
  congr 2
  have : madeCells (Value.int .i64 0).cells (n * i0.size) = (vals (List.replicate n 0)).toArray := by
    rw [hz1, Nat.mul_one]
    apply Array.toList_inj.1
    have := toList_madeCells_one (Value.int .i64 0) n
    simp only [Value.cells]
    rw [this]
    simp [vals, ints]
  rw [this]

theorem heap_alloc_new' (w : World) (o : Obj) : (w.alloc o).heap[w.heap.size]? = some o := heap_alloc_new w o

/-- What places leaves. -/
def PlacesPost (n : Nat) (w : World) (e : Ending) (w' : World) : Prop :=
  e = .returned (.slice (some ⟨w.heap.size, 0, none⟩) n n) ∧ w' = w.alloc (.cells (vals (List.range n)).toArray 3)

theorem set_range (n k : Nat) (hk : k < n) : (List.range k ++ List.replicate (n - k) 0).set k k = List.range (k + 1) ++ List.replicate (n - (k + 1)) 0 := by
  rw [List.set_append_right _ _ (by simp), List.range_succ]
  obtain ⟨d, hd⟩ : ∃ d, n - k = d + 1 := ⟨n - k - 1, by omega⟩
  rw [hd, show n - (k + 1) = d by omega, List.replicate_succ]
  simp

theorem set_alloc (w : World) (l : List Nat) (i x : Nat) : (w.alloc (.cells (vals l).toArray 3)).setCell ⟨w.heap.size, i, none⟩ (.int .i64 (x : Int)) = w.alloc (.cells (vals (l.set i x)).toArray 3) := by
  rw [World.setCell_alloc_at _ _ _ _ _ rfl, ← vals_set]
  simp

set_option maxHeartbeats 1000000 in
theorem places_any (n : Nat) (hn : n ≤ 1000000) (w : World) : Calls Try.prog 34 #[.int .i64 (n : Int)] w (PlacesPost n w) := by
  have hmk := make_ints n hn
  go_enter Try.func34, Try.ntmps34
  go_wp2
  clear hmk
  go_loopw [4, 9] (fun _ i wr => ∃ k : Nat, k ≤ n ∧ i = .int .i64 k ∧ Hid (wr = w.alloc (.cells (vals (List.range k ++ List.replicate (n - k) 0)).toArray 3))) (fun _ i _ => n - (intOf i).toNat)
  case atStart => exact ⟨0, Nat.zero_le _, rfl, by show _ = _; simp⟩
  case round =>
    obtain ⟨k, hk, rfl, HW⟩ := hrel
    by_cases hlt : k < n
    · have hlt' : (k : Int) < (n : Int) := by omega
      obtain ⟨vd, hcd, _⟩ := row_cell (w := wr) (g := w.heap.size) (l := List.range k ++ List.replicate (n - k) 0) (by rw [HW.out]; exact heap_alloc_new' _ _) (i := k) (by simp; omega)
      have hfd := row_free (w := wr) (g := w.heap.size) (l := List.range k ++ List.replicate (n - k) 0) (by rw [HW.out]; exact heap_alloc_new' _ _) k
      go_wp2
      go_roundw
      case rel => exact ⟨k + 1, by omega, by go_num, by show _ = _; rw [HW.out, set_alloc, set_range n k hlt]⟩
      case measure => simp [intOf]; omega
    · obtain rfl : k = n := by omega
      have hge : ¬ (k : Int) < (k : Int) := by omega
      go_wp2
      go_ret
      exact ⟨rfl, by rw [HW.out]; simp⟩

theorem own_row {w : World} {g n base : Nat} {xs : List Nat} (h : w.heap[g]? = some (.cells (vals xs).toArray 3 (0, 0))) (hx : xs.length = n) (hb : base ≤ g) (hn : n ≤ 1000000) : w.ownsRow base 3 1 (.slice (some ⟨g, 0, none⟩) n n) n (vals xs) :=
  ⟨by rw [vals_len, hx, Nat.mul_one], .inr ⟨g, n, _, rfl, hb, h, Nat.le_refl _, by unfold maxLen; omega, by rw [List.size_toArray, vals_len, hx, Nat.mul_one], List.take_of_length_le (by rw [vals_len, hx, Nat.mul_one]; exact Nat.le_refl _)⟩⟩

/-- What lies between two rounds of sorted. -/
structure SInv (n : Nat) (w wr : World) (g1 g2 : Nat) (xs ys : List Nat) : Prop where
  ne : g2 ≠ g1
  lo1 : w.heap.size ≤ g1
  lo2 : w.heap.size ≤ g2
  below : Below w.heap.size w wr
  fst : wr.heap[g1]? = some (.cells (vals xs).toArray 3 (0, 0))
  snd : wr.heap[g2]? = some (.cells (vals ys).toArray 3 (0, 0))

theorem SInv.drewN {n : Nat} {w wr : World} {g1 g2 : Nat} {xs ys : List Nat} (h : SInv n w wr g1 g2 xs ys) (q : Nat) : SInv n w (wr.drewN q) g1 g2 xs ys := ⟨h.ne, h.lo1, h.lo2, below_drewN h.below q, h.fst, h.snd⟩
theorem SInv.drew {n : Nat} {w wr : World} {g1 g2 : Nat} {xs ys : List Nat} (h : SInv n w wr g1 g2 xs ys) : SInv n w wr.drew g1 g2 xs ys := ⟨h.ne, h.lo1, h.lo2, h.below.drew, h.fst, h.snd⟩
theorem SInv.swap {n : Nat} {w wr : World} {g1 g2 : Nat} {xs ys : List Nat} (h : SInv n w wr g1 g2 xs ys) : SInv n w wr g2 g1 ys xs := ⟨h.ne.symm, h.lo2, h.lo1, h.below, h.snd, h.fst⟩

theorem SInv.two (n : Nat) (w : World) (xs ys : List Nat) : SInv n w ((w.alloc (.cells (vals xs).toArray 3)).alloc (.cells (vals ys).toArray 3)).drew w.heap.size (w.heap.size + 1) xs ys := by
  refine ⟨by omega, Nat.le_refl _, by omega, (((Below.refl _ _).alloc (Nat.le_refl _) _).alloc (by simp) _).drew, ?_, ?_⟩
  · show ((w.alloc _).alloc _).heap[w.heap.size]? = _
    rw [Below.heap_alloc _ _ _ (by simp)]; exact heap_alloc_new' _ _
  · show ((w.alloc _).alloc _).heap[w.heap.size + 1]? = _
    have := heap_alloc_new' (w.alloc (.cells (vals xs).toArray 3)) (.cells (vals ys).toArray 3)
    simpa using this

theorem RA.of_row {w : World} {g : Nat} {l : List Nat} (h : w.heap[g]? = some (.cells (vals l).toArray 3 (0, 0))) (a b : Nat) (hb : b ≤ l.length) : RA w g (some ⟨g, a, none⟩) (ints (seg l a b)) := by
  refine .inr ⟨a, rfl, fun i hi => ?_⟩
  rw [ints_len, seg_len _ _ _ hb] at hi
  have : a + i < (vals l).length := by rw [vals_len]; omega
  have e : w.cell? ⟨g, a + i, none⟩ = some ((vals l)[a + i]) := by simp [World.cell?, h, this]
  rw [e]
  simp [vals, ints, seg, List.getD, show a + i < b by omega, show a + i < l.length by omega]

theorem Tells.later {gf c1 c2 : Nat} {lt : Nat → Nat → Bool} {n B : Nat} {w W : World} (h : Tells gf c1 c2 lt n B w) (hb : Below B w W) : Tells gf c1 c2 lt n B W := fun W' i j hi hj hW => h W' i j hi hj (hb.trans hW)

/-- What one merge leaves. -/
def StepPost (lt : Nat → Nat → Bool) (n s j : Nat) (w : World) (g1 g2 : Nat) (xs : List Nat) (e : Ending) (W : World) : Prop :=
  e = .returned (.tuple #[]) ∧ ∃ ys, SInv n w W g1 g2 xs ys ∧ Half lt s n (j + 1) ys

theorem merge_step (gf c1 c2 : Nat) (eg : ∀ args w, (callFunc gf args).run Try.prog w = .ok (.enter gf args) w) (lt : Nat → Nat → Bool) (hw : WO lt) (n : Nat) (hn : n ≤ 1000000) (w wr : World) (ht : Tells gf c1 c2 lt n w.heap.size w)
    (g1 g2 s f j : Nat) (xs ys : List Nat) (HS : SInv n w wr g1 g2 xs ys) (HR : Runs lt s n xs) (HH : Half lt s n j ys) (hF : f = j * (2 * s)) (hf : f < n) (hs1 : 1 ≤ s)
    (m ct la ca lb cb : Nat) (Bq : Option Addr) (e1 : m = min (f + 2 * s) n - f) (e2 : la = min (f + s) n - f) (e3 : lb = min (f + 2 * s) n - min (f + s) n) (hct : m ≤ ct) (hctm : ct ≤ n) (hca : la ≤ ca) (hcam : ca ≤ n) (hcb : lb ≤ cb) (hcbm : cb ≤ n)
    (hB : lb = 0 ∨ Bq = some ⟨g1, min (f + s) n, none⟩) :
    Calls Try.prog 49 #[.slice (some ⟨g2, f, none⟩) m ct, .slice (some ⟨g1, f, none⟩) la ca, .slice Bq lb cb, .func (.func gf) #[] #[.pointer (some ⟨c1, 0, none⟩), .pointer (some ⟨c2, 0, none⟩)]] wr (StepPost lt n s j w g1 g2 xs) := by
  obtain ⟨r1, r2⟩ := HR.pair j (by rw [← hF]; exact hf)
  rw [← hF] at r1 r2
  have hxl := HR.1
  have hyl := HH.1
  have m1 : (seg xs f (min (f + s) n)).length = la := by rw [seg_len _ _ _ (by omega)]; omega
  have m2 : (seg xs (min (f + s) n) (min (f + 2 * s) n)).length = lb := by rw [seg_len _ _ _ (by omega)]; omega
  have hbq : RA wr g1 Bq (ints (seg xs (min (f + s) n) (min (f + 2 * s) n))) := by
    rcases hB with hB | hB
    · refine .inl ?_
      rw [List.length_eq_zero_iff.1 (m2.trans hB)]; rfl
    · rw [hB]; exact RA.of_row HS.fst _ _ (by omega)
  refine (merge_any gf c1 c2 eg lt hw n w.heap.size wr (ht.later HS.below) g2 g1 f m ct ca cb la lb ys _ _ _ Bq HS.ne HS.lo2 (by omega) (by omega) m1 m2 (by omega) hct (by unfold maxLen; omega) HS.snd (RA.of_row HS.fst _ _ (by omega)) hbq (lt_of_block HS.fst) hca hcb (by unfold maxLen; omega) (by unfold maxLen; omega) (Run.mg (by omega) r1 r2) ?_).mono ?_
  · intro x hx
    rcases List.mem_append.1 hx with hx | hx
    · have := r1.mem hx; omega
    · have := r2.mem hx; omega
  · rintro e W ⟨rfl, hg, pre, hm, hr⟩
    refine ⟨rfl, _, ⟨HS.ne, HS.lo1, HS.lo2, HS.below.grown hg HS.below.size (fun k e => by injection e with e; have := HS.lo2; omega), (hg.block _ (lt_of_block HS.fst) (fun e => HS.ne (by injection e with e; exact e.symm))).trans HS.fst, hr⟩, ?_⟩
    have := HH.step HR (by rw [← hF]; exact hf) (by rw [← hF]; exact hm)
    rw [← hF] at this
    rw [show f + m = min (f + 2 * s) n by omega]
    exact this

/-- What sorted leaves. -/
def SortedPost (lt : Nat → Nat → Bool) (n : Nat) (w : World) (e : Ending) (w' : World) : Prop :=
  ∃ v xs, e = .returned v ∧ IsOrd lt n xs ∧ Below w.heap.size w w' ∧ w'.ownsRow w.heap.size 3 1 v n (vals xs)

set_option maxRecDepth 100000 in
set_option maxHeartbeats 4000000 in
theorem sorted_any (gf c1 c2 : Nat) (eg : ∀ args w, (callFunc gf args).run Try.prog w = .ok (.enter gf args) w) (lt : Nat → Nat → Bool) (hw : WO lt) (n : Nat) (hn : n ≤ 1000000) (w : World) (ht : Tells gf c1 c2 lt n w.heap.size w) :
    Calls Try.prog 35 #[.int .i64 (n : Int), .func (.func gf) #[] #[.pointer (some ⟨c1, 0, none⟩), .pointer (some ⟨c2, 0, none⟩)]] w (SortedPost lt n w) := by
  have HT := Lib.hid ht
  clear ht
  have hmk := make_ints n hn
  go_enter Try.func35, Try.ntmps35
  go_upto_region 1 with (fail)
  go_cut [5, 6] from 11 (fun s5 s6 W => ∃ g1 g2 : Nat, s5 = .slice (some ⟨g1, 0, none⟩) n n ∧ s6 = .slice (some ⟨g2, 0, none⟩) n n ∧ Hid (SInv n w W g1 g2 (List.range n) (List.replicate n 0)))
  case first =>
    go_region_with (go_at_call 34; refine (places_any n hn _).mono ?_; rintro e w' ⟨rfl, rfl⟩)
    all_goals (go_wp2_with fail; go_meet)
    · exact ⟨_, _, rfl, rfl, SInv.two n w _ _⟩
    · exact ⟨_, _, rfl, rfl, (SInv.two n w _ _).swap⟩
  case rest =>
    clear hmk
    obtain ⟨g1, g2, rfl, rfl, HS⟩ := hcut
    obtain ⟨wo, rfl⟩ : ∃ wo : World, wo = wc := ⟨_, rfl⟩
    go_wp2
    go_loopw [5, 6, 7, 8, 9, 10] (fun s5 s6 s7 _ _ _ wr => ∃ (s g1 g2 : Nat) (xs ys : List Nat), s5 = .slice (some ⟨g1, 0, none⟩) n n ∧ s6 = .slice (some ⟨g2, 0, none⟩) n n ∧ s7 = .int .i64 s ∧ 1 ≤ s ∧ s ≤ 2 * n + 1 ∧ Hid (SInv n w wr g1 g2 xs ys) ∧ Hid (Runs lt s n xs) ∧ Hid (ys.length = n))
      (fun _ _ s7 _ _ _ _ => n - (intOf s7).toNat)
    case atStart => exact ⟨1, g1, g2, _, _, rfl, rfl, rfl, Nat.le_refl _, by omega, HS.out, Runs.one n, (by simp : (List.replicate n 0).length = n)⟩
    case round =>
      clear HS
      obtain ⟨s, g1, g2, xs, ys, rfl, rfl, rfl, hs1, hs2, HS, HR, HY⟩ := hrel
      by_cases hlt : s < n
      · have hlt' : (s : Int) < (n : Int) := by omega
        obtain ⟨wq, rfl⟩ : ∃ wq : World, wq = wr := ⟨_, rfl⟩
        go_wp2
        go_loopw [8, 9, 10] (fun s8 _ _ wr => ∃ (f j : Nat) (ys : List Nat), s8 = .int .i64 f ∧ f ≤ n + 2 * s ∧ Hid (f = j * (2 * s)) ∧ Hid (SInv n w wr g1 g2 xs ys) ∧ Hid (Half lt s n j ys)) (fun s8 _ _ _ => n - (intOf s8).toNat)
        case atStart => exact ⟨0, 0, ys, rfl, by omega, by show _ = _; omega, HS.out, Half.start HY.out⟩
        case round =>
          clear HS HY
          obtain ⟨f, j, ys, rfl, hfn, HF, HS, HH⟩ := hrel
          by_cases hfl : f < n
          · have hfl' : (f : Int) < (n : Int) := by omega
            have hcn : n ≠ f := by omega
            have hnf : f ≠ n := by omega
            have b1 : (f : Int) ≤ (n : Int) := by omega
            have b2 : (f : Int) ≤ (f : Int) + (s : Int) := by omega
            have b3 : (0 : Int) ≤ (f : Int) + (s : Int) := by omega
            have b4 : (f : Int) ≤ (f : Int) + 2 * (s : Int) := by omega
            have b5 : (f : Int) + (s : Int) ≤ (f : Int) + 2 * (s : Int) := by omega
            by_cases q1 : (n : Int) < (f : Int) + (s : Int)
            · have q2 : (n : Int) < (f : Int) + 2 * (s : Int) := by omega
              have q4 : n < f + s := by omega
              have hstep := Lib.hid (merge_step gf c1 c2 eg lt hw n hn w wr.drew HT.out g1 g2 s f j xs ys HS.out.drew HR.out HH.out HF.out hfl hs1 (n - f) (n - f) (n - f) (n - f) 0 0 (some ⟨g1, 0, none⟩) (by omega) (by omega) (by omega) (by omega) (by omega) (by omega) (by omega) (by omega) (by omega) (.inl rfl))
              go_wp2
              go_still_tail 13, (by kernel_rfl)
              change wpList _ _ _ _ _ wr.drew
              go_wp2_with (go_at_call 49; ((with_reducible refine hstep.out.mono ?_); rintro e W ⟨rfl, ys', hS', hH'⟩))
              have HS' := Lib.hid hS'
              have HH' := Lib.hid hH'
              clear hS' hH' hstep
              go_wp2
              go_roundw
              case rel => exact ⟨f + 2 * s, j + 1, ys', by first | rfl | go_num, by omega, by show _ = _; rw [HF.out, Nat.add_mul, Nat.one_mul], HS'.out, HH'.out⟩
              case measure => simp [intOf]; omega
            · by_cases q2 : (n : Int) < (f : Int) + 2 * (s : Int)
              · by_cases q3 : f + s = n
                · have q3' : (f : Int) + (s : Int) = (n : Int) := by omega
                  have hstep := Lib.hid (merge_step gf c1 c2 eg lt hw n hn w wr.drew HT.out g1 g2 s f j xs ys HS.out.drew HR.out HH.out HF.out hfl hs1 (n - f) (n - f) (n - f) (n - f) 0 0 (some ⟨g1, 0, none⟩) (by omega) (by omega) (by omega) (by omega) (by omega) (by omega) (by omega) (by omega) (by omega) (.inl rfl))
                  clear q3 q1
                  go_wp2
                  go_still_tail 13, (by kernel_rfl)
                  change wpList _ _ _ _ _ wr.drew
                  go_wp2_with (go_at_call 49; ((with_reducible refine hstep.out.mono ?_); rintro e W ⟨rfl, ys', hS', hH'⟩))
                  have HS' := Lib.hid hS'
                  have HH' := Lib.hid hH'
                  clear hS' hH' hstep
                  go_wp2
                  go_roundw
                  case rel => exact ⟨f + 2 * s, j + 1, ys', by first | rfl | go_num, by omega, by show _ = _; rw [HF.out, Nat.add_mul, Nat.one_mul], HS'.out, HH'.out⟩
                  case measure => simp [intOf]; omega
                · have b6 : (f : Int) + (s : Int) ≤ (n : Int) := by omega
                  have q5 : n ≠ f + s := fun e => q3 e.symm
                  have hstep := Lib.hid (merge_step gf c1 c2 eg lt hw n hn w wr.drew HT.out g1 g2 s f j xs ys HS.out.drew HR.out HH.out HF.out hfl hs1 (n - f) (n - f) s (n - f) (n - (f + s)) (n - (f + s)) (some ⟨g1, f + s, none⟩) (by omega) (by omega) (by omega) (by omega) (by omega) (by omega) (by omega) (by omega) (by omega) (.inr (by rw [Nat.min_eq_left (by omega)])))
                  go_wp2
                  go_still_tail 13, (by kernel_rfl)
                  change wpList _ _ _ _ _ wr.drew
                  go_wp2_with (go_at_call 49; ((with_reducible refine hstep.out.mono ?_); rintro e W ⟨rfl, ys', hS', hH'⟩))
                  have HS' := Lib.hid hS'
                  have HH' := Lib.hid hH'
                  clear hS' hH' hstep
                  go_wp2
                  go_roundw
                  case rel => exact ⟨f + 2 * s, j + 1, ys', by first | rfl | go_num, by omega, by show _ = _; rw [HF.out, Nat.add_mul, Nat.one_mul], HS'.out, HH'.out⟩
                  case measure => simp [intOf]; omega
              · have b6 : (f : Int) + (s : Int) ≤ (n : Int) := by omega
                have b7 : (f : Int) + 2 * (s : Int) ≤ (n : Int) := by omega
                have q5 : n ≠ f + s := by omega
                have hstep := Lib.hid (merge_step gf c1 c2 eg lt hw n hn w wr.drew HT.out g1 g2 s f j xs ys HS.out.drew HR.out HH.out HF.out hfl hs1 (2 * s) (n - f) s (n - f) (f + 2 * s - (f + s)) (n - (f + s)) (some ⟨g1, f + s, none⟩) (by omega) (by omega) (by omega) (by omega) (by omega) (by omega) (by omega) (by omega) (by omega) (.inr (by rw [Nat.min_eq_left (by omega)])))
                go_wp2
                go_still_tail 13, (by kernel_rfl)
                change wpList _ _ _ _ _ wr.drew
                go_wp2_with (go_at_call 49; ((with_reducible refine hstep.out.mono ?_); rintro e W ⟨rfl, ys', hS', hH'⟩))
                have HS' := Lib.hid hS'
                have HH' := Lib.hid hH'
                clear hS' hH' hstep
                go_wp2
                go_roundw
                case rel => exact ⟨f + 2 * s, j + 1, ys', by first | rfl | go_num, by omega, by show _ = _; rw [HF.out, Nat.add_mul, Nat.one_mul], HS'.out, HH'.out⟩
                case measure => simp [intOf]; omega
          · have hge : ¬ (f : Int) < (n : Int) := by omega
            go_wp2
            go_roundw
            case rel => exact ⟨2 * s, g2, g1, ys, xs, rfl, rfl, by first | rfl | go_num, by omega, by omega, HS.out.swap, HH.out.all (by have := HF.out; omega), HR.out.1⟩
            case measure => simp [intOf]; omega
      · have hge : ¬ (s : Int) < (n : Int) := by omega
        go_wp2
        go_ret
        exact ⟨_, xs, rfl, HR.out.whole (by omega), HS.out.below, own_row HS.out.fst HR.out.1 HS.out.lo1 (by omega)⟩
end Go.Proofs.Ytakgkfdbgjljkaa.Rank
