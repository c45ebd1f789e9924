/-
  Layer 2 (line): two rows of lines that are the same; rows of bytes one behind the other; the chapter's examples.
-/
import Derived.Test.YtccbbmkdmdllgaaLineRef
import Derived.Lib.SlBytesConst
namespace Go.Proofs.Ytccbbmkdmdllgaa.Line
open Go.ChangeShapes Go.WideShapes Go.ChangeAt Go.RowKit Mem
set_option linter.unusedVariables false

theorem conv_lr {w : World} {B : Nat} {A : Option Addr} {x : List Int} {n c : Nat} (h : RB w B A x) (hn : x.length = n) (w' : World) (hk : ∀ p : Addr, p.block < B → w'.cell? p = w.cell? p) : (convert 22 9 (.slice A n c)).run Try.prog w' = .ok (.string (strOfNums x)) w' := by
  subst hn
  exact run_conv (P := Try.prog) w' 22 9 5 Try.underlying22 Try.underlying5 Try.underlying9 (h.keep hk) c

set_option maxHeartbeats 1000000 in
theorem same_any (A A' : Option Addr) (n c c' : Nat) (vs vs' : List Value) (L : List (List Int)) (w : World) (B : Nat) (h : RV w B A vs) (h2 : All2 (LR w B) vs L) (h' : RV w B A' vs') (h2' : All2 (LR w B) vs' L) (hn : L.length = n) (hs : n ≤ 1000000000) :
    Calls Try.prog 13 #[.slice A n c, .slice A' n c'] w fun e w' => e = .returned (.bool true) ∧ ∃ q, w' = w.drewN q := by
  have Hn := Lib.hid hn; clear hn
  have H := Lib.hid h; have H' := Lib.hid h'; have H2 := Lib.hid h2; have H2' := Lib.hid h2'; clear h h' h2 h2'
  have hnn : ((n : Int) != (n : Int)) = false := by simp
  go_enter Try.func13, Try.ntmps13
  go_wp2
  go_loopw [5] (fun i wr => ∃ k q : Nat, k ≤ n ∧ i = .int .i64 k ∧ wr = w.drewN q) (fun i _ => n - (intOf i).toNat)
  case atStart => exact ⟨0, 0, Nat.zero_le _, rfl, rfl⟩
  case round =>
    obtain ⟨k, q, hk, rfl, rfl⟩ := hrel
    by_cases hlt : k < n
    · obtain ⟨b, off, rfl, _, hc⟩ := H.out.at_ (i := k) (by rw [H2.out.1, Hn.out]; exact hlt)
      obtain ⟨b', off', rfl, _, hc'⟩ := H'.out.at_ (i := k) (by rw [H2'.out.1, Hn.out]; exact hlt)
      obtain ⟨A1, c1, e1, _, _, r1⟩ := H2.out.at_ (i := k) (by rw [Hn.out]; exact hlt) undef []
      obtain ⟨A2, c2, e2, _, _, r2⟩ := H2'.out.at_ (i := k) (by rw [Hn.out]; exact hlt) undef []
      rw [e1] at hc
      rw [e2] at hc'
      have v1 : ∀ q, (convert 22 9 (.slice A1 (L.getD k []).length c1)).run Try.prog (w.drewN q) = .ok (.string (strOfNums (L.getD k []))) (w.drewN q) := fun q => conv_lr r1 rfl _ (fun _ _ => rfl)
      have v2 : ∀ q, (convert 22 9 (.slice A2 (L.getD k []).length c2)).run Try.prog (w.drewN q) = .ok (.string (strOfNums (L.getD k []))) (w.drewN q) := fun q => conv_lr r2 rfl _ (fun _ _ => rfl)
      generalize strOfNums (L.getD k []) = s at *
      generalize (L.getD k []).length = m at *
      clear e1 e2 r1 r2
      have hlt' : (k : Int) < (n : Int) := by omega
      go_wp2
      go_quiet (fail)
      go_wp2
      go_roundw
      case rel => exact ⟨k + 1, _, by omega, by first | rfl | go_num, rfl⟩
      case measure => simp [intOf]; omega
    · have hge : ¬ (k : Int) < (n : Int) := by omega
      go_wp2
      go_ret
      exact ⟨rfl, _, rfl⟩

theorem flat_take {L : List (List Int)} {k : Nat} (hk : k < L.length) : (L.take (k + 1)).flatten = (L.take k).flatten ++ L.getD k [] := by
  rw [List.take_succ_eq_append_getElem hk, List.flatten_append]; simp [List.getD, hk]
theorem flat_le {L : List (List Int)} (k : Nat) : (L.take k).flatten.length ≤ L.flatten.length := by
  have := congrArg List.length (congrArg List.flatten (List.take_append_drop k L))
  rw [List.flatten_append, List.length_append] at this; omega
theorem flat_byt {L : List (List Int)} (h : ∀ x ∈ L, Byt x) : Byt L.flatten := fun y hy => by
  obtain ⟨l, hl, hy⟩ := List.mem_flatten.1 hy
  exact h l hl y hy

/-- What Join leaves. -/
def JoinPost (xs : List Int) (w : World) (e : Ending) (w' : World) : Prop := Below w.heap.size w w' ∧ ∃ v, e = .returned v ∧ LV w' w.heap.size v xs

set_option maxHeartbeats 2000000 in
theorem join_any (A : Option Addr) (n cap : Nat) (vs : List Value) (L : List (List Int)) (w : World) (B : Nat) (h : RV w B A vs) (h2 : All2 (LR w B) vs L) (hB : B ≤ w.heap.size) (hn : L.length = n) (hs : n ≤ 1000000000) (hf : L.flatten.length ≤ 1000000) :
    Calls Try.prog 17 #[.slice A n cap] w (JoinPost L.flatten w) := by
  obtain ⟨i0, hi0, hz0, hz1, hz2⟩ := info_parts u8_info
  have Hn := Lib.hid hn; clear hn
  have H := Lib.hid h; have H2 := Lib.hid h2; clear h h2
  have hflat := Lib.hid (fun k => flat_le (L := L) k)
  have hft := Lib.hid (fun k hk => flat_take (L := L) (k := k) hk)
  have hfe : Hid ((L.take n).flatten = L.flatten) := by show _ = _; rw [List.take_of_length_le (by rw [Hn.out]; exact Nat.le_refl _)]
  have Hf := Lib.hid hf
  go_enter Try.func17, Try.ntmps17
  go_wp2
  go_loop [3, 5, 11] (fun sz _ i => ∃ k : Nat, k ≤ n ∧ i = .int .i64 k ∧ sz = .int .i64 ((L.take k).flatten.length : Nat)) (fun _ _ i => n - (intOf i).toNat)
  case atStart => exact ⟨0, Nat.zero_le _, rfl, rfl⟩
  case round =>
    obtain ⟨k, hk, rfl, rfl⟩ := hrel
    by_cases hlt : k < n
    · obtain ⟨b, off, rfl, _, hc⟩ := H.out.at_ (i := k) (by rw [H2.out.1, Hn.out]; exact hlt)
      obtain ⟨A1, c1, e1, h1, h1x, r1⟩ := H2.out.at_ (i := k) (by rw [Hn.out]; exact hlt) undef []
      rw [e1] at hc
      have hq := congrArg List.length (hft.out k (by rw [Hn.out]; exact hlt))
      rw [List.length_append] at hq
      have hb1 := hflat.out (k + 1)
      rw [hq] at hb1
      generalize (L.getD k []).length = m at *
      generalize (L.take k).flatten.length = s at *
      have Hq := Lib.hid hq
      clear e1 r1 hq
      have hm9 : m ≤ 9223372036854775807 := by omega
      have hlt' : (k : Int) < (n : Int) := by omega
      go_wp2
      go_round
      case rel => exact ⟨k + 1, by omega, by go_num, by rw [Hq.out]; go_num⟩
      case measure => simp [intOf]; omega
    · obtain rfl : k = n := by omega
      have hge : ¬ (k : Int) < (k : Int) := by omega
      rw [hfe.out]
      obtain ⟨S, hS⟩ : ∃ S, L.flatten.length = S := ⟨_, rfl⟩
      rw [hS] at hf ⊢
      go_wp2_with (at_make; refine wpList_make_own _ rfl _ _ 22 rfl w.heap.size 5 i0 (.int .u8 0) 1 Try.underlying22 hi0 hz0 hz1 _ _ _ S rfl rfl rfl (by rw [hz2]; omega) (by unfold maxLen; omega) (Nat.le_refl _) ?_; intro w2 hown2 hg2)
      have hbel2 : Below w.heap.size w w2 := (Below.refl _ _).grown hg2 (Nat.le_refl _) (fun b hb => by cases hb)
      go_loopw [6, 8, 24] (fun v _ i wr => ∃ j : Nat, j ≤ k ∧ i = .int .i64 j ∧ Hid (wr.ownsRow w.heap.size 5 1 v (L.take j).flatten.length ((L.take j).flatten.map (Value.int .u8))) ∧ Below w.heap.size w wr) (fun _ _ i _ => k - (intOf i).toNat)
      case atStart => exact ⟨0, Nat.zero_le _, rfl, (show w2.ownsRow _ _ _ _ _ _ by simpa using hown2), hbel2⟩
      case round =>
        obtain ⟨j, hj, rfl, hown, hbel⟩ := hrel
        by_cases hlt2 : j < k
        · obtain ⟨b, off, rfl, _, hc⟩ := (H.out.below hbel hB).at_ (i := j) (by rw [H2.out.1, Hn.out]; exact hlt2)
          obtain ⟨A1, c1, e1, h1, h1x, r1⟩ := (H2.out.mono fun _ _ hh => hh.below hbel hB).at_ (i := j) (by rw [Hn.out]; exact hlt2) undef []
          rw [e1] at hc
          have hq := hft.out j (by rw [Hn.out]; exact hlt2)
          have hb1 := hflat.out (j + 1)
          rw [hq, List.length_append, hS] at hb1
          have hown1 := hown.out
          have R1 := Lib.hid r1
          have Hq := Lib.hid hq
          obtain ⟨m, hm⟩ : ∃ m, (L.getD j []).length = m := ⟨_, rfl⟩
          rw [hm] at hb1 hc h1
          have Hm := Lib.hid hm
          obtain ⟨X, hX⟩ : ∃ X, (L.take j).flatten = X := ⟨_, rfl⟩
          rw [hX] at hown1 hb1
          have HX := Lib.hid hX
          clear e1 r1 hq hm hX
          have hlt' : (j : Int) < (k : Int) := by omega
          go_wp2_with (at_builtin; refine app_rb wr rfl _ _ rfl w.heap.size u6 X.length _ rfl hown1 B A1 m c1 (L.getD j []) rfl R1.out Hm.out (by omega) hbel.size ?_; intro v2 w3 hown3 hg3 hat3)
          have hown4 : Hid (w3.ownsRow w.heap.size 5 1 v2 (L.take (j + 1)).flatten.length ((L.take (j + 1)).flatten.map (Value.int .u8))) := by
            show w3.ownsRow _ _ _ _ _ _
            rw [Hq.out, HX.out, List.length_append, Hm.out, List.map_append]; exact hown3
          have hbel3 : Below w.heap.size w w3 := hbel.grown hg3 hbel.size (fun b hb => (hown1.lt b hb).1)
          go_roundw
          case rel => exact ⟨j + 1, by omega, by go_num, hown4.out, hbel3⟩
          case measure => simp [intOf]; omega
        · obtain rfl : j = k := by omega
          have hge2 : ¬ (j : Int) < (j : Int) := by omega
          have hown1 := hown.out
          rw [hfe.out] at hown1
          have hbyt : Byt L.flatten := flat_byt fun x hx => by
            obtain ⟨i, hi, rfl⟩ := List.getElem_of_mem hx
            obtain ⟨_, _, _, _, _, r⟩ := H2.out.2 i (vs[i]'(by rw [H2.out.1]; exact hi)) _ (by simp) (List.getElem?_eq_getElem hi)
            exact r.byt
          have HF := Lib.hid (show JoinPost L.flatten w (.returned u6) wr from ⟨hbel, _, rfl, hown1, hbyt⟩)
          obtain ⟨va, vc, hv, _, _⟩ := own_slice hown1
          clear hown hown1 hbel hbyt
          rw [hS] at hv
          subst hv
          go_wp2
          go_ret
          exact HF.out

/-! ### The chapter's examples -/
theorem ex_lns : lns [97, 10, 10, 98] = [[97, 10], [10], [98]] := by decide +kernel
theorem ex_sts : sts [97, 10, 10, 98] = [0, 2, 3] := by decide +kernel
theorem ex_pl : plN [0, 2, 3] 3 = 2 ∧ plC [0, 2, 3] 3 = 0 := by decide +kernel
theorem ex_byt : Byt [97, 10, 10, 98] := by intro x hx; simp at hx; omega

theorem rb_lit (w : World) (fr : Nat × Nat) : RB (w.alloc (.cells #[.int .u8 97, .int .u8 10, .int .u8 10, .int .u8 98] 5 fr)) (w.heap.size + 1) (some ⟨w.heap.size, 0, none⟩) [97, 10, 10, 98] :=
  ⟨ex_byt, .inr ⟨_, _, rfl, by omega, fun i hi => by
    rw [Nat.zero_add, World.cell?_alloc_mark]
    have hi4 : i < 4 := hi
    have h : i = 0 ∨ i = 1 ∨ i = 2 ∨ i = 3 := by omega
    rcases h with rfl | rfl | rfl | rfl <;> rfl⟩⟩

theorem conv_lit (w : World) : (convert 22 22 (.slice (some ⟨w.heap.size, 0, none⟩) 4 4)).run Try.prog (w.alloc (.cells #[.int .u8 97, .int .u8 10, .int .u8 10, .int .u8 98] 5)) = .ok (.slice (some ⟨w.heap.size, 0, none⟩) 4 4) (w.alloc (.cells #[.int .u8 97, .int .u8 10, .int .u8 10, .int .u8 98] 5 (4, 5))) :=
  Lib.run_convert_bytes_const (P := Try.prog) w 22 5 _ 4 4 Try.underlying22 Try.underlying5

theorem lit_below (w : World) (fr : Nat × Nat) : Below w.heap.size w (w.alloc (.cells #[.int .u8 97, .int .u8 10, .int .u8 10, .int .u8 98] 5 fr)) := (Below.refl _ _).alloc (Nat.le_refl _) _

theorem ex_split (w : World) : Calls Try.prog 9 #[.slice (some ⟨w.heap.size, 0, none⟩) 4 4] (w.alloc (.cells #[.int .u8 97, .int .u8 10, .int .u8 10, .int .u8 98] 5 (4, 5))) fun e w' => Below w.heap.size w w' ∧ ∃ a c v0 v1 v2, e = .returned (.slice a 3 c) ∧ RV w' w'.heap.size a [v0, v1, v2] ∧ LR w' w'.heap.size v0 [97, 10] ∧ LR w' w'.heap.size v2 [98] :=
  (split_any _ 4 4 [97, 10, 10, 98] _ _ (rb_lit w (4, 5)) (by simp) rfl (Nat.le_refl _) (by unfold maxLen; omega) (by omega)).mono fun e w' ⟨hb, v, he, hO⟩ => by
    rw [ex_lns] at hO
    obtain ⟨A, c, vs, rfl, _, _, hl, hv, h2⟩ := hO.reads
    match vs, hl with
    | [v0, v1, v2], _ => exact ⟨(lit_below w (4, 5)).trans (hb.mono (by simp)), A, c, v0, v1, v2, he, hv, h2.2 0 _ _ rfl rfl, h2.2 2 _ _ rfl rfl⟩

theorem ex_starts (w : World) : Calls Try.prog 10 #[.slice (some ⟨w.heap.size, 0, none⟩) 4 4] (w.alloc (.cells #[.int .u8 97, .int .u8 10, .int .u8 10, .int .u8 98] 5 (4, 5))) fun e w' => Below w.heap.size w w' ∧ ∃ a c, e = .returned (.slice a 3 c) ∧ RI w' w'.heap.size a [0, 2, 3] :=
  (starts_any _ 4 4 [97, 10, 10, 98] _ _ (rb_lit w (4, 5)) (by simp) rfl (Nat.le_refl _) (by unfold maxLen; omega) (by omega)).mono fun e w' ⟨hb, v, he, hO⟩ => by
    rw [ex_sts] at hO
    obtain ⟨A, c, rfl, _, _⟩ := own_slice hO
    exact ⟨(lit_below w (4, 5)).trans (hb.mono (by simp)), A, c, he, own_ri hO⟩

theorem ex_place (A : Option Addr) (c : Nat) (w : World) (h : RI w w.heap.size A [0, 2, 3]) : Calls Try.prog 15 #[.slice A 3 c, .int .i64 3] w fun e w' => e = .returned (.tuple #[.int .i64 2, .int .i64 0]) ∧ Below w.heap.size w w' := by
  have := place_any A 3 c [0, 2, 3] 3 w _ h (Nat.le_refl _) rfl ⟨by rw [← ex_sts]; exact sts_rise _, fun i hi => by
    have h : i = 0 ∨ i = 1 ∨ i = 2 := by have : i < 3 := hi; omega
    rcases h with rfl | rfl | rfl <;> decide⟩ (by omega) (by omega)
  rw [ex_pl.1, ex_pl.2] at this
  exact this

set_option maxHeartbeats 2000000 in
theorem known_any (w : World) :
    Calls Try.prog 12 #[] w fun e w' => e = .returned (.bool true) ∧ Below w.heap.size w w' := by
  have k1 := conv_lit w
  go_enter Try.func12, Try.ntmps12
  go_wp2_with fail
  refine (ex_split w).mono ?_
  rintro e w1 ⟨hb1, a1, c1, v0, v1, v2, rfl, hv, r0, r2⟩
  have k2 := conv_lit w1
  clear k1
  go_wp2_with fail
  refine (ex_starts w1).mono ?_
  rintro e w2 ⟨hb2, a2, c2, rfl, hs⟩
  clear k2
  go_wp2_with fail
  refine (ex_place a2 c2 w2 hs).mono ?_
  rintro e w3 ⟨rfl, hb3⟩
  have hb23 : Below w1.heap.size w1 w3 := hb2.trans (hb3.mono hb2.size)
  obtain ⟨b1, o1, rfl, _, hc0⟩ := (hv.below hb23 (Nat.le_refl _)).at_ (i := 0) (by simp)
  obtain ⟨b1', o1', e1, _, hc2⟩ := (hv.below hb23 (Nat.le_refl _)).at_ (i := 2) (by simp)
  obtain ⟨rfl, rfl⟩ : b1 = b1' ∧ o1 = o1' := by simpa using e1
  obtain ⟨A0, d0, rfl, _, _, q0⟩ := r0.below hb23 (Nat.le_refl _)
  obtain ⟨A2, d2, rfl, _, _, q2⟩ := r2.below hb23 (Nat.le_refl _)
  have s0 := conv_lr q0 (n := 2) (c := d0) rfl w3 (fun _ _ => rfl)
  have s2 := conv_lr q2 (n := 1) (c := d2) rfl w3 (fun _ _ => rfl)
  obtain ⟨b2, o2, rfl, _, hc3⟩ := (hs.below hb3 (Nat.le_refl _)).at_ (i := 1) (by simp)
  have z0 : strOfNums [97, 10] = { data := #[97, 10] } := rfl
  have z2 : strOfNums [98] = { data := #[98] } := rfl
  rw [z0] at s0
  rw [z2] at s2
  have HB := Lib.hid (hb1.trans (hb23.mono hb1.size))
  simp only [List.getD_cons_zero, List.getD_cons_succ, List.length_cons, List.length_nil, Nat.add_zero, Nat.zero_add, Nat.reduceAdd] at hc0 hc2 hc3
  clear hb1 hb2 hb3 hb23 hv r0 r2 hs q0 q2 z0 z2 e1
  go_wp2_with fail
  go_ret
  exact ⟨rfl, HB.out⟩
end Go.Proofs.Ytccbbmkdmdllgaa.Line
