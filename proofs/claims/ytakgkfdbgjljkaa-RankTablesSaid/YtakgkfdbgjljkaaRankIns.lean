/-
  Layer 3 (rank): the document's Less, Ints, Texts: each behind those that aren't greater; its Place.
-/
import Derived.Test.YtakgkfdbgjljkaaRankLess
namespace Go.Proofs.Ytakgkfdbgjljkaa.Rank
open Go.ChangeShapes Go.WideShapes Go.ChangeAt Go.RowKit MemC
set_option linter.unusedVariables false

theorem ins_vals (lt : Nat → Nat → Bool) (i : Nat) (row : List Nat) (k : Nat) (hk : atp lt i row row.length = k) : (ints row).take k ++ [(i : Int)] ++ (ints row).drop k = ints (ins lt i row) := by
  subst hk
  simp [ins, ints]

theorem atp_yes {lt : Nat → Nat → Bool} {i : Nat} {row : List Nat} {n k y : Nat} (h : atp lt i row n = atp lt i row (k + 1)) (hy : row.getD k 0 = y) (hl : lt i y = true) : atp lt i row n = atp lt i row k := by
  rw [h, atp, hy, if_pos hl]
theorem atp_no {lt : Nat → Nat → Bool} {i : Nat} {row : List Nat} {n k y : Nat} (h : atp lt i row n = atp lt i row (k + 1)) (hy : row.getD k 0 = y) (hl : lt i y = false) : atp lt i row n = k + 1 := by
  rw [h, atp, hy, if_neg (by simp [hl])]

/-- A row of places, and where it lies. -/
def Addr0 (A : Option Addr) (c : Nat) : Prop := (A = none ∧ c = 0) ∨ ∃ g, A = some ⟨g, 0, none⟩
theorem addr0 {w : World} {base : Nat} {e : TypeId} {size : Nat} {A : Option Addr} {n c : Nat} {vs : List Value} (h : w.ownsRow base e size (.slice A n c) n vs) : Addr0 A c := by
  rcases h.2 with ⟨hv, _⟩ | ⟨g, cap, _, hv, _⟩
  · injection hv with h1 _ h3; exact .inl ⟨h1, h3⟩
  · injection hv with h1 _ _; exact .inr ⟨g, h1⟩

set_option maxRecDepth 100000 in
set_option maxHeartbeats 4000000 in
theorem refI_any (A : Option Addr) (n cap : Nat) (xs : List Int) (w : World) (hr : RI w w.heap.size A xs) (hx : xs.length = n) (hn : n ≤ 1000000) :
    Calls Try.prog 12 #[.slice A n cap] w (ByPost (ltI xs) n w) := by
  have H := Lib.hid hr
  have Hx := Lib.hid hx
  clear hr hx
  go_enter Try.func12, Try.ntmps12
  go_wp2
  go_loopw [3, 4, 5] (fun s3 s4 _ wr => ∃ (i : Nat) (Av : Option Addr) (cv : Nat), i ≤ n ∧ s4 = .int .i64 i ∧ s3 = .slice Av i cv ∧ Hid (Addr0 Av cv) ∧ i ≤ cv ∧ Hid (cv ≤ maxLen) ∧ Hid (wr.ownsRow w.heap.size 3 1 (.slice Av i cv) i (vals (ordN (ltI xs) i))) ∧ Hid (Below w.heap.size w wr)) (fun _ s4 _ _ => n - (intOf s4).toNat)
  case atStart => exact ⟨0, none, 0, Nat.zero_le _, rfl, rfl, .inl ⟨rfl, rfl⟩, Nat.le_refl _, Nat.zero_le _, World.ownsRow_nil _ _ _ _, Below.refl _ _⟩
  case round =>
    obtain ⟨i, Av, cv, hin, rfl, rfl, HA, hcv, HM, HO, HB⟩ := hrel
    obtain ⟨wq, rfl⟩ : ∃ wq : World, wq = wr := ⟨_, rfl⟩
    by_cases hlt : i < n
    · have hlt' : (i : Int) < (n : Int) := by omega
      have HL := Lib.hid (ordN_len (ltI_wo xs) i)
      go_wp2
      go_loopw [5] (fun s5 wr => ∃ k : Nat, k ≤ i ∧ s5 = .int .i64 k ∧ Hid (atp (ltI xs) i (ordN (ltI xs) i) i = atp (ltI xs) i (ordN (ltI xs) i) k) ∧ Hid (∃ q, wr = wq.drewN q)) (fun s5 _ => (intOf s5).toNat)
      case atStart => exact ⟨i, Nat.le_refl _, rfl, rfl, ⟨0, rfl⟩⟩
      case round =>
        obtain ⟨k, hki, rfl, HK, HW⟩ := hrel
        have hdone : ∀ (z : Int) (hz : z = (k : Int)) (Hat : Hid (atp (ltI xs) i (ordN (ltI xs) i) i = k)), Hid (∀ q, Calls Try.prog 29 #[.slice Av i cv, .int .i64 z, .int .i64 (i : Int)] (wr.drewN q) fun e w' => ∃ Av' cv', e = .returned (.slice Av' (i + 1) cv') ∧ Addr0 Av' cv' ∧ i + 1 ≤ cv' ∧ cv' ≤ maxLen ∧ w'.ownsRow w.heap.size 3 1 (.slice Av' (i + 1) cv') (i + 1) (vals (ordN (ltI xs) (i + 1))) ∧ Below w.heap.size w w') := by
          intro z hz Hat q
          subst hz
          obtain ⟨q0, hq0⟩ := HW.out
          subst hq0
          have ho : ((wq.drewN q0).drewN q).ownsRow w.heap.size 3 1 (.slice Av i cv) i (vals (ordN (ltI xs) i)) := HO.out
          have hri : RI ((wq.drewN q0).drewN q) ((wq.drewN q0).drewN q).heap.size Av (ints (ordN (ltI xs) i)) := own_rc ho
          have hbl : Below w.heap.size w ((wq.drewN q0).drewN q) := below_drewN (below_drewN HB.out q0) q
          refine (put_any Av i cv k (ints (ordN (ltI xs) i)) (i : Int) _ HA.out hri (by rw [ints_len]; exact HL.out) hcv HM.out (by omega) hki).mono ?_
          rintro e w' ⟨v, rfl, hb, ho'⟩
          obtain ⟨a, c, rfl, h1, h2⟩ := own_slice ho'
          have hv : ((ints (ordN (ltI xs) i)).take k ++ [(i : Int)] ++ (ints (ordN (ltI xs) i)).drop k).map (Value.int .i64) = vals (ordN (ltI xs) (i + 1)) := by
            rw [ins_vals (ltI xs) i _ k (by rw [HL.out]; exact Hat.out)]; rfl
          rw [hv] at ho'
          exact ⟨a, c, rfl, addr0 ho', h1, h2, own_base ho' hbl.size, hbl.trans (hb.mono hbl.size)⟩
        have HD := Lib.hid hdone
        clear hdone
        rcases k with _ | k
        · have hz : decide ((0 : Int) > 0) = false := rfl
          have hz2 : decide ((0 : Int) < 0) = false := rfl
          have HP := HD.out 0 rfl HK.out
          clear HD
          have e0 : ((0 : Nat) : Int) = 0 := rfl
          go_wp2
          go_quiet (fail)
          go_wp2_with (go_at_call 29; ((with_reducible refine (HP.out _).mono ?_); rintro e w' ⟨Av', cv', rfl, p1, p2, p3, p4, p5⟩); have P1 := Lib.hid p1; have P3 := Lib.hid p3; have P4 := Lib.hid p4; have P5 := Lib.hid p5; clear p1 p3 p4 p5)
          go_roundw
          case rel => exact ⟨i + 1, Av', cv', by omega, by go_num, rfl, P1.out, p2, P3.out, P4.out, P5.out⟩
          case measure => simp [intOf]; omega
        · have hzz : decide ((0 : Int) < (k : Int) + 1) = true := by rw [decide_eq_true_eq]; omega
          have hz3 : (0 : Int) < (k : Int) + 1 := by omega
          obtain ⟨y, HY⟩ : ∃ y, Hid ((ordN (ltI xs) i).getD k 0 = y) := ⟨_, rfl⟩
          have hyi : y < i := by
            have h1 := HL.out
            have h2 : (ordN (ltI xs) i).getD k 0 ∈ ordN (ltI xs) i := by
              have : k < (ordN (ltI xs) i).length := by omega
              simp only [List.getD, List.getElem?_eq_getElem this, Option.getD_some]; exact List.getElem_mem this
            rw [HY.out] at h2
            exact (ordN_is (ltI_wo xs) i).below h2
          have hxr : RI wr w.heap.size A xs := by
            obtain ⟨q0, hq0⟩ := HW.out
            subst hq0
            exact (H.out.below HB.out (Nat.le_refl _)).keep fun _ _ => rfl
          obtain ⟨b, off, rfl, _, hc⟩ := hxr.cell (by rw [Hx.out]; omega)
          have hci := hc i (by rw [Hx.out]; exact hlt)
          have hcy := hc y (by rw [Hx.out]; omega)
          have hrr : RI wr wr.heap.size Av (ints (ordN (ltI xs) i)) := by
            obtain ⟨q0, hq0⟩ := HW.out
            subst hq0
            exact (own_rc HO.out : RI wq wq.heap.size Av (ints (ordN (ltI xs) i)))
          obtain ⟨b2, off2, rfl, _, hck⟩ := hrr.at_ (i := k) (by rw [ints_len, HL.out]; omega)
          rw [ints_getD, HY.out] at hck
          have hki' : (k : Int) < (i : Int) := by omega
          have hyn : (y : Int) < (n : Int) := by omega
          have hlt2 := Lib.hid (show decide (xs.getD i 0 < xs.getD y 0) = ltI xs i y from rfl)
          clear hc hxr hrr
          generalize xs.getD i 0 = xi at *
          generalize xs.getD y 0 = xy at *
          by_cases hcmp : xi < xy
          · have HC : Hid (ltI xs i y = true) := by show _ = _; rw [← hlt2.out]; exact decide_eq_true hcmp
            clear HD
            go_wp2
            go_quiet (fail)
            go_wp2
            go_roundw
            case rel => exact ⟨k, by omega, by first | rfl | (congr 1; omega), atp_yes HK.out HY.out HC.out, (by obtain ⟨q0, hq0⟩ := HW.out; rw [hq0]; first | exact ⟨_, rfl⟩ | exact ⟨_, by rw [World.drewN_drewN]⟩)⟩
            case measure => simp [intOf]
          · have HC : Hid (ltI xs i y = false) := by show _ = _; rw [← hlt2.out]; exact decide_eq_false hcmp
            have HP := HD.out ((k : Int) + 1) (by omega) (atp_no HK.out HY.out HC.out)
            clear HD
            skip
            go_wp2
            go_quiet (fail)
            go_wp2_with (go_at_call 29; ((with_reducible refine (HP.out _).mono ?_); rintro e w' ⟨Av', cv', rfl, p1, p2, p3, p4, p5⟩); have P1 := Lib.hid p1; have P3 := Lib.hid p3; have P4 := Lib.hid p4; have P5 := Lib.hid p5; clear p1 p3 p4 p5)
            go_roundw
            case rel => exact ⟨i + 1, Av', cv', by omega, by go_num, rfl, P1.out, p2, P3.out, P4.out, P5.out⟩
            case measure => simp [intOf]; omega
    · obtain rfl : n = i := by omega
      have hge : ¬ (n : Int) < (n : Int) := by omega
      go_wp2
      go_ret
      exact ⟨_, rfl, HB.out, HO.out⟩

set_option maxRecDepth 100000 in
set_option maxHeartbeats 4000000 in
theorem refS_any (A : Option Addr) (n cap : Nat) (xs : List ByteArray) (w : World) (hr : RS w w.heap.size A xs) (hx : xs.length = n) (hn : n ≤ 1000000) (hz : ∀ s ∈ xs, s.size ≤ 1000000000) :
    Calls Try.prog 14 #[.slice A n cap] w (ByPost (ltS xs) n w) := by
  have H := Lib.hid hr
  have Hx := Lib.hid hx
  have HZ := Lib.hid hz
  clear hr hx hz
  go_enter Try.func14, Try.ntmps14
  go_wp2
  go_loopw [3, 4, 5] (fun s3 s4 _ wr => ∃ (i : Nat) (Av : Option Addr) (cv : Nat), i ≤ n ∧ s4 = .int .i64 i ∧ s3 = .slice Av i cv ∧ Hid (Addr0 Av cv) ∧ i ≤ cv ∧ Hid (cv ≤ maxLen) ∧ Hid (wr.ownsRow w.heap.size 3 1 (.slice Av i cv) i (vals (ordN (ltS xs) i))) ∧ Hid (Below w.heap.size w wr)) (fun _ s4 _ _ => n - (intOf s4).toNat)
  case atStart => exact ⟨0, none, 0, Nat.zero_le _, rfl, rfl, .inl ⟨rfl, rfl⟩, Nat.le_refl _, Nat.zero_le _, World.ownsRow_nil _ _ _ _, Below.refl _ _⟩
  case round =>
    obtain ⟨i, Av, cv, hin, rfl, rfl, HA, hcv, HM, HO, HB⟩ := hrel
    obtain ⟨wq, rfl⟩ : ∃ wq : World, wq = wr := ⟨_, rfl⟩
    by_cases hlt : i < n
    · have hlt' : (i : Int) < (n : Int) := by omega
      have HL := Lib.hid (ordN_len (ltS_wo xs) i)
      go_wp2
      go_loopw [5] (fun s5 wr => ∃ k : Nat, k ≤ i ∧ s5 = .int .i64 k ∧ Hid (atp (ltS xs) i (ordN (ltS xs) i) i = atp (ltS xs) i (ordN (ltS xs) i) k) ∧ Hid (∃ q, wr = wq.drewN q)) (fun s5 _ => (intOf s5).toNat)
      case atStart => exact ⟨i, Nat.le_refl _, rfl, rfl, ⟨0, rfl⟩⟩
      case round =>
        obtain ⟨k, hki, rfl, HK, HW⟩ := hrel
        have hdone : ∀ (z : Int) (hz : z = (k : Int)) (Hat : Hid (atp (ltS xs) i (ordN (ltS xs) i) i = k)), Hid (∀ q, Calls Try.prog 29 #[.slice Av i cv, .int .i64 z, .int .i64 (i : Int)] (wr.drewN q) fun e w' => ∃ Av' cv', e = .returned (.slice Av' (i + 1) cv') ∧ Addr0 Av' cv' ∧ i + 1 ≤ cv' ∧ cv' ≤ maxLen ∧ w'.ownsRow w.heap.size 3 1 (.slice Av' (i + 1) cv') (i + 1) (vals (ordN (ltS xs) (i + 1))) ∧ Below w.heap.size w w') := by
          intro z hz Hat q
          subst hz
          obtain ⟨q0, hq0⟩ := HW.out
          subst hq0
          have ho : ((wq.drewN q0).drewN q).ownsRow w.heap.size 3 1 (.slice Av i cv) i (vals (ordN (ltS xs) i)) := HO.out
          have hri : RI ((wq.drewN q0).drewN q) ((wq.drewN q0).drewN q).heap.size Av (ints (ordN (ltS xs) i)) := own_rc ho
          have hbl : Below w.heap.size w ((wq.drewN q0).drewN q) := below_drewN (below_drewN HB.out q0) q
          refine (put_any Av i cv k (ints (ordN (ltS xs) i)) (i : Int) _ HA.out hri (by rw [ints_len]; exact HL.out) hcv HM.out (by omega) hki).mono ?_
          rintro e w' ⟨v, rfl, hb, ho'⟩
          obtain ⟨a, c, rfl, h1, h2⟩ := own_slice ho'
          have hv : ((ints (ordN (ltS xs) i)).take k ++ [(i : Int)] ++ (ints (ordN (ltS xs) i)).drop k).map (Value.int .i64) = vals (ordN (ltS xs) (i + 1)) := by
            rw [ins_vals (ltS xs) i _ k (by rw [HL.out]; exact Hat.out)]; rfl
          rw [hv] at ho'
          exact ⟨a, c, rfl, addr0 ho', h1, h2, own_base ho' hbl.size, hbl.trans (hb.mono hbl.size)⟩
        have HD := Lib.hid hdone
        clear hdone
        rcases k with _ | k
        · have hz : decide ((0 : Int) > 0) = false := rfl
          have hz2 : decide ((0 : Int) < 0) = false := rfl
          have HP := HD.out 0 rfl HK.out
          clear HD
          have e0 : ((0 : Nat) : Int) = 0 := rfl
          go_wp2
          go_quiet (fail)
          go_wp2_with (go_at_call 29; ((with_reducible refine (HP.out _).mono ?_); rintro e w' ⟨Av', cv', rfl, p1, p2, p3, p4, p5⟩); have P1 := Lib.hid p1; have P3 := Lib.hid p3; have P4 := Lib.hid p4; have P5 := Lib.hid p5; clear p1 p3 p4 p5)
          go_roundw
          case rel => exact ⟨i + 1, Av', cv', by omega, by go_num, rfl, P1.out, p2, P3.out, P4.out, P5.out⟩
          case measure => simp [intOf]; omega
        · have hzz : decide ((0 : Int) < (k : Int) + 1) = true := by rw [decide_eq_true_eq]; omega
          have hz3 : (0 : Int) < (k : Int) + 1 := by omega
          obtain ⟨y, HY⟩ : ∃ y, Hid ((ordN (ltS xs) i).getD k 0 = y) := ⟨_, rfl⟩
          have hyi : y < i := by
            have h1 := HL.out
            have h2 : (ordN (ltS xs) i).getD k 0 ∈ ordN (ltS xs) i := by
              have : k < (ordN (ltS xs) i).length := by omega
              simp only [List.getD, List.getElem?_eq_getElem this, Option.getD_some]; exact List.getElem_mem this
            rw [HY.out] at h2
            exact (ordN_is (ltS_wo xs) i).below h2
          have hxr : RS wr w.heap.size A xs := by
            obtain ⟨q0, hq0⟩ := HW.out
            subst hq0
            exact (H.out.below HB.out (Nat.le_refl _)).keep fun _ _ => rfl
          obtain ⟨b, off, rfl, _, hc⟩ := hxr.cell (by rw [Hx.out]; omega)
          have hci := hc i (by rw [Hx.out]; exact hlt)
          have hcy := hc y (by rw [Hx.out]; omega)
          have hrr : RI wr wr.heap.size Av (ints (ordN (ltS xs) i)) := by
            obtain ⟨q0, hq0⟩ := HW.out
            subst hq0
            exact (own_rc HO.out : RI wq wq.heap.size Av (ints (ordN (ltS xs) i)))
          obtain ⟨b2, off2, rfl, _, hck⟩ := hrr.at_ (i := k) (by rw [ints_len, HL.out]; omega)
          rw [ints_getD, HY.out] at hck
          have hki' : (k : Int) < (i : Int) := by omega
          have hyn : (y : Int) < (n : Int) := by omega
          have hlt2 := Lib.hid (show Op.bytesLess (xs.getD i ⟨#[]⟩).toList (xs.getD y ⟨#[]⟩).toList = ltS xs i y from rfl)
          have hs1 : (xs.getD i ⟨#[]⟩).size ≤ 1000000000 := HZ.out _ (by have h1 := Hx.out; simp only [List.getD, List.getElem?_eq_getElem (show i < xs.length by omega), Option.getD_some]; exact List.getElem_mem _)
          have hs2 : (xs.getD y ⟨#[]⟩).size ≤ 1000000000 := HZ.out _ (by have h1 := Hx.out; simp only [List.getD, List.getElem?_eq_getElem (show y < xs.length by omega), Option.getD_some]; exact List.getElem_mem _)
          clear hc hxr hrr
          generalize xs.getD i ⟨#[]⟩ = xi at *
          generalize xs.getD y ⟨#[]⟩ = xy at *
          by_cases hcmp : Op.bytesLess xi.toList xy.toList = true
          · have HC : Hid (ltS xs i y = true) := by show _ = _; rw [← hlt2.out]; exact hcmp
            clear HD
            go_wp2
            go_quiet ((go_at_call 32; exact Calls.quiet_of (lessR_any _ _ _ hs1 hs2)))
            go_wp2
            go_roundw
            case rel => exact ⟨k, by omega, by first | rfl | (congr 1; omega), atp_yes HK.out HY.out HC.out, (by obtain ⟨q0, hq0⟩ := HW.out; rw [hq0]; first | exact ⟨_, rfl⟩ | exact ⟨_, by rw [World.drewN_drewN]⟩)⟩
            case measure => simp [intOf]
          · have HC : Hid (ltS xs i y = false) := by show _ = _; rw [← hlt2.out]; simpa using hcmp
            have HP := HD.out ((k : Int) + 1) (by omega) (atp_no HK.out HY.out HC.out)
            clear HD
            have hcmp' : Op.bytesLess xi.toList xy.toList = false := by simpa using hcmp
            clear hcmp
            go_wp2
            go_quiet ((go_at_call 32; exact Calls.quiet_of (lessR_any _ _ _ hs1 hs2)))
            go_wp2_with (go_at_call 29; ((with_reducible refine (HP.out _).mono ?_); rintro e w' ⟨Av', cv', rfl, p1, p2, p3, p4, p5⟩); have P1 := Lib.hid p1; have P3 := Lib.hid p3; have P4 := Lib.hid p4; have P5 := Lib.hid p5; clear p1 p3 p4 p5)
            go_roundw
            case rel => exact ⟨i + 1, Av', cv', by omega, by go_num, rfl, P1.out, p2, P3.out, P4.out, P5.out⟩
            case measure => simp [intOf]; omega
    · obtain rfl : n = i := by omega
      have hge : ¬ (n : Int) < (n : Int) := by omega
      go_wp2
      go_ret
      exact ⟨_, rfl, HB.out, HO.out⟩

end Go.Proofs.Ytakgkfdbgjljkaa.Rank
