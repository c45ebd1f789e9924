/-
  Layer 3 (rank): Place by halves; the document's Same, put, Ints, Place.
-/
import Derived.Test.YtakgkfdbgjljkaaRankBy
namespace Go.Proofs.Ytakgkfdbgjljkaa.Rank
open Go.ChangeShapes Go.WideShapes Go.ChangeAt Go.RowKit MemC
set_option linter.unusedVariables false

/-! ### Place -/
set_option maxHeartbeats 1000000 in
theorem geq_any (c1 c2 : Nat) (A : Option Addr) (n cap : Nat) (xs : List Int) (x : Int) (W : World) (B : Nat) (h1 : W.cell? ⟨c1, 0, none⟩ = some (.slice A n cap)) (h2 : W.cell? ⟨c2, 0, none⟩ = some (.int .i64 x)) (hr : RI W B A xs) (hx : xs.length = n) (i : Nat) (hi : i < n) :
    Calls Try.prog 51 #[.int .i64 (i : Int), .pointer (some ⟨c1, 0, none⟩), .pointer (some ⟨c2, 0, none⟩)] W fun e W' => e = .returned (.bool (decide (x ≤ xs.getD i 0))) ∧ ∃ q, W' = W.drewN q := by
  obtain ⟨b, off, rfl, _, hc⟩ := hr.cell (by omega)
  have hci := hc i (by omega)
  have hi' : (i : Int) < (n : Int) := by omega
  clear hc hr hx
  generalize xs.getD i 0 = y at *
  go_enter Try.func51, Try.ntmps51
  go_wp2
  go_quiet (fail)
  go_wp2
  go_ret
  exact ⟨rfl, _, rfl⟩

/-- What Search leaves. -/
def SpotPost (xs : List Int) (x : Int) (w : World) (e : Ending) (w' : World) : Prop := ∃ k : Nat, e = .returned (.int .i64 k) ∧ Spot xs x k ∧ ∃ q, w' = w.drewN q

set_option maxHeartbeats 1000000 in
theorem search_any (c1 c2 : Nat) (A : Option Addr) (n cap : Nat) (xs : List Int) (x : Int) (w : World) (B : Nat) (h1 : w.cell? ⟨c1, 0, none⟩ = some (.slice A n cap)) (h2 : w.cell? ⟨c2, 0, none⟩ = some (.int .i64 x)) (hr : RI w B A xs) (hx : xs.length = n) (hn : n ≤ 1000000) :
    Calls Try.prog 50 #[.int .i64 (n : Int), .func (.func 51) #[] #[.pointer (some ⟨c1, 0, none⟩), .pointer (some ⟨c2, 0, none⟩)]] w (SpotPost xs x w) := by
  have HF := Lib.hid (fun (q i : Nat) (hi : i < n) => geq_any c1 c2 A n cap xs x (w.drewN q) B h1 h2 (hr.keep fun _ _ => rfl) hx i hi)
  have Hx := Lib.hid hx
  clear h1 h2 hr hx
  go_enter Try.func50, Try.ntmps50
  go_wp2
  go_loopw [5, 6, 7] (fun s5 s6 _ wr => ∃ lo hi q : Nat, s5 = .int .i64 lo ∧ s6 = .int .i64 hi ∧ lo ≤ hi ∧ hi ≤ n ∧ wr = w.drewN q ∧ Hid ((0 < lo → xs.getD (lo - 1) 0 < x) ∧ (hi < n → x ≤ xs.getD hi 0))) (fun s5 s6 _ _ => (intOf s6).toNat - (intOf s5).toNat)
  case atStart => exact ⟨0, n, 0, rfl, rfl, Nat.zero_le _, Nat.le_refl _, rfl, (⟨fun h => by omega, fun h => by omega⟩ : (0 < 0 → xs.getD (0 - 1) 0 < x) ∧ (n < n → x ≤ xs.getD n 0))⟩
  case round =>
    obtain ⟨lo, hi, q, rfl, rfl, hlh, hin, rfl, HI⟩ := hrel
    by_cases hlt : lo < hi
    · have hc := Lib.hid (HF.out q ((lo + hi) / 2) (by omega))
      rw [show (((lo + hi) / 2 : Nat) : Int) = ((lo : Int) + (hi : Int)) / 2 by omega] at hc
      by_cases hp : x ≤ xs.getD ((lo + hi) / 2) 0
      · have hp' : decide (x ≤ xs.getD ((lo + hi) / 2) 0) = true := by simpa using hp
        rw [hp'] at hc
        have HP := Lib.hid hp
        clear hp hp'
        go_wp2_with (go_at_call 51; ((with_reducible refine hc.out.mono ?_); rintro e w' ⟨rfl, nq, rfl⟩))
        go_roundw
        case rel => exact ⟨lo, (lo + hi) / 2, q + nq, rfl, by first | rfl | (congr 1; omega), by omega, by omega, by first | rfl | rw [World.drewN_drewN], (⟨HI.out.1, fun _ => HP.out⟩ : _ ∧ _)⟩
        case measure => simp [intOf]; omega
      · have hp' : decide (x ≤ xs.getD ((lo + hi) / 2) 0) = false := by simpa using hp
        rw [hp'] at hc
        have HP := Lib.hid hp
        clear hp hp'
        go_wp2_with (go_at_call 51; ((with_reducible refine hc.out.mono ?_); rintro e w' ⟨rfl, nq, rfl⟩))
        go_roundw
        case rel => exact ⟨(lo + hi) / 2 + 1, hi, q + nq, by first | rfl | (congr 1; omega), rfl, by omega, by omega, by first | rfl | rw [World.drewN_drewN], (⟨fun _ => by have := HP.out; rw [Nat.add_sub_cancel]; omega, HI.out.2⟩ : _ ∧ _)⟩
        case measure => simp [intOf]; omega
    · obtain rfl : lo = hi := by omega
      have hge : ¬ (lo : Int) < (lo : Int) := by omega
      go_wp2
      go_ret
      exact ⟨lo, rfl, ⟨by have := Hx.out; omega, HI.out.1, fun h => HI.out.2 (by have := Hx.out; omega)⟩, q, rfl⟩

/-- What Place leaves. -/
def PlacePost (xs : List Int) (x : Int) (w : World) (e : Ending) (w' : World) : Prop := ∃ k : Nat, e = .returned (.int .i64 k) ∧ Spot xs x k ∧ Below w.heap.size w w'

theorem searchInts_any (A : Option Addr) (n cap : Nat) (xs : List Int) (x : Int) (w : World) (hr : RI w w.heap.size A xs) (hx : xs.length = n) (hn : n ≤ 1000000) :
    Calls Try.prog 37 #[.slice A n cap, .int .i64 x] w (PlacePost xs x w) := by
  have hb2 : Below w.heap.size w ((w.alloc (.cells #[.slice A n cap] 22)).alloc (.cells #[.int .i64 x] 3)) := ((Below.refl _ _).alloc (Nat.le_refl _) _).alloc (by simp) _
  have hs := Lib.hid (search_any w.heap.size (w.heap.size + 1) A n cap xs x ((w.alloc (.cells #[.slice A n cap] 22)).alloc (.cells #[.int .i64 x] 3)) w.heap.size (by simp [go_sem]) (by simp [go_sem]) (hr.below hb2 (Nat.le_refl _)) hx hn)
  have HB := Lib.hid hb2
  clear hr hx hb2
  go_enter Try.func37, Try.ntmps37
  go_wp2_with (go_at_call 50; ((with_reducible refine hs.out.mono ?_); rintro e w' ⟨k, rfl, hk, q, rfl⟩); have HK := Lib.hid hk; clear hk)
  go_ret
  exact ⟨k, rfl, HK.out, below_drewN HB.out q⟩

theorem place_any (A : Option Addr) (n cap : Nat) (xs : List Int) (x : Int) (w : World) (hr : RI w w.heap.size A xs) (hx : xs.length = n) (hn : n ≤ 1000000) :
    Calls Try.prog 18 #[.slice A n cap, .int .i64 x] w (PlacePost xs x w) := by
  have hs := Lib.hid (searchInts_any A n cap xs x w hr hx hn)
  clear hr hx
  go_enter Try.func18, Try.ntmps18
  go_wp2_with (go_at_call 37; ((with_reducible refine hs.out.mono ?_); rintro e w' ⟨k, rfl, hk, hb⟩); have HK := Lib.hid hk; have HB := Lib.hid hb; clear hk hb)
  go_ret
  exact ⟨k, rfl, HK.out, HB.out⟩

/-! ### The document's answers -/
set_option maxHeartbeats 1000000 in
theorem same_any (A A' : Option Addr) (n c c' : Nat) (xs : List Int) (w : World) (B B' : Nat) (h : RI w B A xs) (h' : RI w B' A' xs) (hn : xs.length = n) (hs : n ≤ 1000000) :
    Calls Try.prog 10 #[.slice A n c, .slice A' n c'] w fun e w' => e = .returned (.bool true) ∧ ∃ q, w' = w.drewN q := by
  have Hn := Lib.hid hn; clear hn
  have H := Lib.hid h; have H' := Lib.hid h'; clear h h'
  have hnn : ((n : Int) != (n : Int)) = false := by simp
  go_enter Try.func10, Try.ntmps10
  go_wp2
  go_loopw [5] (fun i wr => ∃ k q : Nat, k ≤ n ∧ i = .int .i64 k ∧ wr = w.drewN q) (fun i _ => n - (intOf i).toNat)
  case atStart => exact ⟨0, 0, Nat.zero_le _, rfl, rfl⟩
  case round =>
    obtain ⟨k, q, hk, rfl, rfl⟩ := hrel
    by_cases hlt : k < n
    · obtain ⟨b, off, rfl, _, hc⟩ := H.out.at_ (i := k) (by rw [Hn.out]; exact hlt)
      obtain ⟨b', off', rfl, _, hc'⟩ := H'.out.at_ (i := k) (by rw [Hn.out]; exact hlt)
      have hlt' : (k : Int) < (n : Int) := by omega
      generalize xs.getD k 0 = y at *
      have hyy : (y != y) = false := by simp
      go_wp2
      go_quiet (fail)
      go_wp2
      go_roundw
      case rel => exact ⟨k + 1, _, by omega, by first | rfl | go_num, rfl⟩
      case measure => simp [intOf]; omega
    · have hge : ¬ (k : Int) < (n : Int) := by omega
      go_wp2
      go_ret
      exact ⟨rfl, _, rfl⟩

/-- A new row of integers. -/
def RowPost (xs : List Int) (n : Nat) (w : World) (e : Ending) (w' : World) : Prop := ∃ v, e = .returned v ∧ Below w.heap.size w w' ∧ w'.ownsRow w.heap.size 3 1 v n (xs.map (Value.int .i64))

theorem own_zero (w : World) (E : TypeId) : (w.alloc (.cells #[] E)).ownsRow w.heap.size E 1 (.slice (some ⟨w.heap.size, 0, none⟩) 0 0) 0 [] := World.ownsRow_made w #[] 0 (Nat.le_refl _) (Nat.zero_le _) rfl

set_option maxHeartbeats 1000000 in
theorem put_any (A : Option Addr) (n cap k : Nat) (xs : List Int) (x : Int) (w : World) (hA : (A = none ∧ cap = 0) ∨ ∃ g, A = some ⟨g, 0, none⟩) (hr : RI w w.heap.size A xs) (hx : xs.length = n) (hcap : n ≤ cap) (hcap' : cap ≤ maxLen) (hn : n ≤ 1000000) (hk : k ≤ n) :
    Calls Try.prog 29 #[.slice A n cap, .int .i64 (k : Int), .int .i64 x] w (RowPost (xs.take k ++ [x] ++ xs.drop k) (n + 1) w) := by
  obtain ⟨i0, hi0, hz0, hz1, hz2⟩ := info_parts int_info
  have H1 := Lib.hid ((hr.take k).below ((Below.refl _ _).alloc (Nat.le_refl _) (.cells #[] 3)) (Nat.le_refl _))
  have Hk := Lib.hid (show (xs.take k).length = k by rw [List.length_take]; omega)
  have Hd := Lib.hid (show (xs.drop k).length = n - k by rw [List.length_drop]; omega)
  have H3 := Lib.hid (hr.drop (k := k) (cap := cap) (by omega) (by omega))
  have hkc : (k : Int) ≤ (cap : Int) := by omega
  have hkn : (k : Int) ≤ (n : Int) := by omega
  unfold maxLen at hcap'
  have hfin : ∀ (v : Value) (w' : World), w'.ownsRow w.heap.size 3 1 v (k + 1 + (n - k)) ((xs.take k).map (Value.int .i64) ++ [.int .i64 x] ++ (xs.drop k).map (Value.int .i64)) → w'.ownsRow w.heap.size 3 1 v (n + 1) ((xs.take k ++ [x] ++ xs.drop k).map (Value.int .i64)) := fun v w' h => by
    rw [show k + 1 + (n - k) = n + 1 by omega] at h
    simpa using h
  have HF := Lib.hid hfin
  clear hr hx hfin
  by_cases hck : cap = k
  · rw [if_pos hck] at H3
    obtain rfl : n = cap := by omega
    obtain rfl : n = k := by omega
    clear hck hkn hkc
    go_enter Try.func29, Try.ntmps29
    go_wp2_with (first
    | (at_builtin; refine app_all _ rfl (.tmp 8) (.tmp 11) rfl Try.underlying22 hi0 hz0 hz1 hz2 rfl w.heap.size _ 0 [] rfl (own_zero w 3) (Value.int .i64) 0 (fun _ => rfl) w.heap.size A n n (xs.take n) rfl H1.out Hk.out (by unfold maxLen; omega) (by omega) (by simp) ?_; intro v1 w1 hown1 hg1 hat1; have hb1 : Below w.heap.size w w1 := ((Below.refl _ _).alloc (Nat.le_refl _) _).grown hg1 (by simp) (fun q hq => ((own_zero w 3).lt q hq).1); simp only [Nat.zero_add, List.nil_append] at hown1; obtain ⟨a1, p1, rfl, _, _⟩ := own_slice hown1; have HO1 := Lib.hid hown1; have HB1 := Lib.hid hb1; clear hg1 hat1 hown1 hb1)
    | (at_builtin; refine app_one w1 rfl (.tmp 13) (.tmp 15) rfl Try.underlying22 hi0 hz0 hz1 hz2 rfl w.heap.size _ n _ (.int .i64 x) rfl HO1.out rfl _ rfl rfl (by omega) (by omega) HB1.out.size ?_; intro v2 w2 hown2 hg2 hb2 hat2; have hb2' : Below w.heap.size w w2 := HB1.out.trans (hb2 _ (fun q hq => (HO1.out.lt q hq).1) HB1.out.size); obtain ⟨a2, p2, rfl, _, _⟩ := own_slice hown2; have HO2 := Lib.hid hown2; have HB2 := Lib.hid hb2'; clear hg2 hat2 hown2 hb2 hb2')
    | (at_builtin; refine app_all w2 rfl (.tmp 17) (.tmp 20) rfl Try.underlying22 hi0 hz0 hz1 hz2 rfl w.heap.size _ (n + 1) _ rfl HO2.out (Value.int .i64) 0 (fun _ => rfl) w.heap.size A 0 0 (xs.drop n) rfl (H3.out.below HB2.out (Nat.le_refl _)) (by have := Hd.out; omega) (by unfold maxLen; omega) (by omega) HB2.out.size ?_; intro v3 w3 hown3 hg3 hat3; have hb3 : Below w.heap.size w w3 := HB2.out.grown hg3 HB2.out.size (fun q hq => (HO2.out.lt q hq).1); have HO3 := Lib.hid hown3; have HB3 := Lib.hid hb3; clear hg3 hat3 hown3 hb3))
    go_ret
    exact ⟨_, rfl, HB3.out, HF.out _ _ (by rw [Nat.sub_self]; exact HO3.out)⟩
  · rw [if_neg hck] at H3
    rcases hA with ⟨rfl, rfl⟩ | ⟨g, rfl⟩
    · exfalso; omega
    have H4 : Hid (RI w w.heap.size (some ⟨g, k, none⟩) (xs.drop k)) := by
      have e : (Option.map (fun x => x.add k) (some (⟨g, 0, none⟩ : Addr))) = some ⟨g, k, none⟩ := by
        simp only [Option.map_some, Addr.add]; split <;> simp_all
      have := H3.out
      rw [e] at this
      exact this
    clear H3
    go_enter Try.func29, Try.ntmps29
    go_wp2_with (first
    | (at_builtin; refine app_all _ rfl (.tmp 8) (.tmp 11) rfl Try.underlying22 hi0 hz0 hz1 hz2 rfl w.heap.size _ 0 [] rfl (own_zero w 3) (Value.int .i64) 0 (fun _ => rfl) w.heap.size (some ⟨g, 0, none⟩) k cap (xs.take k) rfl H1.out Hk.out (by unfold maxLen; omega) (by omega) (by simp) ?_; intro v1 w1 hown1 hg1 hat1; have hb1 : Below w.heap.size w w1 := ((Below.refl _ _).alloc (Nat.le_refl _) _).grown hg1 (by simp) (fun q hq => ((own_zero w 3).lt q hq).1); simp only [Nat.zero_add, List.nil_append] at hown1; obtain ⟨a1, p1, rfl, _, _⟩ := own_slice hown1; have HO1 := Lib.hid hown1; have HB1 := Lib.hid hb1; clear hg1 hat1 hown1 hb1)
    | (at_builtin; refine app_one w1 rfl (.tmp 13) (.tmp 15) rfl Try.underlying22 hi0 hz0 hz1 hz2 rfl w.heap.size _ k _ (.int .i64 x) rfl HO1.out rfl _ rfl rfl (by omega) (by omega) HB1.out.size ?_; intro v2 w2 hown2 hg2 hb2 hat2; have hb2' : Below w.heap.size w w2 := HB1.out.trans (hb2 _ (fun q hq => (HO1.out.lt q hq).1) HB1.out.size); obtain ⟨a2, p2, rfl, _, _⟩ := own_slice hown2; have HO2 := Lib.hid hown2; have HB2 := Lib.hid hb2'; clear hg2 hat2 hown2 hb2 hb2')
    | (at_builtin; refine app_all w2 rfl (.tmp 17) (.tmp 20) rfl Try.underlying22 hi0 hz0 hz1 hz2 rfl w.heap.size _ (k + 1) _ rfl HO2.out (Value.int .i64) 0 (fun _ => rfl) w.heap.size (some ⟨g, k, none⟩) (n - k) (cap - k) (xs.drop k) rfl (H4.out.below HB2.out (Nat.le_refl _)) (by have := Hd.out; omega) (by unfold maxLen; omega) (by omega) HB2.out.size ?_; intro v3 w3 hown3 hg3 hat3; have hb3 : Below w.heap.size w w3 := HB2.out.grown hg3 HB2.out.size (fun q hq => (HO2.out.lt q hq).1); have HO3 := Lib.hid hown3; have HB3 := Lib.hid hb3; clear hg3 hat3 hown3 hb3))
    go_ret
    exact ⟨_, rfl, HB3.out, HF.out _ _ HO3.out⟩
end Go.Proofs.Ytakgkfdbgjljkaa.Rank
