/-
  Layer 2 (line): the last start that isn't above a place: by halves, and from the back; the document's own starts.
-/
import Derived.Test.YtccbbmkdmdllgaaLineBase
namespace Go.Proofs.Ytccbbmkdmdllgaa.Line
open Go.ChangeShapes Go.WideShapes Go.ChangeAt Go.RowKit Mem
set_option linter.unusedVariables false

theorem rise_ge {l : List Int} (h : Rise l) {i j : Nat} (hij : i ≤ j) (hj : j < l.length) : l.getD i 0 ≤ l.getD j 0 := by
  rcases Nat.lt_or_ge i j with h' | h'
  · have := h i j h' hj; omega
  · obtain rfl : i = j := by omega
    exact Int.le_refl _

set_option maxHeartbeats 1000000 in
theorem reached_any (A : Option Addr) (n cap : Nat) (l : List Int) (at_ : Int) (w : World) (B : Nat) (h : RI w B A l) (hn : l.length = n) (hr : Rise l) (hs : n ≤ 1000000000) :
    Calls Try.prog 26 #[.slice A n cap, .int .i64 at_] w fun e w' => e = .returned (.int .i64 (up l at_ : Nat)) ∧ w = w' := by
  have Hn := Lib.hid hn; clear hn
  have Hr := Lib.hid hr; clear hr
  have H := Lib.hid h; clear h
  go_enter Try.func26, Try.ntmps26
  go_wp2
  go_loop [5, 6, 7] (fun lo hi _ => ∃ (a b : Nat), a ≤ b ∧ b ≤ n ∧ lo = .int .i64 a ∧ hi = .int .i64 b ∧ Hid ((a ≠ 0 → l.getD (a - 1) 0 ≤ at_) ∧ (∀ j, b ≤ j → j < l.length → at_ < l.getD j 0))) (fun lo hi _ => (intOf hi).toNat - (intOf lo).toNat)
  case atStart => exact ⟨0, n, Nat.zero_le _, Nat.le_refl _, rfl, rfl, fun h => absurd rfl h, fun j h1 h2 => by rw [Hn.out] at h2; omega⟩
  case round =>
    obtain ⟨a, b, hab, hbn, rfl, rfl, hinv⟩ := hrel
    by_cases hlt : a < b
    · obtain ⟨m, hm⟩ : ∃ m : Nat, m = a + (b - a) / 2 := ⟨_, rfl⟩
      have hm1 : a ≤ m := by omega
      have hm2 : m < b := by omega
      obtain ⟨bl, off, rfl, _, hc⟩ := H.out.at_ (i := m) (by rw [Hn.out]; omega)
      have hge := fun j (h1 : m ≤ j) (h2 : j < l.length) => rise_ge Hr.out h1 h2
      have hinv1 : Hid (l.getD m 0 ≤ at_ → (m + 1 ≠ 0 → l.getD (m + 1 - 1) 0 ≤ at_) ∧ (∀ j, b ≤ j → j < l.length → at_ < l.getD j 0)) := fun hz => ⟨fun _ => hz, hinv.out.2⟩
      have hinv2 : Hid (¬ l.getD m 0 ≤ at_ → (a ≠ 0 → l.getD (a - 1) 0 ≤ at_) ∧ (∀ j, m ≤ j → j < l.length → at_ < l.getD j 0)) := fun hz => ⟨hinv.out.1, fun j h1 h2 => by have := hge j h1 h2; omega⟩
      generalize l.getD m 0 = z at *
      clear hge hinv
      have hmi : (a : Int) + ((b : Int) - (a : Int)).tdiv 2 = (m : Int) := by
        rw [Int.tdiv_eq_ediv_of_nonneg (by omega)]; omega
      have hmw : wrap64 ((a : Int) + ((b : Int) - (a : Int)).tdiv 2) = (m : Int) := by rw [hmi]; unfold wrap64; omega
      have hlt' : (a : Int) < (b : Int) := by omega
      have hmn : (m : Int) < (n : Int) := by omega
      clear hm
      by_cases hz : z ≤ at_
      · have hi1 := Lib.hid (hinv1.out hz)
        clear hinv1 hinv2
        go_wp2
        go_round
        case rel => exact ⟨m + 1, b, by omega, hbn, by go_num, rfl, hi1.out⟩
        case measure => simp [intOf]; omega
      · have hi1 := Lib.hid (hinv2.out hz)
        clear hinv1 hinv2
        go_wp2
        go_round
        case rel => exact ⟨a, m, by omega, by omega, rfl, by go_num, hi1.out⟩
        case measure => simp [intOf]; omega
    · have hge : ¬ (a : Int) < (b : Int) := by omega
      have he : Hid (up l at_ = a) := up_eq (by rw [Hn.out]; omega) hinv.out.1 (fun j h1 h2 => hinv.out.2 j (by omega) h2)
      go_wp2
      go_ret
      rw [he.out]
      exact ⟨rfl, rfl⟩

theorem lineOf1_any (x at_ : Int) (g : Nat) (w : World) (hg : w.cell? ⟨g, 0, none⟩ = some (.int .i64 at_)) :
    Calls Try.prog 28 #[.int .i64 x, .pointer (some ⟨g, 0, none⟩)] w fun e w' => e = .returned (.bool (decide (x ≤ at_))) ∧ w = w' := by
  go_enter Try.func28, Try.ntmps28
  go_wp2
  go_ret
  exact ⟨rfl, rfl⟩

set_option maxHeartbeats 1000000 in
theorem indexFunc_any (A : Option Addr) (n cap : Nat) (l : List Int) (at_ : Int) (g : Nat) (w : World) (B : Nat) (h : RI w B A l) (hn : l.length = n) (hs : n ≤ 1000000000) (hg : w.cell? ⟨g, 0, none⟩ = some (.int .i64 at_)) (ha : ∀ j, j < l.length → at_ < l.getD j 0) :
    Calls Try.prog 27 #[.slice A n cap, .func (.func 28) #[] #[.pointer (some ⟨g, 0, none⟩)]] w fun e w' => e = .returned (.int .i64 (-1)) ∧ w = w' := by
  have Hn := Lib.hid hn; clear hn
  have H := Lib.hid h; clear h
  have Ha := Lib.hid ha; clear ha
  have HC := Lib.hid (fun x => lineOf1_any x at_ g w hg)
  clear hg
  go_enter Try.func27, Try.ntmps27
  go_wp2
  go_loop [8] (fun i => ∃ k : Nat, k ≤ n ∧ i = .int .i64 k) (fun i => n - (intOf i).toNat)
  case atStart => exact ⟨0, Nat.zero_le _, rfl⟩
  case round =>
    obtain ⟨k, hk, rfl⟩ := hrel
    by_cases hlt : k < n
    · obtain ⟨bl, off, rfl, _, hc⟩ := H.out.at_ (i := k) (by rw [Hn.out]; exact hlt)
      have hz := Ha.out k (by rw [Hn.out]; exact hlt)
      generalize l.getD k 0 = z at *
      have hzz : decide (z ≤ at_) = false := decide_eq_false (by omega)
      have hlt' : (k : Int) < (n : Int) := by omega
      go_wp2_with fail
      refine (HC.out z).mono ?_
      rintro e w' ⟨rfl, rfl⟩
      rw [hzz]
      go_wp2_with fail
      go_round
      case rel => exact ⟨k + 1, by omega, by go_num⟩
      case measure => simp [intOf]; omega
    · have hge : ¬ (k : Int) < (n : Int) := by omega
      go_wp2
      go_ret
      exact ⟨rfl, rfl⟩

set_option maxHeartbeats 1000000 in
theorem lineOf_any (A : Option Addr) (n cap : Nat) (l : List Int) (at_ : Int) (w : World) (B : Nat) (h : RI w B A l) (hB : B ≤ w.heap.size) (hn : l.length = n) (hr : Rise l) (hs : n ≤ 1000000000) :
    Calls Try.prog 20 #[.slice A n cap, .int .i64 at_] w fun e w' => e = .returned (.int .i64 ((up l at_ : Nat) - 1)) ∧ Below w.heap.size w w' := by
  have hb : Below w.heap.size w (w.alloc (.cells #[.int .i64 at_] 3)) := (Below.refl _ _).alloc (Nat.le_refl _) _
  have h' := h.below hb hB
  have C1 := Lib.hid (reached_any A n cap l at_ _ B h' hn hr hs)
  have C2 : Hid (up l at_ = 0 → Calls Try.prog 27 #[.slice A n cap, .func (.func 28) #[] #[.pointer (some ⟨w.heap.size, 0, none⟩)]] (w.alloc (.cells #[.int .i64 at_] 3)) fun e w' => e = .returned (.int .i64 (-1)) ∧ w.alloc (.cells #[.int .i64 at_] 3) = w') := fun h0 =>
    indexFunc_any A n cap l at_ w.heap.size _ B h' hn hs (by rw [World.cell?_alloc_at _ _ _ _ rfl]; rfl) (fun j hj => up_above l at_ j (by omega) hj)
  have hle := up_le l at_
  rw [hn] at hle
  clear h' h hn hr
  generalize up l at_ = u at *
  by_cases h0 : u = 0
  · subst h0
    have C3 := Lib.hid (C2.out rfl)
    clear C2
    go_enter Try.func20, Try.ntmps20
    go_wp2_with fail
    refine C1.out.mono ?_
    rintro e w' ⟨rfl, rfl⟩
    go_wp2_with fail
    refine C3.out.mono ?_
    rintro e w' ⟨rfl, rfl⟩
    go_wp2_with fail
    go_ret
    exact ⟨rfl, hb⟩
  · clear C2
    have h1 : (0 : Int) < (u : Int) := by omega
    go_enter Try.func20, Try.ntmps20
    go_wp2_with fail
    refine C1.out.mono ?_
    rintro e w' ⟨rfl, rfl⟩
    go_wp2_with fail
    go_ret
    exact ⟨rfl, hb⟩

/-- Numbers that rise, of which none is below 0. -/
structure Starts (l : List Int) : Prop where
  rise : Rise l
  pos : ∀ i, i < l.length → 0 ≤ l.getD i 0

set_option maxHeartbeats 1000000 in
theorem place_any (A : Option Addr) (n cap : Nat) (l : List Int) (at_ : Int) (w : World) (B : Nat) (h : RI w B A l) (hB : B ≤ w.heap.size) (hn : l.length = n) (hr : Starts l) (hs : n ≤ 1000000000) (ha : at_ ≤ 9223372036854775807) :
    Calls Try.prog 15 #[.slice A n cap, .int .i64 at_] w fun e w' => e = .returned (.tuple #[.int .i64 (plN l at_ : Nat), .int .i64 (plC l at_)]) ∧ Below w.heap.size w w' := by
  have C1 := Lib.hid (lineOf_any A n cap l at_ w B h hB hn hr.rise hs)
  have hle := up_le l at_
  rw [hn] at hle
  by_cases h0 : up l at_ = 0
  · have e1 : plN l at_ = 0 := by unfold plN; omega
    have e2 : plC l at_ = 0 := by unfold plC; rw [if_pos h0]
    rw [e1, e2]
    rw [h0] at C1
    clear h hn hr hle e1 e2
    go_enter Try.func15, Try.ntmps15
    go_wp2_with fail
    refine C1.out.mono ?_
    rintro e w' ⟨rfl, hb⟩
    go_wp2_with fail
    go_ret2
    exact ⟨rfl, hb⟩
  · obtain ⟨p1, p2, p3⟩ := pl_some h0
    have p4 := hr.pos _ p1
    have hu : up l at_ = plN l at_ + 1 := by unfold plN; omega
    have H := Lib.hid (fun w' (hb : Below w.heap.size w w') => (h.below hb hB).at_ p1)
    rw [hu] at C1
    rw [p2]
    rw [hn] at p1
    generalize plN l at_ = m at *
    generalize l.getD m 0 = z at *
    clear h hn hr hle hu h0 p2
    go_enter Try.func15, Try.ntmps15
    go_wp2_with fail
    refine C1.out.mono ?_
    rintro e w' ⟨rfl, hb⟩
    obtain ⟨bl, off, rfl, _, hc⟩ := H.out w' hb
    have hm0 : ((m + 1 : Nat) : Int) - 1 = (m : Int) := by omega
    have hmn : (m : Int) < (n : Int) := by omega
    rw [hm0]
    go_wp2_with fail
    go_quiet (fail)
    go_wp2_with fail
    go_ret2
    exact ⟨rfl, below_drewN hb _⟩

set_option maxHeartbeats 1000000 in
theorem refPlace_any (A : Option Addr) (n cap : Nat) (l : List Int) (at_ : Int) (w : World) (B : Nat) (h : RI w B A l) (hB : B ≤ w.heap.size) (hn : l.length = n) (hr : ∀ i, i < l.length → 0 ≤ l.getD i 0) (hs : n ≤ 1000000000) (ha : at_ ≤ 9223372036854775807) :
    Calls Try.prog 16 #[.slice A n cap, .int .i64 at_] w fun e w' => e = .returned (.tuple #[.int .i64 (plN l at_ : Nat), .int .i64 (plC l at_)]) ∧ ∃ q, w' = w.drewN q := by
  have Hn := Lib.hid hn; clear hn
  have H := Lib.hid h; clear h
  have Hr := Lib.hid hr; clear hr
  go_enter Try.func16, Try.ntmps16
  go_wp2
  go_loop [6] (fun i => ∃ k : Nat, k ≤ n ∧ i = .int .i64 ((k : Int) - 1) ∧ Hid (∀ j, k ≤ j → j < l.length → at_ < l.getD j 0)) (fun i => (intOf i + 1).toNat)
  case atStart => exact ⟨n, Nat.le_refl _, rfl, fun j h1 h2 => by rw [Hn.out] at h2; omega⟩
  case round =>
    obtain ⟨k, hk, rfl, hinv⟩ := hrel
    by_cases hk0 : k = 0
    · subst hk0
      have hu : up l at_ = 0 := up_eq (Nat.zero_le _) (fun h => absurd rfl h) (fun j _ hj => hinv.out j (Nat.zero_le _) hj)
      have e1 : plN l at_ = 0 := by unfold plN; omega
      have e2 : plC l at_ = 0 := by unfold plC; rw [if_pos hu]
      have E1 := Lib.hid e1; have E2 := Lib.hid e2
      clear hu e1 e2 hinv
      go_wp2
      go_ret2
      rw [E1.out, E2.out]
      exact ⟨rfl, 0, rfl⟩
    · obtain ⟨m, rfl⟩ : ∃ m, k = m + 1 := ⟨k - 1, by omega⟩
      obtain ⟨bl, off, rfl, _, hc⟩ := H.out.at_ (i := m) (by rw [Hn.out]; omega)
      have p0 := Hr.out m (by rw [Hn.out]; omega)
      have hm0 : ((m + 1 : Nat) : Int) - 1 = (m : Int) := by omega
      have hm1 : (m : Int) < (n : Int) := by omega
      rw [hm0]
      by_cases hz : l.getD m 0 ≤ at_
      · have hu : up l at_ = m + 1 := up_eq (by rw [Hn.out]; omega) (fun _ => hz) (fun j h1 h2 => hinv.out j h1 h2)
        have e1 : plN l at_ = m := by unfold plN; omega
        have e2 : plC l at_ = at_ - l.getD m 0 := by unfold plC; rw [if_neg (by omega), hu]; rfl
        generalize l.getD m 0 = z at *
        have E1 := Lib.hid e1; have E2 := Lib.hid e2
        clear hu e1 e2 hinv
        go_wp2
        go_quiet (fail)
        go_wp2
        go_ret2
        rw [E1.out, E2.out]
        exact ⟨rfl, _, rfl⟩
      · have hinv2 : Hid (∀ j, m ≤ j → j < l.length → at_ < l.getD j 0) := fun j h1 h2 => by
          rcases Nat.lt_or_ge m j with h3 | h3
          · exact hinv.out j (by omega) h2
          · obtain rfl : j = m := by omega
            omega
        clear hinv
        generalize l.getD m 0 = z at *
        go_wp2
        go_round
        case rel => exact ⟨m, by omega, rfl, hinv2.out⟩
        case measure => simp [intOf]

theorem own_lit {w : World} {base : Nat} {e : TypeId} (x : Value) (hb : base ≤ w.heap.size) (g : Nat) (hg : g = w.heap.size) : (w.alloc (.cells #[x] e)).ownsRow base e 1 (.slice (some ⟨g, 0, none⟩) 1 1) 1 [x] :=
  hg ▸ ⟨rfl, .inr ⟨w.heap.size, 1, #[x], rfl, hb, heap_alloc_new w _, Nat.le_refl _, (by decide), rfl, rfl⟩⟩

set_option maxHeartbeats 1000000 in
theorem refStarts_any (A : Option Addr) (n cap : Nat) (xs : List Int) (w : World) (B : Nat) (h : RB w B A xs) (hB : B ≤ w.heap.size) (hn : xs.length = n) (hs : n ≤ 100000) :
    Calls Try.prog 11 #[.slice A n cap] w fun e w' => Below w.heap.size w w' ∧ ∃ v, e = .returned v ∧ w'.ownsRow w.heap.size 3 1 v (sts xs).length ((sts xs).map (Value.int .i64)) := by
  have Hn := Lib.hid hn; clear hn
  have hby := Lib.hid h.byt
  have H := Lib.hid h; clear h
  have hO := own_lit (w := w) (base := w.heap.size) (e := 3) (.int .i64 0) (Nat.le_refl _) _ rfl
  have hB0 : Below w.heap.size w (w.alloc (.cells #[.int .i64 0] 3)) := (Below.refl _ _).alloc (Nat.le_refl _) _
  have HS := Lib.hid (sts_le xs)
  go_enter Try.func11, Try.ntmps11
  go_wp2
  go_loopw [3, 4] (fun v i wr => ∃ (k : Nat) (ks : List Int), k ≤ n ∧ i = .int .i64 k ∧ Hid (ks = 0 :: nl 0 (xs.take k)) ∧ wr.ownsRow w.heap.size 3 1 v ks.length (ks.map (Value.int .i64)) ∧ Below w.heap.size w wr) (fun _ i _ => n - (intOf i).toNat)
  case atStart => exact ⟨0, [0], Nat.zero_le _, rfl, rfl, hO, hB0⟩
  case round =>
    obtain ⟨k, ks, hk, rfl, hks, hown, hbel⟩ := hrel
    by_cases hlt : k < n
    · obtain ⟨bl, off, rfl, hbB, hc⟩ := (H.out.below hbel hB).cell (by intro e; have := Hn.out; rw [e] at this; simp at this; omega)
      have hc := hc k (by rw [Hn.out]; exact hlt)
      have hz := hby.out.getD k
      have htk : xs.take (k + 1) = xs.take k ++ [xs.getD k 0] := by
        have hkl : k < xs.length := by rw [Hn.out]; exact hlt
        rw [List.take_succ_eq_append_getElem hkl]; simp [List.getD, hkl]
      have hst := nl_snoc (xs.take k) (xs.getD k 0) 0
      rw [← htk, List.length_take, Hn.out, Nat.min_eq_left hk] at hst
      have hkl : ks.length ≤ 1000000 := by
        have := nl_len (xs.take k) 0
        have h2 := List.count_le_length (a := (10 : Int)) (l := xs.take k)
        rw [List.length_take] at h2
        rw [hks.out, List.length_cons]; omega
      generalize xs.getD k 0 = z at *
      have Hst := Lib.hid hst; clear hst htk
      have hlt' : (k : Int) < (n : Int) := by omega
      by_cases hz10 : z = 10
      · subst hz10
        have hks2 : Hid (ks ++ [((k : Int) + 1)] = 0 :: nl 0 (xs.take (k + 1))) := by
          show _ = _
          rw [Hst.out, hks.out]; simp
        go_wp2_with (at_builtin; go_loud (refine app_int wr rfl _ _ rfl w.heap.size u3 ks ((k : Int) + 1) rfl hown _ rfl rfl hkl hbel.size ?_); intro v2 w2 hown2 _ hB2 _)
        have hbel2 : Below w.heap.size w w2 := hbel.trans (hB2 _ (fun b hv => (hown.lt b hv).1) hbel.size)
        go_roundw
        case rel => exact ⟨k + 1, _, by omega, by go_num, hks2.out, hown2, hbel2⟩
        case measure => simp [intOf]; omega
      · have hz2 : (z == 10) = false := by rw [beq_eq_false_iff_ne]; exact hz10
        have hks2 : Hid (ks = 0 :: nl 0 (xs.take (k + 1))) := by
          show _ = _
          rw [Hst.out, hks.out]; simp [hz10]
        go_wp2
        go_roundw
        case rel => exact ⟨k + 1, _, by omega, by go_num, hks2.out, hown, hbel⟩
        case measure => simp [intOf]; omega
    · obtain rfl : k = n := by omega
      have hge : ¬ (k : Int) < (k : Int) := by omega
      have he : ks = sts xs := by rw [hks.out, List.take_of_length_le (by rw [Hn.out]; omega)]; rfl
      obtain ⟨va, vc, rfl, _, _⟩ := own_slice hown
      have HF := Lib.hid (And.intro hbel (Exists.intro _ (And.intro rfl (he ▸ hown)) : ∃ v, Ending.returned (.slice va ks.length vc) = .returned v ∧ wr.ownsRow w.heap.size 3 1 v (sts xs).length ((sts xs).map (Value.int .i64))))
      clear he hown hbel hks
      go_wp2
      go_ret
      exact HF.out
end Go.Proofs.Ytccbbmkdmdllgaa.Line
