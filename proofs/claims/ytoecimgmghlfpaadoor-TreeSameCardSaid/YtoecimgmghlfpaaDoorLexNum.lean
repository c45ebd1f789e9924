/-
  Layer 4 (lex): number and quoted.
-/
import Derived.Test.YtoecimgmghlfpaaDoorLexBase
namespace Go.Proofs.YtoecimgmghlfpaaDoor.Lex
open Go.ChangeShapes Go.WideShapes Go.ChangeAt Go.RowKit Utf
set_option linter.unusedVariables false

set_option maxHeartbeats 1000000 in
theorem number_any (A : Option Addr) (n cap : Nat) (xs : List Int) (w : World) (B : Nat) (h : RB w B A xs) (hn : xs.length = n) (hn0 : 0 < n) (hd0 : dig (xs.getD 0 0) = true) (hcap : n ≤ cap) (hcap' : cap ≤ maxLen) :
    Calls Tryd.prog 74 #[.slice A n cap] w fun e w' => e = .returned (.int .i64 (numL xs)) ∧ w = w' := by
  obtain ⟨b, off, rfl, _, hc⟩ := h.cell (by intro e; rw [e] at hn; simp at hn; omega)
  have HC := Lib.hid hc; clear hc
  have HB := Lib.hid h.byt; clear h
  have H1 : Hid (1 ≤ lead dig xs) := lead_step (Nat.zero_le _) (by omega) hd0
  obtain ⟨z, hz, hz0, hz1, hz2⟩ := cell_at HC.out HB.out (k := 0) (by omega)
  rw [Nat.add_zero] at hz0
  have HN : Hid (numL xs = if 1 < lead dig xs ∧ z = 48 then 0 else lead dig xs) := by rw [← hz]; rfl
  have Hn := Lib.hid hn; clear hn hd0 hz
  unfold maxLen at hcap'
  go_enter Tryd.func74, Tryd.ntmps74
  go_wp2
  go_loop [3] (fun i => ∃ k : Nat, 1 ≤ k ∧ k ≤ n ∧ i = .int .i64 k ∧ Hid (k ≤ lead dig xs)) (fun i => n - (intOf i).toNat)
  case atStart => exact ⟨1, by omega, by omega, rfl, H1.out⟩
  case round =>
    obtain ⟨k, hk1, hk, rfl, hle⟩ := hrel
    have HEND : Hid (lead dig xs = k → numL xs = if 1 < k ∧ z = 48 then 0 else k) := fun e => by rw [HN.out, e]
    by_cases hlt : k < n
    · obtain ⟨d, hd, hcell, hd0, hd1⟩ := cell_at HC.out HB.out (k := k) (by rw [Hn.out]; exact hlt)
      have hbeg := Lib.hid (begin_any d w hd0 hd1)
      have HS : Hid (kd d = 2 → k + 1 ≤ lead dig xs) := fun hp => lead_step hle.out (by rw [Hn.out]; exact hlt) (by rw [hd]; unfold dig; rw [hp]; rfl)
      have HE : Hid (kd d ≠ 2 → lead dig xs = k) := fun hp => lead_at hle.out (by rw [hd]; unfold dig; exact beq_no hp)
      generalize kd d = q at *
      clear hd hle
      by_cases q2 : q = 2
      · subst q2
        have HS1 := Lib.hid (HS.out rfl); clear HS HE
        go_wp2_with (go_at_call 50; refine hbeg.out.mono ?_; rintro e w' ⟨rfl, rfl⟩)
        go_round
        case rel => exact ⟨k + 1, by omega, by omega, by go_num, HS1.out⟩
        case measure => simp [intOf]; omega
      · have HE1 := Lib.hid (HEND.out (HE.out q2)); clear HS HE HEND
        have n2 := beq_no q2
        clear q2
        by_cases hk2 : 1 < k
        · by_cases z48 : z = 48
          · subst z48
            rw [if_pos ⟨hk2, rfl⟩] at HE1
            go_wp2_with (go_at_call 50; refine hbeg.out.mono ?_; rintro e w' ⟨rfl, rfl⟩)
            go_ret
            rw [HE1.out]
            exact ⟨rfl, rfl⟩
          · rw [if_neg (fun h => z48 h.2)] at HE1
            have zb := beq_no z48; clear z48
            go_wp2_with (go_at_call 50; refine hbeg.out.mono ?_; rintro e w' ⟨rfl, rfl⟩)
            go_ret
            rw [HE1.out]
            exact ⟨rfl, rfl⟩
        · rw [if_neg (fun h => hk2 h.1)] at HE1
          go_wp2_with (go_at_call 50; refine hbeg.out.mono ?_; rintro e w' ⟨rfl, rfl⟩)
          go_ret
          rw [HE1.out]
          exact ⟨rfl, rfl⟩
    · have HE1 := Lib.hid (HEND.out (lead_end hle.out (by rw [Hn.out]; omega)))
      clear hle HEND HN H1
      by_cases hk2 : 1 < k
      · by_cases z48 : z = 48
        · subst z48
          rw [if_pos ⟨hk2, rfl⟩] at HE1
          go_wp2
          go_ret
          rw [HE1.out]
          exact ⟨rfl, rfl⟩
        · rw [if_neg (fun h => z48 h.2)] at HE1
          have zb := beq_no z48; clear z48
          go_wp2
          go_ret
          rw [HE1.out]
          exact ⟨rfl, rfl⟩
      · rw [if_neg (fun h => hk2 h.1)] at HE1
        go_wp2
        go_ret
        rw [HE1.out]
        exact ⟨rfl, rfl⟩

/-! ### quoted -/
/-- At place i of a string, the length of all of it is told by what is to come. -/
def QAt (xs : List Int) (i : Nat) : Prop := quoL xs = if strT (xs.drop i) = 0 then 0 else i + strT (xs.drop i)
theorem strT_quote (r : List Int) : strT (34 :: r) = 1 := by unfold strT; rw [if_pos rfl]
theorem strT_bnl (r : List Int) : strT (92 :: 10 :: r) = 0 := by unfold strT; rfl
theorem strT_bend : strT [92] = 0 := by unfold strT; rfl
theorem strT_b {d : Int} (r : List Int) (h : d ≠ 10) : strT (92 :: d :: r) = if strT r = 0 then 0 else strT r + 2 := by
  conv => lhs; unfold strT
  rw [if_neg (by omega), if_neg (by omega), if_pos rfl]
  simp only [if_neg h]
theorem strT_any {c : Int} (r : List Int) (h1 : c ≠ 34) (h2 : c ≠ 10) (h3 : c ≠ 92) : strT (c :: r) = if strT r = 0 then 0 else strT r + 1 := by
  conv => lhs; unfold strT
  rw [if_neg h1, if_neg h2, if_neg h3]
theorem q_start {xs : List Int} (h : xs ≠ []) : QAt xs 1 := by
  cases xs with
  | nil => exact absurd rfl h
  | cons c r => show (if strT r = 0 then 0 else strT r + 1) = _; simp only [List.drop_succ_cons, List.drop_zero]; split <;> omega
theorem drop_at {xs : List Int} {i : Nat} (h : i < xs.length) : xs.drop i = xs.getD i 0 :: xs.drop (i + 1) := by
  rw [List.drop_eq_getElem_cons h]; simp [List.getD, h]
theorem q_quote {xs : List Int} {i : Nat} (h : QAt xs i) (hi : i < xs.length) (hc : xs.getD i 0 = 34) : quoL xs = i + 1 := by
  have e : strT (xs.drop i) = 1 := by rw [drop_at hi, hc, strT_quote]
  unfold QAt at h
  rw [e] at h; exact h
theorem q_nl {xs : List Int} {i : Nat} (h : QAt xs i) (hi : i < xs.length) (hc : xs.getD i 0 = 10) : quoL xs = 0 := by
  have e : strT (xs.drop i) = 0 := by rw [drop_at hi, hc, strT_ten]
  unfold QAt at h
  rw [e] at h; exact h
theorem q_past {xs : List Int} {i : Nat} (h : QAt xs i) (hi : xs.length ≤ i) : quoL xs = 0 := by
  unfold QAt at h
  rw [List.drop_eq_nil_of_le hi] at h
  exact h
theorem q_next {xs : List Int} {i : Nat} (h : QAt xs i) (hi : i < xs.length) (h1 : xs.getD i 0 ≠ 34) (h2 : xs.getD i 0 ≠ 10) (h3 : xs.getD i 0 ≠ 92) : QAt xs (i + 1) := by
  have e := strT_any (xs.drop (i + 1)) h1 h2 h3
  rw [← drop_at hi] at e
  unfold QAt at h ⊢
  rw [h, e]
  generalize strT (xs.drop (i + 1)) = k
  by_cases hk : k = 0
  · simp [hk]
  · simp [hk]; omega
theorem q_back_nl {xs : List Int} {i : Nat} (h : QAt xs i) (hi : i + 1 < xs.length) (h3 : xs.getD i 0 = 92) (h4 : xs.getD (i + 1) 0 = 10) : quoL xs = 0 := by
  have e : strT (xs.drop i) = 0 := by rw [drop_at (show i < xs.length by omega), h3, drop_at hi, h4, strT_bnl]
  unfold QAt at h
  rw [e] at h; exact h
theorem q_back {xs : List Int} {i : Nat} (h : QAt xs i) (hi : i + 1 < xs.length) (h3 : xs.getD i 0 = 92) (h4 : xs.getD (i + 1) 0 ≠ 10) : QAt xs (i + 1 + 1) := by
  have e := strT_b (xs.drop (i + 1 + 1)) h4
  rw [← drop_at hi, ← h3, ← drop_at (show i < xs.length by omega)] at e
  unfold QAt at h ⊢
  rw [h, e]
  generalize strT (xs.drop (i + 1 + 1)) = k
  by_cases hk : k = 0
  · simp [hk]
  · simp [hk]; omega
theorem q_back_end {xs : List Int} {i : Nat} (h : QAt xs i) (hi : i + 1 = xs.length) (h3 : xs.getD i 0 = 92) : QAt xs (i + 1 + 1) := by
  have e : strT (xs.drop i) = 0 := by rw [drop_at (show i < xs.length by omega), h3, List.drop_eq_nil_of_le (show xs.length ≤ i + 1 by omega), strT_bend]
  unfold QAt at h ⊢
  rw [e] at h
  rw [List.drop_eq_nil_of_le (show xs.length ≤ i + 1 + 1 by omega)]
  exact h

set_option maxHeartbeats 1000000 in
theorem quoted_any (A : Option Addr) (n cap : Nat) (xs : List Int) (w : World) (B : Nat) (h : RB w B A xs) (hn : xs.length = n) (hn0 : 0 < n) (hcap : n ≤ cap) (hcap' : cap ≤ maxLen) (hsm : n ≤ 1000000) :
    Calls Tryd.prog 75 #[.slice A n cap] w fun e w' => e = .returned (.int .i64 (quoL xs)) ∧ w = w' := by
  have hne : xs ≠ [] := by intro e; rw [e] at hn; simp at hn; omega
  obtain ⟨b, off, rfl, _, hc⟩ := h.cell hne
  have HC := Lib.hid hc; clear hc
  have HB := Lib.hid h.byt; clear h
  have H1 := Lib.hid (q_start hne); clear hne
  have Hn := Lib.hid hn; clear hn
  unfold maxLen at hcap'
  go_enter Tryd.func75, Tryd.ntmps75
  go_wp2
  go_loop [3] (fun i => ∃ k : Nat, 1 ≤ k ∧ k ≤ n + 1 ∧ i = .int .i64 k ∧ Hid (QAt xs k)) (fun i => n + 1 - (intOf i).toNat)
  case atStart => exact ⟨1, by omega, by omega, rfl, H1.out⟩
  case round =>
    obtain ⟨k, hk1, hk, rfl, hq⟩ := hrel
    by_cases hlt : k < n
    · obtain ⟨d, hd, hcell, hd0, hd1⟩ := cell_at HC.out HB.out (k := k) (by rw [Hn.out]; exact hlt)
      have HD := Lib.hid hd; clear hd
      by_cases d34 : d = 34
      · have HE := Lib.hid (q_quote hq.out (by rw [Hn.out]; exact hlt) (by rw [HD.out, d34]))
        subst d34; clear HD hq
        go_wp2
        go_ret
        rw [HE.out]
        exact ⟨rfl, rfl⟩
      by_cases d10 : d = 10
      · have HE := Lib.hid (q_nl hq.out (by rw [Hn.out]; exact hlt) (by rw [HD.out, d10]))
        subst d10; clear HD hq
        go_wp2
        go_ret
        rw [HE.out]
        exact ⟨rfl, rfl⟩
      by_cases d92 : d = 92
      · by_cases hlt2 : k + 1 < n
        · obtain ⟨d', hd', hcell', hd0', hd1'⟩ := cell_at HC.out HB.out (k := k + 1) (by rw [Hn.out]; exact hlt2)
          have HD' := Lib.hid hd'; clear hd'
          by_cases e10 : d' = 10
          · have HE := Lib.hid (q_back_nl hq.out (by rw [Hn.out]; exact hlt2) (by rw [HD.out, d92]) (by rw [HD'.out, e10]))
            subst d92; subst e10; clear HD HD' hq d34 d10
            go_wp2
            go_ret
            rw [HE.out]
            exact ⟨rfl, rfl⟩
          · have HE := Lib.hid (q_back hq.out (by rw [Hn.out]; exact hlt2) (by rw [HD.out, d92]) (by rw [HD'.out]; exact e10))
            have b10 := beq_no e10
            subst d92; clear HD HD' hq d34 d10 e10
            go_wp2
            go_round
            case rel => exact ⟨k + 1 + 1, by omega, by omega, by go_num, HE.out⟩
            case measure => simp [intOf]; omega
        · have HE := Lib.hid (q_back_end hq.out (by rw [Hn.out]; omega) (by rw [HD.out, d92]))
          subst d92; clear HD hq d34 d10
          go_wp2
          go_round
          case rel => exact ⟨k + 1 + 1, by omega, by omega, by go_num, HE.out⟩
          case measure => simp [intOf]; omega
      · have HE := Lib.hid (q_next hq.out (by rw [Hn.out]; exact hlt) (by rw [HD.out]; exact d34) (by rw [HD.out]; exact d10) (by rw [HD.out]; exact d92))
        have b34 := beq_no d34; have b10 := beq_no d10; have b92 := beq_no d92
        clear HD hq d34 d10 d92
        go_wp2
        go_round
        case rel => exact ⟨k + 1, by omega, by omega, by go_num, HE.out⟩
        case measure => simp [intOf]; omega
    · have HE := Lib.hid (q_past hq.out (by rw [Hn.out]; omega))
      clear hq
      go_wp2
      go_ret
      rw [HE.out]
      exact ⟨rfl, rfl⟩

end Go.Proofs.YtoecimgmghlfpaaDoor.Lex
