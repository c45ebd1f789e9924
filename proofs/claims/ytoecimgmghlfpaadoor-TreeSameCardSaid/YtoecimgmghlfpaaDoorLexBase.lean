/-
  Layer 4 (lex): the small functions: begin, word, number, quoted.
-/
import Derived.Test.YtoecimgmghlfpaaDoorUtfMem
import Derived.Test.YtoecimgmghlfpaaDoorLexToks
namespace Go.Proofs.YtoecimgmghlfpaaDoor.Lex
open Go.ChangeShapes Go.WideShapes Go.ChangeAt Go.RowKit Utf
set_option linter.unusedVariables false

theorem beq_no {a b : Int} (h : a ≠ b) : (a == b) = false := beq_eq_false_iff_ne.2 h

set_option maxHeartbeats 1000000 in
theorem begin_any (c : Int) (w : World) (h0 : 0 ≤ c) (h1 : c < 256) :
    Calls Tryd.prog 50 #[.int .u8 c] w fun e w' => e = .returned (.int .i64 (kd c)) ∧ w = w' := by
  by_cases c95 : c = 95
  · subst c95; rw [show kd 95 = 1 from rfl]
    go_enter Tryd.func50, Tryd.ntmps50
    go_wp2
    go_ret
    exact ⟨rfl, rfl⟩
  by_cases c34 : c = 34
  · subst c34; rw [show kd 34 = 3 from rfl]
    go_enter Tryd.func50, Tryd.ntmps50
    go_wp2
    go_ret
    exact ⟨rfl, rfl⟩
  by_cases c59 : c = 59
  · subst c59; rw [show kd 59 = 6 from rfl]
    go_enter Tryd.func50, Tryd.ntmps50
    go_wp2
    go_ret
    exact ⟨rfl, rfl⟩
  by_cases c32 : c = 32
  · subst c32; rw [show kd 32 = 7 from rfl]
    go_enter Tryd.func50, Tryd.ntmps50
    go_wp2
    go_ret
    exact ⟨rfl, rfl⟩
  by_cases c9 : c = 9
  · subst c9; rw [show kd 9 = 7 from rfl]
    go_enter Tryd.func50, Tryd.ntmps50
    go_wp2
    go_ret
    exact ⟨rfl, rfl⟩
  by_cases c13 : c = 13
  · subst c13; rw [show kd 13 = 7 from rfl]
    go_enter Tryd.func50, Tryd.ntmps50
    go_wp2
    go_ret
    exact ⟨rfl, rfl⟩
  by_cases c10 : c = 10
  · subst c10; rw [show kd 10 = 8 from rfl]
    go_enter Tryd.func50, Tryd.ntmps50
    go_wp2
    go_ret
    exact ⟨rfl, rfl⟩
  have b95 := beq_no c95; have b34 := beq_no c34; have b59 := beq_no c59; have b32 := beq_no c32; have b9 := beq_no c9; have b13 := beq_no c13; have b10 := beq_no c10
  have hk : (c < 48 ∧ kd c = 4) ∨ (48 ≤ c ∧ c ≤ 57 ∧ kd c = 2) ∨ (57 < c ∧ c < 65 ∧ kd c = 4) ∨ (65 ≤ c ∧ c ≤ 90 ∧ kd c = 1) ∨ (90 < c ∧ c < 97 ∧ kd c = 4) ∨ (97 ≤ c ∧ c ≤ 122 ∧ kd c = 1) ∨ (122 < c ∧ kd c = 4) := by
    unfold kd; repeat' split
    all_goals omega
  generalize kd c = q at *
  clear c95 c34 c59 c32 c9 c13 c10
  rcases hk with ⟨d1, rfl⟩ | ⟨d1, d2, rfl⟩ | ⟨d1, d2, rfl⟩ | ⟨d1, d2, rfl⟩ | ⟨d1, d2, rfl⟩ | ⟨d1, d2, rfl⟩ | ⟨d1, rfl⟩
  all_goals
    go_enter Tryd.func50, Tryd.ntmps50
    go_wp2
    go_ret
    exact ⟨rfl, rfl⟩

theorem lead_step {p : Int → Bool} {l : List Int} {k : Nat} (h : k ≤ lead p l) (hk : k < l.length) (hp : p (l.getD k 0) = true) : k + 1 ≤ lead p l := by
  rcases Nat.lt_or_ge k (lead p l) with h' | h'
  · exact h'
  · have e : lead p l = k := by omega
    have := lead_stop p l (by omega)
    rw [e, hp] at this; cases this
theorem lead_at {p : Int → Bool} {l : List Int} {k : Nat} (h : k ≤ lead p l) (hp : p (l.getD k 0) = false) : lead p l = k := by
  rcases Nat.lt_or_ge k (lead p l) with h' | h'
  · have := lead_all p l k h'
    rw [hp] at this; cases this
  · omega
theorem lead_end {p : Int → Bool} {l : List Int} {k : Nat} (h : k ≤ lead p l) (hk : l.length ≤ k) : lead p l = k := by
  have := lead_le p l; omega

theorem cell_at {w : World} {b off : Nat} {xs : List Int} {k : Nat} (hc : ∀ i, i < xs.length → w.cell? ⟨b, off + i, none⟩ = some (.int .u8 (xs.getD i 0))) (hb : Byt xs) (hk : k < xs.length) :
    ∃ d, xs.getD k 0 = d ∧ w.cell? ⟨b, off + k, none⟩ = some (.int .u8 d) ∧ 0 ≤ d ∧ d < 256 :=
  ⟨_, rfl, hc k hk, (hb.getD k).1, (hb.getD k).2⟩

set_option maxHeartbeats 1000000 in
theorem word_any (A : Option Addr) (n cap : Nat) (xs : List Int) (w : World) (B : Nat) (h : RB w B A xs) (hn : xs.length = n) (hn0 : 0 < n) (hcap : n ≤ cap) (hcap' : cap ≤ maxLen) :
    Calls Tryd.prog 51 #[.slice A n cap] w fun e w' => e = .returned (.int .i64 (wordL xs)) ∧ w = w' := by
  obtain ⟨b, off, rfl, _, hc⟩ := h.cell (by intro e; rw [e] at hn; simp at hn; omega)
  have HC := Lib.hid hc; clear hc
  have HB := Lib.hid h.byt; clear h
  have Hn := Lib.hid hn; clear hn
  unfold maxLen at hcap'
  have hL : wordL xs = lead lord xs := rfl
  go_enter Tryd.func51, Tryd.ntmps51
  go_wp2
  go_loop [3, 4, 5, 8] (fun _ _ _ i => ∃ k : Nat, k ≤ n ∧ i = .int .i64 k ∧ Hid (k ≤ lead lord xs)) (fun _ _ _ i => n - (intOf i).toNat)
  case atStart => exact ⟨0, by omega, rfl, Nat.zero_le _⟩
  case round =>
    obtain ⟨k, hk, rfl, hle⟩ := hrel
    by_cases hlt : k < n
    · obtain ⟨d, hd, hcell, hd0, hd1⟩ := cell_at HC.out HB.out (k := k) (by rw [Hn.out]; exact hlt)
      have hbeg := Lib.hid (begin_any d w hd0 hd1)
      have HS : Hid (lord d = true → k + 1 ≤ lead lord xs) := fun hp => lead_step hle.out (by rw [Hn.out]; exact hlt) (by rw [hd]; exact hp)
      have HE : Hid (lord d = false → wordL xs = k) := fun hp => lead_at hle.out (by rw [hd]; exact hp)
      have hl : lord d = (kd d == 1 || kd d == 2) := rfl
      rw [hl] at HS HE
      generalize kd d = q at *
      clear hl hd hle hL
      by_cases q1 : q = 1
      · subst q1
        have HS1 := Lib.hid (HS.out rfl); clear HS HE
        go_wp2_with (go_at_call 50; refine hbeg.out.mono ?_; rintro e w' ⟨rfl, rfl⟩)
        go_round
        case rel => exact ⟨k + 1, by omega, by go_num, HS1.out⟩
        case measure => simp [intOf]; omega
      by_cases q2 : q = 2
      · subst q2
        have HS1 := Lib.hid (HS.out rfl); clear HS HE
        go_wp2_with (go_at_call 50; refine hbeg.out.mono ?_; rintro e w' ⟨rfl, rfl⟩)
        go_round
        case rel => exact ⟨k + 1, by omega, by go_num, HS1.out⟩
        case measure => simp [intOf]; omega
      · have HE1 := Lib.hid (HE.out (by rw [beq_no q1, beq_no q2]; rfl)); clear HS HE
        have n1 : (q != 1) = true := by rw [bne_iff_ne]; exact q1
        have n2 : (q != 2) = true := by rw [bne_iff_ne]; exact q2
        clear q1 q2
        go_wp2_with (go_at_call 50; refine hbeg.out.mono ?_; rintro e w' ⟨rfl, rfl⟩)
        go_ret
        rw [HE1.out]
        exact ⟨rfl, rfl⟩
    · have HE := Lib.hid (lead_end hle.out (by rw [Hn.out]; omega))
      obtain rfl : n = k := by omega
      clear hL hle
      go_wp2
      go_ret
      exact ⟨ret1 (by unfold wordL; rw [HE.out]), rfl⟩

end Go.Proofs.YtoecimgmghlfpaaDoor.Lex
