import Derived.Test.YtaiihnniblibaaaGreatDoorJpC
import Derived.Test.YtaiihnniblibaaaGreatDoorJpB
import Derived.Laws.Rows
import Derived.Deep.QuietTactic
import Derived.BigQuiet
import Derived.Shelf.Bytes.SlIndexSmall
import Derived.Shelf.Bytes.SlSmallAll
import Derived.Shelf.Bytes.SlCut
import Derived.Shelf.Bytes.SlTrim
import Derived.Test.YtaiihnniblibaaaGreatDoorProg

/-
 Layer 4 (lex): the small functions: begin, word, number, quoted.
-/
namespace Go.Proofs.YtaiihnniblibaaaGreatDoor.Lex
open Go.ChangeShapes Go.WideShapes Go.ChangeAt Go.RowKit Utf
set_option linter.unusedVariables false

theorem beq_no {a b : Int} (h : a ≠ b) : (a == b) = false := beq_eq_false_iff_ne.2 h

set_option maxHeartbeats 1000000 in
theorem begin_any (c : Int) (w : World) (h0 : 0 ≤ c) (h1 : c < 256) :
  Calls Tryz.prog 79 #[.int .u8 c] w fun e w' => e = .returned (.int .i64 (kd c)) ∧ w = w' := by
 by_cases c95 : c = 95
 ·subst c95; rw [show kd 95 = 1 from rfl]
  go_enter Tryz.func79, Tryz.ntmps79
  go_wp2
  go_ret
  exact ⟨rfl, rfl⟩
 by_cases c34 : c = 34
 ·subst c34; rw [show kd 34 = 3 from rfl]
  go_enter Tryz.func79, Tryz.ntmps79
  go_wp2
  go_ret
  exact ⟨rfl, rfl⟩
 by_cases c59 : c = 59
 ·subst c59; rw [show kd 59 = 6 from rfl]
  go_enter Tryz.func79, Tryz.ntmps79
  go_wp2
  go_ret
  exact ⟨rfl, rfl⟩
 by_cases c32 : c = 32
 ·subst c32; rw [show kd 32 = 7 from rfl]
  go_enter Tryz.func79, Tryz.ntmps79
  go_wp2
  go_ret
  exact ⟨rfl, rfl⟩
 by_cases c9 : c = 9
 ·subst c9; rw [show kd 9 = 7 from rfl]
  go_enter Tryz.func79, Tryz.ntmps79
  go_wp2
  go_ret
  exact ⟨rfl, rfl⟩
 by_cases c13 : c = 13
 ·subst c13; rw [show kd 13 = 7 from rfl]
  go_enter Tryz.func79, Tryz.ntmps79
  go_wp2
  go_ret
  exact ⟨rfl, rfl⟩
 by_cases c10 : c = 10
 ·subst c10; rw [show kd 10 = 8 from rfl]
  go_enter Tryz.func79, Tryz.ntmps79
  go_wp2
  go_ret
  exact ⟨rfl, rfl⟩
 have b95 := beq_no c95; have b34 := beq_no c34; have b59 := beq_no c59; have b32 := beq_no c32; have b9 := beq_no c9; have b13 := beq_no c13; have b10 := beq_no c10
 have hk : (c < 48 ∧ kd c = 4) ∨ (48 ≤ c ∧ c ≤ 57 ∧ kd c = 2) ∨ (57 < c ∧ c < 65 ∧ kd c = 4) ∨ (65 ≤ c ∧ c ≤ 90 ∧ kd c = 1) ∨ (90 < c ∧ c < 97 ∧ kd c = 4) ∨ (97 ≤ c ∧ c ≤ 122 ∧ kd c = 1) ∨ (122 < c ∧ kd c = 4) := by
  unfold kd; repeat' split
  all_goals omega
 generalize kd c = q at *
 clear c95 c34 c59 c32 c9 c13 c10
 rcases hk with ⟨d1, rfl⟩ | ⟨d1, d2, rfl⟩ | ⟨d1, d2, rfl⟩ | ⟨d1, d2, rfl⟩ | ⟨d1, d2, rfl⟩ | ⟨d1, d2, rfl⟩ | ⟨d1, rfl⟩
 all_goals
  go_enter Tryz.func79, Tryz.ntmps79
  go_wp2
  go_ret
  exact ⟨rfl, rfl⟩

theorem lead_step {p : Int → Bool} {l : List Int} {k : Nat} (h : k ≤ lead p l) (hk : k < l.length) (hp : p (l.getD k 0) = true) : k + 1 ≤ lead p l := by
 rcases Nat.lt_or_ge k (lead p l) with h' | h'
 ·exact h'
 ·have e : lead p l = k := by omega
  have := lead_stop p l (by omega)
  rw [e, hp] at this; cases this
theorem lead_at {p : Int → Bool} {l : List Int} {k : Nat} (h : k ≤ lead p l) (hp : p (l.getD k 0) = false) : lead p l = k := by
 rcases Nat.lt_or_ge k (lead p l) with h' | h'
 ·have := lead_all p l k h'
  rw [hp] at this; cases this
 ·omega
theorem lead_end {p : Int → Bool} {l : List Int} {k : Nat} (h : k ≤ lead p l) (hk : l.length ≤ k) : lead p l = k := by
 have := lead_le p l; omega

theorem cell_at {w : World} {b off : Nat} {xs : List Int} {k : Nat} (hc : ∀ i, i < xs.length → w.cell? ⟨b, off + i, none⟩ = some (.int .u8 (xs.getD i 0))) (hb : Byt xs) (hk : k < xs.length) :
  ∃ d, xs.getD k 0 = d ∧ w.cell? ⟨b, off + k, none⟩ = some (.int .u8 d) ∧ 0 ≤ d ∧ d < 256 :=
 ⟨_, rfl, hc k hk, (hb.getD k).1, (hb.getD k).2⟩

set_option maxHeartbeats 1000000 in
theorem word_any (A : Option Addr) (n cap : Nat) (xs : List Int) (w : World) (B : Nat) (h : RB w B A xs) (hn : xs.length = n) (hn0 : 0 < n) (hcap : n ≤ cap) (hcap' : cap ≤ maxLen) :
  Calls Tryz.prog 80 #[.slice A n cap] w fun e w' => e = .returned (.int .i64 (wordL xs)) ∧ w = w' := by
 obtain ⟨b, off, rfl, _, hc⟩ := h.cell (by intro e; rw [e] at hn; simp at hn; omega)
 have HC := Lib.hid hc; clear hc
 have HB := Lib.hid h.byt; clear h
 have Hn := Lib.hid hn; clear hn
 unfold maxLen at hcap'
 have hL : wordL xs = lead lord xs := rfl
 go_enter Tryz.func80, Tryz.ntmps80
 go_wp2
 go_loop [3, 4, 5, 8] (fun _ _ _ i => ∃ k : Nat, k ≤ n ∧ i = .int .i64 k ∧ Hid (k ≤ lead lord xs)) (fun _ _ _ i => n - (intOf i).toNat)
 case atStart => exact ⟨0, by omega, rfl, Nat.zero_le _⟩
 case round =>
  obtain ⟨k, hk, rfl, hle⟩ := hrel
  by_cases hlt : k < n
  ·obtain ⟨d, hd, hcell, hd0, hd1⟩ := cell_at HC.out HB.out (k := k) (by rw [Hn.out]; exact hlt)
   have hbeg := Lib.hid (begin_any d w hd0 hd1)
   have HS : Hid (lord d = true → k + 1 ≤ lead lord xs) := fun hp => lead_step hle.out (by rw [Hn.out]; exact hlt) (by rw [hd]; exact hp)
   have HE : Hid (lord d = false → wordL xs = k) := fun hp => lead_at hle.out (by rw [hd]; exact hp)
   have hl : lord d = (kd d == 1 || kd d == 2) := rfl
   rw [hl] at HS HE
   generalize kd d = q at *
   clear hl hd hle hL
   by_cases q1 : q = 1
   ·subst q1
    have HS1 := Lib.hid (HS.out rfl); clear HS HE
    go_wp2_with (go_at_call 79; refine hbeg.out.mono ?_; rintro e w' ⟨rfl, rfl⟩)
    go_round
    case rel => exact ⟨k + 1, by omega, by go_num, HS1.out⟩
    case measure => simp [intOf]; omega
   by_cases q2 : q = 2
   ·subst q2
    have HS1 := Lib.hid (HS.out rfl); clear HS HE
    go_wp2_with (go_at_call 79; refine hbeg.out.mono ?_; rintro e w' ⟨rfl, rfl⟩)
    go_round
    case rel => exact ⟨k + 1, by omega, by go_num, HS1.out⟩
    case measure => simp [intOf]; omega
   ·have HE1 := Lib.hid (HE.out (by rw [beq_no q1, beq_no q2]; rfl)); clear HS HE
    have n1 : (q != 1) = true := by rw [bne_iff_ne]; exact q1
    have n2 : (q != 2) = true := by rw [bne_iff_ne]; exact q2
    clear q1 q2
    go_wp2_with (go_at_call 79; refine hbeg.out.mono ?_; rintro e w' ⟨rfl, rfl⟩)
    go_ret
    rw [HE1.out]
    exact ⟨rfl, rfl⟩
  ·have HE := Lib.hid (lead_end hle.out (by rw [Hn.out]; omega))
   obtain rfl : n = k := by omega
   clear hL hle
   go_wp2
   go_ret
   exact ⟨ret1 (by unfold wordL; rw [HE.out]), rfl⟩

end Go.Proofs.YtaiihnniblibaaaGreatDoor.Lex

/-
 Layer 4 (lex): number and quoted.
-/
namespace Go.Proofs.YtaiihnniblibaaaGreatDoor.Lex
open Go.ChangeShapes Go.WideShapes Go.ChangeAt Go.RowKit Utf
set_option linter.unusedVariables false

set_option maxHeartbeats 1000000 in
theorem number_any (A : Option Addr) (n cap : Nat) (xs : List Int) (w : World) (B : Nat) (h : RB w B A xs) (hn : xs.length = n) (hn0 : 0 < n) (hd0 : dig (xs.getD 0 0) = true) (hcap : n ≤ cap) (hcap' : cap ≤ maxLen) :
  Calls Tryz.prog 81 #[.slice A n cap] w fun e w' => e = .returned (.int .i64 (numL xs)) ∧ w = w' := by
 obtain ⟨b, off, rfl, _, hc⟩ := h.cell (by intro e; rw [e] at hn; simp at hn; omega)
 have HC := Lib.hid hc; clear hc
 have HB := Lib.hid h.byt; clear h
 have H1 : Hid (1 ≤ lead dig xs) := lead_step (Nat.zero_le _) (by omega) hd0
 obtain ⟨z, hz, hz0, hz1, hz2⟩ := cell_at HC.out HB.out (k := 0) (by omega)
 rw [Nat.add_zero] at hz0
 have HN : Hid (numL xs = if 1 < lead dig xs ∧ z = 48 then 0 else lead dig xs) := by rw [← hz]; rfl
 have Hn := Lib.hid hn; clear hn hd0 hz
 unfold maxLen at hcap'
 go_enter Tryz.func81, Tryz.ntmps81
 go_wp2
 go_loop [3] (fun i => ∃ k : Nat, 1 ≤ k ∧ k ≤ n ∧ i = .int .i64 k ∧ Hid (k ≤ lead dig xs)) (fun i => n - (intOf i).toNat)
 case atStart => exact ⟨1, by omega, by omega, rfl, H1.out⟩
 case round =>
  obtain ⟨k, hk1, hk, rfl, hle⟩ := hrel
  have HEND : Hid (lead dig xs = k → numL xs = if 1 < k ∧ z = 48 then 0 else k) := fun e => by rw [HN.out, e]
  by_cases hlt : k < n
  ·obtain ⟨d, hd, hcell, hd0, hd1⟩ := cell_at HC.out HB.out (k := k) (by rw [Hn.out]; exact hlt)
   have hbeg := Lib.hid (begin_any d w hd0 hd1)
   have HS : Hid (kd d = 2 → k + 1 ≤ lead dig xs) := fun hp => lead_step hle.out (by rw [Hn.out]; exact hlt) (by rw [hd]; unfold dig; rw [hp]; rfl)
   have HE : Hid (kd d ≠ 2 → lead dig xs = k) := fun hp => lead_at hle.out (by rw [hd]; unfold dig; exact beq_no hp)
   generalize kd d = q at *
   clear hd hle
   by_cases q2 : q = 2
   ·subst q2
    have HS1 := Lib.hid (HS.out rfl); clear HS HE
    go_wp2_with (go_at_call 79; refine hbeg.out.mono ?_; rintro e w' ⟨rfl, rfl⟩)
    go_round
    case rel => exact ⟨k + 1, by omega, by omega, by go_num, HS1.out⟩
    case measure => simp [intOf]; omega
   ·have HE1 := Lib.hid (HEND.out (HE.out q2)); clear HS HE HEND
    have n2 := beq_no q2
    clear q2
    by_cases hk2 : 1 < k
    ·by_cases z48 : z = 48
     ·subst z48
      rw [if_pos ⟨hk2, rfl⟩] at HE1
      go_wp2_with (go_at_call 79; refine hbeg.out.mono ?_; rintro e w' ⟨rfl, rfl⟩)
      go_ret
      rw [HE1.out]
      exact ⟨rfl, rfl⟩
     ·rw [if_neg (fun h => z48 h.2)] at HE1
      have zb := beq_no z48; clear z48
      go_wp2_with (go_at_call 79; refine hbeg.out.mono ?_; rintro e w' ⟨rfl, rfl⟩)
      go_ret
      rw [HE1.out]
      exact ⟨rfl, rfl⟩
    ·rw [if_neg (fun h => hk2 h.1)] at HE1
     go_wp2_with (go_at_call 79; refine hbeg.out.mono ?_; rintro e w' ⟨rfl, rfl⟩)
     go_ret
     rw [HE1.out]
     exact ⟨rfl, rfl⟩
  ·have HE1 := Lib.hid (HEND.out (lead_end hle.out (by rw [Hn.out]; omega)))
   clear hle HEND HN H1
   by_cases hk2 : 1 < k
   ·by_cases z48 : z = 48
    ·subst z48
     rw [if_pos ⟨hk2, rfl⟩] at HE1
     go_wp2
     go_ret
     rw [HE1.out]
     exact ⟨rfl, rfl⟩
    ·rw [if_neg (fun h => z48 h.2)] at HE1
     have zb := beq_no z48; clear z48
     go_wp2
     go_ret
     rw [HE1.out]
     exact ⟨rfl, rfl⟩
   ·rw [if_neg (fun h => hk2 h.1)] at HE1
    go_wp2
    go_ret
    rw [HE1.out]
    exact ⟨rfl, rfl⟩

/-! ### quoted -/
/-- At place i of a string, the length of all of it is told by what is to come. -/
def QAt (xs : List Int) (i : Nat) : Prop := quoL xs = if strT (xs.drop i) = 0 then 0 else i + strT (xs.drop i)
theorem strT_quote (r : List Int) : strT (34 :: r) = 1 := by unfold strT; rw [if_pos rfl]
theorem strT_bnl (r : List Int) : strT (92 :: 10 :: r) = 0 := by unfold strT; rfl
theorem strT_bend : strT [92] = 0 := by unfold strT; rfl
theorem strT_b {d : Int} (r : List Int) (h : d ≠ 10) : strT (92 :: d :: r) = if strT r = 0 then 0 else strT r + 2 := by
 conv => lhs; unfold strT
 rw [if_neg (by omega), if_neg (by omega), if_pos rfl]
 simp only [if_neg h]
theorem strT_any {c : Int} (r : List Int) (h1 : c ≠ 34) (h2 : c ≠ 10) (h3 : c ≠ 92) : strT (c :: r) = if strT r = 0 then 0 else strT r + 1 := by
 conv => lhs; unfold strT
 rw [if_neg h1, if_neg h2, if_neg h3]
theorem q_start {xs : List Int} (h : xs ≠ []) : QAt xs 1 := by
 cases xs with
 | nil => exact absurd rfl h
 | cons c r => show (if strT r = 0 then 0 else strT r + 1) = _; simp only [List.drop_succ_cons, List.drop_zero]; split <;> omega
theorem drop_at {xs : List Int} {i : Nat} (h : i < xs.length) : xs.drop i = xs.getD i 0 :: xs.drop (i + 1) := by
 rw [List.drop_eq_getElem_cons h]; simp [List.getD, h]
theorem q_quote {xs : List Int} {i : Nat} (h : QAt xs i) (hi : i < xs.length) (hc : xs.getD i 0 = 34) : quoL xs = i + 1 := by
 have e : strT (xs.drop i) = 1 := by rw [drop_at hi, hc, strT_quote]
 unfold QAt at h
 rw [e] at h; exact h
theorem q_nl {xs : List Int} {i : Nat} (h : QAt xs i) (hi : i < xs.length) (hc : xs.getD i 0 = 10) : quoL xs = 0 := by
 have e : strT (xs.drop i) = 0 := by rw [drop_at hi, hc, strT_ten]
 unfold QAt at h
 rw [e] at h; exact h
theorem q_past {xs : List Int} {i : Nat} (h : QAt xs i) (hi : xs.length ≤ i) : quoL xs = 0 := by
 unfold QAt at h
 rw [List.drop_eq_nil_of_le hi] at h
 exact h
theorem q_next {xs : List Int} {i : Nat} (h : QAt xs i) (hi : i < xs.length) (h1 : xs.getD i 0 ≠ 34) (h2 : xs.getD i 0 ≠ 10) (h3 : xs.getD i 0 ≠ 92) : QAt xs (i + 1) := by
 have e := strT_any (xs.drop (i + 1)) h1 h2 h3
 rw [← drop_at hi] at e
 unfold QAt at h ⊢
 rw [h, e]
 generalize strT (xs.drop (i + 1)) = k
 by_cases hk : k = 0
 ·simp [hk]
 ·simp [hk]; omega
theorem q_back_nl {xs : List Int} {i : Nat} (h : QAt xs i) (hi : i + 1 < xs.length) (h3 : xs.getD i 0 = 92) (h4 : xs.getD (i + 1) 0 = 10) : quoL xs = 0 := by
 have e : strT (xs.drop i) = 0 := by rw [drop_at (show i < xs.length by omega), h3, drop_at hi, h4, strT_bnl]
 unfold QAt at h
 rw [e] at h; exact h
theorem q_back {xs : List Int} {i : Nat} (h : QAt xs i) (hi : i + 1 < xs.length) (h3 : xs.getD i 0 = 92) (h4 : xs.getD (i + 1) 0 ≠ 10) : QAt xs (i + 1 + 1) := by
 have e := strT_b (xs.drop (i + 1 + 1)) h4
 rw [← drop_at hi, ← h3, ← drop_at (show i < xs.length by omega)] at e
 unfold QAt at h ⊢
 rw [h, e]
 generalize strT (xs.drop (i + 1 + 1)) = k
 by_cases hk : k = 0
 ·simp [hk]
 ·simp [hk]; omega
theorem q_back_end {xs : List Int} {i : Nat} (h : QAt xs i) (hi : i + 1 = xs.length) (h3 : xs.getD i 0 = 92) : QAt xs (i + 1 + 1) := by
 have e : strT (xs.drop i) = 0 := by rw [drop_at (show i < xs.length by omega), h3, List.drop_eq_nil_of_le (show xs.length ≤ i + 1 by omega), strT_bend]
 unfold QAt at h ⊢
 rw [e] at h
 rw [List.drop_eq_nil_of_le (show xs.length ≤ i + 1 + 1 by omega)]
 exact h

set_option maxHeartbeats 1000000 in
theorem quoted_any (A : Option Addr) (n cap : Nat) (xs : List Int) (w : World) (B : Nat) (h : RB w B A xs) (hn : xs.length = n) (hn0 : 0 < n) (hcap : n ≤ cap) (hcap' : cap ≤ maxLen) (hsm : n ≤ 1000000) :
  Calls Tryz.prog 82 #[.slice A n cap] w fun e w' => e = .returned (.int .i64 (quoL xs)) ∧ w = w' := by
 have hne : xs ≠ [] := by intro e; rw [e] at hn; simp at hn; omega
 obtain ⟨b, off, rfl, _, hc⟩ := h.cell hne
 have HC := Lib.hid hc; clear hc
 have HB := Lib.hid h.byt; clear h
 have H1 := Lib.hid (q_start hne); clear hne
 have Hn := Lib.hid hn; clear hn
 unfold maxLen at hcap'
 go_enter Tryz.func82, Tryz.ntmps82
 go_wp2
 go_loop [3] (fun i => ∃ k : Nat, 1 ≤ k ∧ k ≤ n + 1 ∧ i = .int .i64 k ∧ Hid (QAt xs k)) (fun i => n + 1 - (intOf i).toNat)
 case atStart => exact ⟨1, by omega, by omega, rfl, H1.out⟩
 case round =>
  obtain ⟨k, hk1, hk, rfl, hq⟩ := hrel
  by_cases hlt : k < n
  ·obtain ⟨d, hd, hcell, hd0, hd1⟩ := cell_at HC.out HB.out (k := k) (by rw [Hn.out]; exact hlt)
   have HD := Lib.hid hd; clear hd
   by_cases d34 : d = 34
   ·have HE := Lib.hid (q_quote hq.out (by rw [Hn.out]; exact hlt) (by rw [HD.out, d34]))
    subst d34; clear HD hq
    go_wp2
    go_ret
    rw [HE.out]
    exact ⟨rfl, rfl⟩
   by_cases d10 : d = 10
   ·have HE := Lib.hid (q_nl hq.out (by rw [Hn.out]; exact hlt) (by rw [HD.out, d10]))
    subst d10; clear HD hq
    go_wp2
    go_ret
    rw [HE.out]
    exact ⟨rfl, rfl⟩
   by_cases d92 : d = 92
   ·by_cases hlt2 : k + 1 < n
    ·obtain ⟨d', hd', hcell', hd0', hd1'⟩ := cell_at HC.out HB.out (k := k + 1) (by rw [Hn.out]; exact hlt2)
     have HD' := Lib.hid hd'; clear hd'
     by_cases e10 : d' = 10
     ·have HE := Lib.hid (q_back_nl hq.out (by rw [Hn.out]; exact hlt2) (by rw [HD.out, d92]) (by rw [HD'.out, e10]))
      subst d92; subst e10; clear HD HD' hq d34 d10
      go_wp2
      go_ret
      rw [HE.out]
      exact ⟨rfl, rfl⟩
     ·have HE := Lib.hid (q_back hq.out (by rw [Hn.out]; exact hlt2) (by rw [HD.out, d92]) (by rw [HD'.out]; exact e10))
      have b10 := beq_no e10
      subst d92; clear HD HD' hq d34 d10 e10
      go_wp2
      go_round
      case rel => exact ⟨k + 1 + 1, by omega, by omega, by go_num, HE.out⟩
      case measure => simp [intOf]; omega
    ·have HE := Lib.hid (q_back_end hq.out (by rw [Hn.out]; omega) (by rw [HD.out, d92]))
     subst d92; clear HD hq d34 d10
     go_wp2
     go_round
     case rel => exact ⟨k + 1 + 1, by omega, by omega, by go_num, HE.out⟩
     case measure => simp [intOf]; omega
   ·have HE := Lib.hid (q_next hq.out (by rw [Hn.out]; exact hlt) (by rw [HD.out]; exact d34) (by rw [HD.out]; exact d10) (by rw [HD.out]; exact d92))
    have b34 := beq_no d34; have b10 := beq_no d10; have b92 := beq_no d92
    clear HD hq d34 d10 d92
    go_wp2
    go_round
    case rel => exact ⟨k + 1, by omega, by omega, by go_num, HE.out⟩
    case measure => simp [intOf]; omega
  ·have HE := Lib.hid (q_past hq.out (by rw [Hn.out]; omega))
   clear hq
   go_wp2
   go_ret
   rw [HE.out]
   exact ⟨rfl, rfl⟩

end Go.Proofs.YtaiihnniblibaaaGreatDoor.Lex

/-
 Layer 4 (lex): mark, the longest mark that bytes begin with, over the program's table of marks.
-/
namespace Go.Proofs.YtaiihnniblibaaaGreatDoor.Lex
open Go.ChangeShapes Go.WideShapes Go.ChangeAt Go.RowKit Utf
set_option linter.unusedVariables false

def mkl : List (List Int) := marks2 ++ marks1
def mkS (k : Nat) : ByteArray := strOfNums (mkl.getD k [])
def mkV : Array Value := (mkl.map fun m => Value.string (strOfNums m)).toArray
/-- The program's table of marks is as its text lays it. -/
def Tab (w : World) : Prop := ∃ t fr, w.heap[0]? = some (.cells mkV t fr)
theorem Tab.below {w w' : World} {B : Nat} (h : Tab w) (hb : Below B w w') (hB : 0 < B) : Tab w' := by
 obtain ⟨t, fr, h⟩ := h
 exact ⟨t, fr, (hb.block 0 hB).trans h⟩
theorem Tab.pos {w : World} (h : Tab w) : 0 < w.heap.size := by
 obtain ⟨t, fr, h⟩ := h
 rcases Nat.lt_or_ge 0 w.heap.size with h' | h'
 ·exact h'
 ·rw [Array.getElem?_eq_none h'] at h; cases h
theorem mkl_len : mkl.length = 37 := by decide +kernel
theorem mkV_size : mkV.size = 37 := by simp [mkV, mkl_len]
theorem mk_sizes : ∀ k : Fin 37, ((mkl.getD k.val []).length = if k.val < 17 then 2 else 1) := by decide +kernel
theorem mk_size {k : Nat} (h : k < 37) : (mkl.getD k []).length = if k < 17 then 2 else 1 := mk_sizes ⟨k, h⟩
theorem mk_byts : ∀ m ∈ mkl, ∀ x ∈ m, 0 ≤ x ∧ x < 256 := by decide +kernel

theorem strOfNums_size (m : List Int) : (strOfNums m).size = m.length := by simp [strOfNums, ByteArray.size]
theorem strOfNums_at {m : List Int} (hb : Byt m) {i : Nat} (hi : i < m.length) (h' : i < (strOfNums m).size) : (((strOfNums m)[i]'h').toNat : Int) = m.getD i 0 := by
 have hx := hb m[i] (List.getElem_mem hi)
 have e : (strOfNums m)[i]'h' = UInt8.ofNat (m[i]).toNat := by
  show (strOfNums m).data[i] = _
  simp [strOfNums]
 rw [e, u8_of _ (by omega)]
 simp [List.getD, hi]; omega

theorem run_idx_str {P : Program} (t : TypeId) (ht : P.underlying t = some .string) {m : List Int} (hb : Byt m) {i : Nat} (hi : i < m.length) (w : World) :
  (Instr.index t (.string (strOfNums m)) (.int .i64 (i : Int))).run P w = .ok (.int .u8 (m.getD i 0)) w := by
 rw [run_index_string w t _ _ _ ht, dif_pos ⟨by omega, by rw [strOfNums_size]; omega⟩]
 have := strOfNums_at hb hi (by rw [strOfNums_size]; omega)
 simp only [Int.toNat_natCast]
 rw [this]
theorem run_idx_agg {P : Program} (t e : TypeId) (n : Nat) (cs : Array Value) (ht : P.underlying t = some (.array n e)) (hs : ∀ w, (sizeOf e).run P w = .ok 1 w) (ha : ∀ w, (isAgg e).run P w = .ok false w) {i : Nat} (hi : i < cs.size) (hn : cs.size = n) (w : World) :
  (Instr.index t (.agg cs) (.int .i64 (i : Int))).run P w = .ok cs[i] w := by
 have hx : cs[i * 1]? = some cs[i] := by rw [Nat.mul_one]; exact Array.getElem?_eq_getElem hi
 simp [Instr.index, run_underlying ht, asIntOf, go_sem, hs, ha, show i < n by omega, hi]
theorem mkV_at {k : Nat} (hk : k < mkV.size) : mkV[k] = .string (mkS k) := by
 have h37 : k < mkl.length := by rw [mkl_len]; rw [mkV_size] at hk; exact hk
 simp [mkV, mkS, List.getD, h37]
theorem run_mark {k : Nat} (hk : k < 37) (w : World) : (Instr.index 111 (.agg mkV) (.int .i64 (k : Int))).run Tryz.prog w = .ok (.string (mkS k)) w := by
 rw [run_idx_agg 111 9 37 mkV Tryz.underlying111 Tryz.sizeOf9 Tryz.isAgg9 (by rw [mkV_size]; exact hk) mkV_size w, mkV_at]

/-! ### Which mark -/
/-- Bytes begin with the k-th mark. -/
def Pre (xs : List Int) (k : Nat) : Prop := xs.take (mkl.getD k []).length = mkl.getD k []
theorem mkl_two {k : Nat} (h : k < 17) : mkl.getD k [] ∈ marks2 := by
 have : ∀ k : Fin 17, mkl.getD k.val [] ∈ marks2 := by decide +kernel
 exact this ⟨k, h⟩
theorem mkl_one {k : Nat} (h1 : 17 ≤ k) (h : k < 37) : mkl.getD k [] ∈ marks1 := by
 have : ∀ k : Fin 37, 17 ≤ k.val → mkl.getD k.val [] ∈ marks1 := by decide +kernel
 exact this ⟨k, h⟩ h1
theorem two_mkl {m : List Int} (h : m ∈ marks2) : ∃ k, k < 17 ∧ mkl.getD k [] = m := by
 have : ∀ m ∈ marks2, ∃ k : Fin 17, mkl.getD k.val [] = m := by decide +kernel
 obtain ⟨k, hk⟩ := this m h
 exact ⟨k.val, k.isLt, hk⟩
theorem one_mkl {m : List Int} (h : m ∈ marks1) : ∃ k, 17 ≤ k ∧ k < 37 ∧ mkl.getD k [] = m := by
 have : ∀ m ∈ marks1, ∃ k : Fin 37, 17 ≤ k.val ∧ mkl.getD k.val [] = m := by decide +kernel
 obtain ⟨k, hk1, hk⟩ := this m h
 exact ⟨k.val, hk1, k.isLt, hk⟩
theorem no_two {xs : List Int} (h : ∀ j, j < 17 → ¬ Pre xs j) : xs.take 2 ∉ marks2 := by
 intro hm
 obtain ⟨k, hk, e⟩ := two_mkl hm
 have hl := mk_size (k := k) (by omega)
 rw [if_pos hk] at hl
 exact h k hk (by unfold Pre; rw [hl, e])
theorem mark_at {xs : List Int} {k : Nat} (hk : k < 37) (h : ∀ j, j < k → ¬ Pre xs j) (hp : Pre xs k) : markL xs = (mkl.getD k []).length := by
 have hl := mk_size hk
 unfold Pre at hp
 unfold markL
 by_cases h17 : k < 17
 ·rw [if_pos h17] at hl
  rw [hl] at hp ⊢
  rw [if_pos (by rw [hp]; exact mkl_two h17)]
 ·rw [if_neg h17] at hl
  rw [hl] at hp ⊢
  rw [if_neg (no_two (fun j hj => h j (by omega))), if_pos (by rw [hp]; exact mkl_one (by omega) hk)]
theorem mark_none {xs : List Int} (h : ∀ j, j < 37 → ¬ Pre xs j) : markL xs = 0 := by
 unfold markL
 rw [if_neg (no_two (fun j hj => h j (by omega))), if_neg]
 intro hm
 obtain ⟨k, hk1, hk, e⟩ := one_mkl hm
 have hl := mk_size hk
 rw [if_neg (by omega)] at hl
 exact h k hk (by unfold Pre; rw [hl, e])
theorem pre_long {xs : List Int} {k : Nat} (h : xs.length < (mkl.getD k []).length) : ¬ Pre xs k := by
 intro hp
 have := congrArg List.length hp
 rw [List.length_take] at this; omega
theorem pre_off {xs : List Int} {k i : Nat} (hi : i < (mkl.getD k []).length) (h : (mkl.getD k []).getD i 0 ≠ xs.getD i 0) : ¬ Pre xs k := by
 intro hp
 unfold Pre at hp
 apply h
 have := getD_take (l := xs) hi
 rw [hp] at this; exact this
theorem pre_all {xs : List Int} {k : Nat} (hl : (mkl.getD k []).length ≤ xs.length) (h : ∀ i, i < (mkl.getD k []).length → (mkl.getD k []).getD i 0 = xs.getD i 0) : Pre xs k := by
 unfold Pre
 generalize mkl.getD k [] = m at *
 refine List.ext_getElem (by rw [List.length_take]; omega) (fun i h1 h2 => ?_)
 have := h i h2
 simp only [List.getD, List.getElem?_eq_getElem h2, List.getElem?_eq_getElem (show i < xs.length by omega), Option.getD_some] at this
 rw [List.getElem_take]; exact this.symm

set_option maxHeartbeats 2000000 in
theorem mark_any (A : Option Addr) (n cap : Nat) (xs : List Int) (w : World) (B : Nat) (h : RB w B A xs) (hn : xs.length = n) (hn0 : 0 < n) (hcap : n ≤ cap) (hcap' : cap ≤ maxLen) (hsm : n ≤ 1000000) (hT : Tab w) :
  Calls Tryz.prog 85 #[.slice A n cap] w fun e w' => e = .returned (.int .i64 (markL xs)) ∧ ∃ q, w.drewN q = w' := by
 obtain ⟨b, off, rfl, _, hc⟩ := h.cell (by intro e; rw [e] at hn; simp at hn; omega)
 have HC := Lib.hid hc; clear hc
 have HB := Lib.hid h.byt; clear h
 have Hn := Lib.hid hn; clear hn
 obtain ⟨tt, fr, hg⟩ := hT
 have hload : ∀ q, (w.drewN q).heap[0]? = some (.cells mkV tt fr) := fun q => hg
 have Hl := Lib.hid hload; clear hg hload
 have HM := Lib.hid (fun (k : Nat) (hk : k < 37) (W : World) => run_mark hk W)
 unfold maxLen at hcap'
 go_enter Tryz.func85, Tryz.ntmps85
 go_wp2
 go_step3
 go_wp2
 go_step3
 go_wp2_with (refine wpList_load_row rfl _ _ rfl 0 rfl _ _ _ _ (Hl.out 0) Tryz.underlying111 rfl (by kernel_rfl) ?_)
 go_loopw [4, 5, 7, 17] (fun _ _ i _ wr => ∃ k q : Nat, k ≤ 37 ∧ i = .int .i64 k ∧ wr = w.drewN q ∧ Hid (∀ j, j < k → ¬ Pre xs j)) (fun _ _ i _ _ => 37 - (intOf i).toNat)
 case atStart => exact ⟨0, 0, by omega, rfl, rfl, fun j hj => absurd hj (by omega)⟩
 case round =>
  obtain ⟨k, q, hk, rfl, rfl, hpre⟩ := hrel
  by_cases hlt : k < 37
  ·have hix := Lib.hid (HM.out k hlt)
   obtain ⟨L, hL⟩ : ∃ L, (mkl.getD k []).length = L := ⟨_, rfl⟩
   have hL2 : 1 ≤ L ∧ L ≤ 2 := by
    have := mk_size hlt
    rw [hL] at this
    split at this <;> omega
   have hbm : Byt (mkl.getD k []) := fun x hx => mk_byts _ (by
    have : k < mkl.length := by rw [mkl_len]; exact hlt
    simp only [List.getD, List.getElem?_eq_getElem this, Option.getD_some]
    exact List.getElem_mem this) x hx
   have hs : (mkS k).size = L := by rw [mkS, strOfNums_size, hL]
   have HX : Hid (∀ (i : Nat), i < L → ∀ W : World, (Instr.index 9 (.string (mkS k)) (.int .i64 (i : Int))).run Tryz.prog W = .ok (.int .u8 ((mkl.getD k []).getD i 0)) W) := fun i hi W => run_idx_str 9 Tryz.underlying9 hbm (by rw [hL]; exact hi) W
   have HNO : Hid (∀ i, i < L → (mkl.getD k []).getD i 0 ≠ xs.getD i 0 → ∀ j, j < k + 1 → ¬ Pre xs j) := fun i hi he j hj => by
    by_cases e : j = k
    ·subst e; exact pre_off (by rw [hL]; exact hi) he
    ·exact hpre.out j (by omega)
   have HLONG : Hid (n < L → ∀ j, j < k + 1 → ¬ Pre xs j) := fun hi j hj => by
    by_cases e : j = k
    ·subst e; exact pre_long (by rw [hL, Hn.out]; exact hi)
    ·exact hpre.out j (by omega)
   have HYES : Hid (L ≤ n → (∀ i, i < L → (mkl.getD k []).getD i 0 = xs.getD i 0) → markL xs = L) := fun hi he => by
    rw [mark_at hlt hpre.out (pre_all (by rw [hL, Hn.out]; exact hi) (fun i hi => he i (by rw [← hL]; exact hi))), hL]
   have HBM : Hid (∀ i, 0 ≤ (mkl.getD k []).getD i 0 ∧ (mkl.getD k []).getD i 0 < 256) := fun i => hbm.getD i
   obtain ⟨hL1, hL2⟩ := hL2
   clear hL hbm hpre
   generalize mkl.getD k [] = m at *
   generalize mkS k = s at *
   have hi0 := hix.out; clear hix
   have hk' : (k : Int) < 37 := by omega
   by_cases hLn : n < L
   ·have HN1 := Lib.hid (HLONG.out hLn)
    clear HNO HYES HX HLONG
    go_wp2
    go_roundw
    case rel => exact ⟨k + 1, q, by omega, by go_num, rfl, HN1.out⟩
    case measure => simp [intOf]; omega
   ·clear HLONG
    go_wp2
    go_loopw [5, 17] (fun _ i wr => ∃ p r : Nat, p ≤ L ∧ i = .int .i64 p ∧ wr = w.drewN r ∧ Hid (∀ i, i < p → m.getD i 0 = xs.getD i 0)) (fun _ i _ => L - (intOf i).toNat)
    case atStart => exact ⟨0, q, by omega, rfl, rfl, fun i hi => absurd hi (by omega)⟩
    case round =>
     obtain ⟨p, r, hp, rfl, rfl, heq⟩ := hrel
     by_cases hpL : p < L
     ·have hxi := HX.out p hpL
      have hbm := HBM.out p
      have hci : ∀ q, (w.drewN q).cell? ⟨b, off + p, none⟩ = some (.int .u8 (xs.getD p 0)) := fun q => HC.out p (by rw [Hn.out]; omega)
      have hbx := HB.out.getD p
      have HNO1 := Lib.hid (HNO.out p hpL)
      have HYE1 : Hid (m.getD p 0 = xs.getD p 0 → ∀ i, i < p + 1 → m.getD i 0 = xs.getD i 0) := fun he i hi => by
       by_cases e : i = p
       ·rw [e]; exact he
       ·exact heq.out i (by omega)
      clear heq HNO HYES HX HBM
      generalize m.getD p 0 = x at *
      generalize xs.getD p 0 = y at *
      have hpn : (p : Int) < n := by omega
      by_cases hxy : x = y
      ·subst hxy
       have HY2 := Lib.hid (HYE1.out rfl)
       clear HNO1 HYE1
       go_wp2
       go_quiet (fail)
       go_wp2
       go_roundw
       case rel => exact ⟨p + 1, _, by omega, by go_num, rfl, HY2.out⟩
       case measure => simp [intOf]; omega
      ·have HN2 := Lib.hid (HNO1.out hxy)
       have hne : (x != y) = true := by rw [bne_iff_ne]; exact hxy
       clear HNO1 HYE1 hxy
       go_wp2
       go_quiet (fail)
       go_wp2
       go_roundw
       case rel => exact ⟨k + 1, _, by omega, by go_num, rfl, HN2.out⟩
       case measure => simp [intOf]; omega
     ·have HE := Lib.hid (HYES.out (by omega) (fun i hi => heq.out i (by omega)))
      clear heq HNO HYES HX HBM
      go_wp2
      rw [Exit.noGoto_ret]
      go_wp2
      go_ret
      rw [HE.out]
      exact ⟨rfl, r, rfl⟩
  ·have HE := Lib.hid (mark_none (fun j hj => hpre.out j (by omega)))
   have hnl : ¬ (k : Int) < 37 := by omega
   clear hpre hlt
   go_wp2
   go_ret
   rw [HE.out]
   exact ⟨rfl, q, rfl⟩

end Go.Proofs.YtaiihnniblibaaaGreatDoor.Lex

/-
 DERIVED: THE SHELF's CONTRACTS AT THIS DUMP, IN PLAIN WORDS (tools/lay-plain.mjs out of 'TryzShelf.lean', which tools/lay-shelf.mjs wrote): THE SAME DECLARATIONS UNDER THE SAME NAMES: 'import', 'namespace', 'open', 'def', 'theorem' AND NOTHING ELSE: no command of the shelf's: FOR A HAND-IN. Each laying: the table of numbers ('.._ren') and one theorem, a field a fact of the dump's own or the kernel's comparison; each contract: ONE APPLICATION.
-/
namespace Go.Proofs
open Go.Shelf
def Tryz.lays185_ren : Go.Shelf.Ren := ⟨fun | 185 => 105 | 187 => 119 | 115 => 97 | 253 => 120 | 224 => 121 | 254 => 122 | 255 => 128 | 291 => 129 | n => n, fun | 37 => 30 | 3 => 3 | 4 => 4 | 0 => 0 | 5 => 5 | 46 => 101 | 9 => 9 | 146 => 128 | 51 => 127 | n => n, fun | 1 => 1 | n => n⟩
theorem Tryz.lays185 : Go.Proofs.Lays.n185 Tryz.prog Tryz.lays185_ren := {
 mixed := by kernel_rfl
 f115 := Tryz.func97.trans (congrArg some (by kernel_rfl))
 f185 := Tryz.func105.trans (congrArg some (by kernel_rfl))
 f187 := Tryz.func119.trans (congrArg some (by kernel_rfl))
 f224 := Tryz.func121.trans (congrArg some (by kernel_rfl))
 f253 := Tryz.func120.trans (congrArg some (by kernel_rfl))
 f254 := Tryz.func122.trans (congrArg some (by kernel_rfl))
 f255 := Tryz.func128.trans (congrArg some (by kernel_rfl))
 f291 := Tryz.func129.trans (congrArg some (by kernel_rfl))
 t0 := Tryz.underlying0
 a0 := Tryz.isAgg0
 z0 := Tryz.sizeOf0
 v0 := Tryz.zeroValue0
 t3 := Tryz.underlying3
 a3 := Tryz.isAgg3
 z3 := Tryz.sizeOf3
 v3 := Tryz.zeroValue3
 t4 := Tryz.underlying4
 a4 := Tryz.isAgg4
 z4 := Tryz.sizeOf4
 v4 := Tryz.zeroValue4
 t5 := Tryz.underlying5
 a5 := Tryz.isAgg5
 z5 := Tryz.sizeOf5
 v5 := Tryz.zeroValue5
 t9 := Tryz.underlying9
 a9 := Tryz.isAgg9
 z9 := Tryz.sizeOf9
 v9 := Tryz.zeroValue9
 t37 := Tryz.underlying30
 a37 := Tryz.isAgg30
 z37 := Tryz.sizeOf30
 v37 := Tryz.zeroValue30
 t46 := Tryz.underlying101
 a46 := Tryz.isAgg101
 z46 := Tryz.sizeOf101
 v46 := Tryz.zeroValue101
 t51 := Tryz.underlying127
 a51 := Tryz.isAgg127
 z51 := Tryz.sizeOf127
 v51 := Tryz.zeroValue127
 t146 := Tryz.underlying128
 a146 := Tryz.isAgg128
 z146 := Tryz.sizeOf128
 v146 := Tryz.zeroValue128
 g1 := by kernel_rfl }
open Go.RowKit Go.Lib in
/-- bytes.Index at a separator of one byte: "Index returns the index of the first instance of sep in s, or -1 if sep is not present in s.": 'Lib.indexByte' of s's bytes and that byte; the world is as it was. 'xs': s's elements; 'cv': the separator's one byte. (LAID: no walk: one application.) -/
theorem Tryz.bytes_Index_one (b o n c b2 o2 d : Nat) (xs : List Int) (cv : Int) (w : World) (hx : xs.length = n) (hc : ∀ i, i < n → w.cell? ⟨b, o + i, none⟩ = some (.int .u8 (xs.getD i 0))) (hc2 : w.cell? ⟨b2, o2, none⟩ = some (.int .u8 cv)) :
  Calls Tryz.prog 105 #[.slice (some ⟨b, o, none⟩) n c, .slice (some ⟨b2, o2, none⟩) 1 d] w fun e w' => e = .returned (.int .i64 (Lib.indexByte (Lib.bytesOf xs) cv.toNat.toUInt8)) ∧ w' = w := Any.bytes_Index_one Tryz.lays185 b o n c b2 o2 d xs cv w hx hc hc2
def Tryz.laysnb116_ren : Go.Shelf.Ren := ⟨fun | 116 => 83 | 115 => 97 | n => n, fun | 37 => 30 | 4 => 4 | 3 => 3 | 9 => 9 | 5 => 5 | n => n, fun | n => n⟩
theorem Tryz.laysnb116 : Go.Proofs.Lays.nb116 Tryz.prog Tryz.laysnb116_ren := {
 mixed := by kernel_rfl
 f115 := Tryz.func97.trans (congrArg some (by kernel_rfl))
 f116 := Tryz.func83.trans (congrArg some (by kernel_rfl))
 t3 := Tryz.underlying3
 a3 := Tryz.isAgg3
 z3 := Tryz.sizeOf3
 v3 := Tryz.zeroValue3
 t4 := Tryz.underlying4
 a4 := Tryz.isAgg4
 z4 := Tryz.sizeOf4
 v4 := Tryz.zeroValue4
 t9 := Tryz.underlying9
 a9 := Tryz.isAgg9
 z9 := Tryz.sizeOf9
 v9 := Tryz.zeroValue9
 t37 := Tryz.underlying30
 a37 := Tryz.isAgg30
 z37 := Tryz.sizeOf30
 v37 := Tryz.zeroValue30
 t5 := Tryz.underlying5
 a5 := Tryz.isAgg5
 z5 := Tryz.sizeOf5
 v5 := Tryz.zeroValue5 }
/-- bytes.HasPrefix: WHOLE: each argument nil, or of no byte at whatever address, or at an address with its cells. (LAID: no walk: one application.) -/
theorem Tryz.bytes_HasPrefix_all (p1 p2 : Option Addr) (n c m d : Nat) (xs ys : List Int) (w : World) (hx : xs.length = n) (hy : ys.length = m) (hnc : n ≤ c) (h1 : Lib.BytesIn w p1 n xs) (h2 : Lib.BytesIn w p2 m ys) :
  Calls Tryz.prog 83 #[.slice p1 n c, .slice p2 m d] w fun e w' => e = .returned (.bool (Lib.hasPrefix (Lib.bytesOf xs) (Lib.bytesOf ys))) ∧ w' = w := Any.bytes_HasPrefix_all Tryz.laysnb116 p1 p2 n c m d xs ys w hx hy hnc h1 h2
def Tryz.laysSlT4_ren : Go.Shelf.Ren := ⟨fun | 4 => 98 | 5 => 105 | 6 => 119 | 7 => 97 | 8 => 120 | 9 => 121 | 10 => 122 | 11 => 128 | 12 => 129 | n => n, fun | 22 => 30 | 4 => 4 | 3 => 3 | 0 => 0 | 5 => 5 | 29 => 101 | 9 => 9 | 31 => 128 | 30 => 127 | n => n, fun | 0 => 1 | n => n⟩
theorem Tryz.laysSlT4 : Go.Proofs.SlLaysT.n4 Tryz.prog Tryz.laysSlT4_ren := {
 mixed := by kernel_rfl
 f4 := Tryz.func98.trans (congrArg some (by kernel_rfl))
 f5 := Tryz.func105.trans (congrArg some (by kernel_rfl))
 f6 := Tryz.func119.trans (congrArg some (by kernel_rfl))
 f7 := Tryz.func97.trans (congrArg some (by kernel_rfl))
 f8 := Tryz.func120.trans (congrArg some (by kernel_rfl))
 f9 := Tryz.func121.trans (congrArg some (by kernel_rfl))
 f10 := Tryz.func122.trans (congrArg some (by kernel_rfl))
 f11 := Tryz.func128.trans (congrArg some (by kernel_rfl))
 f12 := Tryz.func129.trans (congrArg some (by kernel_rfl))
 t0 := Tryz.underlying0
 a0 := Tryz.isAgg0
 z0 := Tryz.sizeOf0
 v0 := Tryz.zeroValue0
 t3 := Tryz.underlying3
 a3 := Tryz.isAgg3
 z3 := Tryz.sizeOf3
 v3 := Tryz.zeroValue3
 t4 := Tryz.underlying4
 a4 := Tryz.isAgg4
 z4 := Tryz.sizeOf4
 v4 := Tryz.zeroValue4
 t5 := Tryz.underlying5
 a5 := Tryz.isAgg5
 z5 := Tryz.sizeOf5
 v5 := Tryz.zeroValue5
 t9 := Tryz.underlying9
 a9 := Tryz.isAgg9
 z9 := Tryz.sizeOf9
 v9 := Tryz.zeroValue9
 t22 := Tryz.underlying30
 a22 := Tryz.isAgg30
 z22 := Tryz.sizeOf30
 v22 := Tryz.zeroValue30
 t29 := Tryz.underlying101
 a29 := Tryz.isAgg101
 z29 := Tryz.sizeOf101
 v29 := Tryz.zeroValue101
 t30 := Tryz.underlying127
 a30 := Tryz.isAgg127
 z30 := Tryz.sizeOf127
 v30 := Tryz.zeroValue127
 t31 := Tryz.underlying128
 a31 := Tryz.isAgg128
 z31 := Tryz.sizeOf128
 v31 := Tryz.zeroValue128
 g0 := by kernel_rfl }
/-- THE WALK, bytes.Index's answer a premise: whatever the two slices' addresses. (LAID: no walk: one application.) -/
theorem Tryz.bytes_Cut_of (p1 p2 : Option Addr) (n c1 k c2 : Nat) (i : Int) (w : World) (hcap : n ≤ c1) (hlo : -1 ≤ i) (hroom : 0 ≤ i → i + k ≤ n) (hn : n ≤ 4611686018427387904) (hidx : Calls Tryz.prog 105 #[.slice p1 n c1, .slice p2 k c2] w fun e w' => e = .returned (.int .i64 i) ∧ ∃ q, w' = w.drewN q) :
  Calls Tryz.prog 98 #[.slice p1 n c1, .slice p2 k c2] w fun e w' => e = .returned (Lib.cutV p1 n c1 k i) ∧ ∃ q, w' = w.drewN q := Any.bytes_Cut_of Tryz.laysSlT4 p1 p2 n c1 k c2 i w hcap hlo hroom hn hidx
def Tryz.laysSlV7_ren : Go.Shelf.Ren := ⟨fun | 7 => 99 | 10 => 106 | 11 => 107 | 13 => 108 | 15 => 109 | 16 => 123 | 19 => 124 | 18 => 125 | 21 => 130 | 17 => 131 | 20 => 132 | n => n, fun | 22 => 30 | 9 => 9 | 3 => 3 | 4 => 4 | 5 => 5 | 28 => 116 | 27 => 115 | 0 => 0 | 31 => 119 | 21 => 21 | 33 => 124 | 36 => 130 | 37 => 101 | 40 => 133 | 39 => 132 | n => n, fun | 0 => 2 | 1 => 3 | n => n⟩
theorem Tryz.laysSlV7 : Go.Proofs.SlLaysV.n7 Tryz.prog Tryz.laysSlV7_ren := {
 mixed := by kernel_rfl
 f7 := Tryz.func99.trans (congrArg some (by kernel_rfl))
 f10 := Tryz.func106.trans (congrArg some (by kernel_rfl))
 f11 := Tryz.func107.trans (congrArg some (by kernel_rfl))
 f13 := Tryz.func108.trans (congrArg some (by kernel_rfl))
 f15 := Tryz.func109.trans (congrArg some (by kernel_rfl))
 f16 := Tryz.func123.trans (congrArg some (by kernel_rfl))
 f17 := Tryz.func131.trans (congrArg some (by kernel_rfl))
 f18 := Tryz.func125.trans (congrArg some (by kernel_rfl))
 f19 := Tryz.func124.trans (congrArg some (by kernel_rfl))
 f20 := Tryz.func132.trans (congrArg some (by kernel_rfl))
 f21 := Tryz.func130.trans (congrArg some (by kernel_rfl))
 t0 := Tryz.underlying0
 a0 := Tryz.isAgg0
 z0 := Tryz.sizeOf0
 v0 := Tryz.zeroValue0
 t3 := Tryz.underlying3
 a3 := Tryz.isAgg3
 z3 := Tryz.sizeOf3
 v3 := Tryz.zeroValue3
 t4 := Tryz.underlying4
 a4 := Tryz.isAgg4
 z4 := Tryz.sizeOf4
 v4 := Tryz.zeroValue4
 t5 := Tryz.underlying5
 a5 := Tryz.isAgg5
 z5 := Tryz.sizeOf5
 v5 := Tryz.zeroValue5
 t9 := Tryz.underlying9
 a9 := Tryz.isAgg9
 z9 := Tryz.sizeOf9
 v9 := Tryz.zeroValue9
 t21 := Tryz.underlying21
 a21 := Tryz.isAgg21
 z21 := Tryz.sizeOf21
 v21 := Tryz.zeroValue21
 t22 := Tryz.underlying30
 a22 := Tryz.isAgg30
 z22 := Tryz.sizeOf30
 v22 := Tryz.zeroValue30
 t27 := Tryz.underlying115
 a27 := Tryz.isAgg115
 z27 := Tryz.sizeOf115
 t28 := Tryz.underlying116
 a28 := Tryz.isAgg116
 z28 := Tryz.sizeOf116
 v28 := Tryz.zeroValue116
 t31 := Tryz.underlying119
 a31 := Tryz.isAgg119
 z31 := Tryz.sizeOf119
 v31 := Tryz.zeroValue119
 t33 := Tryz.underlying124
 a33 := Tryz.isAgg124
 z33 := Tryz.sizeOf124
 v33 := Tryz.zeroValue124
 t36 := Tryz.underlying130
 a36 := Tryz.isAgg130
 z36 := Tryz.sizeOf130
 t37 := Tryz.underlying101
 a37 := Tryz.isAgg101
 z37 := Tryz.sizeOf101
 v37 := Tryz.zeroValue101
 t39 := Tryz.underlying132
 a39 := Tryz.isAgg132
 z39 := Tryz.sizeOf132
 v39 := Tryz.zeroValue132
 t40 := Tryz.underlying133
 a40 := Tryz.isAgg133
 z40 := Tryz.sizeOf133
 v40 := Tryz.zeroValue133 }
open Go.RowKit in
theorem Tryz.bytes_TrimRight_laid (p : Option Addr) (n c : Nat) (xs : List Int) (cutset : ByteArray) (w : World)
  (hx : xs.length = n) (hnc : n ≤ c) (hbig : c ≤ 9223372036854775807) (h1 : Lib.BytesIn w p n xs) (hr : ∀ x ∈ xs, 0 ≤ x ∧ x < 256) (hcs : cutset.size < 4294967281) (hascii : ∀ (j : Nat) b, cutset.data.toList[j]? = some b → b.toNat < 128) :
  Calls Tryz.prog 99 #[.slice p n c, .string cutset] w fun e w' => e = .returned (.slice p (Lib.trimRightS (Lib.bytesOf xs) cutset.data.toList).length c) ∧ Below w.heap.size w w' := Any.bytes_TrimRight_laid Tryz.laysSlV7 (by kernel_rfl) p n c xs cutset w hx hnc hbig h1 hr hcs hascii
end Go.Proofs
