import Derived.Test.YtoecimgmghlfpaaGreatDoorLexRef
import Derived.Test.YtoecimgmghlfpaaGreatDoorLexTokens
import Derived.Test.YtoecimgmghlfpaaGreatDoorLexToks
import Derived.Test.YtoecimgmghlfpaaGreatDoorLexKnown
import Derived.Deep.RegionHeldLaw

/-
  Layer 4 (lex): what the document's Name and Closes answer.
-/
namespace Go.Proofs.YtoecimgmghlfpaaGreatDoor.Lex
open Go.ChangeShapes Go.WideShapes Go.ChangeAt Go.RowKit Utf
set_option linter.unusedVariables false

theorem sort_lord (d : Int) : sortI d = 0 ↔ lord d = false := by
  unfold sortI lord
  by_cases h1 : kd d = 1
  · simp [h1]
  · by_cases h2 : kd d = 2
    · simp [h2]
    · simp [h1, h2]

set_option maxHeartbeats 2000000 in
theorem refName_any (t : List Int) (ht : Byt t) (hl : t.length ≤ 1000000) (w : World) :
    Calls Tryz.prog 45 #[.string (strOfNums t)] w fun e w' => e = .returned (.bool (isName t)) ∧ Below w.heap.size w w' := by
  have hbel : Below w.heap.size w w := Below.refl _ _
  have hsz : (strOfNums t).size = t.length := strOfNums_size t
  cases ht0 : t with
  | nil =>
    have hr : isName [] = false := rfl
    have he : (strOfNums ([] : List Int)).size = 0 := rfl
    rw [hr]
    clear hsz ht hl ht0
    generalize strOfNums ([] : List Int) = s at *
    go_enter Tryz.func45, Tryz.ntmps45
    go_wp2
    go_ret
    exact ⟨rfl, hbel⟩
  | cons c r =>
    rw [← ht0]
    have h0 : 0 < t.length := by rw [ht0]; simp
    have hix : ∀ W : World, (Instr.index 9 (.string (strOfNums t)) (.int .i64 0)).run Tryz.prog W = .ok (.int .u8 (t.getD 0 0)) W := fun W => run_idx_str (P := Tryz.prog) 9 Tryz.underlying9 ht (i := 0) h0 W
    have hd := ht.getD 0
    have hname : isName t = ((kd (t.getD 0 0) == 1) && decide (wordL t = t.length) && !isWord t) := by
      unfold isName; rw [decide_eq_true h0]; rfl
    have HIX : Hid (∀ i, i < t.length → ∀ W : World, (Instr.index 9 (.string (strOfNums t)) (.int .i64 (i : Int))).run Tryz.prog W = .ok (.int .u8 (t.getD i 0)) W) := fun i hi W => run_idx_str (P := Tryz.prog) 9 Tryz.underlying9 ht hi W
    have HS0 := Lib.hid (sort_any (t.getD 0 0) w hd.1 hd.2)
    have HSI : Hid (∀ i W, Calls Tryz.prog 62 #[.int .u8 (t.getD i 0)] W fun e w' => e = .returned (.int .i64 (sortI (t.getD i 0))) ∧ W = w') := fun i W => sort_any _ W (ht.getD i).1 (ht.getD i).2
    have HWD := Lib.hid (fun W : World => refWord_any t ht W)
    have HBY := Lib.hid ht
    have Hwl : Hid (wordL t = lead lord t) := rfl
    have Hsz := Lib.hid hsz
    clear ht0 ht
    have hln : ((t.length : Int) == 0) = false := beq_no (by omega)
    by_cases k1 : sortI (t.getD 0 0) = 1
    · have k1' : kd (t.getD 0 0) = 1 := by
        unfold sortI at k1; split at k1
        · assumption
        · split at k1 <;> omega
      rw [k1', show ((1 : Int) == 1) = true from rfl, Bool.true_and] at hname
      rw [k1] at HS0
      have Hname := Lib.hid hname
      clear k1 k1' hname hd
      obtain ⟨d0, hd0⟩ : ∃ d, t.getD 0 0 = d := ⟨_, rfl⟩
      rw [hd0] at hix HS0
      clear hd0
      cases hiw : isWord t with
      | true =>
        rw [hiw] at HWD
        have hr : isName t = false := by rw [Hname.out, hiw]; simp
        rw [hr]
        clear hiw hr Hname HSI HIX HBY Hwl
        generalize strOfNums t = s at *
        generalize t.length = n at *
        go_enter Tryz.func45, Tryz.ntmps45
        go_wp2_with (first | (go_at_call 62; refine HS0.out.mono ?_; rintro e w' ⟨rfl, rfl⟩) | (go_at_call 63; refine (HWD.out _).mono ?_; rintro e w' ⟨rfl, hbl⟩))
        go_ret
        exact ⟨rfl, hbl⟩
      | false =>
        rw [hiw] at HWD
        have hrr : isName t = decide (wordL t = t.length) := by rw [Hname.out, hiw]; simp
        have HR := Lib.hid hrr
        clear hrr
        clear hiw Hname
        obtain ⟨n, hn⟩ : ∃ n, t.length = n := ⟨_, rfl⟩
        have Hn := Lib.hid hn
        rw [hn] at HIX hsz hln h0
        obtain ⟨s, hs⟩ : ∃ s, strOfNums t = s := ⟨_, rfl⟩
        rw [hs] at HIX hsz hix HWD ⊢
        have hn1000 : n ≤ 1000000 := by omega
        clear hs hn hl
        go_enter Tryz.func45, Tryz.ntmps45
        go_wp2_with (first | (go_at_call 62; refine HS0.out.mono ?_; rintro e w' ⟨rfl, rfl⟩) | (go_at_call 63; refine (HWD.out _).mono ?_; rintro e w1 ⟨rfl, hbl⟩))
        have HBL := Lib.hid hbl
        clear hbl hix HS0 HWD
        go_loop [3] (fun i => ∃ k : Nat, k ≤ n ∧ i = .int .i64 k ∧ Hid (k ≤ lead lord t)) (fun i => n - (intOf i).toNat)
        case atStart => exact ⟨0, by omega, rfl, Nat.zero_le _⟩
        case round =>
          obtain ⟨k, hk, rfl, hle⟩ := hrel
          by_cases hlt : k < n
          · have hxi := HIX.out k hlt
            have HC := Lib.hid (HSI.out k w1)
            have HA : Hid (sortI (t.getD k 0) = 0 → isName t = false) := fun h => by
              rw [HR.out, Hwl.out, lead_at hle.out ((sort_lord _).1 h), Hn.out]; exact decide_eq_false (by omega)
            have HB : Hid (sortI (t.getD k 0) ≠ 0 → k + 1 ≤ lead lord t) := fun h => lead_step hle.out (by rw [Hn.out]; exact hlt) (by
              cases hl : lord (t.getD k 0)
              · exact absurd ((sort_lord _).2 hl) h
              · rfl)
            have hlt' : (k : Int) < n := by omega
            clear hle HIX HSI
            generalize t.getD k 0 = d at *
            generalize sortI d = q at *
            by_cases h0' : q = 0
            · subst h0'
              have HA1 := Lib.hid (HA.out rfl)
              clear HA HB
              go_wp2_with (go_at_call 62; refine HC.out.mono ?_; rintro e w' ⟨rfl, rfl⟩)
              go_ret
              rw [HA1.out]
              exact ⟨rfl, HBL.out⟩
            · have HB1 := Lib.hid (HB.out h0')
              have hq := beq_no h0'
              clear HA HB h0'
              go_wp2_with (go_at_call 62; refine HC.out.mono ?_; rintro e w' ⟨rfl, rfl⟩)
              go_round
              case rel => exact ⟨k + 1, by omega, by go_num, HB1.out⟩
              case measure => simp [intOf]; omega
          · have HE : Hid (isName t = true) := by
              rw [HR.out, Hwl.out, lead_end hle.out (by rw [Hn.out]; omega), Hn.out]; exact decide_eq_true (by omega)
            have hnl : ¬ (k : Int) < n := by omega
            clear hle hlt HIX HSI
            go_wp2
            go_ret
            rw [HE.out]
            exact ⟨rfl, HBL.out⟩
    · have k1' : kd (t.getD 0 0) ≠ 1 := fun e => k1 (by unfold sortI; rw [if_pos e])
      rw [beq_no k1'] at hname
      have hr : isName t = false := by rw [hname]; rfl
      rw [hr]
      have hq : (sortI (t.getD 0 0) != 1) = true := by rw [bne_iff_ne]; exact k1
      clear hname hr k1 k1' hd HSI HIX HWD HBY Hwl
      generalize t.getD 0 0 = d at *
      generalize sortI d = q at *
      generalize strOfNums t = s at *
      generalize t.length = n at *
      go_enter Tryz.func45, Tryz.ntmps45
      go_wp2_with (go_at_call 62; refine HS0.out.mono ?_; rintro e w' ⟨rfl, rfl⟩)
      go_ret
      exact ⟨rfl, hbel⟩

set_option maxHeartbeats 4000000 in
theorem refCloses_any (k : Int) (t : List Int) (ht : Byt t) (at_ : Int) (f : Bool) (w : World) :
    Calls Tryz.prog 68 #[.agg #[.int .i64 k, .string (strOfNums t), .int .i64 at_, .bool f]] w fun e w' => e = .returned (.bool (closes k t)) ∧ Below w.heap.size w w' := by
  have hb1 : Below w.heap.size w (w.alloc (.cells #[.int .i64 k, .string (strOfNums t), .int .i64 at_, .bool f] 63)) := (Below.refl _ _).alloc (Nat.le_refl _) _
  have HB := Lib.hid hb1
  have HBE : Hid (∀ w', Below (w.alloc (.cells #[.int .i64 k, .string (strOfNums t), .int .i64 at_, .bool f] 63)).heap.size (w.alloc (.cells #[.int .i64 k, .string (strOfNums t), .int .i64 at_, .bool f] 63)) w' → Below w.heap.size w w') := fun w' hw => hb1.trans (hw.mono (by simp))
  have HCE : Hid (∀ w', Below (w.alloc (.cells #[.int .i64 k, .string (strOfNums t), .int .i64 at_, .bool f] 63)).heap.size (w.alloc (.cells #[.int .i64 k, .string (strOfNums t), .int .i64 at_, .bool f] 63)) w' → w'.cell? ⟨w.heap.size, 1, none⟩ = some (.string (strOfNums t))) := fun w' hw => by
    rw [hw.cell (p := ⟨w.heap.size, 1, none⟩) (by simp), World.cell?_alloc_at _ _ _ _ rfl]; rfl
  clear hb1
  by_cases k1 : k = 1
  · subst k1
    have HW := Lib.hid (fun w : World => refWord_any t ht w)
    have hcl : closes 1 t = (!isWord t || decide (t = wRet) || decide (t = wBrk) || decide (t = wCon)) := rfl
    by_cases hw : isWord t = true
    · rw [hw] at HW hcl
      by_cases c0 : t = [114, 101, 116, 117, 114, 110]
      · have b0 : ((strOfNums t).toList == [114, 101, 116, 117, 114, 110]) = true := str_yes (u := [114, 101, 116, 117, 114, 110]) c0
        rw [show closes 1 t = true from by rw [c0]; decide +kernel]
        clear hcl hw ht c0
        generalize strOfNums t = s at *
        go_enter Tryz.func68, Tryz.ntmps68
        go_wp2_with (go_at_call 63; refine (HW.out _).mono ?_; rintro e w' ⟨rfl, hbl⟩; have hcx := HCE.out _ hbl)
        go_ret
        exact ⟨rfl, HBE.out _ hbl⟩
      have b0 : ((strOfNums t).toList == [114, 101, 116, 117, 114, 110]) = false := str_no ht (u := [114, 101, 116, 117, 114, 110]) (by decide) c0
      by_cases c1 : t = [98, 114, 101, 97, 107]
      · have b1 : ((strOfNums t).toList == [98, 114, 101, 97, 107]) = true := str_yes (u := [98, 114, 101, 97, 107]) c1
        rw [show closes 1 t = true from by rw [c1]; decide +kernel]
        clear hcl hw ht c0 c1
        generalize strOfNums t = s at *
        go_enter Tryz.func68, Tryz.ntmps68
        go_wp2_with (go_at_call 63; refine (HW.out _).mono ?_; rintro e w' ⟨rfl, hbl⟩; have hcx := HCE.out _ hbl)
        go_ret
        exact ⟨rfl, HBE.out _ hbl⟩
      have b1 : ((strOfNums t).toList == [98, 114, 101, 97, 107]) = false := str_no ht (u := [98, 114, 101, 97, 107]) (by decide) c1
      by_cases c2 : t = [99, 111, 110, 116, 105, 110, 117, 101]
      · have b2 : ((strOfNums t).toList == [99, 111, 110, 116, 105, 110, 117, 101]) = true := str_yes (u := [99, 111, 110, 116, 105, 110, 117, 101]) c2
        rw [show closes 1 t = true from by rw [c2]; decide +kernel]
        clear hcl hw ht c0 c1 c2
        generalize strOfNums t = s at *
        go_enter Tryz.func68, Tryz.ntmps68
        go_wp2_with (go_at_call 63; refine (HW.out _).mono ?_; rintro e w' ⟨rfl, hbl⟩; have hcx := HCE.out _ hbl)
        go_ret
        exact ⟨rfl, HBE.out _ hbl⟩
      have b2 : ((strOfNums t).toList == [99, 111, 110, 116, 105, 110, 117, 101]) = false := str_no ht (u := [99, 111, 110, 116, 105, 110, 117, 101]) (by decide) c2
      have hc : closes 1 t = false := by rw [hcl]; unfold wRet wBrk wCon; simp [c0, c1, c2]
      rw [hc]
      clear hc hcl hw c0 c1 c2 ht
      generalize strOfNums t = s at *
      go_enter Tryz.func68, Tryz.ntmps68
      go_wp2_with (go_at_call 63; refine (HW.out _).mono ?_; rintro e w' ⟨rfl, hbl⟩; have hcx := HCE.out _ hbl)
      go_ret
      exact ⟨rfl, HBE.out _ hbl⟩
    · have hw' : isWord t = false := by simpa using hw
      rw [hw'] at HW hcl
      have hc : closes 1 t = true := by rw [hcl]; simp
      rw [hc]
      clear hc hcl hw hw' ht
      generalize strOfNums t = s at *
      go_enter Tryz.func68, Tryz.ntmps68
      go_wp2_with (go_at_call 63; refine (HW.out _).mono ?_; rintro e w' ⟨rfl, hbl⟩; have hcx := HCE.out _ hbl)
      go_ret
      exact ⟨rfl, HBE.out _ hbl⟩
  have q1 := beq_no k1
  by_cases k4 : k = 4
  · subst k4
    clear q1 k1
    by_cases c0 : t = [41]
    · have b0 : ((strOfNums t).toList == [41]) = true := str_yes (u := [41]) c0
      rw [show closes 4 t = true from by rw [c0]; decide +kernel]
      clear ht c0
      generalize strOfNums t = s at *
      go_enter Tryz.func68, Tryz.ntmps68
      go_wp2
      go_ret
      exact ⟨rfl, HB.out⟩
    have b0 : ((strOfNums t).toList == [41]) = false := str_no ht (u := [41]) (by decide) c0
    by_cases c1 : t = [93]
    · have b1 : ((strOfNums t).toList == [93]) = true := str_yes (u := [93]) c1
      rw [show closes 4 t = true from by rw [c1]; decide +kernel]
      clear ht c0 c1
      generalize strOfNums t = s at *
      go_enter Tryz.func68, Tryz.ntmps68
      go_wp2
      go_ret
      exact ⟨rfl, HB.out⟩
    have b1 : ((strOfNums t).toList == [93]) = false := str_no ht (u := [93]) (by decide) c1
    by_cases c2 : t = [125]
    · have b2 : ((strOfNums t).toList == [125]) = true := str_yes (u := [125]) c2
      rw [show closes 4 t = true from by rw [c2]; decide +kernel]
      clear ht c0 c1 c2
      generalize strOfNums t = s at *
      go_enter Tryz.func68, Tryz.ntmps68
      go_wp2
      go_ret
      exact ⟨rfl, HB.out⟩
    have b2 : ((strOfNums t).toList == [125]) = false := str_no ht (u := [125]) (by decide) c2
    by_cases c3 : t = [43, 43]
    · have b3 : ((strOfNums t).toList == [43, 43]) = true := str_yes (u := [43, 43]) c3
      rw [show closes 4 t = true from by rw [c3]; decide +kernel]
      clear ht c0 c1 c2 c3
      generalize strOfNums t = s at *
      go_enter Tryz.func68, Tryz.ntmps68
      go_wp2
      go_ret
      exact ⟨rfl, HB.out⟩
    have b3 : ((strOfNums t).toList == [43, 43]) = false := str_no ht (u := [43, 43]) (by decide) c3
    by_cases c4 : t = [45, 45]
    · have b4 : ((strOfNums t).toList == [45, 45]) = true := str_yes (u := [45, 45]) c4
      rw [show closes 4 t = true from by rw [c4]; decide +kernel]
      clear ht c0 c1 c2 c3 c4
      generalize strOfNums t = s at *
      go_enter Tryz.func68, Tryz.ntmps68
      go_wp2
      go_ret
      exact ⟨rfl, HB.out⟩
    have b4 : ((strOfNums t).toList == [45, 45]) = false := str_no ht (u := [45, 45]) (by decide) c4
    have hc : closes 4 t = false := by
      show decide (t ∈ shutM) = false
      unfold shutM; simp [c0, c1, c2, c3, c4]
    rw [hc]
    clear hc ht c0 c1 c2 c3 c4
    generalize strOfNums t = s at *
    go_enter Tryz.func68, Tryz.ntmps68
    go_wp2
    go_ret
    exact ⟨rfl, HB.out⟩
  have q4 := beq_no k4
  by_cases k2 : k = 2
  · subst k2
    rw [show closes 2 t = true from rfl]
    clear ht
    generalize strOfNums t = s at *
    go_enter Tryz.func68, Tryz.ntmps68
    go_wp2
    go_ret
    exact ⟨rfl, HB.out⟩
  by_cases k3 : k = 3
  · subst k3
    rw [show closes 3 t = true from rfl]
    clear ht
    generalize strOfNums t = s at *
    go_enter Tryz.func68, Tryz.ntmps68
    go_wp2
    go_ret
    exact ⟨rfl, HB.out⟩
  have q2 := beq_no k2; have q3 := beq_no k3
  have hc : closes k t = false := by unfold closes; rw [if_neg (by omega), if_neg k1, if_neg k4]
  rw [hc]
  clear hc k1 k2 k3 k4 ht
  generalize strOfNums t = s at *
  go_enter Tryz.func68, Tryz.ntmps68
  go_wp2
  go_ret
  exact ⟨rfl, HB.out⟩

end Go.Proofs.YtoecimgmghlfpaaGreatDoor.Lex

/-
  Layer 4 (lex): the reference's 'one': the token with which bytes begin, head by head (letters, digits, the semicolon).
-/
namespace Go.Proofs.YtoecimgmghlfpaaGreatDoor.Lex
open Go.ChangeShapes Go.WideShapes Go.ChangeAt Go.RowKit Utf MemT
set_option linter.unusedVariables false

theorem blank_any (c : Int) (w : World) :
    Calls Tryz.prog 66 #[.int .u8 c] w fun e w' => e = .returned (.bool (blk c)) ∧ w = w' := by
  by_cases c1 : c = 32
  · subst c1; rw [show blk 32 = true from rfl]
    go_enter Tryz.func66, Tryz.ntmps66
    go_wp2
    go_ret
    exact ⟨rfl, rfl⟩
  by_cases c2 : c = 9
  · subst c2; rw [show blk 9 = true from rfl]
    go_enter Tryz.func66, Tryz.ntmps66
    go_wp2
    go_ret
    exact ⟨rfl, rfl⟩
  by_cases c3 : c = 13
  · subst c3; rw [show blk 13 = true from rfl]
    go_enter Tryz.func66, Tryz.ntmps66
    go_wp2
    go_ret
    exact ⟨rfl, rfl⟩
  have hb : blk c = false := by
    cases h : blk c
    · rfl
    · have := blk_iff.1 h; omega
  rw [hb]
  have b1 := beq_no c1; have b2 := beq_no c2; have b3 := beq_no c3
  clear hb c1 c2 c3
  go_enter Tryz.func66, Tryz.ntmps66
  go_wp2
  go_ret
  exact ⟨rfl, rfl⟩

/-- What a byte of the text reads. -/
theorem one_idx {t : List Int} (ht : Byt t) : Hid (∀ i, i < t.length → ∀ W : World, (Instr.index 9 (.string (strOfNums t)) (.int .i64 (i : Int))).run Tryz.prog W = .ok (.int .u8 (t.getD i 0)) W) := fun i hi W => run_idx_str (P := Tryz.prog) 9 Tryz.underlying9 ht hi W
theorem one_idx0 {t : List Int} (ht : Byt t) (h0 : 0 < t.length) (W : World) : (Instr.index 9 (.string (strOfNums t)) (.int .i64 0)).run Tryz.prog W = .ok (.int .u8 (t.getD 0 0)) W := run_idx_str (P := Tryz.prog) 9 Tryz.underlying9 ht (i := 0) h0 W

theorem one_semi (t : List Int) (ht : Byt t) (h0 : 0 < t.length) (hc : t.getD 0 0 = 59) (w : World) :
    Calls Tryz.prog 67 #[.string (strOfNums t)] w fun e w' => e = .returned (.tuple #[.int .i64 6, .int .i64 1]) ∧ w = w' := by
  have hix := fun W => one_idx0 ht h0 W
  have hsz : (strOfNums t).size = t.length := strOfNums_size t
  rw [hc] at hix
  clear hc ht
  generalize strOfNums t = s at *
  generalize t.length = n at *
  by_cases hl : 1 < n
  · have hl' : (1 : Int) < (n : Int) := by omega
    clear hl h0
    go_enter Tryz.func67, Tryz.ntmps67
    go_wp2
    go_ret2
    exact ⟨rfl, rfl⟩
  · obtain rfl : n = 1 := by omega
    clear hl h0
    go_enter Tryz.func67, Tryz.ntmps67
    go_wp2
    go_ret2
    exact ⟨rfl, rfl⟩

set_option maxHeartbeats 4000000 in
theorem one_let (t : List Int) (ht : Byt t) (h0 : 0 < t.length) (hn : t.length ≤ 100000000) (hc : kd (t.getD 0 0) = 1) (w : World) :
    Calls Tryz.prog 67 #[.string (strOfNums t)] w fun e w' => e = .returned (.tuple #[.int .i64 1, .int .i64 (wordL t : Int)]) ∧ w = w' := by
  have hix := fun W => one_idx0 ht h0 W
  have HIX := one_idx ht
  have hsz : (strOfNums t).size = t.length := strOfNums_size t
  have hd := ht.getD 0
  have HS0 := Lib.hid (sort_any (t.getD 0 0) w hd.1 hd.2)
  have HSI : Hid (∀ i W, Calls Tryz.prog 62 #[.int .u8 (t.getD i 0)] W fun e w' => e = .returned (.int .i64 (sortI (t.getD i 0))) ∧ W = w') := fun i W => sort_any _ W (ht.getD i).1 (ht.getD i).2
  have hs1 : sortI (t.getD 0 0) = 1 := by unfold sortI; rw [if_pos hc]
  have hl0 : 1 ≤ lead lord t := by
    have : lord (t.getD 0 0) = true := by unfold lord; rw [hc]; rfl
    exact lead_step (Nat.zero_le _) h0 this
  have HL0 := Lib.hid hl0
  have HLE := Lib.hid (lead_le lord t)
  have b47 : (t.getD 0 0 == 47) = false := beq_no (fun e => by rw [e] at hc; exact absurd hc (by decide))
  have b59 : (t.getD 0 0 == 59) = false := beq_no (fun e => by rw [e] at hc; exact absurd hc (by decide))
  rw [hs1] at HS0
  have HW : Hid (wordL t = lead lord t) := rfl
  obtain ⟨n, hnn⟩ : ∃ n, t.length = n := ⟨_, rfl⟩
  have Hn := Lib.hid hnn
  rw [hnn] at HIX hsz h0 hn HLE
  clear hd hc hs1 hl0 hnn ht
  have hpre : (1 : Int) < (n : Int) ∨ ¬ (1 : Int) < (n : Int) := by omega
  generalize t.getD 0 0 = d at *
  generalize wordL t = wl at *
  obtain ⟨s, hs⟩ : ∃ s, strOfNums t = s := ⟨_, rfl⟩
  rw [hs] at HIX hsz hix ⊢
  clear hs
  rcases hpre with hpre | hpre
  all_goals
    go_enter Tryz.func67, Tryz.ntmps67
    go_wp2_with (first | (go_at_call 62; refine HS0.out.mono ?_; rintro e w' ⟨rfl, rfl⟩))
    go_loop [5] (fun i => ∃ k : Nat, 1 ≤ k ∧ k ≤ n ∧ i = .int .i64 k ∧ Hid (k ≤ lead lord t)) (fun i => n - (intOf i).toNat)
    case atStart => exact ⟨1, by omega, by omega, rfl, HL0.out⟩
    case round =>
      obtain ⟨k, hk1, hk, rfl, hle⟩ := hrel
      by_cases hlt : k < n
      · have hxi := HIX.out k hlt
        have HC := Lib.hid (HSI.out k w)
        have HA : Hid (sortI (t.getD k 0) = 0 → wl = k) := fun h => by
          rw [HW.out]; exact lead_at hle.out ((sort_lord _).1 h)
        have HB : Hid (sortI (t.getD k 0) ≠ 0 → k + 1 ≤ lead lord t) := fun h => lead_step hle.out (by rw [Hn.out]; exact hlt) (by
          cases hl : lord (t.getD k 0)
          · exact absurd ((sort_lord _).2 hl) h
          · rfl)
        have hq : sortI (t.getD k 0) = 0 ∨ 0 < sortI (t.getD k 0) := by unfold sortI; split; · omega
                                                                        · split <;> omega
        have hlt' : (k : Int) < n := by omega
        clear hle hix b47 b59
        generalize t.getD k 0 = c at *
        generalize sortI c = q at *
        rcases hq with hq | hq
        · subst hq
          have HA1 := Lib.hid (HA.out rfl)
          clear HA HB
          go_wp2_with (first | (go_at_call 62; refine HC.out.mono ?_; rintro e w' ⟨rfl, rfl⟩))
          go_ret2
          exact ⟨by rw [HA1.out]; rfl, rfl⟩
        · have HB1 := Lib.hid (HB.out (by omega))
          clear HA HB
          go_wp2_with (first | (go_at_call 62; refine HC.out.mono ?_; rintro e w' ⟨rfl, rfl⟩))
          go_round
          case rel => exact ⟨k + 1, by omega, by omega, by go_num, HB1.out⟩
          case measure => simp [intOf]; omega
      · have HE : Hid (wl = k) := by
          show _ = _
          rw [HW.out]
          have := hle.out; have := HLE.out; omega
        have hnl : ¬ (k : Int) < n := by omega
        clear hle hix b47 b59
        go_wp2
        go_ret2
        exact ⟨by rw [HE.out]; rfl, rfl⟩

theorem sort_dig (d : Int) : sortI d = 2 ↔ dig d = true := by
  unfold sortI dig
  by_cases h1 : kd d = 1
  · simp [h1]
  · by_cases h2 : kd d = 2 <;> simp [h1, h2]

end Go.Proofs.YtoecimgmghlfpaaGreatDoor.Lex

/-
  Layer 4 (lex): the reference's 'one' at digits (in work).
-/
namespace Go.Proofs.YtoecimgmghlfpaaGreatDoor.Lex
open Go.ChangeShapes Go.WideShapes Go.ChangeAt Go.RowKit Utf MemT
set_option linter.unusedVariables false

set_option maxHeartbeats 4000000 in
theorem one_dig (t : List Int) (ht : Byt t) (h0 : 0 < t.length) (hn : t.length ≤ 100000000) (hc : kd (t.getD 0 0) = 2) (K : Int) (hK : (if numL t = 0 then 0 else 2) = K) (w : World) :
    Calls Tryz.prog 67 #[.string (strOfNums t)] w fun e w' => e = .returned (.tuple #[.int .i64 K, .int .i64 (numL t : Int)]) ∧ w = w' := by
  have HK := Lib.hid hK
  clear hK
  have hix := fun W => one_idx0 ht h0 W
  have HIX := one_idx ht
  have hsz : (strOfNums t).size = t.length := strOfNums_size t
  have hd := ht.getD 0
  have HS0 := Lib.hid (sort_any (t.getD 0 0) w hd.1 hd.2)
  have HSI : Hid (∀ i W, Calls Tryz.prog 62 #[.int .u8 (t.getD i 0)] W fun e w' => e = .returned (.int .i64 (sortI (t.getD i 0))) ∧ W = w') := fun i W => sort_any _ W (ht.getD i).1 (ht.getD i).2
  have hs1 : sortI (t.getD 0 0) = 2 := by unfold sortI; rw [if_neg (by omega), if_pos hc]
  have hl0 : 1 ≤ lead dig t := by
    have : dig (t.getD 0 0) = true := by unfold dig; rw [hc]; rfl
    exact lead_step (Nat.zero_le _) h0 this
  have HL0 := Lib.hid hl0
  have HLE := Lib.hid (lead_le dig t)
  have b47 : (t.getD 0 0 == 47) = false := beq_no (fun e => by rw [e] at hc; exact absurd hc (by decide))
  have b59 : (t.getD 0 0 == 59) = false := beq_no (fun e => by rw [e] at hc; exact absurd hc (by decide))
  rw [hs1] at HS0
  have HNU : Hid (numL t = if 1 < lead dig t ∧ t.getD 0 0 = 48 then 0 else lead dig t) := rfl
  obtain ⟨n, hnn⟩ : ∃ n, t.length = n := ⟨_, rfl⟩
  have Hn := Lib.hid hnn
  rw [hnn] at HIX hsz h0 hn HLE
  clear hd hc hs1 hl0 hnn ht
  have hpre : (1 : Int) < (n : Int) ∨ ¬ (1 : Int) < (n : Int) := by omega
  have h48 : t.getD 0 0 = 48 ∨ ¬ t.getD 0 0 = 48 := by omega
  generalize t.getD 0 0 = d at *
  generalize numL t = nl at *
  obtain ⟨s, hs⟩ : ∃ s, strOfNums t = s := ⟨_, rfl⟩
  rw [hs] at HIX hsz hix ⊢
  clear hs
  rcases hpre with hpre | hpre
  all_goals
    go_enter Tryz.func67, Tryz.ntmps67
    go_wp2_with (first | (go_at_call 62; refine HS0.out.mono ?_; rintro e w' ⟨rfl, rfl⟩))
    go_loop [6] (fun i => ∃ k : Nat, 1 ≤ k ∧ k ≤ n ∧ i = .int .i64 k ∧ Hid (k ≤ lead dig t)) (fun i => n - (intOf i).toNat)
    case atStart => exact ⟨1, by omega, by omega, rfl, HL0.out⟩
    case round =>
      obtain ⟨k, hk1, hk, rfl, hle⟩ := hrel
      by_cases hlt : k < n
      · have hxi := HIX.out k hlt
        have HC := Lib.hid (HSI.out k w)
        have HA : Hid (sortI (t.getD k 0) ≠ 2 → lead dig t = k) := fun h => lead_at hle.out (by
          cases hl : dig (t.getD k 0)
          · rfl
          · exact absurd ((sort_dig _).2 hl) h)
        have HB : Hid (sortI (t.getD k 0) = 2 → k + 1 ≤ lead dig t) := fun h => lead_step hle.out (by rw [Hn.out]; exact hlt) ((sort_dig _).1 h)
        have hlt' : (k : Int) < n := by omega
        clear hle b47 b59
        generalize t.getD k 0 = c at *
        generalize sortI c = q at *
        by_cases hq : q = 2
        · subst hq
          have HB1 := Lib.hid (HB.out rfl)
          clear HA HB hix
          go_wp2_with (first | (go_at_call 62; refine HC.out.mono ?_; rintro e w' ⟨rfl, rfl⟩))
          go_round
          case rel => exact ⟨k + 1, by omega, by omega, by go_num, HB1.out⟩
          case measure => simp [intOf]; omega
        · have HA1 := Lib.hid (HA.out hq)
          have bq := beq_no hq
          clear HA HB hq
          rcases h48 with h48 | h48
          · subst h48
            by_cases hk2 : 1 < k
            · have hk2' : (1 : Int) < (k : Int) := by omega
              have HR : Hid (nl = 0) := by
                show _ = _
                rw [HNU.out, HA1.out, if_pos ⟨hk2, rfl⟩]
              clear hk2
              go_wp2_with (first | (go_at_call 62; refine HC.out.mono ?_; rintro e w' ⟨rfl, rfl⟩))
              go_ret2
              exact ⟨by rw [← HK.out, HR.out]; rfl, rfl⟩
            · have hk2' : decide ((1 : Int) < (k : Int)) = false := by rw [decide_eq_false_iff_not]; omega
              have HK1 := Lib.hid hk1
              have HR : Hid (nl = k) := by
                show _ = _
                rw [HNU.out, HA1.out, if_neg (by intro e; exact hk2 e.1)]
              go_wp2_with (first | (go_at_call 62; refine HC.out.mono ?_; rintro e w' ⟨rfl, rfl⟩))
              go_ret2
              exact ⟨by rw [← HK.out, HR.out, if_neg (by have := HK1.out; omega)]; rfl, rfl⟩
          · have HR : Hid (nl = k) := by
              show _ = _
              rw [HNU.out, HA1.out, if_neg (by intro e; exact h48 e.2)]
            have b48 := beq_no h48
            have HK1 := Lib.hid hk1
            go_wp2_with (first | (go_at_call 62; refine HC.out.mono ?_; rintro e w' ⟨rfl, rfl⟩))
            go_ret2
            exact ⟨by rw [← HK.out, HR.out, if_neg (by have := HK1.out; omega)]; rfl, rfl⟩
      · have HA1 : Hid (lead dig t = k) := by
          show _ = _
          have := hle.out; have := HLE.out; omega
        have hnl : ¬ (k : Int) < n := by omega
        clear hle b47 b59
        rcases h48 with h48 | h48
        · subst h48
          by_cases hk2 : 1 < k
          · have hk2' : (1 : Int) < (k : Int) := by omega
            have HR : Hid (nl = 0) := by
              show _ = _
              rw [HNU.out, HA1.out, if_pos ⟨hk2, rfl⟩]
            clear hk2
            go_wp2
            go_ret2
            exact ⟨by rw [← HK.out, HR.out]; rfl, rfl⟩
          · have hk2' : decide ((1 : Int) < (k : Int)) = false := by rw [decide_eq_false_iff_not]; omega
            have HK1 := Lib.hid hk1
            have HR : Hid (nl = k) := by
              show _ = _
              rw [HNU.out, HA1.out, if_neg (by intro e; exact hk2 e.1)]
            go_wp2
            go_ret2
            exact ⟨by rw [← HK.out, HR.out, if_neg (by have := HK1.out; omega)]; rfl, rfl⟩
        · have HR : Hid (nl = k) := by
            show _ = _
            rw [HNU.out, HA1.out, if_neg (by intro e; exact h48 e.2)]
          have b48 := beq_no h48
          have HK1 := Lib.hid hk1
          go_wp2
          go_ret2
          exact ⟨by rw [← HK.out, HR.out, if_neg (by have := HK1.out; omega)]; rfl, rfl⟩

end Go.Proofs.YtoecimgmghlfpaaGreatDoor.Lex

/-
  Layer 4 (lex): the reference's 'one' at strings.
-/
namespace Go.Proofs.YtoecimgmghlfpaaGreatDoor.Lex
open Go.ChangeShapes Go.WideShapes Go.ChangeAt Go.RowKit Utf MemT
set_option linter.unusedVariables false

theorem strT_cons (c : Int) (r : List Int) : strT (c :: r) = if c = 34 then 1 else if c = 10 then 0 else if c = 92 then (match r with
    | [] => 0
    | d :: r' => if d = 10 then 0 else if strT r' = 0 then 0 else strT r' + 2) else if strT r = 0 then 0 else strT r + 1 := by
  conv => lhs; unfold strT
  rfl
theorem quo_drop {t : List Int} {k : Nat} (h : k < t.length) : t.drop k = t.getD k 0 :: t.drop (k + 1) := by
  rw [List.drop_eq_getElem_cons h]; simp [List.getD, List.getElem?_eq_getElem h]

/-- Where the string that begins the text is still open at k. -/
def QI (t : List Int) (k : Nat) : Prop := quoL t = if strT (t.drop k) = 0 then 0 else strT (t.drop k) + k
theorem qi_start : ∀ {t : List Int}, 0 < t.length → QI t 1
  | [], h => by simp at h
  | c :: r, _ => by simp [QI, quoL]
theorem qi_end {t : List Int} {k : Nat} (h : QI t k) (hk : t.length ≤ k) : quoL t = 0 := by
  rw [h, List.drop_eq_nil_of_le hk]; rfl
theorem qi_step {t : List Int} {k : Nat} (h : QI t k) (hk : k < t.length) :
    (t.getD k 0 = 34 → quoL t = k + 1) ∧ (t.getD k 0 = 10 → quoL t = 0) ∧
    (t.getD k 0 = 92 → k + 1 < t.length → t.getD (k + 1) 0 ≠ 10 → QI t (k + 2)) ∧
    (t.getD k 0 = 92 → k + 1 < t.length → t.getD (k + 1) 0 = 10 → QI t (k + 1)) ∧
    (t.getD k 0 = 92 → ¬ k + 1 < t.length → QI t (k + 1)) ∧
    (t.getD k 0 ≠ 34 → t.getD k 0 ≠ 92 → t.getD k 0 ≠ 10 → QI t (k + 1)) := by
  unfold QI at *
  rw [quo_drop hk, strT_cons] at h
  refine ⟨fun e => ?_, fun e => ?_, fun e h1 h2 => ?_, fun e h1 h2 => ?_, fun e h1 => ?_, fun e1 e2 e3 => ?_⟩
  · rw [h, if_pos e, if_neg (by omega)]; omega
  · rw [h, e]; simp
  · rw [h, e, quo_drop h1]
    generalize t.getD (k + 1) 0 = d at h2 ⊢
    have hS : ∀ S : Nat, (if (if d = 10 then 0 else if S = 0 then 0 else S + 2) = 0 then 0 else (if d = 10 then 0 else if S = 0 then 0 else S + 2) + k) = if S = 0 then 0 else S + (k + 2) := fun S => by
      rw [if_neg h2]
      by_cases h0 : S = 0
      · simp [h0]
      · rw [if_neg h0, if_neg (by omega), if_neg h0]; omega
    exact hS (strT (t.drop (k + 2)))
  · rw [h, e, quo_drop h1, h2, strT_ten]; simp
  · rw [h, e, List.drop_eq_nil_of_le (by omega)]; simp [strT]
  · rw [h, if_neg e1, if_neg e3, if_neg e2]
    by_cases h0 : strT (t.drop (k + 1)) = 0
    · simp [h0]
    · simp [h0]; omega

set_option maxHeartbeats 4000000 in
theorem one_quo (t : List Int) (ht : Byt t) (h0 : 0 < t.length) (hn : t.length ≤ 100000000) (hc : t.getD 0 0 = 34) (K : Int) (hK : (if quoL t = 0 then 0 else 3) = K) (w : World) :
    Calls Tryz.prog 67 #[.string (strOfNums t)] w fun e w' => e = .returned (.tuple #[.int .i64 K, .int .i64 (quoL t : Int)]) ∧ w = w' := by
  have HK := Lib.hid hK
  clear hK
  have hix := fun W => one_idx0 ht h0 W
  have HIX := one_idx ht
  have hsz : (strOfNums t).size = t.length := strOfNums_size t
  have HS0 := Lib.hid (sort_any 34 w (by omega) (by omega))
  have hs1 : sortI 34 = 0 := by decide
  rw [hs1] at HS0
  rw [hc] at hix
  have HQ0 := Lib.hid (qi_start h0)
  have HST : Hid (∀ k, QI t k → k < t.length → _) := fun k a b => qi_step a b
  have HEN : Hid (∀ k, QI t k → t.length ≤ k → quoL t = 0) := fun k a b => qi_end a b
  obtain ⟨n, hnn⟩ : ∃ n, t.length = n := ⟨_, rfl⟩
  rw [hnn] at HIX hsz h0 hn HST HEN
  clear hc hs1 hnn ht
  have hpre : (1 : Int) < (n : Int) ∨ ¬ (1 : Int) < (n : Int) := by omega
  obtain ⟨s, hs⟩ : ∃ s, strOfNums t = s := ⟨_, rfl⟩
  rw [hs] at HIX hsz hix ⊢
  generalize quoL t = Q at *
  clear hs
  rcases hpre with hpre | hpre
  all_goals
    go_enter Tryz.func67, Tryz.ntmps67
    go_wp2_with (first | (go_at_call 62; refine HS0.out.mono ?_; rintro e w' ⟨rfl, rfl⟩))
    go_loop [7] (fun i => ∃ k : Nat, 1 ≤ k ∧ k ≤ n ∧ i = .int .i64 k ∧ Hid (QI t k)) (fun i => n - (intOf i).toNat)
    case atStart => exact ⟨1, by omega, by omega, rfl, HQ0.out⟩
    case round =>
      obtain ⟨k, hk1, hk, rfl, hqi⟩ := hrel
      by_cases hlt : k < n
      · have hxi := HIX.out k hlt
        have hnx := HIX.out (k + 1)
        obtain ⟨s34, s10, s92a, s92b, s92c, sel⟩ := HST.out k hqi.out hlt
        have hlt' : (k : Int) < n := by omega
        clear hix
        generalize t.getD k 0 = c at *
        generalize t.getD (k + 1) 0 = d at *
        by_cases h10 : c = 10
        · have HR := Lib.hid (s10 h10)
          subst h10
          clear s34 s10 s92a s92b s92c sel hnx
          go_wp2
          go_ret2
          exact ⟨by rw [← HK.out, HR.out]; rfl, rfl⟩
        by_cases h34 : c = 34
        · have HR := Lib.hid (s34 h34)
          subst h34
          clear s34 s10 s92a s92b s92c sel hnx h10
          go_wp2
          go_ret2
          exact ⟨by rw [← HK.out, HR.out, if_neg (by omega)]; rfl, rfl⟩
        have b34 : (c == 34) = false := beq_no h34
        have n10 : (c != 10) = true := by rw [bne_iff_ne]; exact h10
        by_cases h92 : c = 92
        · by_cases h1 : k + 1 < n
          · have hx1 := hnx h1
            rw [show ((k + 1 : Nat) : Int) = (k : Int) + 1 from by omega] at hx1
            have h1' : (k : Int) + 1 < (n : Int) := by omega
            by_cases hd : d = 10
            · have HR := Lib.hid (s92b h92 h1 hd)
              subst hd; subst h92
              clear s34 s10 s92a s92b s92c sel hnx h10 h34
              go_wp2
              go_round
              case rel => exact ⟨k + 1, by omega, by omega, by go_num, HR.out⟩
              case measure => simp [intOf]; omega
            · have HR := Lib.hid (s92a h92 h1 hd)
              have nd : (d != 10) = true := by rw [bne_iff_ne]; exact hd
              subst h92
              clear s34 s10 s92a s92b s92c sel hnx h10 h34 hd
              go_wp2
              go_round
              case rel => exact ⟨k + 2, by omega, by omega, by go_num, HR.out⟩
              case measure => simp [intOf]; omega
          · have HR := Lib.hid (s92c h92 h1)
            have h1' : ¬ (k : Int) + 1 < (n : Int) := by omega
            subst h92
            clear s34 s10 s92a s92b s92c sel hnx h10 h34
            go_wp2
            go_round
            case rel => exact ⟨k + 1, by omega, by omega, by go_num, HR.out⟩
            case measure => simp [intOf]; omega
        · have HR := Lib.hid (sel h34 h92 h10)
          have b92 : (c == 92) = false := beq_no h92
          clear s34 s10 s92a s92b s92c sel hnx h10 h34 h92
          go_wp2
          go_round
          case rel => exact ⟨k + 1, by omega, by omega, by go_num, HR.out⟩
          case measure => simp [intOf]; omega
      · have HR := Lib.hid (HEN.out k hqi.out (by omega))
        have hnl : ¬ (k : Int) < n := by omega
        clear hix
        go_wp2
        go_ret2
        exact ⟨by rw [← HK.out, HR.out]; rfl, rfl⟩

end Go.Proofs.YtoecimgmghlfpaaGreatDoor.Lex

/-
  Layer 4 (lex): the reference's 'one' at marks.
-/
namespace Go.Proofs.YtoecimgmghlfpaaGreatDoor.Lex
open Go.ChangeShapes Go.WideShapes Go.ChangeAt Go.RowKit Utf MemT
set_option linter.unusedVariables false

theorem mlist2 : (∀ m ∈ mlist, m.length = 2 → m ∈ marks2) ∧ (∀ m ∈ mlist, m.length = 1 → m ∈ marks1) ∧ (∀ m ∈ marks2, m ∈ mlist ∧ m.length = 2) ∧ (∀ m ∈ marks1, m ∈ mlist) := by decide +kernel
theorem markL_is {t : List Int} (h0 : 0 < t.length) : markL t = if 1 < t.length ∧ decide (t.take 2 ∈ mlist) = true then 2 else if decide (t.take 1 ∈ mlist) = true then 1 else 0 := by
  obtain ⟨a, b, c, d⟩ := mlist2
  unfold markL
  have h1 : (t.take 1).length = 1 := by rw [List.length_take]; omega
  have e1 : (t.take 1 ∈ marks1) ↔ decide (t.take 1 ∈ mlist) = true := by
    rw [decide_eq_true_iff]
    exact ⟨d _, fun h => b _ h h1⟩
  have e2 : (t.take 2 ∈ marks2) ↔ (1 < t.length ∧ decide (t.take 2 ∈ mlist) = true) := by
    rw [decide_eq_true_iff]
    constructor
    · intro h
      have := c _ h
      refine ⟨?_, this.1⟩
      have h2 := this.2
      rw [List.length_take] at h2; omega
    · intro h
      exact a _ h.2 (by rw [List.length_take]; omega)
  simp only [e1, e2]

theorem take2 : ∀ (t : List Int), 1 < t.length → t.take 2 = [t.getD 0 0, t.getD 1 0]
  | [], h => by simp at h
  | [x], h => by simp at h
  | x :: y :: r, _ => by simp

set_option maxHeartbeats 4000000 in
theorem one_mark (t : List Int) (ht : Byt t) (h0 : 0 < t.length) (hn : t.length ≤ 100000000) (hc : kd (t.getD 0 0) = 4) (hr : t.take 2 ≠ [47, 47]) (K : Int) (hK : (if markL t = 0 then 0 else 4) = K) (w : World) :
    Calls Tryz.prog 67 #[.string (strOfNums t)] w fun e w' => e = .returned (.tuple #[.int .i64 K, .int .i64 (markL t : Int)]) ∧ Below w.heap.size w w' := by
  have HK := Lib.hid hK
  clear hK
  have hix := fun W => one_idx0 ht h0 W
  have hsz : (strOfNums t).size = t.length := strOfNums_size t
  have hd := ht.getD 0
  have HS0 := Lib.hid (fun W => sort_any (t.getD 0 0) W hd.1 hd.2)
  have hs1 : sortI (t.getD 0 0) = 0 := by unfold sortI; rw [if_neg (by omega), if_neg (by omega)]
  rw [hs1] at HS0
  have b59 : (t.getD 0 0 == 59) = false := beq_no (fun e => by rw [e] at hc; exact absurd hc (by decide))
  have b34 : (t.getD 0 0 == 34) = false := beq_no (fun e => by rw [e] at hc; exact absurd hc (by decide))
  have hext : ∀ k, (strOfNums t).extract 0 k = strOfNums (t.take k) := fun k => by
    have : (strOfNums t).extract 0 k = strOfNums ((nums (strOfNums t)).take k) := by
      rw [← str_nums ((strOfNums t).extract 0 k)]
      congr 1
      simp [nums, List.map_take]
    rw [this, strOfNums_inj (nums_byt _) ht (str_nums _)]
  have HM : Hid (∀ k W, Calls Tryz.prog 75 #[.string ((strOfNums t).extract 0 k)] W fun e w' => e = .returned (.bool (decide (t.take k ∈ mlist))) ∧ Below W.heap.size W w') := fun k W => by
    rw [hext]; exact refMark_mem _ (ht.take k) W
  obtain ⟨b2, q2⟩ : ∃ b, decide (t.take 2 ∈ mlist) = b := ⟨_, rfl⟩
  obtain ⟨b1, q1⟩ : ∃ b, decide (t.take 1 ∈ mlist) = b := ⟨_, rfl⟩
  have HM2 : Hid (∀ W, Calls Tryz.prog 75 #[.string ((strOfNums t).extract 0 2)] W fun e w' => e = .returned (.bool b2) ∧ Below W.heap.size W w') := fun W => (HM.out 2 W).mono fun e w' h => ⟨q2 ▸ h.1, h.2⟩
  have HM1 : Hid (∀ W, Calls Tryz.prog 75 #[.string ((strOfNums t).extract 0 1)] W fun e w' => e = .returned (.bool b1) ∧ Below W.heap.size W w') := fun W => (HM.out 1 W).mono fun e w' h => ⟨q1 ▸ h.1, h.2⟩
  have hml := markL_is h0
  rw [q2, q1] at hml
  have HML := Lib.hid hml
  clear q2 q1 hml
  have h47 : 1 < t.length → t.getD 0 0 = 47 → t.getD 1 0 ≠ 47 := fun h1 h2 h3 => by
    exact hr (by rw [take2 t h1, h2, h3])
  have hix1 : 1 < t.length → ∀ W : World, (Instr.index 9 (.string (strOfNums t)) (.int .i64 1)).run Tryz.prog W = .ok (.int .u8 (t.getD 1 0)) W := fun h1 W => run_idx_str (P := Tryz.prog) 9 Tryz.underlying9 ht (i := 1) h1 W
  clear hext HM ht hd hc hs1 hr
  generalize markL t = ml at *
  generalize t.getD 0 0 = d0 at *
  generalize t.getD 1 0 = d1 at *
  generalize strOfNums t = s at *
  generalize t.length = n at *
  by_cases hl : 1 < n
  · have hl' : (1 : Int) < (n : Int) := by omega
    have hl2 : (2 : Int) ≤ (n : Int) := by omega
    have hi1 := hix1 hl
    have H47 := Lib.hid (h47 hl)
    clear h47 hix1
    have hd0 : (d0 == 47) = false ∨ (d0 = 47 ∧ (d1 == 47) = false) := by
      by_cases h : d0 = 47
      · exact .inr ⟨h, beq_no (H47.out h)⟩
      · exact .inl (beq_no h)
    have HL := Lib.hid hl
    clear H47 hl
    cases b2 with
    | true =>
      have HR : Hid (ml = 2) := by
        show _ = _
        rw [HML.out, if_pos ⟨HL.out, rfl⟩]
      clear HML
      rcases hd0 with hd0 | ⟨rfl, hd1⟩
      all_goals
        go_enter Tryz.func67, Tryz.ntmps67
        go_wp2_with (first | (go_at_call 62; refine (HS0.out _).mono ?_; rintro e w' ⟨rfl, rfl⟩) | (go_at_call 75; ((with_reducible refine (HM2.out _).mono ?_)); rintro e w1 ⟨rfl, hb1⟩))
        go_ret2
        exact ⟨by rw [← HK.out, HR.out]; rfl, hb1⟩
    | false =>
      have HR : Hid (ml = if b1 = true then 1 else 0) := by
        show _ = _
        rw [HML.out, if_neg (by intro e; cases e.2)]
      clear HML
      cases b1 with
      | true =>
        rcases hd0 with hd0 | ⟨rfl, hd1⟩
        all_goals
          go_enter Tryz.func67, Tryz.ntmps67
          go_wp2_with (first | (go_at_call 62; refine (HS0.out _).mono ?_; rintro e w' ⟨rfl, rfl⟩) | (go_at_call 75; ((with_reducible refine (HM2.out _).mono ?_)); rintro e w1 ⟨rfl, hb1⟩) | (go_at_call 75; ((with_reducible refine (HM1.out _).mono ?_)); rintro e w2 ⟨rfl, hb2⟩))
          go_ret2
          exact ⟨by rw [← HK.out, HR.out]; rfl, hb1.trans (hb2.mono hb1.size)⟩
      | false =>
        rcases hd0 with hd0 | ⟨rfl, hd1⟩
        all_goals
          go_enter Tryz.func67, Tryz.ntmps67
          go_wp2_with (first | (go_at_call 62; refine (HS0.out _).mono ?_; rintro e w' ⟨rfl, rfl⟩) | (go_at_call 75; ((with_reducible refine (HM2.out _).mono ?_)); rintro e w1 ⟨rfl, hb1⟩) | (go_at_call 75; ((with_reducible refine (HM1.out _).mono ?_)); rintro e w2 ⟨rfl, hb2⟩))
          go_ret2
          exact ⟨by rw [← HK.out, HR.out]; rfl, hb1.trans (hb2.mono hb1.size)⟩
  · obtain rfl : n = 1 := by omega
    have HR : Hid (ml = if b1 = true then 1 else 0) := by
      show _ = _
      rw [HML.out, if_neg (by intro e; omega)]
    clear HML h47 hix1 hl
    cases b1 with
    | true =>
      go_enter Tryz.func67, Tryz.ntmps67
      go_wp2_with (first | (go_at_call 62; refine (HS0.out _).mono ?_; rintro e w' ⟨rfl, rfl⟩) | (go_at_call 75; ((with_reducible refine (HM1.out _).mono ?_)); rintro e w2 ⟨rfl, hb2⟩))
      go_ret2
      exact ⟨by rw [← HK.out, HR.out]; rfl, hb2⟩
    | false =>
      go_enter Tryz.func67, Tryz.ntmps67
      go_wp2_with (first | (go_at_call 62; refine (HS0.out _).mono ?_; rintro e w' ⟨rfl, rfl⟩) | (go_at_call 75; ((with_reducible refine (HM1.out _).mono ?_)); rintro e w2 ⟨rfl, hb2⟩))
      go_ret2
      exact ⟨by rw [← HK.out, HR.out]; rfl, hb2⟩

end Go.Proofs.YtoecimgmghlfpaaGreatDoor.Lex

/-
  Layer 4 (lex): the reference's 'one' at remarks.
-/
namespace Go.Proofs.YtoecimgmghlfpaaGreatDoor.Lex
open Go.ChangeShapes Go.WideShapes Go.ChangeAt Go.RowKit Utf MemT
set_option linter.unusedVariables false

def nonl (c : Int) : Bool := c != 10
theorem lineL_is (t : List Int) : lineL t = lead nonl t := rfl
theorem rem_heads : ∀ {t : List Int}, t.take 2 = [47, 47] → 1 < t.length ∧ t.getD 0 0 = 47 ∧ t.getD 1 0 = 47 ∧ 2 ≤ lead nonl t
  | [], h => by simp at h
  | [x], h => by simp at h
  | x :: y :: r, h => by
    simp only [List.take_succ_cons, List.take_zero, List.cons.injEq, and_true] at h
    obtain ⟨rfl, rfl⟩ := h
    refine ⟨by simp, by simp, by simp, ?_⟩
    simp [lead, nonl]
theorem rem_step {t : List Int} {L e : Nat} (hL : lineL t = L) (h1 : t.getD 1 0 = 47) (he : 2 ≤ e) (hl : e ≤ L) (h : ∀ i, e ≤ i → i < L → blk (t.getD i 0) = true) :
    (blk (t.getD (e - 1) 0) = true → 3 ≤ e ∧ ∀ i, e - 1 ≤ i → i < L → blk (t.getD i 0) = true) ∧ (blk (t.getD (e - 1) 0) = false → remL t = e) := by
  have hlen : L ≤ t.length := by rw [← hL]; exact lead_le _ _
  constructor
  · intro hb
    refine ⟨?_, fun i h2 h3 => ?_⟩
    · rcases Nat.lt_or_ge 2 e with h' | h'
      · exact h'
      · obtain rfl : e = 2 := by omega
        rw [show 2 - 1 = 1 from rfl, h1] at hb
        exact absurd hb (by decide)
    · by_cases hi : i = e - 1
      · rw [hi]; exact hb
      · exact h i (by omega) h3
  · intro hb
    unfold remL
    rw [hL]
    have hlt : (t.take L).length = L := by rw [List.length_take]; omega
    refine trimL_is (t.take L) e (by omega) (fun _ => ?_) (fun i h2 h3 => ?_)
    · rw [getD_take (by omega)]; exact hb
    · rw [getD_take (by omega)]; exact h i h2 (by omega)

set_option maxHeartbeats 4000000 in
theorem one_rem (t : List Int) (ht : Byt t) (hn : t.length ≤ 100000000) (hc : t.take 2 = [47, 47]) (w : World) :
    Calls Tryz.prog 67 #[.string (strOfNums t)] w fun e w' => e = .returned (.tuple #[.int .i64 5, .int .i64 (remL t : Int)]) ∧ w = w' := by
  obtain ⟨h1, c0, c1, hl2⟩ := rem_heads hc
  have hix := fun W => one_idx0 ht (by omega) W
  have hix1 : ∀ W : World, (Instr.index 9 (.string (strOfNums t)) (.int .i64 1)).run Tryz.prog W = .ok (.int .u8 (t.getD 1 0)) W := fun W => run_idx_str (P := Tryz.prog) 9 Tryz.underlying9 ht (i := 1) h1 W
  have HIX := one_idx ht
  have hsz : (strOfNums t).size = t.length := strOfNums_size t
  rw [c0] at hix
  rw [c1] at hix1
  have HB : Hid (∀ c W, Calls Tryz.prog 66 #[.int .u8 c] W fun e w' => e = .returned (.bool (blk c)) ∧ W = w') := blank_any
  have HSTEP : Hid (∀ L e, lineL t = L → 2 ≤ e → e ≤ L → (∀ i, e ≤ i → i < L → blk (t.getD i 0) = true) → _) := fun L e a b c d => rem_step a c1 b c d
  have HLS : Hid (∀ k, k ≤ lead nonl t → k < t.length → t.getD k 0 ≠ 10 → k + 1 ≤ lead nonl t) := fun k a b c => lead_step (p := nonl) a b (by unfold nonl; rw [bne_iff_ne]; exact c)
  have HLA : Hid (∀ k, k ≤ lead nonl t → t.getD k 0 = 10 → lineL t = k) := fun k a c => lead_at (p := nonl) a (by unfold nonl; rw [c]; rfl)
  have HLE : Hid (∀ k, k ≤ lead nonl t → t.length ≤ k → lineL t = k) := fun k a c => lead_end (p := nonl) a c
  have HL2 := Lib.hid hl2
  have HREM : Hid (∀ k, lineL t = k → k ≤ t.length) := fun k a => by rw [← a]; exact lead_le _ _
  obtain ⟨n, hnn⟩ : ∃ n, t.length = n := ⟨_, rfl⟩
  rw [hnn] at HIX hsz h1 hn HLS HLE HREM
  obtain ⟨s, hs⟩ : ∃ s, strOfNums t = s := ⟨_, rfl⟩
  rw [hs] at HIX hsz hix hix1 ⊢
  have h1' : (1 : Int) < (n : Int) := by omega
  generalize remL t = R at *
  clear hs hnn ht hc c0 c1 hl2
  go_enter Tryz.func67, Tryz.ntmps67
  go_wp2
  go_loop [4] (fun i => ∃ k : Nat, 2 ≤ k ∧ k ≤ n ∧ i = .int .i64 k ∧ Hid (k ≤ lead nonl t)) (fun i => n - (intOf i).toNat)
  case atStart => exact ⟨2, by omega, by omega, rfl, HL2.out⟩
  case round =>
    obtain ⟨k, hk1, hk, rfl, hle⟩ := hrel
    have hq : (k < n ∧ t.getD k 0 ≠ 10) ∨ (k < n ∧ t.getD k 0 = 10) ∨ ¬ k < n := by omega
    rcases hq with ⟨hlt, hd⟩ | ⟨hlt, hd⟩ | hlt
    · have hxi := HIX.out k hlt
      have HX := Lib.hid (HLS.out k hle.out hlt hd)
      have nd : (t.getD k 0 != 10) = true := by rw [bne_iff_ne]; exact hd
      have hlt' : (k : Int) < n := by omega
      clear hix hix1 hle
      generalize t.getD k 0 = c at *
      clear hd
      go_wp2
      go_round
      case rel => exact ⟨k + 1, by omega, by omega, by go_num, HX.out⟩
      case measure => simp [intOf]; omega
    case' inr.inl =>
      have hxi := HIX.out k hlt
      rw [hd] at hxi
      have hlk := HLA.out k hle.out hd
      have hlt' : (k : Int) < n := by omega
    case' inr.inr =>
      have hlk := HLE.out k hle.out (by omega)
      have hlt' : ¬ (k : Int) < n := by omega
    all_goals
      have HK := Lib.hid hlk
      clear hix hix1 hle hlk
      go_wp2
      go_loop [4] (fun i => ∃ e : Nat, 2 ≤ e ∧ e ≤ k ∧ i = .int .i64 e ∧ Hid (∀ i, e ≤ i → i < k → blk (t.getD i 0) = true)) (fun i => (intOf i).toNat)
      case atStart => exact ⟨k, by omega, by omega, rfl, fun i a b => absurd a (by omega)⟩
      case round =>
        obtain ⟨e, he1, he, rfl, hall⟩ := hrel
        obtain ⟨A1, A2⟩ := HSTEP.out k e HK.out he1 he hall.out
        obtain ⟨f, rfl⟩ : ∃ f, e = f + 1 := ⟨e - 1, by omega⟩
        rw [show f + 1 - 1 = f from rfl] at A1 A2
        have hxf := HIX.out f (by omega)
        have HC := Lib.hid (HB.out (t.getD f 0) w)
        have HA1 := Lib.hid A1; have HA2 := Lib.hid A2
        clear A1 A2 hall
        obtain ⟨b, hb⟩ : ∃ b, blk (t.getD f 0) = b := ⟨_, rfl⟩
        rw [hb] at HC HA1 HA2
        clear hb
        generalize t.getD f 0 = c at *
        cases b with
        | true =>
          obtain ⟨q1, q2⟩ := HA1.out rfl
          have HQ := Lib.hid q2
          clear HA1 HA2 q2
          go_wp2_with (first | (go_at_call 66; refine HC.out.mono ?_; rintro e w' ⟨rfl, rfl⟩))
          go_round
          case rel => exact ⟨f, by omega, by omega, by go_num, HQ.out⟩
          case measure => simp [intOf]
        | false =>
          have HR := Lib.hid (HA2.out rfl)
          clear HA1 HA2
          go_wp2_with (first | (go_at_call 66; refine HC.out.mono ?_; rintro e w' ⟨rfl, rfl⟩))
          go_ret2
          exact ⟨by rw [HR.out]; rfl, rfl⟩

end Go.Proofs.YtoecimgmghlfpaaGreatDoor.Lex

/-
  Layer 4 (lex): the reference's 'one' at every text that begins with neither a blank nor a newline.
-/
namespace Go.Proofs.YtoecimgmghlfpaaGreatDoor.Lex
open Go.ChangeShapes Go.WideShapes Go.ChangeAt Go.RowKit Utf MemT
set_option linter.unusedVariables false

theorem below_same {w w' : World} (h : w = w') : Below w.heap.size w w' := h ▸ Below.refl _ _

theorem one_any : ∀ (t : List Int) (ht : Byt t) (h0 : 0 < t.length) (hn : t.length ≤ 100000000) (h7 : blk (t.getD 0 0) = false) (h8 : t.getD 0 0 ≠ 10) (K : Int) (hK : (if (piece t).2 = 0 then 0 else (piece t).1) = K) (w : World),
    Calls Tryz.prog 67 #[.string (strOfNums t)] w fun e w' => e = .returned (.tuple #[.int .i64 K, .int .i64 ((piece t).2 : Int)]) ∧ Below w.heap.size w w'
  | [], _, h0, _, _, _, _, _, _ => absurd h0 (by simp)
  | c :: r, ht, h0, hn, h7, h8, K, hK, w => by
    have hg : (c :: r).getD 0 0 = c := rfl
    rw [hg] at h7 h8
    have a7 : kd c ≠ 7 := fun e => by
      unfold blk at h7; rw [e] at h7; cases h7
    have a8 : kd c ≠ 8 := fun e => h8 (kd_nl.1 e)
    rw [piece_cons] at hK ⊢
    by_cases k1 : kd c = 1
    · rw [if_pos k1] at hK ⊢
      have hw : wordL (c :: r) ≠ 0 := by
        have : 1 ≤ lead lord (c :: r) := lead_step (Nat.zero_le _) h0 (by rw [hg]; unfold lord; rw [k1]; rfl)
        unfold wordL; omega
      have hK' : 1 = K := by rw [← hK]; exact (if_neg hw).symm
      subst hK'
      exact (one_let (c :: r) ht h0 hn k1 w).mono fun e w' h => ⟨h.1, below_same h.2⟩
    rw [if_neg k1] at hK ⊢
    by_cases k2 : kd c = 2
    · rw [if_pos k2] at hK ⊢
      exact (one_dig (c :: r) ht h0 hn k2 K hK w).mono fun e w' h => ⟨h.1, below_same h.2⟩
    rw [if_neg k2] at hK ⊢
    by_cases k3 : kd c = 3
    · rw [if_pos k3] at hK ⊢
      exact (one_quo (c :: r) ht h0 hn (kd_quo.1 k3) K hK w).mono fun e w' h => ⟨h.1, below_same h.2⟩
    rw [if_neg k3] at hK ⊢
    by_cases k4 : kd c = 4
    · rw [if_pos k4] at hK ⊢
      by_cases hr : (c :: r).take 2 = [47, 47]
      · rw [if_pos hr] at hK ⊢
        have hl : remL (c :: r) ≠ 0 := by
          intro e
          have h2 := rem_heads hr
          have hle : 2 ≤ lineL (c :: r) := h2.2.2.2
          have hb := trimL_blk ((c :: r).take (lineL (c :: r))) 0 (by unfold remL at e; omega) (by rw [List.length_take]; have := h2.1; omega)
          rw [getD_take (by omega), h2.2.1] at hb
          exact absurd hb (by decide)
        have hK' : 5 = K := by rw [← hK]; exact (if_neg hl).symm
        subst hK'
        exact (one_rem (c :: r) ht hn hr w).mono fun e w' h => ⟨h.1, below_same h.2⟩
      · rw [if_neg hr] at hK ⊢
        exact one_mark (c :: r) ht h0 hn k4 hr K hK w
    rw [if_neg k4] at hK ⊢
    have k6 : kd c = 6 := by have := kd_cases c; omega
    have hK' : 6 = K := by rw [← hK, k6]; rfl
    subst hK'
    exact (one_semi (c :: r) ht h0 (kd_semi.1 k6) w).mono fun e w' h => ⟨h.1, below_same h.2⟩

end Go.Proofs.YtoecimgmghlfpaaGreatDoor.Lex

/-
  Plain mathematics of layer 4 (lex): the document's way, step by step: first all tokens with their lines, then the ends. Nothing of the program is imported.
-/
namespace Go.Proofs.YtoecimgmghlfpaaGreatDoor.Lex

/-- Does a line begin, by the lines of the tokens that stand already? -/
def begins (P : List (Tok × Nat)) (ln : Nat) : Bool :=
  match P.getLast? with
  | none => true
  | some x => decide (x.2 < ln)
theorem begins_nil (ln : Nat) : begins [] ln = true := rfl
theorem begins_snoc (P : List (Tok × Nat)) (x : Tok × Nat) (ln : Nat) : begins (P ++ [x]) ln = decide (x.2 < ln) := by
  simp [begins]
theorem begins_at {P : List (Tok × Nat)} {ln m : Nat} (h : P.length = m + 1) : begins P ln = decide (((P.getD m (⟨0, [], 0, false⟩, 0)).2 : Nat) < ln) := by
  unfold begins
  rw [List.getLast?_eq_getElem?, show P.length - 1 = m from by omega]
  simp [List.getD, List.getElem?_eq_getElem (show m < P.length by omega)]

/-- Half-way: P is what stands, ln the line. -/
def Mid (xs : List Int) (n k : Nat) (P : List (Tok × Nat)) (ln : Nat) : Prop :=
  (∃ fl, n - k ≤ fl ∧ P ++ plain (pcs fl (xs.drop k)).1 k ln (begins P ln) = plain (pieces xs) 0 0 true ∧ (pcs fl (xs.drop k)).2 = left xs) ∧ P.length ≤ k ∧ ln ≤ k ∧ (∀ x ∈ P, x.2 ≤ ln) ∧ xs.length = n

theorem mid_start {xs : List Int} {n : Nat} (hn : xs.length = n) : Mid xs n 0 [] 0 :=
  ⟨⟨xs.length, by omega, by rw [List.drop_zero]; rfl, by rw [List.drop_zero]; rfl⟩, Nat.le_refl _, Nat.le_refl _, (fun x h => by cases h), hn⟩

theorem mid_more {xs : List Int} {n k : Nat} {P : List (Tok × Nat)} {ln : Nat} (h : Mid xs n k P ln) (hk : k < n) {K : Int} {m : Nat} (hp : piece (xs.drop k) = (K, m)) (hm : m ≠ 0) :
    k + m ≤ n ∧ ((xs.drop k).take m).length = m ∧ ∃ fl, n - (k + m) ≤ fl ∧ P ++ plain ((K, (xs.drop k).take m) :: (pcs fl (xs.drop (k + m))).1) k ln (begins P ln) = plain (pieces xs) 0 0 true ∧ (pcs fl (xs.drop (k + m))).2 = left xs := by
  obtain ⟨⟨fl, h1, h2, h3⟩, _, _, _, hn⟩ := h
  have hle := piece_le (xs.drop k)
  rw [hp, List.length_drop, hn] at hle
  have hle' : m ≤ n - k := hle
  refine ⟨by omega, by rw [List.length_take, List.length_drop]; omega, ?_⟩
  obtain ⟨f, rfl⟩ : ∃ f, fl = f + 1 := ⟨fl - 1, by omega⟩
  have e : pcs (f + 1) (xs.drop k) = ((K, (xs.drop k).take m) :: (pcs f (xs.drop (k + m))).1, (pcs f (xs.drop (k + m))).2) := by
    conv => lhs; unfold pcs
    rw [hp, if_neg (by exact hm)]
    simp only [List.drop_drop]
  rw [e] at h2 h3
  exact ⟨f, by omega, h2, h3⟩

theorem mid_head {xs : List Int} {k : Nat} (hk : k < xs.length) : xs.drop k = xs.getD k 0 :: xs.drop (k + 1) := by
  rw [List.drop_eq_getElem_cons hk]; simp [List.getD, List.getElem?_eq_getElem hk]

theorem mid_nl {xs : List Int} {n k : Nat} {P : List (Tok × Nat)} {ln : Nat} (h : Mid xs n k P ln) (hk : k < n) (hd : xs.getD k 0 = 10) : Mid xs n (k + 1) P (ln + 1) := by
  have hn := h.2.2.2.2
  have hp : piece (xs.drop k) = (8, 1) := by rw [mid_head (by omega), hd, nl_piece]
  obtain ⟨_, hl, fl, h1, h2, h3⟩ := mid_more h hk hp (by omega)
  have hb : begins P (ln + 1) = true := by
    rcases List.eq_nil_or_concat P with rfl | ⟨Q, x, rfl⟩
    · rfl
    · rw [List.concat_eq_append, begins_snoc]
      have := h.2.2.2.1 x (by simp)
      simp; omega
  refine ⟨⟨fl, h1, ?_, h3⟩, by have := h.2.1; omega, by have := h.2.2.1; omega, fun x hx => by have := h.2.2.2.1 x hx; omega, hn⟩
  rw [hb]
  simpa [plain, hl] using h2

theorem mid_blk {xs : List Int} {n k : Nat} {P : List (Tok × Nat)} {ln : Nat} (h : Mid xs n k P ln) (hk : k < n) (hd : blk (xs.getD k 0) = true) : Mid xs n (k + 1) P ln := by
  have hn := h.2.2.2.2
  have hp : piece (xs.drop k) = (7, 1) := by rw [mid_head (by omega), blank_piece _ hd]
  obtain ⟨_, hl, fl, h1, h2, h3⟩ := mid_more h hk hp (by omega)
  refine ⟨⟨fl, h1, ?_, h3⟩, by have := h.2.1; omega, by have := h.2.2.1; omega, h.2.2.2.1, hn⟩
  simpa [plain, hl] using h2

theorem head_kind {xs : List Int} {k : Nat} (hk : k < xs.length) (h7 : blk (xs.getD k 0) = false) (h8 : xs.getD k 0 ≠ 10) : (piece (xs.drop k)).1 ≠ 7 ∧ (piece (xs.drop k)).1 ≠ 8 := by
  rw [mid_head hk, piece_cons]
  have a7 : kd (xs.getD k 0) ≠ 7 := fun e => by
    unfold blk at h7; rw [e] at h7; cases h7
  have a8 : kd (xs.getD k 0) ≠ 8 := fun e => h8 (kd_nl.1 e)
  repeat' split
  all_goals first
    | exact ⟨a7, a8⟩
    | exact ⟨by simp, by simp⟩

theorem mid_tok {xs : List Int} {n k : Nat} {P : List (Tok × Nat)} {ln : Nat} (h : Mid xs n k P ln) (hk : k < n) (h7 : blk (xs.getD k 0) = false) (h8 : xs.getD k 0 ≠ 10) {K : Int} {m : Nat} (hp : piece (xs.drop k) = (K, m)) (hm : m ≠ 0) :
    k + m ≤ n ∧ Mid xs n (k + m) (P ++ [(⟨K, (xs.drop k).take m, k, begins P ln⟩, ln)]) ln := by
  have hn := h.2.2.2.2
  have hK := head_kind (xs := xs) (k := k) (by omega) h7 h8
  rw [hp] at hK
  obtain ⟨hkm, hl, fl, h1, h2, h3⟩ := mid_more h hk hp hm
  refine ⟨hkm, ⟨fl, h1, ?_, h3⟩, by have := h.2.1; simp; omega, by have := h.2.2.1; omega, fun x hx => ?_, hn⟩
  · rw [begins_snoc, show decide (ln < ln) = false from by simp]
    have e8 : K ≠ 8 := hK.2
    have e7 : K ≠ 7 := hK.1
    simpa [plain, hl, e8, e7] using h2
  · rcases List.mem_append.1 hx with hx | hx
    · exact h.2.2.2.1 x hx
    · simp at hx; subst hx; exact Nat.le_refl _

theorem mid_stop {xs : List Int} {n k : Nat} {P : List (Tok × Nat)} {ln : Nat} (h : Mid xs n k P ln) (hk : k < n) (hp : (piece (xs.drop k)).2 = 0) : left xs ≠ [] ∧ n - (left xs).length = k := by
  obtain ⟨⟨fl, h1, h2, h3⟩, _, _, _, hn⟩ := h
  obtain ⟨f, rfl⟩ : ∃ f, fl = f + 1 := ⟨fl - 1, by omega⟩
  have e : pcs (f + 1) (xs.drop k) = ([], xs.drop k) := by
    unfold pcs; rw [if_pos hp]
  rw [e] at h3
  have hl : (left xs).length = n - k := by rw [← h3]; simp [hn]
  exact ⟨fun e => by rw [e] at hl; simp at hl; omega, by omega⟩

theorem pcs_nil : ∀ f, pcs f [] = ([], [])
  | 0 => rfl
  | _ + 1 => rfl
theorem mid_end {xs : List Int} {n k : Nat} {P : List (Tok × Nat)} {ln : Nat} (h : Mid xs n k P ln) (hk : n ≤ k) : left xs = [] ∧ P = plain (pieces xs) 0 0 true := by
  obtain ⟨⟨fl, h1, h2, h3⟩, _, _, _, hn⟩ := h
  rw [List.drop_eq_nil_of_le (by omega), pcs_nil] at h2 h3
  exact ⟨h3.symm, by simpa [plain] using h2⟩

/-- The texts and places of what stands. -/
theorem plain_part : ∀ (ps : List (Int × List Int)) (n ln : Nat) (f : Bool) (x : Tok × Nat), x ∈ plain ps n ln f → x.1.place + x.1.text.length ≤ n + (cat ps).length ∧ ∀ y ∈ x.1.text, y ∈ cat ps
  | [], _, _, _, _, h => by cases h
  | (k, t) :: ps, n, ln, f, x, h => by
    have key : ∀ (ln' : Nat) (f' : Bool), x ∈ plain ps (n + t.length) ln' f' → x.1.place + x.1.text.length ≤ n + (cat ((k, t) :: ps)).length ∧ ∀ y ∈ x.1.text, y ∈ cat ((k, t) :: ps) := fun ln' f' hx => by
      have := plain_part ps _ _ _ x hx
      refine ⟨by simp only [cat, List.length_append]; omega, fun y hy => ?_⟩
      simp only [cat, List.mem_append]
      exact .inr (this.2 y hy)
    unfold plain at h
    split at h
    · exact key _ _ h
    split at h
    · exact key _ _ h
    · rcases List.mem_cons.1 h with h | h
      · subst h
        refine ⟨by simp only [cat, List.length_append]; omega, fun y hy => ?_⟩
        simp only [cat, List.mem_append]
        exact .inl hy
      · exact key _ _ h

/-! ### The second walk: the ends -/
def OutAt (P : List (Tok × Nat)) (i : Nat) (out : List Tok) : Prop := out ++ outL (P.drop i) = outL P ∧ out.length ≤ 2 * i
theorem out_start (P : List (Tok × Nat)) : OutAt P 0 [] := ⟨by simp, Nat.le_refl _⟩
theorem out_end {P : List (Tok × Nat)} {i : Nat} {out : List Tok} (h : OutAt P i out) (hi : P.length ≤ i) : out = outL P := by
  have := h.1
  rw [List.drop_eq_nil_of_le hi] at this
  simpa [outL] using this
theorem out_step {P : List (Tok × Nat)} {i : Nat} {out : List Tok} (h : OutAt P i out) {t : Tok} {ln : Nat} (hx : P[i]? = some (t, ln)) :
    (overL ln (P.drop (i + 1)) = true → closes t.kind t.text = true → OutAt P (i + 1) (out ++ [t] ++ [⟨6, [], t.place + t.text.length, false⟩])) ∧
    ((overL ln (P.drop (i + 1)) = false ∨ closes t.kind t.text = false) → OutAt P (i + 1) (out ++ [t])) := by
  have hi : i < P.length := by
    rcases Nat.lt_or_ge i P.length with h' | h'
    · exact h'
    · rw [List.getElem?_eq_none h'] at hx; cases hx
  have he : P[i] = (t, ln) := by rw [List.getElem?_eq_getElem hi] at hx; exact Option.some.inj hx
  have hd : P.drop i = (t, ln) :: P.drop (i + 1) := by rw [List.drop_eq_getElem_cons hi, he]
  obtain ⟨h1, h2⟩ := h
  rw [hd] at h1
  refine ⟨fun a b => ⟨?_, by simp; omega⟩, fun a => ⟨?_, by simp; omega⟩⟩
  · rw [← h1]; simp [outL, a, b]
  · rw [← h1]
    rcases a with a | a <;> simp [outL, a]
/-- Inside: the remarks of the line are passed by. -/
theorem over_step {P : List (Tok × Nat)} {ln j : Nat} {b : Bool} (h : overL ln (P.drop j) = b) {u : Tok} {m : Nat} (hx : P[j]? = some (u, m)) :
    (u.kind = 5 → m = ln → overL ln (P.drop (j + 1)) = b) ∧ ((u.kind ≠ 5 ∨ m ≠ ln) → b = decide (ln < m)) := by
  have hj : j < P.length := by
    rcases Nat.lt_or_ge j P.length with h' | h'
    · exact h'
    · rw [List.getElem?_eq_none h'] at hx; cases hx
  have he : P[j] = (u, m) := by rw [List.getElem?_eq_getElem hj] at hx; exact Option.some.inj hx
  have hd : P.drop j = (u, m) :: P.drop (j + 1) := by rw [List.drop_eq_getElem_cons hj, he]
  rw [hd] at h
  unfold overL at h
  refine ⟨fun a c => ?_, fun a => ?_⟩
  · rw [if_pos ⟨a, c⟩] at h; exact h
  · rw [if_neg (by intro ⟨c, d⟩; rcases a with a | a <;> contradiction)] at h; exact h.symm
theorem over_end {P : List (Tok × Nat)} {ln j : Nat} {b : Bool} (h : overL ln (P.drop j) = b) (hj : P.length ≤ j) : b = true := by
  rw [List.drop_eq_nil_of_le hj] at h; exact h.symm

/-- How the inner walk may stand. -/
theorem over_cases {P : List (Tok × Nat)} {l0 j m : Nat} {ov : Bool} (hm : P.length = m) (h : overL l0 (P.drop j) = ov) :
    (∃ u l, j < m ∧ P[j]? = some (u, l) ∧ u.kind = 5 ∧ l = l0) ∨
    (ov = true ∧ ((∃ u l, j < m ∧ P[j]? = some (u, l) ∧ u.kind = 5 ∧ l ≠ l0 ∧ l0 < l) ∨ (∃ u l, j < m ∧ P[j]? = some (u, l) ∧ u.kind ≠ 5 ∧ l0 < l) ∨ m ≤ j)) ∨
    (ov = false ∧ ((∃ u l, j < m ∧ P[j]? = some (u, l) ∧ u.kind = 5 ∧ l ≠ l0 ∧ l ≤ l0) ∨ (∃ u l, j < m ∧ P[j]? = some (u, l) ∧ u.kind ≠ 5 ∧ l ≤ l0))) := by
  rcases Nat.lt_or_ge j m with hj | hj
  · have hjP : j < P.length := by omega
    obtain ⟨u, l, hx⟩ : ∃ u l, P[j]? = some (u, l) := ⟨P[j].1, P[j].2, List.getElem?_eq_getElem hjP⟩
    obtain ⟨s1, s2⟩ := over_step h hx
    by_cases h5 : u.kind = 5
    · by_cases hl : l = l0
      · exact .inl ⟨u, l, hj, hx, h5, hl⟩
      · have hb := s2 (.inr hl)
        by_cases hlt : l0 < l
        · exact .inr (.inl ⟨by rw [hb]; simp [hlt], .inl ⟨u, l, hj, hx, h5, hl, hlt⟩⟩)
        · exact .inr (.inr ⟨by rw [hb]; simp [hlt], .inl ⟨u, l, hj, hx, h5, hl, by omega⟩⟩)
    · have hb := s2 (.inl h5)
      by_cases hlt : l0 < l
      · exact .inr (.inl ⟨by rw [hb]; simp [hlt], .inr (.inl ⟨u, l, hj, hx, h5, hlt⟩)⟩)
      · exact .inr (.inr ⟨by rw [hb]; simp [hlt], .inr ⟨u, l, hj, hx, h5, by omega⟩⟩)
  · exact .inr (.inl ⟨over_end h (by omega), .inr (.inr hj)⟩)

end Go.Proofs.YtoecimgmghlfpaaGreatDoor.Lex

/-
  Layer 4 (lex): the document's Tokens, at every slice of bytes up to a hundred thousand.
-/
namespace Go.Proofs.YtoecimgmghlfpaaGreatDoor.Lex
open Go.ChangeShapes Go.WideShapes Go.ChangeAt Go.RowKit Utf MemT
set_option linter.unusedVariables false

theorem tokR_info : (Tryz.prog.info? 63).map (fun i => (i.zero, i.size, i.bytes)) = some (some (.agg #[.int .i64 0, .string ⟨#[]⟩, .int .i64 0, .bool false]), 4, 40) := by kernel_rfl

/-- Rows of the call's own: of the document's tokens, of integers. -/
def OwnR (w : World) (base : Nat) (v : Value) (L : List Tok) : Prop := w.ownsRow base 63 4 v L.length (L.flatMap tokC)
def OwnI (w : World) (base : Nat) (v : Value) (ks : List Int) : Prop := w.ownsRow base 3 1 v ks.length (ks.map (Value.int .i64))
theorem ownR_slice {w : World} {base : Nat} {v : Value} {L : List Tok} (h : OwnR w base v L) : ∃ a cap, v = .slice a L.length cap ∧ L.length ≤ cap ∧ cap ≤ maxLen := own_slice h
theorem ownI_slice {w : World} {base : Nat} {v : Value} {L : List Int} (h : OwnI w base v L) : ∃ a cap, v = .slice a L.length cap ∧ L.length ≤ cap ∧ cap ≤ maxLen := own_slice h
theorem ownR_base {w : World} {base base' : Nat} {v : Value} {L : List Tok} (h : OwnR w base v L) (hb : base' ≤ base) : OwnR w base' v L :=
  ⟨h.1, by
    rcases h.2 with h' | ⟨g, cap, cur, a, b, c⟩
    · exact .inl h'
    · exact .inr ⟨g, cap, cur, a, by omega, c⟩⟩

theorem app_tokR (w : World) {ops : Array Oper} {rest : List Oper} {o : Oper} {a : Act} {Q : Exit → Act → World → Prop} (hgd : o.guard = none) (s x : Operand)
    (ho : o.op = .call { callee := .builtin .append, args := #[s, x], argTypes := #[58, 58] }) (base : Nat) (v u : Value) (L : List Tok) (I : List Int) (t : Tok) (hs : a.eval s = v) (hown : OwnR w base v L) (hother : OwnI w base u I)
    (g : Nat) (hg : g = w.heap.size) (hx : a.eval x = .slice (some ⟨g, 0, none⟩) 1 1) (h63 : L.length ≤ 10000000) (hbase : base ≤ w.heap.size)
    (h : ∀ v' w', OwnR w' base v' (L ++ [t]) → OwnI w' base u I → Below base w w' → wpList Tryz.prog ops Q rest (a.put o.dst v') w') :
    wpList Tryz.prog ops Q (o :: rest) a (w.alloc (.cells (tokC t).toArray 63)) := by
  obtain ⟨i0, hi0, hz0, hz1, hz2⟩ := info_parts tokR_info
  refine app_cells w hgd s x ho Tryz.underlying58 hi0 hz0 hz1 hz2 rfl (by decide) base v L.length _ (tokC t) hs hown rfl (by intro u hu; simp [tokC] at hu; rcases hu with rfl | rfl | rfl | rfl <;> rfl) g hg hx h63 (by omega) hbase fun v' w' h1 h2 h3 h4 => ?_
  exact h v' w' (by unfold OwnR; rw [List.length_append, List.flatMap_append]; simpa using h1) ((hother.alloc _).kept h2 (own_apart hother hown (by decide))) (h3 base (fun b hb => (hown.lt b hb).1) hbase)

theorem app_intR (w : World) {ops : Array Oper} {rest : List Oper} {o : Oper} {a : Act} {Q : Exit → Act → World → Prop} (hgd : o.guard = none) (s x : Operand)
    (ho : o.op = .call { callee := .builtin .append, args := #[s, x], argTypes := #[72, 72] }) (base : Nat) (v u : Value) (L : List Tok) (I : List Int) (k : Int) (hs : a.eval s = v) (hown : OwnI w base v I) (hother : OwnR w base u L)
    (g : Nat) (hg : g = w.heap.size) (hx : a.eval x = .slice (some ⟨g, 0, none⟩) 1 1) (h63 : I.length ≤ 10000000) (hbase : base ≤ w.heap.size)
    (h : ∀ v' w', OwnI w' base v' (I ++ [k]) → OwnR w' base u L → Below base w w' → wpList Tryz.prog ops Q rest (a.put o.dst v') w') :
    wpList Tryz.prog ops Q (o :: rest) a (w.alloc (.cells #[.int .i64 k] 3)) := by
  obtain ⟨i0, hi0, hz0, hz1, hz2⟩ := info_parts int_info
  refine app_cells w hgd s x ho Tryz.underlying72 hi0 hz0 hz1 hz2 rfl (by decide) base v I.length _ [.int .i64 k] hs hown rfl (by intro u hu; simp at hu; subst hu; rfl) g hg hx h63 (by omega) hbase fun v' w' h1 h2 h3 h4 => ?_
  exact h v' w' (by unfold OwnI; rw [List.length_append, List.map_append]; simpa using h1) ((hother.alloc _).kept h2 (own_apart hother hown (by decide))) (h3 base (fun b hb => (hown.lt b hb).1) hbase)

/-- A new token's cells. -/
theorem tok_new (w : World) (t : Tok) : ∀ j u, (tokC t)[j]? = some u → ((w.alloc (.cells (tokC t).toArray 63)).drew).cell? ⟨w.heap.size, j, none⟩ = some u := fun j u hj => by
  have : (w.alloc (.cells (tokC t).toArray 63)).cell? ⟨w.heap.size, j, none⟩ = some u := by
    rw [World.cell?_alloc_at _ _ _ _ rfl]; simpa using hj
  exact this
/-- append of one token, as a step of a region that draws its order. -/
theorem step_app_tokR {ops : Array Oper} {o : Oper} {a : Act} {w : World} {K : Act → World → Prop} {Q : Exit → Act → World → Prop} {R : Prop} (hgd : o.guard = none) (s x : Operand)
    (ho : o.op = .call { callee := .builtin .append, args := #[s, x], argTypes := #[58, 58] }) (base : Nat) (v : Value) (L : List Tok) (t : Tok) (hs : a.eval s = v) (hown : OwnR w base v L)
    (g : Nat) (hx : a.eval x = .slice (some ⟨g, 0, none⟩) 1 1) (hcell : ∀ j u, (tokC t)[j]? = some u → w.cell? ⟨g, j, none⟩ = some u) (h63 : L.length ≤ 10000000) (hbase : base ≤ w.heap.size)
    (hK : ∀ v' w', OwnR w' base v' (L ++ [t]) → (∀ w0, Below base w0 w → Below base w0 w') → K (a.put o.dst v') w') :
    if Region.wanted o (yielded ops a.tmps) = true then Oper.wp Tryz.prog o a w K Q else R := by
  have hw : Region.wanted o (yielded ops a.tmps) = true := by simp [Region.wanted, hgd]
  rw [if_pos hw]
  obtain ⟨i0, hi0, hz0, hz1, hz2⟩ := info_parts tokR_info
  have hmul : (L.length + 1) * 40 ≤ 10000001 * 40 := Nat.mul_le_mul (by omega) (Nat.le_refl _)
  obtain ⟨v', w', hrun, h1, h2, h3⟩ := run_append_own_at (P := Tryz.prog) w base 58 o.type 63 i0 _ 4 40 Tryz.underlying58 hi0 hz0 hz1 hz2 rfl (by decide) v L.length _ hown ⟨g, 0, none⟩ 1 1 (tokC t) rfl (fun j u hj => by
    have e2 : (⟨g, 0, none⟩ : Addr).add j = ⟨g, j, none⟩ := by unfold Addr.add; split <;> simp_all
    rw [e2]; exact hcell j u hj) (by intro u hu; simp [tokC] at hu; rcases hu with rfl | rfl | rfl | rfl <;> rfl) (by unfold maxLen; omega) (by omega) hbase
  unfold Oper.wp
  simp [execOp, ho, resolve, invoke, builtin, hs, hx, hrun, Result.andThen]
  exact hK v' w' (by unfold OwnR; rw [List.length_append, List.flatMap_append]; simpa using h1) (fun w0 hb => hb.grown h2 hbase (fun q hq => (hown.lt q hq).1))

/-- What Tokens leaves. -/
def RefTPost (xs : List Int) (w : World) (e : Ending) (w' : World) : Prop :=
  ∃ v, e = .returned (.tuple #[v, .int .i64 (lexN xs : Int), .int .i64 (lexE xs)]) ∧ OwnR w' w.heap.size v (lexT xs) ∧ Below w.heap.size w w'
theorem refT_post {xs : List Int} {w w' : World} {v : Value} {nn : Int} {ee : Int} (h1 : nn = (lexN xs : Int)) (h2 : ee = lexE xs) (h3 : OwnR w' w.heap.size v (lexT xs)) (h4 : Below w.heap.size w w') :
    RefTPost xs w (.returned (.tuple #[v, .int .i64 nn, .int .i64 ee])) w' := ⟨v, by rw [h1, h2], h3, h4⟩

theorem ext_drop (xs : List Int) (hb : Byt xs) (a b : Nat) : (strOfNums xs).extract a b = strOfNums ((xs.drop a).take (b - a)) := by
  have : (strOfNums xs).extract a b = strOfNums (((nums (strOfNums xs)).drop a).take (b - a)) := by
    rw [← str_nums ((strOfNums xs).extract a b)]
    congr 1
    simp [nums, List.map_take, List.map_drop]
  rw [this, strOfNums_inj (nums_byt _) hb (str_nums _)]

/-- What the first walk holds. -/
def FI (wr : World) (B : Nat) (v8 v9 : Value) (P : List (Tok × Nat)) : Prop := OwnR wr B v8 (P.map (·.1)) ∧ OwnI wr B v9 (P.map fun x => (x.2 : Int))

end Go.Proofs.YtoecimgmghlfpaaGreatDoor.Lex

/-
  Layer 4 (lex): the walk of the document's Tokens.
-/
namespace Go.Proofs.YtoecimgmghlfpaaGreatDoor.Lex
open Go.ChangeShapes Go.WideShapes Go.ChangeAt Go.RowKit Utf MemT
set_option linter.unusedVariables false

set_option maxRecDepth 100000 in
set_option maxHeartbeats 8000000 in
theorem refTokens_any (A : Option Addr) (n cap : Nat) (xs : List Int) (w : World) (B : Nat) (h : RB w B A xs) (hB : B ≤ w.heap.size) (hn : xs.length = n) (hcap : n ≤ cap) (hcap' : cap ≤ maxLen) (hsm : n ≤ 100000) :
    Calls Tryz.prog 49 #[.slice A n cap] w (RefTPost xs w) := by
  have hble : bad xs ≤ n := by rw [← hn]; exact bad_le h.byt
  have hsg := refSigns_any A n cap xs w B h hn hB hcap hcap' (by omega)
  have hE : lexE xs = if bad xs < n then 3 else if left xs = [] then 0 else 4 := by rw [← hn]; rfl
  have hN : lexN xs = if bad xs < n then bad xs else if left xs = [] then 0 else n - (left xs).length := by rw [← hn]; rfl
  have hLT : lexT xs = if lexE xs = 0 then toks xs else [] := rfl
  have hnn : ¬ (16777216 : Int) < (n : Int) := by omega
  by_cases hb : bad xs < n
  · rw [if_pos hb] at hE hN
    have HS : Hid (Calls Tryz.prog 65 #[.slice A n cap] w fun e w' => e = .returned (.tuple #[.slice none 0 0, .int .i64 (bad xs : Int)]) ∧ Below w.heap.size w w') := hsg.mono fun e w' hp => by
      rcases hp.2 with ⟨_, he⟩ | ⟨he, _⟩
      · exact ⟨he, hp.1⟩
      · omega
    have HF : Hid (∀ w', Below w.heap.size w w' → RefTPost xs w (.returned (.tuple #[.slice none 0 0, .int .i64 (bad xs : Int), .int .i64 3])) w') := fun w' hw => refT_post (by rw [hN]) (by rw [hE]) (by rw [hLT, hE]; exact World.ownsRow_nil _ _ _ _) hw
    clear hE hN hLT hsg hble h hn
    generalize bad xs = p at *
    have hpb : (p : Int) < (n : Int) := by omega
    go_enter Tryz.func49, Tryz.ntmps49
    go_wp2_with (go_at_call 65; refine HS.out.mono ?_; rintro e w' ⟨rfl, hbl⟩)
    go_ret3
    exact HF.out _ hbl
  · rw [if_neg hb] at hE hN
    have HS : Hid (Calls Tryz.prog 65 #[.slice A n cap] w fun e w' => ∃ v, e = .returned (.tuple #[v, .int .i64 (n : Int)]) ∧ Below w.heap.size w w') := hsg.mono fun e w' hp => by
      rcases hp.2 with ⟨he, _⟩ | ⟨_, v, he, _⟩
      · omega
      · exact ⟨v, by rw [he, show bad xs = n from by omega], hp.1⟩
    have HF0 : Hid (∀ v w', left xs = [] → OwnR w' w.heap.size v (toks xs) → Below w.heap.size w w' → RefTPost xs w (.returned (.tuple #[v, .int .i64 0, .int .i64 0])) w') := fun v w' hl h1 h2 => by
      rw [if_pos hl] at hE hN
      exact refT_post (by rw [hN]; rfl) hE.symm (by rw [hLT, hE]; exact h1) h2
    have HF4 : Hid (∀ (k : Nat) w', left xs ≠ [] ∧ n - (left xs).length = k → Below w.heap.size w w' → RefTPost xs w (.returned (.tuple #[.slice none 0 0, .int .i64 (k : Int), .int .i64 4])) w') := fun k w' hl h2 => by
      rw [if_neg hl.1] at hE hN
      exact refT_post (by rw [hN, hl.2]) hE.symm (by rw [hLT, hE]; exact World.ownsRow_nil _ _ _ _) h2
    have HIX := one_idx h.byt
    have HX1 : Hid (∀ k, k ≤ n → (strOfNums xs).extract k n = strOfNums (xs.drop k)) := fun k hk => by
      rw [ext_drop xs h.byt, List.take_of_length_le (by rw [List.length_drop]; omega)]
    have HX2 : Hid (∀ k m, (strOfNums xs).extract k (k + m) = strOfNums ((xs.drop k).take m)) := fun k m => by
      rw [ext_drop xs h.byt, show k + m - k = m from by omega]
    have HONE : Hid (∀ k, k < n → blk (xs.getD k 0) = false → xs.getD k 0 ≠ 10 → ∀ K, (if (piece (xs.drop k)).2 = 0 then 0 else (piece (xs.drop k)).1) = K → ∀ W, Calls Tryz.prog 67 #[.string ((strOfNums xs).extract k n)] W fun e w' => e = .returned (.tuple #[.int .i64 K, .int .i64 ((piece (xs.drop k)).2 : Int)]) ∧ Below W.heap.size W w') := fun k hk h7 h8 K hK W => by
      have hg : (xs.drop k).getD 0 0 = xs.getD k 0 := by rw [getD_drop]; rfl
      rw [HX1.out k (by omega)]
      exact one_any (xs.drop k) (h.byt.drop k) (by rw [List.length_drop]; omega) (by rw [List.length_drop]; omega) (by rw [hg]; exact h7) (by rw [hg]; exact h8) K hK W
    have CV : Hid (∀ W, Below w.heap.size w W → (convert 61 9 (.slice A n cap)).run Tryz.prog W = .ok (.string (strOfNums xs)) W) := fun W hW => by
      have := run_conv (P := Tryz.prog) W 61 9 5 Tryz.underlying61 Tryz.underlying5 Tryz.underlying9 (h.below hW hB) cap
      rw [hn] at this; exact this
    have HBY := Lib.hid h.byt
    have hsz : (strOfNums xs).size = n := by rw [strOfNums_size, hn]
    have HM0 := Lib.hid (mid_start hn)
    have HBL : Hid (∀ c W, Calls Tryz.prog 66 #[.int .u8 c] W fun e w' => e = .returned (.bool (blk c)) ∧ W = w') := blank_any
    rw [hn] at HIX
    generalize strOfNums xs = s at *
    clear hE hN hLT hsg hble h hn hb hcap'
    go_enter Tryz.func49, Tryz.ntmps49
    go_wp2_with fail
    refine HS.out.mono ?_
    rintro e w1 ⟨v0, rfl, hb1⟩
    have cv := CV.out w1 hb1
    have HB1 := Lib.hid hb1
    clear hb1 HS CV
    go_wp2
    go_loopw [8, 9, 10, 11, 12, 13, 14] (fun v8 v9 v10 v11 _ _ _ wr => ∃ (k ln : Nat) (P : List (Tok × Nat)) (m : Nat) (a8 a9 : Option Addr) (c8 c9 : Nat), k ≤ n ∧ m ≤ k ∧ ln ≤ k ∧ v11 = .int .i64 k ∧ v10 = .int .i64 ln ∧ v8 = .slice a8 m c8 ∧ v9 = .slice a9 m c9 ∧ Hid (P.length = m) ∧ Hid (Mid xs n k P ln) ∧ Hid (FI wr w.heap.size (.slice a8 m c8) (.slice a9 m c9) P) ∧ Hid (Below w.heap.size w wr)) (fun _ _ _ v11 _ _ _ _ => n - (intOf v11).toNat)
    case atStart => exact ⟨0, 0, [], 0, none, none, 0, 0, by omega, by omega, by omega, rfl, rfl, rfl, rfl, rfl, HM0.out, ⟨World.ownsRow_nil _ _ _ _, World.ownsRow_nil _ _ _ _⟩, HB1.out⟩
    case round =>
      obtain ⟨k, ln, P, m, a8, a9, c8, c9, hk, hmk, hlnk, rfl, rfl, rfl, rfl, hpl, hmid, hfi, hbel⟩ := hrel
      by_cases hlk : k < n
      · have hix := HIX.out k hlk
        have hlk' : (k : Int) < (n : Int) := by omega
        have HM1 : Hid (xs.getD k 0 = 10 → Mid xs n (k + 1) P (ln + 1)) := fun e => mid_nl hmid.out hlk e
        have HM2 : Hid (blk (xs.getD k 0) = true → Mid xs n (k + 1) P ln) := fun e => mid_blk hmid.out hlk e
        have HM3 : Hid (blk (xs.getD k 0) = false → xs.getD k 0 ≠ 10 → ∀ (K : Int) (mm : Nat), piece (xs.drop k) = (K, mm) → mm ≠ 0 → k + mm ≤ n ∧ Mid xs n (k + mm) (P ++ [(⟨K, (xs.drop k).take mm, k, begins P ln⟩, ln)]) ln) := fun e1 e2 K mm a b => mid_tok hmid.out hlk e1 e2 a b
        have HO0 := Lib.hid (HONE.out k hlk)
        by_cases h10 : xs.getD k 0 = 10
        · have HM := Lib.hid (HM1.out h10)
          rw [h10] at hix
          clear HM1 HM2 HM3 HO0 h10
          go_wp2
          go_roundw
          case rel => exact ⟨k + 1, ln + 1, P, m, a8, a9, c8, c9, by omega, by omega, by omega, by go_num, by go_num, rfl, rfl, hpl, HM, hfi, hbel⟩
          case measure => simp [intOf]; omega
        have n10 := beq_no h10
        cases hblk : blk (xs.getD k 0) with
        | true =>
          have HM := Lib.hid (HM2.out hblk)
          have hcc := HBL.out (xs.getD k 0)
          rw [hblk] at hcc
          have HC := Lib.hid hcc
          clear HM1 HM2 HM3 HO0 h10 hblk hcc
          generalize xs.getD k 0 = c at *
          go_wp2_with (first | (go_at_call 66; refine (HC.out _).mono ?_; rintro e w' ⟨rfl, rfl⟩))
          go_roundw
          case rel => exact ⟨k + 1, ln, P, m, a8, a9, c8, c9, by omega, by omega, by omega, by go_num, rfl, rfl, rfl, hpl, HM, hfi, hbel⟩
          case measure => simp [intOf]; omega
        | false =>
          have hcc := HBL.out (xs.getD k 0)
          rw [hblk] at hcc
          have HC := Lib.hid hcc
          have HM := Lib.hid (HM3.out hblk h10)
          have HO := Lib.hid (HO0.out hblk h10)
          have HST := Lib.hid (mid_stop hmid.out hlk)
          clear HM1 HM2 HM3 HO0 h10 hblk hcc
          generalize xs.getD k 0 = c at *
          obtain ⟨K0, mm, hp⟩ : ∃ K0 mm, piece (xs.drop k) = (K0, mm) := ⟨_, _, rfl⟩
          rw [hp] at HO HST
          by_cases h0 : mm = 0
          · subst h0
            have HO1 := Lib.hid (HO.out 0 rfl)
            have HST1 := Lib.hid (HST.out rfl)
            clear HM hp HO HST
            go_wp2_with (first | (go_at_call 66; refine (HC.out _).mono ?_; rintro e w' ⟨rfl, rfl⟩) | (go_at_call 67; ((with_reducible refine (HO1.out _).mono ?_)); rintro e w2 ⟨rfl, hb2⟩))
            go_ret3
            exact HF4.out k _ HST1.out (hbel.out.trans (hb2.mono hbel.out.size))
          · obtain ⟨hkm, hmx⟩ := HM.out K0 mm hp h0
            have HMX := Lib.hid hmx
            have HO1 := Lib.hid (HO.out K0 (if_neg h0))
            have hx2 := HX2.out k mm
            have nz : ((mm : Int) == 0) = false := beq_no (by omega)
            have hkm' : (k : Int) + (mm : Int) ≤ (n : Int) := by omega
            have hmp : 0 < mm := by omega
            clear HM HO hp hmx HST
            obtain ⟨fb, hfb⟩ : ∃ fb, begins P ln = fb := ⟨_, rfl⟩
            rw [hfb] at HMX
            generalize (xs.drop k).take mm = tx at *
            have hlt : (P.map (·.1)).length = m := by rw [List.length_map, hpl.out]
            have hli : (P.map fun x => (x.2 : Int)).length = m := by rw [List.length_map, hpl.out]
            have HLT := Lib.hid hlt; have HLI := Lib.hid hli
            have hsl : ∀ W : World, (Instr.slice 9 (.string s) (some (.int .i64 (k : Int))) (some (.int .i64 ((k : Int) + (mm : Int)))) none).run Tryz.prog W = .ok (.string (strOfNums tx)) W := fun W => by
              rw [run_slice_string (P := Tryz.prog) W 9 s .i64 .i64 (k : Int) ((k : Int) + (mm : Int)) Tryz.underlying9 (by omega) (by omega) (by omega), show ((k : Int) + (mm : Int)).toNat = k + mm from by omega, show (k : Int).toNat = k from by omega, hx2]
            clear hx2
            have hl3 : ∀ t : Tok, (P.map (·.1) ++ [t]).length = P.length + 1 := fun t => by simp
            have hl4 : ∀ y : Int, ((P.map fun x => (x.2 : Int)) ++ [y]).length = P.length + 1 := fun t => by simp
            have HPL : Hid (∀ t : Tok × Nat, (P ++ [t]).length = P.length + 1) := fun t => by simp
            have hplk : P.length ≤ k := by rw [hpl.out]; exact hmk
            clear hlt hli
            have HFB := Lib.hid hfb
            clear hfb h0
            go_wp2_with (first | (go_at_call 66; refine (HC.out _).mono ?_; rintro e w' ⟨rfl, rfl⟩))
            with_reducible refine (HO1.out _).mono ?_
            rintro e w2 ⟨rfl, hb2⟩
            have HB2 := Lib.hid (hbel.out.trans (hb2.mono hbel.out.size))
            have HOR : Hid (OwnR w2 w.heap.size (.slice a8 m c8) (P.map (·.1))) := own_below hfi.out.1 hb2 (Nat.le_refl _)
            have HOI : Hid (OwnI w2 w.heap.size (.slice a9 m c9) (P.map fun x => (x.2 : Int))) := own_below hfi.out.2 hb2 (Nat.le_refl _)
            clear hb2 hfi hbel HC HO1
            have hm0 : m = 0 ∨ ∃ m', m = m' + 1 := by
              cases m with
              | zero => exact .inl rfl
              | succ m' => exact .inr ⟨m', rfl⟩
            rcases hm0 with rfl | ⟨m', rfl⟩
            case' inl =>
              have hfb : fb = true := by
                have hP : P = [] := List.eq_nil_of_length_eq_zero hpl.out
                rw [← HFB.out, hP]; rfl
              subst hfb
            case' inr =>
              have hri : RI w2 w2.heap.size a9 (P.map fun x => (x.2 : Int)) := own_ri (n := m' + 1) (c := c9) (by have := HOI.out; unfold OwnI at this; rw [HLI.out] at this; exact this)
              obtain ⟨b9, off9, rfl, _, hc9⟩ := hri.at_ (i := m') (by rw [HLI.out]; omega)
              have hy : (P.map fun x => (x.2 : Int)).getD m' 0 = ((P.getD m' (⟨0, [], 0, false⟩, 0)).2 : Int) := by
                simp [List.getD, List.getElem?_eq_getElem (show m' < P.length by rw [hpl.out]; omega)]
              have hdy : decide (((P.getD m' (⟨0, [], 0, false⟩, 0)).2 : Int) < (ln : Int)) = fb := by
                rw [← HFB.out, begins_at hpl.out]; simp
              rw [hy] at hc9
              generalize ((P.getD m' (⟨0, [], 0, false⟩, 0)).2 : Int) = y at *
              have nm : ((m' : Int) + 1 == 0) = false := beq_no (by omega)
              clear hri hy
            all_goals
              go_wp2_with (at_builtin; refine app_tokR w2 rfl _ _ rfl w.heap.size (.slice a8 _ c8) _ _ _ ⟨K0, tx, k, _⟩ rfl HOR.out HOI.out w2.heap.size rfl rfl ?c1 HB2.out.size ?_)
              case c1 => rw [HLT.out]; omega
              intro v3 w3 hown3 hoth3 hb3
              obtain ⟨a3, c3, rfl, _, _⟩ := ownR_slice hown3
              rw [hl3] at hown3 ⊢
              have HO3 := Lib.hid hown3; have HI3 := Lib.hid hoth3; have HB3 := Lib.hid (HB2.out.trans (hb3.mono (Nat.le_refl _)))
              clear hown3 hoth3 hb3 HOR HOI HB2
              go_wp2_with (at_builtin; refine app_intR w3 rfl _ _ rfl w.heap.size (.slice _ _ c9) _ _ _ (ln : Int) rfl HI3.out HO3.out w3.heap.size rfl rfl ?c2 HB3.out.size ?_)
              case c2 => rw [HLI.out]; omega
              intro v4 w4 hown4 hoth4 hb4
              obtain ⟨a4, c4, rfl, _, _⟩ := ownI_slice hown4
              rw [hl4] at hown4 ⊢
              have HO4 := Lib.hid hoth4; have HI4 := Lib.hid hown4; have HB4 := Lib.hid (HB3.out.trans (hb4.mono (Nat.le_refl _)))
              clear hown4 hoth4 hb4 HO3 HI3 HB3 hsl
              generalize P.length = pl at *
              go_wp2
              go_roundw
              case rel => exact ⟨k + mm, ln, _, pl + 1, a3, a4, c3, c4, by omega, by omega, by omega, by go_num, rfl, rfl, rfl, HPL.out _, HMX.out, ⟨by rw [List.map_append]; exact HO4.out, by rw [List.map_append]; exact HI4.out⟩, HB4.out⟩
              case measure => simp [intOf]; omega
      · obtain ⟨hl, hP⟩ := mid_end hmid.out (by omega)
        have hout : outL P = toks xs := by rw [hP]; exact outL_toks hl
        have HPT : Hid (∀ t l, (t, l) ∈ P → Byt t.text ∧ t.place + t.text.length ≤ n) := fun t l hx => by
          have hlen := hmid.out.2.2.2.2
          rw [hP] at hx
          have hc := tiles_cat (tiles_of xs)
          rw [hl, List.append_nil] at hc
          have h := plain_part (pieces xs) 0 0 true (t, l) hx
          rw [← hc, hlen] at h
          refine ⟨fun y hy => HBY.out y (h.2 y hy), ?_⟩
          have h1 := h.1
          simp only at h1; omega
        have HF : Hid (∀ v w', OwnR w' w.heap.size v (outL P) → Below w.heap.size w w' → RefTPost xs w (.returned (.tuple #[v, .int .i64 0, .int .i64 0])) w') := fun v w' a b => HF0.out v w' hl (by rw [← hout]; exact a) b
        have HRT : Hid (RT tokC 4 wr wr.heap.size a8 (P.map (·.1))) := own_rt (n := m) (c := c8) tokC_len (by have h := hfi.out.1; unfold OwnR at h; rw [List.length_map, hpl.out] at h; exact h) (by rw [List.length_map, hpl.out])
        have HRI : Hid (RI wr wr.heap.size a9 (P.map fun x => (x.2 : Int))) := own_ri (n := m) (c := c9) (by have h := hfi.out.2; unfold OwnI at h; rw [List.length_map, hpl.out] at h; exact h)
        have hnk : ¬ (k : Int) < (n : Int) := by omega
        have hmn : m ≤ 100000 := by omega
        clear hl hP hout hmid hfi HF0 HF4 HIX HX1 HX2 HONE HM0 HBL HBY
        obtain ⟨w4, hw4⟩ : ∃ x, x = wr := ⟨_, rfl⟩
        subst hw4
        go_wp2
        go_loopw [15, 16, 17, 18] (fun v15 v16 _ _ w5 => ∃ (i : Nat) (out : List Tok) (a5 : Option Addr) (c5 q : Nat), i ≤ m ∧ v16 = .int .i64 i ∧ v15 = .slice a5 q c5 ∧ Hid (out.length = q) ∧ Hid (OutAt P i out) ∧ Hid (OwnR w5 w4.heap.size (.slice a5 q c5) out) ∧ Hid (Below w4.heap.size w4 w5)) (fun _ v16 _ _ _ => m - (intOf v16).toNat)
        case atStart => exact ⟨0, [], none, 0, 0, by omega, rfl, rfl, rfl, out_start P, World.ownsRow_nil _ _ _ _, Below.refl _ _⟩
        case round =>
          obtain ⟨i, out, a5, c5, q, hi, rfl, rfl, hq, hout, hown, hb5⟩ := hrel
          by_cases him : i < m
          · have hiP : i < P.length := by rw [hpl.out]; exact him
            obtain ⟨t, l0, hx⟩ : ∃ t l, P[i]? = some (t, l) := ⟨P[i].1, P[i].2, List.getElem?_eq_getElem hiP⟩
            obtain ⟨b8, rfl, hb8, hc8⟩ := HRT.out.at_ (by rw [List.length_map]; omega)
            obtain ⟨b9, off9, rfl, hb9, _⟩ := HRI.out.at_ (i := i) (by rw [List.length_map]; exact hiP)
            have HC8 : Hid (∀ W, Below w4.heap.size w4 W → ∀ j u l, P[j]? = some (u, l) → ∀ z y, (tokC u)[z]? = some y → W.cell? ⟨b8, j * 4 + z, none⟩ = some y) := fun W hW j u l hj z y hz => (hW.cell (p := ⟨b8, j * 4 + z, none⟩) hb8).trans (hc8 j u (by rw [List.getElem?_map, hj]; rfl) z y hz)
            have HC9 : Hid (∀ W, Below w4.heap.size w4 W → ∀ (j : Nat) (u : Tok) (l : Nat), P[j]? = some (u, l) → W.cell? ⟨b9, off9 + j, none⟩ = some (.int .i64 (l : Int))) := fun W hW j u l hj => by
              have hjl : j < P.length := by
                rcases Nat.lt_or_ge j P.length with h' | h'
                · exact h'
                · rw [List.getElem?_eq_none h'] at hj; cases hj
              obtain ⟨b', off', e', hb', hc'⟩ := HRI.out.at_ (i := j) (by rw [List.length_map]; exact hjl)
              have e2 := Addr.mk.inj (Option.some.inj e')
              obtain ⟨e3, e4, _⟩ := e2
              rw [e3, e4, hW.cell (p := ⟨b', off' + j, none⟩) hb', hc']
              simp [List.getD, hj]
            have hs12 := out_step hout.out hx
            obtain ⟨ov, hov⟩ : ∃ b, overL l0 (P.drop (i + 1)) = b := ⟨_, rfl⟩
            obtain ⟨cl, hcl⟩ : ∃ b, closes t.kind t.text = b := ⟨_, rfl⟩
            have hcc := fun W => refCloses_any t.kind t.text (HPT.out t l0 (List.mem_of_getElem? hx)).1 (t.place : Int) t.first W
            rw [hov, hcl] at hs12
            rw [hcl] at hcc
            have HCL : Hid (∀ W, Calls Tryz.prog 68 #[.agg #[.int .i64 t.kind, .string (strOfNums t.text), .int .i64 (t.place : Int), .bool t.first]] W fun e w' => e = .returned (.bool cl) ∧ Below W.heap.size W w') := hcc
            have HS12 := Lib.hid hs12
            have HOV := Lib.hid hov
            have d0 : wr.cell? ⟨b8, i * 4, none⟩ = some (.int .i64 t.kind) := HC8.out wr hb5.out i t l0 hx 0 _ rfl
            have d1 : wr.cell? ⟨b8, i * 4 + 1, none⟩ = some (.string (strOfNums t.text)) := HC8.out wr hb5.out i t l0 hx 1 _ rfl
            have d2 : wr.cell? ⟨b8, i * 4 + 2, none⟩ = some (.int .i64 (t.place : Int)) := HC8.out wr hb5.out i t l0 hx 2 _ rfl
            have d3 : wr.cell? ⟨b8, i * 4 + 3, none⟩ = some (.bool t.first) := HC8.out wr hb5.out i t l0 hx 3 _ rfl
            have hlt' : (i : Int) < (m : Int) := by omega
            have HX := Lib.hid hx
            have HPLN := Lib.hid (HPT.out t l0 (List.mem_of_getElem? hx)).2
            clear hcc hs12 hov hcl hx hiP hb8 hb9 hc8
            go_wp2_with (at_builtin; refine app_tokR wr rfl _ _ rfl w4.heap.size (.slice a5 _ c5) (.slice none 0 0) _ [] t rfl hown.out (World.ownsRow_nil _ _ _ _) wr.heap.size rfl rfl ?c3 hb5.out.size ?_)
            case c3 => have := hout.out.2; omega
            intro v6 w6 hown6 _ hb6
            obtain ⟨a6, c6, rfl, _, _⟩ := ownR_slice hown6
            have hl6 : (out ++ [t]).length = q + 1 := by rw [List.length_append, hq.out]; rfl
            rw [hl6] at hown6 ⊢
            obtain ⟨L6, hL6⟩ : ∃ L, out ++ [t] = L := ⟨_, rfl⟩
            have hs12 := HS12.out
            have hl2 := hout.out.2
            rw [hL6] at hs12 hown6 hl6
            have HS12 := Lib.hid hs12
            rw [hq.out] at hl2
            clear hs12 hL6
            have HO6 := Lib.hid hown6
            have HB6 := Lib.hid (hb5.out.trans hb6)
            clear hown6 hb6 hown hb5 d0 d1 d2 d3
            go_wp2
            go_loopw [17] (fun v17 wi => ∃ (j dq : Nat), i + 1 ≤ j ∧ j ≤ m ∧ v17 = .int .i64 j ∧ Hid (overL l0 (P.drop j) = ov) ∧ wi = w6.drewN dq) (fun v17 _ => m - (intOf v17).toNat)
            case atStart => exact ⟨i + 1, 0, by omega, by omega, by go_num, HOV.out, rfl⟩
            case round =>
              obtain ⟨j, dq, hij, hjm, rfl, hov, rfl⟩ := hrel
              have hcs := over_cases hpl.out hov.out
              have e9i : ∀ q, (w6.drewN q).cell? ⟨b9, off9 + i, none⟩ = some (.int .i64 (l0 : Int)) := fun q => HC9.out w6 HB6.out i t l0 HX.out
              have d0 : ∀ q, (w6.drewN q).cell? ⟨b8, i * 4, none⟩ = some (.int .i64 t.kind) := fun q => HC8.out w6 HB6.out i t l0 HX.out 0 _ rfl
              have d1 : ∀ q, (w6.drewN q).cell? ⟨b8, i * 4 + 1, none⟩ = some (.string (strOfNums t.text)) := fun q => HC8.out w6 HB6.out i t l0 HX.out 1 _ rfl
              have d2 : ∀ q, (w6.drewN q).cell? ⟨b8, i * 4 + 2, none⟩ = some (.int .i64 (t.place : Int)) := fun q => HC8.out w6 HB6.out i t l0 HX.out 2 _ rfl
              have d3 : ∀ q, (w6.drewN q).cell? ⟨b8, i * 4 + 3, none⟩ = some (.bool t.first) := fun q => HC8.out w6 HB6.out i t l0 HX.out 3 _ rfl
              have HE8 : Hid (∀ q u l, P[j]? = some (u, l) → (w6.drewN q).cell? ⟨b8, j * 4, none⟩ = some (.int .i64 u.kind)) := fun q u l hu => HC8.out w6 HB6.out j u l hu 0 _ rfl
              have HE9 : Hid (∀ q u (l : Nat), P[j]? = some (u, l) → (w6.drewN q).cell? ⟨b9, off9 + j, none⟩ = some (.int .i64 (l : Int))) := fun q u l hu => HC9.out w6 HB6.out j u l hu
              have hi0 : (0 : Int) ≤ (i : Int) := by omega
              have hj0 : (0 : Int) ≤ (j : Int) := by omega
              rcases hcs with ⟨u, l, hjm', hu, hk5, hll⟩ | ⟨hovt, hT⟩ | ⟨hovf, hT⟩
              · have f8 : ∀ q, (w6.drewN q).cell? ⟨b8, j * 4, none⟩ = some (.int .i64 5) := fun q => by rw [HE8.out q u l hu, hk5]
                have f9 : ∀ q, (w6.drewN q).cell? ⟨b9, off9 + j, none⟩ = some (.int .i64 (l0 : Int)) := fun q => by rw [HE9.out q u l hu, hll]
                have hjl' : (j : Int) < (m : Int) := by omega
                have HN := Lib.hid ((over_step hov.out hu).1 hk5 hll)
                have hleq : ((l0 : Int) == (l0 : Int)) = true := by simp
                clear d0 d1 d2 d3 hu hk5 hll hov
                go_wp2
                go_quiet (fail)
                go_wp2
                go_roundw
                case rel => exact ⟨j + 1, _, by omega, by omega, by go_num, HN.out, rfl⟩
                case measure => simp [intOf]; omega
              · have HOT := Lib.hid hovt
                clear hovt
                rcases hT with ⟨u, l, hjm', hu, hk5, hll, hlt⟩ | ⟨u, l, hjm', hu, hk5, hlt⟩ | hjm'
                case' inl =>
                  have f8 : ∀ q, (w6.drewN q).cell? ⟨b8, j * 4, none⟩ = some (.int .i64 5) := fun q => by rw [HE8.out q u l hu, hk5]
                  have f9 : ∀ q, (w6.drewN q).cell? ⟨b9, off9 + j, none⟩ = some (.int .i64 (l : Int)) := fun q => HE9.out q u l hu
                  have hjl' : (j : Int) < (m : Int) := by omega
                  have hleq : ((l : Int) == (l0 : Int)) = false := beq_no (by omega)
                  have hng : decide ((m : Int) ≤ (j : Int)) = false := decide_eq_false (by omega)
                  have hlt' : (l0 : Int) < (l : Int) := by omega
                  clear hu hk5 hll hlt hov
                  go_wp2
                  go_quiet (fail)
                case' inr.inl =>
                  have f8 : ∀ q, (w6.drewN q).cell? ⟨b8, j * 4, none⟩ = some (.int .i64 u.kind) := fun q => HE8.out q u l hu
                  have f9 : ∀ q, (w6.drewN q).cell? ⟨b9, off9 + j, none⟩ = some (.int .i64 (l : Int)) := fun q => HE9.out q u l hu
                  have hjl' : (j : Int) < (m : Int) := by omega
                  have hk5' : (u.kind == 5) = false := beq_no hk5
                  have hng : decide ((m : Int) ≤ (j : Int)) = false := decide_eq_false (by omega)
                  have hlt' : (l0 : Int) < (l : Int) := by omega
                  clear hu hk5 hlt hov
                  go_wp2
                  go_quiet (fail)
                case' inr.inr =>
                  obtain rfl : j = m := by omega
                  have hjl' : decide ((j : Int) < (j : Int)) = false := decide_eq_false (by omega)
                  clear hov
                  go_wp2
                  go_quiet (fail)
                  have hng : (j : Int) ≤ (j : Int) := by omega
                all_goals
                  go_wp2
                  go_quiet (fail)
                  go_wp2_with fail
                  with_reducible refine (HCL.out _).mono ?_
                  rintro e w7 ⟨rfl, hb7⟩
                  have HB7 := Lib.hid ((below_drewN HB6.out _).trans (hb7.mono HB6.out.size))
                  have HO7 := Lib.hid (own_below (own_drewN HO6.out _) hb7 (Nat.le_refl _))
                  clear hb7 hjl' hng d0 d1 d2 d3 e9i
                  cases cl with
                  | false =>
                    have HN := Lib.hid (HS12.out.2 (.inr rfl))
                    go_wp2
                    go_roundw
                    case rel => exact ⟨i + 1, L6, a6, c6, q + 1, by omega, by go_num, rfl, hl6, HN.out, HO7.out, HB7.out⟩
                    case measure => simp [intOf]; omega
                  | true =>
                    obtain ⟨pe, hpe⟩ : ∃ pe, t.place + t.text.length = pe := ⟨_, rfl⟩
                    have hn1 := HS12.out.1 HOT.out rfl
                    have hpn := HPLN.out
                    rw [hpe] at hn1 hpn
                    have HN := Lib.hid hn1
                    have f1 : w7.cell? ⟨b8, i * 4 + 1, none⟩ = some (.string (strOfNums t.text)) := HC8.out w7 HB7.out i t l0 HX.out 1 _ rfl
                    have f2 : w7.cell? ⟨b8, i * 4 + 2, none⟩ = some (.int .i64 (t.place : Int)) := HC8.out w7 HB7.out i t l0 HX.out 2 _ rfl
                    have hts : (strOfNums t.text).size = t.text.length := strOfNums_size _
                    have hpe' : (t.place : Int) + (t.text.length : Int) = (pe : Int) := by omega
                    have hwp : IntKind.i64.wrap (pe : Int) = (pe : Int) := by rw [IntKind.wrap_i64]; omega
                    have HL8 : Hid ((L6 ++ [(⟨6, [], pe, false⟩ : Tok)]).length = q + 2) := by
                      show _ = _
                      rw [List.length_append, hl6]; rfl
                    have hql : L6.length ≤ 10000000 := by rw [hl6]; omega
                    clear hn1 hpe
                    go_wp2
                    have KQ := Lib.hid (fun (W : World) (hW : Below w4.heap.size w4 W) => (⟨HC8.out W hW i t l0 HX.out 1 _ rfl, HC8.out W hW i t l0 HX.out 2 _ rfl, hW⟩ : W.cell? ⟨b8, i * 4 + 1, none⟩ = some (.string (strOfNums t.text)) ∧ W.cell? ⟨b8, i * 4 + 2, none⟩ = some (.int .i64 (t.place : Int)) ∧ Below w4.heap.size w4 W))
                    have HBA : Hid (Below w4.heap.size w4 (w7.alloc (.cells (tokC ⟨6, [], pe, false⟩).toArray 63)).drew) := (HB7.out.alloc HB7.out.size _).drew
                    go_region_held_law (fun W => W.cell? ⟨b8, i * 4 + 1, none⟩ = some (.string (strOfNums t.text)) ∧ W.cell? ⟨b8, i * 4 + 2, none⟩ = some (.int .i64 (t.place : Int)) ∧ Below w4.heap.size w4 W) (first | assumption | exact KQ.out _ (by assumption) | exact KQ.out _ HB7.out | exact KQ.out _ HB7.out.drew | exact KQ.out _ HBA.out) (first | (refine step_app_tokR rfl (.tmp 162) (.tmp 176) rfl w4.heap.size (.slice a6 _ c6) L6 ⟨6, [], pe, false⟩ rfl (HO7.out.alloc _).drew w7.heap.size rfl (tok_new w7 _) hql HBA.out.size ?_; intro v8 w8 hown8 hb8; have hk8 : Below w4.heap.size w4 w8 := hb8 w4 HBA.out; obtain ⟨a8', c8', rfl, _, _⟩ := ownR_slice hown8; clear hb8))
                    rw [HL8.out] at hown8 ⊢
                    have HO8 := Lib.hid hown8
                    have HB8 := Lib.hid hk8
                    clear hown8 hk8 f1 f2 hpe' hts
                    go_wp2
                    go_roundw
                    case rel => exact ⟨i + 1, _, a8', c8', q + 2, by omega, by go_num, rfl, HL8.out, HN.out, HO8.out, HB8.out⟩
                    case measure => simp [intOf]; omega
              · rcases hT with ⟨u, l, hjm', hu, hk5, hll, hlt⟩ | ⟨u, l, hjm', hu, hk5, hlt⟩
                case' inl =>
                  have f8 : ∀ q, (w6.drewN q).cell? ⟨b8, j * 4, none⟩ = some (.int .i64 5) := fun q => by rw [HE8.out q u l hu, hk5]
                  have f9 : ∀ q, (w6.drewN q).cell? ⟨b9, off9 + j, none⟩ = some (.int .i64 (l : Int)) := fun q => HE9.out q u l hu
                  have hjl' : (j : Int) < (m : Int) := by omega
                  have hleq : ((l : Int) == (l0 : Int)) = false := beq_no (by omega)
                  have hng : decide ((m : Int) ≤ (j : Int)) = false := decide_eq_false (by omega)
                  have hlt' : decide ((l0 : Int) < (l : Int)) = false := decide_eq_false (by omega)
                  clear hu hk5 hll hlt hov
                case' inr =>
                  have f8 : ∀ q, (w6.drewN q).cell? ⟨b8, j * 4, none⟩ = some (.int .i64 u.kind) := fun q => HE8.out q u l hu
                  have f9 : ∀ q, (w6.drewN q).cell? ⟨b9, off9 + j, none⟩ = some (.int .i64 (l : Int)) := fun q => HE9.out q u l hu
                  have hjl' : (j : Int) < (m : Int) := by omega
                  have hk5' : (u.kind == 5) = false := beq_no hk5
                  have hng : decide ((m : Int) ≤ (j : Int)) = false := decide_eq_false (by omega)
                  have hlt' : decide ((l0 : Int) < (l : Int)) = false := decide_eq_false (by omega)
                  clear hu hk5 hlt hov
                all_goals
                  have HN := Lib.hid (HS12.out.2 (.inl hovf))
                  clear d0 d1 d2 d3 hovf
                  go_wp2
                  go_quiet (fail)
                  go_wp2
                  go_quiet (fail)
                  have hlt2 : ¬ (l0 : Int) < (l : Int) := of_decide_eq_false hlt'
                  go_wp2
                  go_roundw
                  case rel => exact ⟨i + 1, L6, a6, c6, q + 1, by omega, by go_num, rfl, hl6, HN.out, own_drewN HO6.out _, below_drewN HB6.out _⟩
                  case measure => simp [intOf]; omega
          · have HE : Hid (out = outL P) := out_end hout.out (by rw [hpl.out]; omega)
            have him' : ¬ (i : Int) < (m : Int) := by omega
            go_wp2
            go_ret3
            exact HF.out _ _ (by rw [← HE.out]; exact ownR_base hown.out hbel.out.size) (hbel.out.trans (hb5.out.mono hbel.out.size))

end Go.Proofs.YtoecimgmghlfpaaGreatDoor.Lex
