/-
  Layer 4 (lex): what the document's Name and Closes answer.
-/
import Derived.Test.YtiadbagfajhjfaaDoorLexRef
namespace Go.Proofs.YtiadbagfajhjfaaDoor.Lex
open Go.ChangeShapes Go.WideShapes Go.ChangeAt Go.RowKit Utf
set_option linter.unusedVariables false

theorem sort_lord (d : Int) : sortI d = 0 ↔ lord d = false := by
  unfold sortI lord
  by_cases h1 : kd d = 1
  · simp [h1]
  · by_cases h2 : kd d = 2
    · simp [h2]
    · simp [h1, h2]

set_option maxHeartbeats 2000000 in
theorem refName_any (t : List Int) (ht : Byt t) (hl : t.length ≤ 1000) (w : World) :
    Calls Tryd.prog 15 #[.string (strOfNums t)] w fun e w' => e = .returned (.bool (isName t)) ∧ Below w.heap.size w w' := by
  have hbel : Below w.heap.size w w := Below.refl _ _
  have hsz : (strOfNums t).size = t.length := strOfNums_size t
  cases ht0 : t with
  | nil =>
    have hr : isName [] = false := rfl
    have he : (strOfNums ([] : List Int)).size = 0 := rfl
    rw [hr]
    clear hsz ht hl ht0
    generalize strOfNums ([] : List Int) = s at *
    go_enter Tryd.func15, Tryd.ntmps15
    go_wp2
    go_ret
    exact ⟨rfl, hbel⟩
  | cons c r =>
    rw [← ht0]
    have h0 : 0 < t.length := by rw [ht0]; simp
    have hix : ∀ W : World, (Instr.index 9 (.string (strOfNums t)) (.int .i64 0)).run Tryd.prog W = .ok (.int .u8 (t.getD 0 0)) W := fun W => run_idx_str (P := Tryd.prog) 9 Tryd.underlying9 ht (i := 0) h0 W
    have hd := ht.getD 0
    have hname : isName t = ((kd (t.getD 0 0) == 1) && decide (wordL t = t.length) && !isWord t) := by
      unfold isName; rw [decide_eq_true h0]; rfl
    have HIX : Hid (∀ i, i < t.length → ∀ W : World, (Instr.index 9 (.string (strOfNums t)) (.int .i64 (i : Int))).run Tryd.prog W = .ok (.int .u8 (t.getD i 0)) W) := fun i hi W => run_idx_str (P := Tryd.prog) 9 Tryd.underlying9 ht hi W
    have HS0 := Lib.hid (sort_any (t.getD 0 0) w hd.1 hd.2)
    have HSI : Hid (∀ i W, Calls Tryd.prog 25 #[.int .u8 (t.getD i 0)] W fun e w' => e = .returned (.int .i64 (sortI (t.getD i 0))) ∧ W = w') := fun i W => sort_any _ W (ht.getD i).1 (ht.getD i).2
    have HWD := Lib.hid (fun W : World => refWord_any t ht W)
    have HBY := Lib.hid ht
    have Hwl : Hid (wordL t = lead lord t) := rfl
    have Hsz := Lib.hid hsz
    clear ht0 ht
    have hln : ((t.length : Int) == 0) = false := beq_no (by omega)
    by_cases k1 : sortI (t.getD 0 0) = 1
    · have k1' : kd (t.getD 0 0) = 1 := by
        unfold sortI at k1; split at k1
        · assumption
        · split at k1 <;> omega
      rw [k1', show ((1 : Int) == 1) = true from rfl, Bool.true_and] at hname
      rw [k1] at HS0
      have Hname := Lib.hid hname
      clear k1 k1' hname hd
      obtain ⟨d0, hd0⟩ : ∃ d, t.getD 0 0 = d := ⟨_, rfl⟩
      rw [hd0] at hix HS0
      clear hd0
      cases hiw : isWord t with
      | true =>
        rw [hiw] at HWD
        have hr : isName t = false := by rw [Hname.out, hiw]; simp
        rw [hr]
        clear hiw hr Hname HSI HIX HBY Hwl
        generalize strOfNums t = s at *
        generalize t.length = n at *
        go_enter Tryd.func15, Tryd.ntmps15
        go_wp2_with (first | (go_at_call 25; refine HS0.out.mono ?_; rintro e w' ⟨rfl, rfl⟩) | (go_at_call 13; refine (HWD.out _).mono ?_; rintro e w' ⟨rfl, hbl⟩))
        go_ret
        exact ⟨rfl, hbl⟩
      | false =>
        rw [hiw] at HWD
        have hrr : isName t = decide (wordL t = t.length) := by rw [Hname.out, hiw]; simp
        have HR := Lib.hid hrr
        clear hrr
        clear hiw Hname
        obtain ⟨n, hn⟩ : ∃ n, t.length = n := ⟨_, rfl⟩
        have Hn := Lib.hid hn
        rw [hn] at HIX hsz hln h0
        obtain ⟨s, hs⟩ : ∃ s, strOfNums t = s := ⟨_, rfl⟩
        rw [hs] at HIX hsz hix HWD ⊢
        have hn1000 : n ≤ 1000 := by omega
        clear hs hn hl
        go_enter Tryd.func15, Tryd.ntmps15
        go_wp2_with (first | (go_at_call 25; refine HS0.out.mono ?_; rintro e w' ⟨rfl, rfl⟩) | (go_at_call 13; refine (HWD.out _).mono ?_; rintro e w1 ⟨rfl, hbl⟩))
        have HBL := Lib.hid hbl
        clear hbl hix HS0 HWD
        go_loop [3] (fun i => ∃ k : Nat, k ≤ n ∧ i = .int .i64 k ∧ Hid (k ≤ lead lord t)) (fun i => n - (intOf i).toNat)
        case atStart => exact ⟨0, by omega, rfl, Nat.zero_le _⟩
        case round =>
          obtain ⟨k, hk, rfl, hle⟩ := hrel
          by_cases hlt : k < n
          · have hxi := HIX.out k hlt
            have HC := Lib.hid (HSI.out k w1)
            have HA : Hid (sortI (t.getD k 0) = 0 → isName t = false) := fun h => by
              rw [HR.out, Hwl.out, lead_at hle.out ((sort_lord _).1 h), Hn.out]; exact decide_eq_false (by omega)
            have HB : Hid (sortI (t.getD k 0) ≠ 0 → k + 1 ≤ lead lord t) := fun h => lead_step hle.out (by rw [Hn.out]; exact hlt) (by
              cases hl : lord (t.getD k 0)
              · exact absurd ((sort_lord _).2 hl) h
              · rfl)
            have hlt' : (k : Int) < n := by omega
            clear hle HIX HSI
            generalize t.getD k 0 = d at *
            generalize sortI d = q at *
            by_cases h0' : q = 0
            · subst h0'
              have HA1 := Lib.hid (HA.out rfl)
              clear HA HB
              go_wp2_with (go_at_call 25; refine HC.out.mono ?_; rintro e w' ⟨rfl, rfl⟩)
              go_ret
              rw [HA1.out]
              exact ⟨rfl, HBL.out⟩
            · have HB1 := Lib.hid (HB.out h0')
              have hq := beq_no h0'
              clear HA HB h0'
              go_wp2_with (go_at_call 25; refine HC.out.mono ?_; rintro e w' ⟨rfl, rfl⟩)
              go_round
              case rel => exact ⟨k + 1, by omega, by go_num, HB1.out⟩
              case measure => simp [intOf]; omega
          · have HE : Hid (isName t = true) := by
              rw [HR.out, Hwl.out, lead_end hle.out (by rw [Hn.out]; omega), Hn.out]; exact decide_eq_true (by omega)
            have hnl : ¬ (k : Int) < n := by omega
            clear hle hlt HIX HSI
            go_wp2
            go_ret
            rw [HE.out]
            exact ⟨rfl, HBL.out⟩
    · have k1' : kd (t.getD 0 0) ≠ 1 := fun e => k1 (by unfold sortI; rw [if_pos e])
      rw [beq_no k1'] at hname
      have hr : isName t = false := by rw [hname]; rfl
      rw [hr]
      have hq : (sortI (t.getD 0 0) != 1) = true := by rw [bne_iff_ne]; exact k1
      clear hname hr k1 k1' hd HSI HIX HWD HBY Hwl
      generalize t.getD 0 0 = d at *
      generalize sortI d = q at *
      generalize strOfNums t = s at *
      generalize t.length = n at *
      go_enter Tryd.func15, Tryd.ntmps15
      go_wp2_with (go_at_call 25; refine HS0.out.mono ?_; rintro e w' ⟨rfl, rfl⟩)
      go_ret
      exact ⟨rfl, hbel⟩

set_option maxHeartbeats 4000000 in
theorem refCloses_any (k : Int) (t : List Int) (ht : Byt t) (at_ : Int) (f : Bool) (w : World) :
    Calls Tryd.prog 17 #[.agg #[.int .i64 k, .string (strOfNums t), .int .i64 at_, .bool f]] w fun e w' => e = .returned (.bool (closes k t)) ∧ Below w.heap.size w w' := by
  have hb1 : Below w.heap.size w (w.alloc (.cells #[.int .i64 k, .string (strOfNums t), .int .i64 at_, .bool f] 33)) := (Below.refl _ _).alloc (Nat.le_refl _) _
  have HB := Lib.hid hb1
  have HBE : Hid (∀ w', Below (w.alloc (.cells #[.int .i64 k, .string (strOfNums t), .int .i64 at_, .bool f] 33)).heap.size (w.alloc (.cells #[.int .i64 k, .string (strOfNums t), .int .i64 at_, .bool f] 33)) w' → Below w.heap.size w w') := fun w' hw => hb1.trans (hw.mono (by simp))
  have HCE : Hid (∀ w', Below (w.alloc (.cells #[.int .i64 k, .string (strOfNums t), .int .i64 at_, .bool f] 33)).heap.size (w.alloc (.cells #[.int .i64 k, .string (strOfNums t), .int .i64 at_, .bool f] 33)) w' → w'.cell? ⟨w.heap.size, 1, none⟩ = some (.string (strOfNums t))) := fun w' hw => by
    rw [hw.cell (p := ⟨w.heap.size, 1, none⟩) (by simp), World.cell?_alloc_at _ _ _ _ rfl]; rfl
  clear hb1
  by_cases k1 : k = 1
  · subst k1
    have HW := Lib.hid (fun w : World => refWord_any t ht w)
    have hcl : closes 1 t = (!isWord t || decide (t = wRet) || decide (t = wBrk) || decide (t = wCon)) := rfl
    by_cases hw : isWord t = true
    · rw [hw] at HW hcl
      by_cases c0 : t = [114, 101, 116, 117, 114, 110]
      · have b0 : ((strOfNums t).toList == [114, 101, 116, 117, 114, 110]) = true := str_yes (u := [114, 101, 116, 117, 114, 110]) c0
        rw [show closes 1 t = true from by rw [c0]; decide +kernel]
        clear hcl hw ht c0
        generalize strOfNums t = s at *
        go_enter Tryd.func17, Tryd.ntmps17
        go_wp2_with (go_at_call 13; refine (HW.out _).mono ?_; rintro e w' ⟨rfl, hbl⟩; have hcx := HCE.out _ hbl)
        go_ret
        exact ⟨rfl, HBE.out _ hbl⟩
      have b0 : ((strOfNums t).toList == [114, 101, 116, 117, 114, 110]) = false := str_no ht (u := [114, 101, 116, 117, 114, 110]) (by decide) c0
      by_cases c1 : t = [98, 114, 101, 97, 107]
      · have b1 : ((strOfNums t).toList == [98, 114, 101, 97, 107]) = true := str_yes (u := [98, 114, 101, 97, 107]) c1
        rw [show closes 1 t = true from by rw [c1]; decide +kernel]
        clear hcl hw ht c0 c1
        generalize strOfNums t = s at *
        go_enter Tryd.func17, Tryd.ntmps17
        go_wp2_with (go_at_call 13; refine (HW.out _).mono ?_; rintro e w' ⟨rfl, hbl⟩; have hcx := HCE.out _ hbl)
        go_ret
        exact ⟨rfl, HBE.out _ hbl⟩
      have b1 : ((strOfNums t).toList == [98, 114, 101, 97, 107]) = false := str_no ht (u := [98, 114, 101, 97, 107]) (by decide) c1
      by_cases c2 : t = [99, 111, 110, 116, 105, 110, 117, 101]
      · have b2 : ((strOfNums t).toList == [99, 111, 110, 116, 105, 110, 117, 101]) = true := str_yes (u := [99, 111, 110, 116, 105, 110, 117, 101]) c2
        rw [show closes 1 t = true from by rw [c2]; decide +kernel]
        clear hcl hw ht c0 c1 c2
        generalize strOfNums t = s at *
        go_enter Tryd.func17, Tryd.ntmps17
        go_wp2_with (go_at_call 13; refine (HW.out _).mono ?_; rintro e w' ⟨rfl, hbl⟩; have hcx := HCE.out _ hbl)
        go_ret
        exact ⟨rfl, HBE.out _ hbl⟩
      have b2 : ((strOfNums t).toList == [99, 111, 110, 116, 105, 110, 117, 101]) = false := str_no ht (u := [99, 111, 110, 116, 105, 110, 117, 101]) (by decide) c2
      have hc : closes 1 t = false := by rw [hcl]; unfold wRet wBrk wCon; simp [c0, c1, c2]
      rw [hc]
      clear hc hcl hw c0 c1 c2 ht
      generalize strOfNums t = s at *
      go_enter Tryd.func17, Tryd.ntmps17
      go_wp2_with (go_at_call 13; refine (HW.out _).mono ?_; rintro e w' ⟨rfl, hbl⟩; have hcx := HCE.out _ hbl)
      go_ret
      exact ⟨rfl, HBE.out _ hbl⟩
    · have hw' : isWord t = false := by simpa using hw
      rw [hw'] at HW hcl
      have hc : closes 1 t = true := by rw [hcl]; simp
      rw [hc]
      clear hc hcl hw hw' ht
      generalize strOfNums t = s at *
      go_enter Tryd.func17, Tryd.ntmps17
      go_wp2_with (go_at_call 13; refine (HW.out _).mono ?_; rintro e w' ⟨rfl, hbl⟩; have hcx := HCE.out _ hbl)
      go_ret
      exact ⟨rfl, HBE.out _ hbl⟩
  have q1 := beq_no k1
  by_cases k4 : k = 4
  · subst k4
    clear q1 k1
    by_cases c0 : t = [41]
    · have b0 : ((strOfNums t).toList == [41]) = true := str_yes (u := [41]) c0
      rw [show closes 4 t = true from by rw [c0]; decide +kernel]
      clear ht c0
      generalize strOfNums t = s at *
      go_enter Tryd.func17, Tryd.ntmps17
      go_wp2
      go_ret
      exact ⟨rfl, HB.out⟩
    have b0 : ((strOfNums t).toList == [41]) = false := str_no ht (u := [41]) (by decide) c0
    by_cases c1 : t = [93]
    · have b1 : ((strOfNums t).toList == [93]) = true := str_yes (u := [93]) c1
      rw [show closes 4 t = true from by rw [c1]; decide +kernel]
      clear ht c0 c1
      generalize strOfNums t = s at *
      go_enter Tryd.func17, Tryd.ntmps17
      go_wp2
      go_ret
      exact ⟨rfl, HB.out⟩
    have b1 : ((strOfNums t).toList == [93]) = false := str_no ht (u := [93]) (by decide) c1
    by_cases c2 : t = [125]
    · have b2 : ((strOfNums t).toList == [125]) = true := str_yes (u := [125]) c2
      rw [show closes 4 t = true from by rw [c2]; decide +kernel]
      clear ht c0 c1 c2
      generalize strOfNums t = s at *
      go_enter Tryd.func17, Tryd.ntmps17
      go_wp2
      go_ret
      exact ⟨rfl, HB.out⟩
    have b2 : ((strOfNums t).toList == [125]) = false := str_no ht (u := [125]) (by decide) c2
    by_cases c3 : t = [43, 43]
    · have b3 : ((strOfNums t).toList == [43, 43]) = true := str_yes (u := [43, 43]) c3
      rw [show closes 4 t = true from by rw [c3]; decide +kernel]
      clear ht c0 c1 c2 c3
      generalize strOfNums t = s at *
      go_enter Tryd.func17, Tryd.ntmps17
      go_wp2
      go_ret
      exact ⟨rfl, HB.out⟩
    have b3 : ((strOfNums t).toList == [43, 43]) = false := str_no ht (u := [43, 43]) (by decide) c3
    by_cases c4 : t = [45, 45]
    · have b4 : ((strOfNums t).toList == [45, 45]) = true := str_yes (u := [45, 45]) c4
      rw [show closes 4 t = true from by rw [c4]; decide +kernel]
      clear ht c0 c1 c2 c3 c4
      generalize strOfNums t = s at *
      go_enter Tryd.func17, Tryd.ntmps17
      go_wp2
      go_ret
      exact ⟨rfl, HB.out⟩
    have b4 : ((strOfNums t).toList == [45, 45]) = false := str_no ht (u := [45, 45]) (by decide) c4
    have hc : closes 4 t = false := by
      show decide (t ∈ shutM) = false
      unfold shutM; simp [c0, c1, c2, c3, c4]
    rw [hc]
    clear hc ht c0 c1 c2 c3 c4
    generalize strOfNums t = s at *
    go_enter Tryd.func17, Tryd.ntmps17
    go_wp2
    go_ret
    exact ⟨rfl, HB.out⟩
  have q4 := beq_no k4
  by_cases k2 : k = 2
  · subst k2
    rw [show closes 2 t = true from rfl]
    clear ht
    generalize strOfNums t = s at *
    go_enter Tryd.func17, Tryd.ntmps17
    go_wp2
    go_ret
    exact ⟨rfl, HB.out⟩
  by_cases k3 : k = 3
  · subst k3
    rw [show closes 3 t = true from rfl]
    clear ht
    generalize strOfNums t = s at *
    go_enter Tryd.func17, Tryd.ntmps17
    go_wp2
    go_ret
    exact ⟨rfl, HB.out⟩
  have q2 := beq_no k2; have q3 := beq_no k3
  have hc : closes k t = false := by unfold closes; rw [if_neg (by omega), if_neg k1, if_neg k4]
  rw [hc]
  clear hc k1 k2 k3 k4 ht
  generalize strOfNums t = s at *
  go_enter Tryd.func17, Tryd.ntmps17
  go_wp2
  go_ret
  exact ⟨rfl, HB.out⟩

end Go.Proofs.YtiadbagfajhjfaaDoor.Lex
