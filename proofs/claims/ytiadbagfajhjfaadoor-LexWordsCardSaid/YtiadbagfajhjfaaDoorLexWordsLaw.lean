/-
  Layer 4 (lex): the walk of LexWords: words and names.
-/
import Derived.Test.YtiadbagfajhjfaaDoorLexKnown
import Derived.Test.YtiadbagfajhjfaaDoorLexRef2
import Derived.Deep.Cut
import Derived.Deep.CutRange
namespace Go.Proofs.YtiadbagfajhjfaaDoor.Lex
open Go.ChangeShapes Go.WideShapes Go.ChangeAt Go.RowKit Utf MemT
set_option linter.unusedVariables false

theorem ext_nums (s : ByteArray) (k : Nat) : s.extract 0 k = strOfNums ((nums s).take k) := by
  rw [← str_nums (s.extract 0 k)]
  congr 1
  simp [nums, List.map_take]

set_option maxRecDepth 100000 in
set_option maxHeartbeats 4000000 in
theorem lexWords_walk (s : ByteArray) (w : World) (hs : s.size ≤ maxLen) (hT : Tab w) :
    Calls Tryd.prog 4 #[.string s] w fun e w' => e = .returned (.bool true) ∧ Below w.heap.size w w' := by
  have HT := Lib.hid hT
  have hsz : (nums s).length = s.size := nums_len s
  have HSZ := Lib.hid hsz
  clear hT hsz
  unfold maxLen at hs
  go_enter Tryd.func4, Tryd.ntmps4
  go_upto_if 9 with (fail)
  go_cut [0] from 10 to 11 (fun s0 W => s0 = .string (strOfNums ((nums s).take (min s.size 1000))) ∧ W = w)
  case first =>
    by_cases hl : s.size ≤ 1000
    · have hl' : decide ((1000 : Int) < (s.size : Int)) = false := by rw [decide_eq_false_iff_not]; omega
      have he : Hid (strOfNums ((nums s).take (min s.size 1000)) = s) := by
        show _ = _
        rw [List.take_of_length_le (by rw [HSZ.out]; omega), str_nums]
      go_wp2
      go_meet
      case rel => exact ⟨by rw [he.out], rfl⟩
    · have hl' : (1000 : Int) < (s.size : Int) := by omega
      have he : Hid (strOfNums ((nums s).take (min s.size 1000)) = s.extract 0 1000) := by
        show _ = _
        rw [ext_nums, Nat.min_eq_right (by omega)]
      go_wp2
      go_meet
      case rel => exact ⟨by rw [he.out], rfl⟩
  case rest =>
    obtain ⟨rfl, hw⟩ := hcut
    subst hw
    have hbt : Byt ((nums s).take (min s.size 1000)) := (nums_byt s).take _
    have hlt : ((nums s).take (min s.size 1000)).length ≤ 1000 := by rw [List.length_take]; omega
    generalize (nums s).take (min s.size 1000) = t at *
    clear HSZ hs
    have hz : (strOfNums t).size = t.length := strOfNums_size t
    obtain ⟨c, W1, hconv, hc1, hc2, hbW, hrb⟩ := conv_str wc (strOfNums t) (by rw [hz]; unfold maxLen; omega)
    have hnn : nums (strOfNums t) = t := strOfNums_inj (nums_byt _) hbt (str_nums _)
    rw [hnn] at hrb
    rw [hz] at hconv hc1
    have HTOK := Lib.hid (tokens_any _ t.length c t W1 _ hrb (Nat.le_refl _) rfl hc1 hc2 (by omega) (HT.out.below hbW HT.out.pos))
    have HWD := Lib.hid (fun W : World => word_is t hbt W)
    have HRW := Lib.hid (fun W : World => refWord_any t hbt W)
    have HNM := Lib.hid (fun W : World => name_any t hbt hlt W)
    have HRN := Lib.hid (fun W : World => refName_any t hbt hlt W)
    have HBW := Lib.hid hbW
    have hself : ((strOfNums t).toList == (strOfNums t).toList) = true := by simp
    clear hnn hrb hbW hc1 hc2 hbt hz
    cases hnm : isName t with
    | true =>
      obtain ⟨hE, hL⟩ := name_lex hnm
      rw [hnm] at HNM HRN
      have HTK : Hid (Calls Tryd.prog 9 #[.slice (some ⟨wc.heap.size, 0, none⟩) t.length c] W1 fun e w' => ∃ v, e = .returned (.tuple #[v, .int .i64 (lexN t : Int), .int .i64 0]) ∧ OwnT w' W1.heap.size v [⟨1, t, 0, true⟩, ⟨6, [], t.length, false⟩] ∧ Below W1.heap.size W1 w') := HTOK.out.mono fun e w' ⟨v, h1, h2, h3⟩ => ⟨v, by rw [h1, hE], by rw [← hL]; exact h2, h3⟩
      clear HTOK hE hL hnm
      generalize lexN t = N at *
      go_wp2_with fail
      refine HTK.out.mono ?_
      rintro e w1 ⟨v1, rfl, ho1, hb1⟩
      obtain ⟨a1, c1, e1, hc1, hc1', hr1⟩ := ownT_rt ho1
      change v1 = .slice a1 2 c1 at e1
      subst e1
      obtain ⟨b1, rfl, hbb1, hcell⟩ := hr1.at_ (by simp)
      have d0 : w1.cell? ⟨b1, 0, none⟩ = some (.int .i64 1) := hcell 0 _ rfl 0 _ rfl
      have d1 : w1.cell? ⟨b1, 1, none⟩ = some (.string (strOfNums t)) := hcell 0 _ rfl 1 _ rfl
      have d4 : w1.cell? ⟨b1, 4, none⟩ = some (.int .i64 6) := hcell 1 _ rfl 0 _ rfl
      have HB1 := Lib.hid (HBW.out.trans (hb1.mono HBW.out.size))
      have HKN := Lib.hid (known_any w1 (HT.out.below HB1.out HT.out.pos))
      clear hcell hr1 ho1 hb1 hc1 hc1'
      generalize isWord t = iw at *
      generalize strOfNums t = st at *
      go_wp2_with fail
      refine HKN.out.mono ?_
      rintro e w2 ⟨rfl, hb2⟩
      have HB2 := Lib.hid (HB1.out.trans (hb2.mono HB1.out.size))
      clear hb2 d0 d1 d4
      go_wp2_with fail
      refine (HWD.out _).mono ?_
      rintro e w' ⟨rfl, rfl⟩
      go_wp2_with fail
      refine (HRW.out _).mono ?_
      rintro e w3 ⟨rfl, hb3⟩
      have HB3 := Lib.hid (HB2.out.trans (hb3.mono HB2.out.size))
      clear hb3
      go_wp2_with fail
      refine (HNM.out _).mono ?_
      rintro e w4 ⟨rfl, hb4⟩
      have HB4 := Lib.hid (HB3.out.trans (hb4.mono HB3.out.size))
      clear hb4
      go_wp2_with fail
      refine (HRN.out _).mono ?_
      rintro e w5 ⟨rfl, hb5⟩
      have HB5 := Lib.hid (HB4.out.trans (hb5.mono HB4.out.size))
      clear hb5
      go_wp2_with fail
      refine (HNM.out _).mono ?_
      rintro e w6 ⟨rfl, hb6⟩
      have HB6 := Lib.hid (HB5.out.trans (hb6.mono HB5.out.size))
      clear hb6
      go_wp2_with fail
      go_ret
      exact ⟨rfl, HB6.out⟩
    | false =>
      rw [hnm] at HNM HRN
      clear hnm
      obtain ⟨E, hE⟩ : ∃ E, lexE t = E := ⟨_, rfl⟩
      have HTK : Hid (Calls Tryd.prog 9 #[.slice (some ⟨wc.heap.size, 0, none⟩) t.length c] W1 fun e w' => ∃ v, e = .returned (.tuple #[v, .int .i64 (lexN t : Int), .int .i64 E]) ∧ OwnT w' W1.heap.size v (lexT t) ∧ Below W1.heap.size W1 w') := HTOK.out.mono fun e w' ⟨v, h1, h2, h3⟩ => ⟨v, by rw [h1, hE], h2, h3⟩
      clear HTOK hE
      generalize lexN t = N at *
      generalize lexT t = T at *
      go_upto_region 4 with (go_at_call 9; refine HTK.out.mono ?_; rintro e w1 ⟨v1, rfl, ho1, hb1⟩)
      have HB1 := Lib.hid (HBW.out.trans (hb1.mono HBW.out.size))
      have HKN := Lib.hid (known_any w1 (HT.out.below HB1.out HT.out.pos))
      clear hb1
      go_cut [6] from 19 to 47 (fun s6 W => ∃ b, s6 = .bool b ∧ W = w1)
      case first =>
        obtain ⟨a1, c1, rfl, hc1, hc1', hr1⟩ := ownT_rt ho1
        by_cases hE : E = 0
        · subst hE
          by_cases hL : T.length = 2
          · obtain ⟨x, y, rfl⟩ : ∃ x y, T = [x, y] := by
              match T, hL with
              | [x, y], _ => exact ⟨x, y, rfl⟩
            obtain ⟨b1, rfl, hbb1, hcell⟩ := hr1.at_ (by simp)
            have d0 : w1.cell? ⟨b1, 0, none⟩ = some (.int .i64 x.kind) := hcell 0 _ rfl 0 _ rfl
            have d1 : w1.cell? ⟨b1, 1, none⟩ = some (.string (strOfNums x.text)) := hcell 0 _ rfl 1 _ rfl
            have d4 : w1.cell? ⟨b1, 4, none⟩ = some (.int .i64 y.kind) := hcell 1 _ rfl 0 _ rfl
            rw [show ([x, y] : List Tok).length = 2 from rfl]
            clear hcell hr1 ho1 hc1 hc1' hL
            generalize strOfNums x.text = xs at *
            generalize strOfNums t = st at *
            obtain ⟨p1, h1⟩ : ∃ p, (x.kind == (1 : Int)) = p := ⟨_, rfl⟩
            obtain ⟨p2, h2⟩ : ∃ p, (xs.toList == st.toList) = p := ⟨_, rfl⟩
            obtain ⟨p3, h3⟩ : ∃ p, (y.kind == (6 : Int)) = p := ⟨_, rfl⟩
            cases p1
            · go_wp2
              go_meet
              case rel => exact ⟨_, rfl, rfl⟩
            · cases p2
              · go_wp2
                go_meet
                case rel => exact ⟨_, rfl, rfl⟩
              · cases p3
                all_goals
                  go_wp2
                  go_meet
                  exact ⟨_, rfl, rfl⟩
          · have hLb : ((T.length : Int) == 2) = false := beq_no (by omega)
            clear hr1 ho1 hL
            generalize T.length = L at *
            go_wp2
            go_meet
            case rel => exact ⟨_, rfl, rfl⟩
        · have hEb := beq_no hE
          clear hr1 ho1 hE
          generalize T.length = L at *
          go_wp2
          go_meet
          case rel => exact ⟨_, rfl, rfl⟩
      case rest =>
        obtain ⟨b6, rfl, hwc⟩ := hcut
        subst hwc
        clear ho1 HTK
        generalize isWord t = iw at *
        generalize strOfNums t = st at *
        go_wp2_with fail
        refine HKN.out.mono ?_
        rintro e w2 ⟨rfl, hb2⟩
        have HB2 := Lib.hid (HB1.out.trans (hb2.mono HB1.out.size))
        clear hb2
        go_wp2_with fail
        refine (HWD.out _).mono ?_
        rintro e w' ⟨rfl, rfl⟩
        go_wp2_with fail
        refine (HRW.out _).mono ?_
        rintro e w3 ⟨rfl, hb3⟩
        have HB3 := Lib.hid (HB2.out.trans (hb3.mono HB2.out.size))
        clear hb3
        go_wp2_with fail
        refine (HNM.out _).mono ?_
        rintro e w4 ⟨rfl, hb4⟩
        have HB4 := Lib.hid (HB3.out.trans (hb4.mono HB3.out.size))
        clear hb4
        go_wp2_with fail
        refine (HRN.out _).mono ?_
        rintro e w5 ⟨rfl, hb5⟩
        have HB5 := Lib.hid (HB4.out.trans (hb5.mono HB4.out.size))
        clear hb5
        go_wp2_with fail
        refine (HNM.out _).mono ?_
        rintro e w6 ⟨rfl, hb6⟩
        have HB6 := Lib.hid (HB5.out.trans (hb6.mono HB5.out.size))
        clear hb6
        go_wp2_with fail
        go_ret
        exact ⟨rfl, HB6.out⟩

theorem lexWords_row (s : ByteArray) (hs : s.size ≤ maxLen) (w : World) (hT : Tab w) :
    Calls Tryd.prog 4 #[.string s] w fun e w' => e = .returned (.bool true) ∧ Below w.heap.size w w' := lexWords_walk s w hs hT

end Go.Proofs.YtiadbagfajhjfaaDoor.Lex
