/-
 Layer 4 (lex): which texts are the program's words (lex.Word), and behind which tokens an end is put in (lex.ending).
-/
import Derived.Test.YtaiihnniblibaaaGreatDoorLexNext
namespace Go.Proofs.YtaiihnniblibaaaGreatDoor.Lex
open Go.ChangeShapes Go.WideShapes Go.ChangeAt Go.RowKit Utf
set_option linter.unusedVariables false

theorem bytesOf_inj {a b : List Int} (ha : Byt a) (hb : Byt b) (h : Lib.bytesOf a = Lib.bytesOf b) : a = b :=
 strOfNums_inj ha hb (str_toList (by rw [Lib.strOfNums_toList, Lib.strOfNums_toList, h]))
theorem str_is {t : List Int} (ht : Byt t) (u : List Int) (hu : Byt u) : ((strOfNums t).toList == Lib.bytesOf u) = decide (t = u) := by
 rw [Lib.strOfNums_toList]
 by_cases h : t = u
 ·subst h; simp
 ·rw [decide_eq_false h, beq_eq_false_iff_ne]
  exact fun e => h (bytesOf_inj ht hu e)
theorem str_yes {t u : List Int} (h : t = u) : ((strOfNums t).toList == Lib.bytesOf u) = true := by
 subst h; rw [Lib.strOfNums_toList]; simp
theorem str_no {t : List Int} (ht : Byt t) {u : List Int} (hu : u.all (fun x => decide (0 ≤ x ∧ x < 256)) = true) (h : t ≠ u) : ((strOfNums t).toList == Lib.bytesOf u) = false := by
 rw [str_is ht u (fun x hx => by simpa using List.all_eq_true.1 hu x hx), decide_eq_false h]

set_option maxHeartbeats 4000000 in
theorem word_is (t : List Int) (ht : Byt t) (w : World) :
  Calls Tryz.prog 63 #[.string (strOfNums t)] w fun e w' => e = .returned (.bool (isWord t)) ∧ w = w' := by
 by_cases c0 : t = [112, 97, 99, 107, 97, 103, 101]
 ·have b0 : ((strOfNums t).toList == [112, 97, 99, 107, 97, 103, 101]) = true := str_yes (u := [112, 97, 99, 107, 97, 103, 101]) c0
  rw [show isWord t = true from by rw [c0]; decide +kernel]
  clear ht c0
  generalize strOfNums t = s at *
  go_enter Tryz.func63, Tryz.ntmps63
  go_wp2
  go_ret
  exact ⟨rfl, rfl⟩
 have b0 : ((strOfNums t).toList == [112, 97, 99, 107, 97, 103, 101]) = false := str_no ht (u := [112, 97, 99, 107, 97, 103, 101]) (by decide) c0
 by_cases c1 : t = [105, 109, 112, 111, 114, 116]
 ·have b1 : ((strOfNums t).toList == [105, 109, 112, 111, 114, 116]) = true := str_yes (u := [105, 109, 112, 111, 114, 116]) c1
  rw [show isWord t = true from by rw [c1]; decide +kernel]
  clear ht c0 c1
  generalize strOfNums t = s at *
  go_enter Tryz.func63, Tryz.ntmps63
  go_wp2
  go_ret
  exact ⟨rfl, rfl⟩
 have b1 : ((strOfNums t).toList == [105, 109, 112, 111, 114, 116]) = false := str_no ht (u := [105, 109, 112, 111, 114, 116]) (by decide) c1
 by_cases c2 : t = [99, 111, 110, 115, 116]
 ·have b2 : ((strOfNums t).toList == [99, 111, 110, 115, 116]) = true := str_yes (u := [99, 111, 110, 115, 116]) c2
  rw [show isWord t = true from by rw [c2]; decide +kernel]
  clear ht c0 c1 c2
  generalize strOfNums t = s at *
  go_enter Tryz.func63, Tryz.ntmps63
  go_wp2
  go_ret
  exact ⟨rfl, rfl⟩
 have b2 : ((strOfNums t).toList == [99, 111, 110, 115, 116]) = false := str_no ht (u := [99, 111, 110, 115, 116]) (by decide) c2
 by_cases c3 : t = [118, 97, 114]
 ·have b3 : ((strOfNums t).toList == [118, 97, 114]) = true := str_yes (u := [118, 97, 114]) c3
  rw [show isWord t = true from by rw [c3]; decide +kernel]
  clear ht c0 c1 c2 c3
  generalize strOfNums t = s at *
  go_enter Tryz.func63, Tryz.ntmps63
  go_wp2
  go_ret
  exact ⟨rfl, rfl⟩
 have b3 : ((strOfNums t).toList == [118, 97, 114]) = false := str_no ht (u := [118, 97, 114]) (by decide) c3
 by_cases c4 : t = [116, 121, 112, 101]
 ·have b4 : ((strOfNums t).toList == [116, 121, 112, 101]) = true := str_yes (u := [116, 121, 112, 101]) c4
  rw [show isWord t = true from by rw [c4]; decide +kernel]
  clear ht c0 c1 c2 c3 c4
  generalize strOfNums t = s at *
  go_enter Tryz.func63, Tryz.ntmps63
  go_wp2
  go_ret
  exact ⟨rfl, rfl⟩
 have b4 : ((strOfNums t).toList == [116, 121, 112, 101]) = false := str_no ht (u := [116, 121, 112, 101]) (by decide) c4
 by_cases c5 : t = [102, 117, 110, 99]
 ·have b5 : ((strOfNums t).toList == [102, 117, 110, 99]) = true := str_yes (u := [102, 117, 110, 99]) c5
  rw [show isWord t = true from by rw [c5]; decide +kernel]
  clear ht c0 c1 c2 c3 c4 c5
  generalize strOfNums t = s at *
  go_enter Tryz.func63, Tryz.ntmps63
  go_wp2
  go_ret
  exact ⟨rfl, rfl⟩
 have b5 : ((strOfNums t).toList == [102, 117, 110, 99]) = false := str_no ht (u := [102, 117, 110, 99]) (by decide) c5
 by_cases c6 : t = [109, 97, 112]
 ·have b6 : ((strOfNums t).toList == [109, 97, 112]) = true := str_yes (u := [109, 97, 112]) c6
  rw [show isWord t = true from by rw [c6]; decide +kernel]
  clear ht c0 c1 c2 c3 c4 c5 c6
  generalize strOfNums t = s at *
  go_enter Tryz.func63, Tryz.ntmps63
  go_wp2
  go_ret
  exact ⟨rfl, rfl⟩
 have b6 : ((strOfNums t).toList == [109, 97, 112]) = false := str_no ht (u := [109, 97, 112]) (by decide) c6
 by_cases c7 : t = [115, 116, 114, 117, 99, 116]
 ·have b7 : ((strOfNums t).toList == [115, 116, 114, 117, 99, 116]) = true := str_yes (u := [115, 116, 114, 117, 99, 116]) c7
  rw [show isWord t = true from by rw [c7]; decide +kernel]
  clear ht c0 c1 c2 c3 c4 c5 c6 c7
  generalize strOfNums t = s at *
  go_enter Tryz.func63, Tryz.ntmps63
  go_wp2
  go_ret
  exact ⟨rfl, rfl⟩
 have b7 : ((strOfNums t).toList == [115, 116, 114, 117, 99, 116]) = false := str_no ht (u := [115, 116, 114, 117, 99, 116]) (by decide) c7
 by_cases c8 : t = [105, 102]
 ·have b8 : ((strOfNums t).toList == [105, 102]) = true := str_yes (u := [105, 102]) c8
  rw [show isWord t = true from by rw [c8]; decide +kernel]
  clear ht c0 c1 c2 c3 c4 c5 c6 c7 c8
  generalize strOfNums t = s at *
  go_enter Tryz.func63, Tryz.ntmps63
  go_wp2
  go_ret
  exact ⟨rfl, rfl⟩
 have b8 : ((strOfNums t).toList == [105, 102]) = false := str_no ht (u := [105, 102]) (by decide) c8
 by_cases c9 : t = [101, 108, 115, 101]
 ·have b9 : ((strOfNums t).toList == [101, 108, 115, 101]) = true := str_yes (u := [101, 108, 115, 101]) c9
  rw [show isWord t = true from by rw [c9]; decide +kernel]
  clear ht c0 c1 c2 c3 c4 c5 c6 c7 c8 c9
  generalize strOfNums t = s at *
  go_enter Tryz.func63, Tryz.ntmps63
  go_wp2
  go_ret
  exact ⟨rfl, rfl⟩
 have b9 : ((strOfNums t).toList == [101, 108, 115, 101]) = false := str_no ht (u := [101, 108, 115, 101]) (by decide) c9
 by_cases c10 : t = [102, 111, 114]
 ·have b10 : ((strOfNums t).toList == [102, 111, 114]) = true := str_yes (u := [102, 111, 114]) c10
  rw [show isWord t = true from by rw [c10]; decide +kernel]
  clear ht c0 c1 c2 c3 c4 c5 c6 c7 c8 c9 c10
  generalize strOfNums t = s at *
  go_enter Tryz.func63, Tryz.ntmps63
  go_wp2
  go_ret
  exact ⟨rfl, rfl⟩
 have b10 : ((strOfNums t).toList == [102, 111, 114]) = false := str_no ht (u := [102, 111, 114]) (by decide) c10
 by_cases c11 : t = [114, 101, 116, 117, 114, 110]
 ·have b11 : ((strOfNums t).toList == [114, 101, 116, 117, 114, 110]) = true := str_yes (u := [114, 101, 116, 117, 114, 110]) c11
  rw [show isWord t = true from by rw [c11]; decide +kernel]
  clear ht c0 c1 c2 c3 c4 c5 c6 c7 c8 c9 c10 c11
  generalize strOfNums t = s at *
  go_enter Tryz.func63, Tryz.ntmps63
  go_wp2
  go_ret
  exact ⟨rfl, rfl⟩
 have b11 : ((strOfNums t).toList == [114, 101, 116, 117, 114, 110]) = false := str_no ht (u := [114, 101, 116, 117, 114, 110]) (by decide) c11
 by_cases c12 : t = [98, 114, 101, 97, 107]
 ·have b12 : ((strOfNums t).toList == [98, 114, 101, 97, 107]) = true := str_yes (u := [98, 114, 101, 97, 107]) c12
  rw [show isWord t = true from by rw [c12]; decide +kernel]
  clear ht c0 c1 c2 c3 c4 c5 c6 c7 c8 c9 c10 c11 c12
  generalize strOfNums t = s at *
  go_enter Tryz.func63, Tryz.ntmps63
  go_wp2
  go_ret
  exact ⟨rfl, rfl⟩
 have b12 : ((strOfNums t).toList == [98, 114, 101, 97, 107]) = false := str_no ht (u := [98, 114, 101, 97, 107]) (by decide) c12
 by_cases c13 : t = [99, 111, 110, 116, 105, 110, 117, 101]
 ·have b13 : ((strOfNums t).toList == [99, 111, 110, 116, 105, 110, 117, 101]) = true := str_yes (u := [99, 111, 110, 116, 105, 110, 117, 101]) c13
  rw [show isWord t = true from by rw [c13]; decide +kernel]
  clear ht c0 c1 c2 c3 c4 c5 c6 c7 c8 c9 c10 c11 c12 c13
  generalize strOfNums t = s at *
  go_enter Tryz.func63, Tryz.ntmps63
  go_wp2
  go_ret
  exact ⟨rfl, rfl⟩
 have b13 : ((strOfNums t).toList == [99, 111, 110, 116, 105, 110, 117, 101]) = false := str_no ht (u := [99, 111, 110, 116, 105, 110, 117, 101]) (by decide) c13
 have hw : isWord t = false := by unfold isWord words; simp [c0, c1, c2, c3, c4, c5, c6, c7, c8, c9, c10, c11, c12, c13]
 rw [hw]
 clear hw c0 c1 c2 c3 c4 c5 c6 c7 c8 c9 c10 c11 c12 c13
 generalize strOfNums t = s at *
 go_enter Tryz.func63, Tryz.ntmps63
 go_wp2
 go_ret
 exact ⟨rfl, rfl⟩

set_option maxHeartbeats 4000000 in
theorem ending_is (k : Int) (t : List Int) (ht : Byt t) (at_ : Int) (f : Bool) (w : World) :
  Calls Tryz.prog 42 #[.agg #[.int .i64 k, .string (strOfNums t), .int .i64 at_, .bool f]] w fun e w' => e = .returned (.bool (closes k t)) ∧ w.alloc (.cells #[.int .i64 k, .string (strOfNums t), .int .i64 at_, .bool f] 75) = w' := by
 by_cases k2 : k = 2
 ·subst k2
  rw [show closes 2 t = true from rfl]
  clear ht
  generalize strOfNums t = s
  go_enter Tryz.func42, Tryz.ntmps42
  go_wp2
  go_ret
  exact ⟨rfl, rfl⟩
 by_cases k3 : k = 3
 ·subst k3
  rw [show closes 3 t = true from rfl]
  clear ht
  generalize strOfNums t = s
  go_enter Tryz.func42, Tryz.ntmps42
  go_wp2
  go_ret
  exact ⟨rfl, rfl⟩
 have q2 := beq_no k2; have q3 := beq_no k3
 by_cases k1 : k = 1
 ·subst k1
  have HW := Lib.hid (fun w : World => word_is t ht w)
  have hcl : closes 1 t = (!isWord t || decide (t = wRet) || decide (t = wBrk) || decide (t = wCon)) := rfl
  by_cases hw : isWord t = true
  ·rw [hw] at HW hcl
   by_cases c0 : t = [114, 101, 116, 117, 114, 110]
   ·have b0 : ((strOfNums t).toList == [114, 101, 116, 117, 114, 110]) = true := str_yes (u := [114, 101, 116, 117, 114, 110]) c0
    rw [show closes 1 t = true from by rw [c0]; decide +kernel]
    clear hcl hw ht c0
    generalize strOfNums t = s at *
    go_enter Tryz.func42, Tryz.ntmps42
    go_wp2_with (go_at_call 63; refine (HW.out _).mono ?_; rintro e w' ⟨rfl, rfl⟩)
    go_ret
    exact ⟨rfl, rfl⟩
   have b0 : ((strOfNums t).toList == [114, 101, 116, 117, 114, 110]) = false := str_no ht (u := [114, 101, 116, 117, 114, 110]) (by decide) c0
   by_cases c1 : t = [98, 114, 101, 97, 107]
   ·have b1 : ((strOfNums t).toList == [98, 114, 101, 97, 107]) = true := str_yes (u := [98, 114, 101, 97, 107]) c1
    rw [show closes 1 t = true from by rw [c1]; decide +kernel]
    clear hcl hw ht c0 c1
    generalize strOfNums t = s at *
    go_enter Tryz.func42, Tryz.ntmps42
    go_wp2_with (go_at_call 63; refine (HW.out _).mono ?_; rintro e w' ⟨rfl, rfl⟩)
    go_ret
    exact ⟨rfl, rfl⟩
   have b1 : ((strOfNums t).toList == [98, 114, 101, 97, 107]) = false := str_no ht (u := [98, 114, 101, 97, 107]) (by decide) c1
   by_cases c2 : t = [99, 111, 110, 116, 105, 110, 117, 101]
   ·have b2 : ((strOfNums t).toList == [99, 111, 110, 116, 105, 110, 117, 101]) = true := str_yes (u := [99, 111, 110, 116, 105, 110, 117, 101]) c2
    rw [show closes 1 t = true from by rw [c2]; decide +kernel]
    clear hcl hw ht c0 c1 c2
    generalize strOfNums t = s at *
    go_enter Tryz.func42, Tryz.ntmps42
    go_wp2_with (go_at_call 63; refine (HW.out _).mono ?_; rintro e w' ⟨rfl, rfl⟩)
    go_ret
    exact ⟨rfl, rfl⟩
   have b2 : ((strOfNums t).toList == [99, 111, 110, 116, 105, 110, 117, 101]) = false := str_no ht (u := [99, 111, 110, 116, 105, 110, 117, 101]) (by decide) c2
   have hc : closes 1 t = false := by rw [hcl]; unfold wRet wBrk wCon; simp [c0, c1, c2]
   rw [hc]
   clear hc hcl hw c0 c1 c2 ht
   generalize strOfNums t = s at *
   go_enter Tryz.func42, Tryz.ntmps42
   go_wp2_with (go_at_call 63; refine (HW.out _).mono ?_; rintro e w' ⟨rfl, rfl⟩)
   go_ret
   exact ⟨rfl, rfl⟩
  ·have hw' : isWord t = false := by simpa using hw
   rw [hw'] at HW hcl
   have hc : closes 1 t = true := by rw [hcl]; simp
   rw [hc]
   clear hc hcl hw hw' ht
   generalize strOfNums t = s at *
   go_enter Tryz.func42, Tryz.ntmps42
   go_wp2_with (go_at_call 63; refine (HW.out _).mono ?_; rintro e w' ⟨rfl, rfl⟩)
   go_ret
   exact ⟨rfl, rfl⟩
 have q1 := beq_no k1
 by_cases k4 : k = 4
 ·subst k4
  clear q1 q2 q3 k1 k2 k3
  by_cases c0 : t = [41]
  ·have b0 : ((strOfNums t).toList == [41]) = true := str_yes (u := [41]) c0
   rw [show closes 4 t = true from by rw [c0]; decide +kernel]
   clear ht c0
   generalize strOfNums t = s at *
   go_enter Tryz.func42, Tryz.ntmps42
   go_wp2
   go_ret
   exact ⟨rfl, rfl⟩
  have b0 : ((strOfNums t).toList == [41]) = false := str_no ht (u := [41]) (by decide) c0
  by_cases c1 : t = [93]
  ·have b1 : ((strOfNums t).toList == [93]) = true := str_yes (u := [93]) c1
   rw [show closes 4 t = true from by rw [c1]; decide +kernel]
   clear ht c0 c1
   generalize strOfNums t = s at *
   go_enter Tryz.func42, Tryz.ntmps42
   go_wp2
   go_ret
   exact ⟨rfl, rfl⟩
  have b1 : ((strOfNums t).toList == [93]) = false := str_no ht (u := [93]) (by decide) c1
  by_cases c2 : t = [125]
  ·have b2 : ((strOfNums t).toList == [125]) = true := str_yes (u := [125]) c2
   rw [show closes 4 t = true from by rw [c2]; decide +kernel]
   clear ht c0 c1 c2
   generalize strOfNums t = s at *
   go_enter Tryz.func42, Tryz.ntmps42
   go_wp2
   go_ret
   exact ⟨rfl, rfl⟩
  have b2 : ((strOfNums t).toList == [125]) = false := str_no ht (u := [125]) (by decide) c2
  by_cases c3 : t = [43, 43]
  ·have b3 : ((strOfNums t).toList == [43, 43]) = true := str_yes (u := [43, 43]) c3
   rw [show closes 4 t = true from by rw [c3]; decide +kernel]
   clear ht c0 c1 c2 c3
   generalize strOfNums t = s at *
   go_enter Tryz.func42, Tryz.ntmps42
   go_wp2
   go_ret
   exact ⟨rfl, rfl⟩
  have b3 : ((strOfNums t).toList == [43, 43]) = false := str_no ht (u := [43, 43]) (by decide) c3
  by_cases c4 : t = [45, 45]
  ·have b4 : ((strOfNums t).toList == [45, 45]) = true := str_yes (u := [45, 45]) c4
   rw [show closes 4 t = true from by rw [c4]; decide +kernel]
   clear ht c0 c1 c2 c3 c4
   generalize strOfNums t = s at *
   go_enter Tryz.func42, Tryz.ntmps42
   go_wp2
   go_ret
   exact ⟨rfl, rfl⟩
  have b4 : ((strOfNums t).toList == [45, 45]) = false := str_no ht (u := [45, 45]) (by decide) c4
  have hc : closes 4 t = false := by
   show decide (t ∈ shutM) = false
   unfold shutM; simp [c0, c1, c2, c3, c4]
  rw [hc]
  clear hc ht c0 c1 c2 c3 c4
  generalize strOfNums t = s at *
  go_enter Tryz.func42, Tryz.ntmps42
  go_wp2
  go_ret
  exact ⟨rfl, rfl⟩
 have q4 := beq_no k4
 have hc : closes k t = false := by unfold closes; rw [if_neg (by omega), if_neg k1, if_neg k4]
 rw [hc]
 clear hc k1 k2 k3 k4 ht
 generalize strOfNums t = s at *
 go_enter Tryz.func42, Tryz.ntmps42
 go_wp2
 go_ret
 exact ⟨rfl, rfl⟩

end Go.Proofs.YtaiihnniblibaaaGreatDoor.Lex
