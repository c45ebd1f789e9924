/-
 Layer 4 (lex): what the document's Name and Closes answer.
-/
import Derived.Test.YtaiihnniblibaaaGreatDoorLexRef
namespace Go.Proofs.YtaiihnniblibaaaGreatDoor.Lex
open Go.ChangeShapes Go.WideShapes Go.ChangeAt Go.RowKit Utf
set_option linter.unusedVariables false

theorem sort_lord (d : Int) : sortI d = 0 ↔ lord d = false := by
 unfold sortI lord
 by_cases h1 : kd d = 1
 ·simp [h1]
 ·by_cases h2 : kd d = 2
  ·simp [h2]
  ·simp [h1, h2]

set_option maxHeartbeats 4000000 in
theorem refCloses_any (k : Int) (t : List Int) (ht : Byt t) (at_ : Int) (f : Bool) (w : World) :
  Calls Tryz.prog 33 #[.agg #[.int .i64 k, .string (strOfNums t), .int .i64 at_, .bool f]] w fun e w' => e = .returned (.bool (closes k t)) ∧ Below w.heap.size w w' := by
 have hb1 : Below w.heap.size w (w.alloc (.cells #[.int .i64 k, .string (strOfNums t), .int .i64 at_, .bool f] 51)) := (Below.refl _ _).alloc (Nat.le_refl _) _
 have HB := Lib.hid hb1
 have HBE : Hid (∀ w', Below (w.alloc (.cells #[.int .i64 k, .string (strOfNums t), .int .i64 at_, .bool f] 51)).heap.size (w.alloc (.cells #[.int .i64 k, .string (strOfNums t), .int .i64 at_, .bool f] 51)) w' → Below w.heap.size w w') := fun w' hw => hb1.trans (hw.mono (by simp))
 have HCE : Hid (∀ w', Below (w.alloc (.cells #[.int .i64 k, .string (strOfNums t), .int .i64 at_, .bool f] 51)).heap.size (w.alloc (.cells #[.int .i64 k, .string (strOfNums t), .int .i64 at_, .bool f] 51)) w' → w'.cell? ⟨w.heap.size, 1, none⟩ = some (.string (strOfNums t))) := fun w' hw => by
  rw [hw.cell (p := ⟨w.heap.size, 1, none⟩) (by simp), World.cell?_alloc_at _ _ _ _ rfl]; rfl
 clear hb1
 by_cases k1 : k = 1
 ·subst k1
  have HW := Lib.hid (fun w : World => refWord_any t ht w)
  have hcl : closes 1 t = (!isWord t || decide (t = wRet) || decide (t = wBrk) || decide (t = wCon)) := rfl
  by_cases hw : isWord t = true
  ·rw [hw] at HW hcl
   by_cases c0 : t = [114, 101, 116, 117, 114, 110]
   ·have b0 : ((strOfNums t).toList == [114, 101, 116, 117, 114, 110]) = true := str_yes (u := [114, 101, 116, 117, 114, 110]) c0
    rw [show closes 1 t = true from by rw [c0]; decide +kernel]
    clear hcl hw ht c0
    generalize strOfNums t = s at *
    go_enter Tryz.func33, Tryz.ntmps33
    go_wp2_with (go_at_call 59; refine (HW.out _).mono ?_; rintro e w' ⟨rfl, hbl⟩; have hcx := HCE.out _ hbl)
    go_ret
    exact ⟨rfl, HBE.out _ hbl⟩
   have b0 : ((strOfNums t).toList == [114, 101, 116, 117, 114, 110]) = false := str_no ht (u := [114, 101, 116, 117, 114, 110]) (by decide) c0
   by_cases c1 : t = [98, 114, 101, 97, 107]
   ·have b1 : ((strOfNums t).toList == [98, 114, 101, 97, 107]) = true := str_yes (u := [98, 114, 101, 97, 107]) c1
    rw [show closes 1 t = true from by rw [c1]; decide +kernel]
    clear hcl hw ht c0 c1
    generalize strOfNums t = s at *
    go_enter Tryz.func33, Tryz.ntmps33
    go_wp2_with (go_at_call 59; refine (HW.out _).mono ?_; rintro e w' ⟨rfl, hbl⟩; have hcx := HCE.out _ hbl)
    go_ret
    exact ⟨rfl, HBE.out _ hbl⟩
   have b1 : ((strOfNums t).toList == [98, 114, 101, 97, 107]) = false := str_no ht (u := [98, 114, 101, 97, 107]) (by decide) c1
   by_cases c2 : t = [99, 111, 110, 116, 105, 110, 117, 101]
   ·have b2 : ((strOfNums t).toList == [99, 111, 110, 116, 105, 110, 117, 101]) = true := str_yes (u := [99, 111, 110, 116, 105, 110, 117, 101]) c2
    rw [show closes 1 t = true from by rw [c2]; decide +kernel]
    clear hcl hw ht c0 c1 c2
    generalize strOfNums t = s at *
    go_enter Tryz.func33, Tryz.ntmps33
    go_wp2_with (go_at_call 59; refine (HW.out _).mono ?_; rintro e w' ⟨rfl, hbl⟩; have hcx := HCE.out _ hbl)
    go_ret
    exact ⟨rfl, HBE.out _ hbl⟩
   have b2 : ((strOfNums t).toList == [99, 111, 110, 116, 105, 110, 117, 101]) = false := str_no ht (u := [99, 111, 110, 116, 105, 110, 117, 101]) (by decide) c2
   have hc : closes 1 t = false := by rw [hcl]; unfold wRet wBrk wCon; simp [c0, c1, c2]
   rw [hc]
   clear hc hcl hw c0 c1 c2 ht
   generalize strOfNums t = s at *
   go_enter Tryz.func33, Tryz.ntmps33
   go_wp2_with (go_at_call 59; refine (HW.out _).mono ?_; rintro e w' ⟨rfl, hbl⟩; have hcx := HCE.out _ hbl)
   go_ret
   exact ⟨rfl, HBE.out _ hbl⟩
  ·have hw' : isWord t = false := by simpa using hw
   rw [hw'] at HW hcl
   have hc : closes 1 t = true := by rw [hcl]; simp
   rw [hc]
   clear hc hcl hw hw' ht
   generalize strOfNums t = s at *
   go_enter Tryz.func33, Tryz.ntmps33
   go_wp2_with (go_at_call 59; refine (HW.out _).mono ?_; rintro e w' ⟨rfl, hbl⟩; have hcx := HCE.out _ hbl)
   go_ret
   exact ⟨rfl, HBE.out _ hbl⟩
 have q1 := beq_no k1
 by_cases k4 : k = 4
 ·subst k4
  clear q1 k1
  by_cases c0 : t = [41]
  ·have b0 : ((strOfNums t).toList == [41]) = true := str_yes (u := [41]) c0
   rw [show closes 4 t = true from by rw [c0]; decide +kernel]
   clear ht c0
   generalize strOfNums t = s at *
   go_enter Tryz.func33, Tryz.ntmps33
   go_wp2
   go_ret
   exact ⟨rfl, HB.out⟩
  have b0 : ((strOfNums t).toList == [41]) = false := str_no ht (u := [41]) (by decide) c0
  by_cases c1 : t = [93]
  ·have b1 : ((strOfNums t).toList == [93]) = true := str_yes (u := [93]) c1
   rw [show closes 4 t = true from by rw [c1]; decide +kernel]
   clear ht c0 c1
   generalize strOfNums t = s at *
   go_enter Tryz.func33, Tryz.ntmps33
   go_wp2
   go_ret
   exact ⟨rfl, HB.out⟩
  have b1 : ((strOfNums t).toList == [93]) = false := str_no ht (u := [93]) (by decide) c1
  by_cases c2 : t = [125]
  ·have b2 : ((strOfNums t).toList == [125]) = true := str_yes (u := [125]) c2
   rw [show closes 4 t = true from by rw [c2]; decide +kernel]
   clear ht c0 c1 c2
   generalize strOfNums t = s at *
   go_enter Tryz.func33, Tryz.ntmps33
   go_wp2
   go_ret
   exact ⟨rfl, HB.out⟩
  have b2 : ((strOfNums t).toList == [125]) = false := str_no ht (u := [125]) (by decide) c2
  by_cases c3 : t = [43, 43]
  ·have b3 : ((strOfNums t).toList == [43, 43]) = true := str_yes (u := [43, 43]) c3
   rw [show closes 4 t = true from by rw [c3]; decide +kernel]
   clear ht c0 c1 c2 c3
   generalize strOfNums t = s at *
   go_enter Tryz.func33, Tryz.ntmps33
   go_wp2
   go_ret
   exact ⟨rfl, HB.out⟩
  have b3 : ((strOfNums t).toList == [43, 43]) = false := str_no ht (u := [43, 43]) (by decide) c3
  by_cases c4 : t = [45, 45]
  ·have b4 : ((strOfNums t).toList == [45, 45]) = true := str_yes (u := [45, 45]) c4
   rw [show closes 4 t = true from by rw [c4]; decide +kernel]
   clear ht c0 c1 c2 c3 c4
   generalize strOfNums t = s at *
   go_enter Tryz.func33, Tryz.ntmps33
   go_wp2
   go_ret
   exact ⟨rfl, HB.out⟩
  have b4 : ((strOfNums t).toList == [45, 45]) = false := str_no ht (u := [45, 45]) (by decide) c4
  have hc : closes 4 t = false := by
   show decide (t ∈ shutM) = false
   unfold shutM; simp [c0, c1, c2, c3, c4]
  rw [hc]
  clear hc ht c0 c1 c2 c3 c4
  generalize strOfNums t = s at *
  go_enter Tryz.func33, Tryz.ntmps33
  go_wp2
  go_ret
  exact ⟨rfl, HB.out⟩
 have q4 := beq_no k4
 by_cases k2 : k = 2
 ·subst k2
  rw [show closes 2 t = true from rfl]
  clear ht
  generalize strOfNums t = s at *
  go_enter Tryz.func33, Tryz.ntmps33
  go_wp2
  go_ret
  exact ⟨rfl, HB.out⟩
 by_cases k3 : k = 3
 ·subst k3
  rw [show closes 3 t = true from rfl]
  clear ht
  generalize strOfNums t = s at *
  go_enter Tryz.func33, Tryz.ntmps33
  go_wp2
  go_ret
  exact ⟨rfl, HB.out⟩
 have q2 := beq_no k2; have q3 := beq_no k3
 have hc : closes k t = false := by unfold closes; rw [if_neg (by omega), if_neg k1, if_neg k4]
 rw [hc]
 clear hc k1 k2 k3 k4 ht
 generalize strOfNums t = s at *
 go_enter Tryz.func33, Tryz.ntmps33
 go_wp2
 go_ret
 exact ⟨rfl, HB.out⟩

end Go.Proofs.YtaiihnniblibaaaGreatDoor.Lex
