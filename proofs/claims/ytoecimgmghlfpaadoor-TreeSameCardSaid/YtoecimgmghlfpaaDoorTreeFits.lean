/-
  Layer 5 (tree): whether a node is as its kind asks: its Kids, its text, its trail. Written by gen_treefits.py.
-/
import Derived.Test.YtoecimgmghlfpaaDoorJoinKids
import Derived.Test.YtoecimgmghlfpaaDoorTreeTok
namespace Go.Proofs.YtoecimgmghlfpaaDoor.Tree
open Go.ChangeShapes Go.WideShapes Go.ChangeAt Go.RowKit Mem
set_option linter.unusedVariables false

set_option maxRecDepth 100000 in
set_option maxHeartbeats 8000000 in
theorem kids_none (k : Int) (x y : ByteArray) (A : Option Addr) (n C : Nat) (w : World) (b1 : (k == 1) = false) (b2 : (k == 2) = false) (b3 : (k == 3) = false) (b4 : (k == 4) = false) (b5 : (k == 5) = false) (b6 : (k == 6) = false) (b7 : (k == 7) = false) (b8 : (k == 8) = false) (b9 : (k == 9) = false) (b10 : (k == 10) = false) (b11 : (k == 11) = false) (b12 : (k == 12) = false) (b13 : (k == 13) = false) (b14 : (k == 14) = false) (b15 : (k == 15) = false) (b16 : (k == 16) = false) (b17 : (k == 17) = false) (b18 : (k == 18) = false) (b19 : (k == 19) = false) (b20 : (k == 20) = false) (b21 : (k == 21) = false) (b22 : (k == 22) = false) (b23 : (k == 23) = false) (b24 : (k == 24) = false) (b25 : (k == 25) = false) (b26 : (k == 26) = false) (b27 : (k == 27) = false) (b28 : (k == 28) = false) (b29 : (k == 29) = false) (b30 : (k == 30) = false) (b31 : (k == 31) = false) (b32 : (k == 32) = false) (b33 : (k == 33) = false) :
    Calls Tryd.prog 37 #[.agg #[.int .i64 k, .string x, .string y, .slice A n C]] w fun e w' => e = .returned (.bool false) ∧ Below w.heap.size w w' := by
  have HOF := Lib.hid (of_any [33] (w.heap.size + 1) 1 ((w.alloc (.cells #[.int .i64 k, .string x, .string y, .slice A n C] 24)).alloc (.cells #[.int .i64 33] 3)) rfl (by decide) (by simp) (fun i u hu => by rw [World.cell?_alloc_at _ _ _ _ (by simp)]; match i, hu with | 0, hu => (cases hu; rfl)))
  have hlt : w.heap.size < (w.alloc (.cells #[.int .i64 k, .string x, .string y, .slice A n C] 24)).heap.size := by simp
  have b1 := below2 w (.cells #[.int .i64 k, .string x, .string y, .slice A n C] 24) (.cells #[.int .i64 33] 3)
  go_enter Tryd.func37, Tryd.ntmps37
  go_wp2_with fail
  refine (HOF.out).mono ?_
  rintro e w3 ⟨hb3, v3, rfl, ht3⟩
  obtain ⟨g3, c3, rfl, hrest⟩ := ht3
  have hk0 : w3.cell? ⟨w.heap.size, 0, none⟩ = some (.int .i64 k) := by
    rw [hb3.cell (p := ⟨w.heap.size, 0, none⟩) (by simp; omega), World.cell?_alloc_lt _ _ _ hlt, World.cell?_alloc_at _ _ _ _ rfl]; rfl
  have HB := Lib.hid (b1.trans (hb3.mono b1.size))
  clear hb3 hrest HOF b1
  go_wp2
  go_ret
  exact ⟨rfl, HB.out⟩

set_option maxRecDepth 100000 in
theorem kidsFit_any (k : Int) (x y : ByteArray) (A : Option Addr) (n C : Nat) (f : F) (w : World) (hf : Fs w (Lo w.heap.size) (.slice A n C) f) :
    Calls Tryd.prog 37 #[.agg #[.int .i64 k, .string x, .string y, .slice A n C]] w fun e w' => e = .returned (.bool (kidsOK k x f)) ∧ Below w.heap.size w w' := by
  by_cases h1 : k = 1
  · subst h1; exact kids_1 x y A n C f w hf
  by_cases h2 : k = 2
  · subst h2; exact kids_2 x y A n C f w hf
  by_cases h3 : k = 3
  · subst h3; exact kids_3 x y A n C f w hf
  by_cases h4 : k = 4
  · subst h4; exact kids_4 x y A n C f w hf
  by_cases h5 : k = 5
  · subst h5; exact kids_5 x y A n C f w hf
  by_cases h6 : k = 6
  · subst h6; exact kids_6 x y A n C f w hf
  by_cases h7 : k = 7
  · subst h7; exact kids_7 x y A n C f w hf
  by_cases h8 : k = 8
  · subst h8; exact kids_8 x y A n C f w hf
  by_cases h9 : k = 9
  · subst h9; exact kids_9 x y A n C f w hf
  by_cases h10 : k = 10
  · subst h10; exact kids_10 x y A n C f w hf
  by_cases h11 : k = 11
  · subst h11; exact kids_11 x y A n C f w hf
  by_cases h12 : k = 12
  · subst h12; exact kids_12 x y A n C f w hf
  by_cases h13 : k = 13
  · subst h13; exact kids_13 x y A n C f w hf
  by_cases h14 : k = 14
  · subst h14; exact kids_14 x y A n C f w hf
  by_cases h15 : k = 15
  · subst h15; exact kids_15 x y A n C f w hf
  by_cases h16 : k = 16
  · subst h16; exact kids_16 x y A n C f w hf
  by_cases h17 : k = 17
  · subst h17; exact kids_17 x y A n C f w hf
  by_cases h18 : k = 18
  · subst h18; exact kids_18 x y A n C f w hf
  by_cases h19 : k = 19
  · subst h19; exact kids_19 x y A n C f w hf
  by_cases h20 : k = 20
  · subst h20; exact kids_20 x y A n C f w hf
  by_cases h21 : k = 21
  · subst h21
    cases hx : (x.toList == [58, 61]) with
    | true => exact kids_21true x y A n C f w hf hx
    | false => exact kids_21false x y A n C f w hf hx
  by_cases h22 : k = 22
  · subst h22; exact kids_22 x y A n C f w hf
  by_cases h23 : k = 23
  · subst h23; exact kids_23 x y A n C f w hf
  by_cases h24 : k = 24
  · subst h24; exact kids_24 x y A n C f w hf
  by_cases h25 : k = 25
  · subst h25; exact kids_25 x y A n C f w hf
  by_cases h26 : k = 26
  · subst h26; exact kids_26 x y A n C f w hf
  by_cases h27 : k = 27
  · subst h27; exact kids_27 x y A n C f w hf
  by_cases h28 : k = 28
  · subst h28; exact kids_28 x y A n C f w hf
  by_cases h29 : k = 29
  · subst h29; exact kids_29 x y A n C f w hf
  by_cases h30 : k = 30
  · subst h30; exact kids_30 x y A n C f w hf
  by_cases h31 : k = 31
  · subst h31; exact kids_31 x y A n C f w hf
  by_cases h32 : k = 32
  · subst h32; exact kids_32 x y A n C f w hf
  by_cases h33 : k = 33
  · subst h33; exact kids_33 x y A n C f w hf
  rw [show kidsOK k x f = false by unfold kidsOK; simp only [h1, h2, h3, h4, h5, h6, h7, h8, h9, h10, h11, h12, h13, h14, h15, h16, h17, h18, h19, h20, h21, h22, h23, h24, h25, h26, h27, h28, h29, h30, h31, h32, h33, or_self, if_false]]
  exact kids_none k x y A n C w (kno h1) (kno h2) (kno h3) (kno h4) (kno h5) (kno h6) (kno h7) (kno h8) (kno h9) (kno h10) (kno h11) (kno h12) (kno h13) (kno h14) (kno h15) (kno h16) (kno h17) (kno h18) (kno h19) (kno h20) (kno h21) (kno h22) (kno h23) (kno h24) (kno h25) (kno h26) (kno h27) (kno h28) (kno h29) (kno h30) (kno h31) (kno h32) (kno h33)

set_option maxRecDepth 100000 in
set_option maxHeartbeats 4000000 in
theorem text_2 (x y : ByteArray) (A : Option Addr) (n C : Nat) (w : World) (hx : x.size ≤ 1000000) (hT : Lex.Tab w) : Calls Tryd.prog 35 #[.agg #[.int .i64 2, .string x, .string y, .slice A n C]] w fun e w' => e = .returned (.bool (textOK nmB tkB 2 x)) ∧ Below w.heap.size w w' := by
  have b1 := below1 w (.cells #[.int .i64 2, .string x, .string y, .slice A n C] 24)
  rw [show textOK nmB tkB 2 x = nmB x by unfold textOK; simp]
  have HC := Lib.hid (nmB_any x hx (w.alloc (.cells #[.int .i64 2, .string x, .string y, .slice A n C] 24)))
  have HB := Lib.hid b1
  clear b1 hT hx
  go_enter Tryd.func35, Tryd.ntmps35
  go_wp2_with fail
  refine HC.out.mono ?_
  rintro e w' ⟨rfl, hb⟩
  have HE := Lib.hid (HB.out.trans (hb.mono HB.out.size))
  clear hb
  go_wp2
  go_ret
  exact ⟨rfl, HE.out⟩
set_option maxRecDepth 100000 in
set_option maxHeartbeats 4000000 in
theorem text_4 (x y : ByteArray) (A : Option Addr) (n C : Nat) (w : World) (hx : x.size ≤ 1000000) (hT : Lex.Tab w) : Calls Tryd.prog 35 #[.agg #[.int .i64 4, .string x, .string y, .slice A n C]] w fun e w' => e = .returned (.bool (textOK nmB tkB 4 x)) ∧ Below w.heap.size w w' := by
  have b1 := below1 w (.cells #[.int .i64 4, .string x, .string y, .slice A n C] 24)
  rw [show textOK nmB tkB 4 x = nmB x by unfold textOK; simp]
  have HC := Lib.hid (nmB_any x hx (w.alloc (.cells #[.int .i64 4, .string x, .string y, .slice A n C] 24)))
  have HB := Lib.hid b1
  clear b1 hT hx
  go_enter Tryd.func35, Tryd.ntmps35
  go_wp2_with fail
  refine HC.out.mono ?_
  rintro e w' ⟨rfl, hb⟩
  have HE := Lib.hid (HB.out.trans (hb.mono HB.out.size))
  clear hb
  go_wp2
  go_ret
  exact ⟨rfl, HE.out⟩
set_option maxRecDepth 100000 in
set_option maxHeartbeats 4000000 in
theorem text_5 (x y : ByteArray) (A : Option Addr) (n C : Nat) (w : World) (hx : x.size ≤ 1000000) (hT : Lex.Tab w) : Calls Tryd.prog 35 #[.agg #[.int .i64 5, .string x, .string y, .slice A n C]] w fun e w' => e = .returned (.bool (textOK nmB tkB 5 x)) ∧ Below w.heap.size w w' := by
  have b1 := below1 w (.cells #[.int .i64 5, .string x, .string y, .slice A n C] 24)
  rw [show textOK nmB tkB 5 x = nmB x by unfold textOK; simp]
  have HC := Lib.hid (nmB_any x hx (w.alloc (.cells #[.int .i64 5, .string x, .string y, .slice A n C] 24)))
  have HB := Lib.hid b1
  clear b1 hT hx
  go_enter Tryd.func35, Tryd.ntmps35
  go_wp2_with fail
  refine HC.out.mono ?_
  rintro e w' ⟨rfl, hb⟩
  have HE := Lib.hid (HB.out.trans (hb.mono HB.out.size))
  clear hb
  go_wp2
  go_ret
  exact ⟨rfl, HE.out⟩
set_option maxRecDepth 100000 in
set_option maxHeartbeats 4000000 in
theorem text_6 (x y : ByteArray) (A : Option Addr) (n C : Nat) (w : World) (hx : x.size ≤ 1000000) (hT : Lex.Tab w) : Calls Tryd.prog 35 #[.agg #[.int .i64 6, .string x, .string y, .slice A n C]] w fun e w' => e = .returned (.bool (textOK nmB tkB 6 x)) ∧ Below w.heap.size w w' := by
  have b1 := below1 w (.cells #[.int .i64 6, .string x, .string y, .slice A n C] 24)
  rw [show textOK nmB tkB 6 x = nmB x by unfold textOK; simp]
  have HC := Lib.hid (nmB_any x hx (w.alloc (.cells #[.int .i64 6, .string x, .string y, .slice A n C] 24)))
  have HB := Lib.hid b1
  clear b1 hT hx
  go_enter Tryd.func35, Tryd.ntmps35
  go_wp2_with fail
  refine HC.out.mono ?_
  rintro e w' ⟨rfl, hb⟩
  have HE := Lib.hid (HB.out.trans (hb.mono HB.out.size))
  clear hb
  go_wp2
  go_ret
  exact ⟨rfl, HE.out⟩
set_option maxRecDepth 100000 in
set_option maxHeartbeats 4000000 in
theorem text_7 (x y : ByteArray) (A : Option Addr) (n C : Nat) (w : World) (hx : x.size ≤ 1000000) (hT : Lex.Tab w) : Calls Tryd.prog 35 #[.agg #[.int .i64 7, .string x, .string y, .slice A n C]] w fun e w' => e = .returned (.bool (textOK nmB tkB 7 x)) ∧ Below w.heap.size w w' := by
  have b1 := below1 w (.cells #[.int .i64 7, .string x, .string y, .slice A n C] 24)
  rw [show textOK nmB tkB 7 x = nmB x by unfold textOK; simp]
  have HC := Lib.hid (nmB_any x hx (w.alloc (.cells #[.int .i64 7, .string x, .string y, .slice A n C] 24)))
  have HB := Lib.hid b1
  clear b1 hT hx
  go_enter Tryd.func35, Tryd.ntmps35
  go_wp2_with fail
  refine HC.out.mono ?_
  rintro e w' ⟨rfl, hb⟩
  have HE := Lib.hid (HB.out.trans (hb.mono HB.out.size))
  clear hb
  go_wp2
  go_ret
  exact ⟨rfl, HE.out⟩
set_option maxRecDepth 100000 in
set_option maxHeartbeats 4000000 in
theorem text_14 (x y : ByteArray) (A : Option Addr) (n C : Nat) (w : World) (hx : x.size ≤ 1000000) (hT : Lex.Tab w) : Calls Tryd.prog 35 #[.agg #[.int .i64 14, .string x, .string y, .slice A n C]] w fun e w' => e = .returned (.bool (textOK nmB tkB 14 x)) ∧ Below w.heap.size w w' := by
  have b1 := below1 w (.cells #[.int .i64 14, .string x, .string y, .slice A n C] 24)
  rw [show textOK nmB tkB 14 x = nmB x by unfold textOK; simp]
  have HC := Lib.hid (nmB_any x hx (w.alloc (.cells #[.int .i64 14, .string x, .string y, .slice A n C] 24)))
  have HB := Lib.hid b1
  clear b1 hT hx
  go_enter Tryd.func35, Tryd.ntmps35
  go_wp2_with fail
  refine HC.out.mono ?_
  rintro e w' ⟨rfl, hb⟩
  have HE := Lib.hid (HB.out.trans (hb.mono HB.out.size))
  clear hb
  go_wp2
  go_ret
  exact ⟨rfl, HE.out⟩
set_option maxRecDepth 100000 in
set_option maxHeartbeats 4000000 in
theorem text_16 (x y : ByteArray) (A : Option Addr) (n C : Nat) (w : World) (hx : x.size ≤ 1000000) (hT : Lex.Tab w) : Calls Tryd.prog 35 #[.agg #[.int .i64 16, .string x, .string y, .slice A n C]] w fun e w' => e = .returned (.bool (textOK nmB tkB 16 x)) ∧ Below w.heap.size w w' := by
  have b1 := below1 w (.cells #[.int .i64 16, .string x, .string y, .slice A n C] 24)
  rw [show textOK nmB tkB 16 x = nmB x by unfold textOK; simp]
  have HC := Lib.hid (nmB_any x hx (w.alloc (.cells #[.int .i64 16, .string x, .string y, .slice A n C] 24)))
  have HB := Lib.hid b1
  clear b1 hT hx
  go_enter Tryd.func35, Tryd.ntmps35
  go_wp2_with fail
  refine HC.out.mono ?_
  rintro e w' ⟨rfl, hb⟩
  have HE := Lib.hid (HB.out.trans (hb.mono HB.out.size))
  clear hb
  go_wp2
  go_ret
  exact ⟨rfl, HE.out⟩
set_option maxRecDepth 100000 in
set_option maxHeartbeats 4000000 in
theorem text_9 (x y : ByteArray) (A : Option Addr) (n C : Nat) (w : World) (hx : x.size ≤ 1000000) (hT : Lex.Tab w) : Calls Tryd.prog 35 #[.agg #[.int .i64 9, .string x, .string y, .slice A n C]] w fun e w' => e = .returned (.bool (textOK nmB tkB 9 x)) ∧ Below w.heap.size w w' := by
  have b1 := below1 w (.cells #[.int .i64 9, .string x, .string y, .slice A n C] 24)
  rw [show textOK nmB tkB 9 x = nmB x by unfold textOK; simp]
  have HC := Lib.hid (nmB_any x hx (w.alloc (.cells #[.int .i64 9, .string x, .string y, .slice A n C] 24)))
  have HB := Lib.hid b1
  clear b1 hT hx
  go_enter Tryd.func35, Tryd.ntmps35
  go_wp2_with fail
  refine HC.out.mono ?_
  rintro e w' ⟨rfl, hb⟩
  have HE := Lib.hid (HB.out.trans (hb.mono HB.out.size))
  clear hb
  go_wp2
  go_ret
  exact ⟨rfl, HE.out⟩
set_option maxRecDepth 100000 in
set_option maxHeartbeats 4000000 in
theorem text_32 (x y : ByteArray) (A : Option Addr) (n C : Nat) (w : World) (hx : x.size ≤ 1000000) (hT : Lex.Tab w) : Calls Tryd.prog 35 #[.agg #[.int .i64 32, .string x, .string y, .slice A n C]] w fun e w' => e = .returned (.bool (textOK nmB tkB 32 x)) ∧ Below w.heap.size w w' := by
  have b1 := below1 w (.cells #[.int .i64 32, .string x, .string y, .slice A n C] 24)
  rw [show textOK nmB tkB 32 x = nmB x by unfold textOK; simp]
  have HC := Lib.hid (nmB_any x hx (w.alloc (.cells #[.int .i64 32, .string x, .string y, .slice A n C] 24)))
  have HB := Lib.hid b1
  clear b1 hT hx
  go_enter Tryd.func35, Tryd.ntmps35
  go_wp2_with fail
  refine HC.out.mono ?_
  rintro e w' ⟨rfl, hb⟩
  have HE := Lib.hid (HB.out.trans (hb.mono HB.out.size))
  clear hb
  go_wp2
  go_ret
  exact ⟨rfl, HE.out⟩
set_option maxRecDepth 100000 in
set_option maxHeartbeats 4000000 in
theorem text_3 (x y : ByteArray) (A : Option Addr) (n C : Nat) (w : World) (hx : x.size ≤ 1000000) (hT : Lex.Tab w) : Calls Tryd.prog 35 #[.agg #[.int .i64 3, .string x, .string y, .slice A n C]] w fun e w' => e = .returned (.bool (textOK nmB tkB 3 x)) ∧ Below w.heap.size w w' := by
  have b1 := below1 w (.cells #[.int .i64 3, .string x, .string y, .slice A n C] 24)
  rw [show textOK nmB tkB 3 x = tkB x 3 by unfold textOK; simp]
  have HC := Lib.hid (tkB_any x 3 hx (w.alloc (.cells #[.int .i64 3, .string x, .string y, .slice A n C] 24)) (hT.below b1 hT.pos))
  have HB := Lib.hid b1
  clear b1 hT hx
  go_enter Tryd.func35, Tryd.ntmps35
  go_wp2_with fail
  refine HC.out.mono ?_
  rintro e w' ⟨rfl, hb⟩
  have HE := Lib.hid (HB.out.trans (hb.mono HB.out.size))
  clear hb
  go_wp2
  go_ret
  exact ⟨rfl, HE.out⟩
set_option maxRecDepth 100000 in
set_option maxHeartbeats 4000000 in
theorem text_27 (x y : ByteArray) (A : Option Addr) (n C : Nat) (w : World) (hx : x.size ≤ 1000000) (hT : Lex.Tab w) : Calls Tryd.prog 35 #[.agg #[.int .i64 27, .string x, .string y, .slice A n C]] w fun e w' => e = .returned (.bool (textOK nmB tkB 27 x)) ∧ Below w.heap.size w w' := by
  have b1 := below1 w (.cells #[.int .i64 27, .string x, .string y, .slice A n C] 24)
  rw [show textOK nmB tkB 27 x = tkB x 3 by unfold textOK; simp]
  have HC := Lib.hid (tkB_any x 3 hx (w.alloc (.cells #[.int .i64 27, .string x, .string y, .slice A n C] 24)) (hT.below b1 hT.pos))
  have HB := Lib.hid b1
  clear b1 hT hx
  go_enter Tryd.func35, Tryd.ntmps35
  go_wp2_with fail
  refine HC.out.mono ?_
  rintro e w' ⟨rfl, hb⟩
  have HE := Lib.hid (HB.out.trans (hb.mono HB.out.size))
  clear hb
  go_wp2
  go_ret
  exact ⟨rfl, HE.out⟩
set_option maxRecDepth 100000 in
set_option maxHeartbeats 4000000 in
theorem text_26 (x y : ByteArray) (A : Option Addr) (n C : Nat) (w : World) (hx : x.size ≤ 1000000) (hT : Lex.Tab w) : Calls Tryd.prog 35 #[.agg #[.int .i64 26, .string x, .string y, .slice A n C]] w fun e w' => e = .returned (.bool (textOK nmB tkB 26 x)) ∧ Below w.heap.size w w' := by
  have b1 := below1 w (.cells #[.int .i64 26, .string x, .string y, .slice A n C] 24)
  rw [show textOK nmB tkB 26 x = tkB x 2 by unfold textOK; simp]
  have HC := Lib.hid (tkB_any x 2 hx (w.alloc (.cells #[.int .i64 26, .string x, .string y, .slice A n C] 24)) (hT.below b1 hT.pos))
  have HB := Lib.hid b1
  clear b1 hT hx
  go_enter Tryd.func35, Tryd.ntmps35
  go_wp2_with fail
  refine HC.out.mono ?_
  rintro e w' ⟨rfl, hb⟩
  have HE := Lib.hid (HB.out.trans (hb.mono HB.out.size))
  clear hb
  go_wp2
  go_ret
  exact ⟨rfl, HE.out⟩
set_option maxRecDepth 100000 in
set_option maxHeartbeats 4000000 in
theorem text_8 (x y : ByteArray) (A : Option Addr) (n C : Nat) (w : World) (hx : x.size ≤ 1000000) (hT : Lex.Tab w) : Calls Tryd.prog 35 #[.agg #[.int .i64 8, .string x, .string y, .slice A n C]] w fun e w' => e = .returned (.bool (textOK nmB tkB 8 x)) ∧ Below w.heap.size w w' := by
  have b1 := below1 w (.cells #[.int .i64 8, .string x, .string y, .slice A n C] 24)
  rw [show textOK nmB tkB 8 x = tkB x 5 by unfold textOK; simp]
  have HC := Lib.hid (tkB_any x 5 hx (w.alloc (.cells #[.int .i64 8, .string x, .string y, .slice A n C] 24)) (hT.below b1 hT.pos))
  have HB := Lib.hid b1
  clear b1 hT hx
  go_enter Tryd.func35, Tryd.ntmps35
  go_wp2_with fail
  refine HC.out.mono ?_
  rintro e w' ⟨rfl, hb⟩
  have HE := Lib.hid (HB.out.trans (hb.mono HB.out.size))
  clear hb
  go_wp2
  go_ret
  exact ⟨rfl, HE.out⟩
set_option maxRecDepth 100000 in
set_option maxHeartbeats 4000000 in
theorem text_21 (x y : ByteArray) (A : Option Addr) (n C : Nat) (w : World) (hx : x.size ≤ 1000000) (hT : Lex.Tab w) : Calls Tryd.prog 35 #[.agg #[.int .i64 21, .string x, .string y, .slice A n C]] w fun e w' => e = .returned (.bool (textOK nmB tkB 21 x)) ∧ Below w.heap.size w w' := by
  have b1 := below1 w (.cells #[.int .i64 21, .string x, .string y, .slice A n C] 24)
  rw [show textOK nmB tkB 21 x = ([(⟨#[61]⟩ : ByteArray), (⟨#[58, 61]⟩ : ByteArray), (⟨#[43, 61]⟩ : ByteArray), (⟨#[45, 61]⟩ : ByteArray), (⟨#[42, 61]⟩ : ByteArray), (⟨#[47, 61]⟩ : ByteArray), (⟨#[37, 61]⟩ : ByteArray)].any fun u => x.toList == u.toList) by unfold textOK; simp [Bool.or_assoc]]
  have HB := Lib.hid (below2 w (.cells #[.int .i64 21, .string x, .string y, .slice A n C] 24) (.cells #[.string ⟨#[61]⟩, .string ⟨#[58, 61]⟩, .string ⟨#[43, 61]⟩, .string ⟨#[45, 61]⟩, .string ⟨#[42, 61]⟩, .string ⟨#[47, 61]⟩, .string ⟨#[37, 61]⟩] 9))
  have HC := Lib.hid (containsS x (w.heap.size + 1) 7 7 [(⟨#[61]⟩ : ByteArray), (⟨#[58, 61]⟩ : ByteArray), (⟨#[43, 61]⟩ : ByteArray), (⟨#[45, 61]⟩ : ByteArray), (⟨#[42, 61]⟩ : ByteArray), (⟨#[47, 61]⟩ : ByteArray), (⟨#[37, 61]⟩ : ByteArray)] ((w.alloc (.cells #[.int .i64 21, .string x, .string y, .slice A n C] 24)).alloc (.cells #[.string ⟨#[61]⟩, .string ⟨#[58, 61]⟩, .string ⟨#[43, 61]⟩, .string ⟨#[45, 61]⟩, .string ⟨#[42, 61]⟩, .string ⟨#[47, 61]⟩, .string ⟨#[37, 61]⟩] 9)) rfl (by omega) (fun i u hu => by
    rw [World.cell?_alloc_at _ _ _ _ (by simp)]
    match i, hu with
    | 0, hu => cases hu; rfl
    | 1, hu => cases hu; rfl
    | 2, hu => cases hu; rfl
    | 3, hu => cases hu; rfl
    | 4, hu => cases hu; rfl
    | 5, hu => cases hu; rfl
    | 6, hu => cases hu; rfl
    | (_ + 7), hu => simp at hu))
  generalize ([(⟨#[61]⟩ : ByteArray), (⟨#[58, 61]⟩ : ByteArray), (⟨#[43, 61]⟩ : ByteArray), (⟨#[45, 61]⟩ : ByteArray), (⟨#[42, 61]⟩ : ByteArray), (⟨#[47, 61]⟩ : ByteArray), (⟨#[37, 61]⟩ : ByteArray)].any fun u => x.toList == u.toList) = bb at *
  clear b1 hT hx
  go_enter Tryd.func35, Tryd.ntmps35
  go_wp2_with fail
  refine HC.out.mono ?_
  rintro e w' ⟨rfl, rfl⟩
  go_wp2
  go_ret
  exact ⟨rfl, HB.out⟩
set_option maxRecDepth 100000 in
set_option maxHeartbeats 4000000 in
theorem text_28 (x y : ByteArray) (A : Option Addr) (n C : Nat) (w : World) (hx : x.size ≤ 1000000) (hT : Lex.Tab w) : Calls Tryd.prog 35 #[.agg #[.int .i64 28, .string x, .string y, .slice A n C]] w fun e w' => e = .returned (.bool (textOK nmB tkB 28 x)) ∧ Below w.heap.size w w' := by
  have b1 := below1 w (.cells #[.int .i64 28, .string x, .string y, .slice A n C] 24)
  rw [show textOK nmB tkB 28 x = ([(⟨#[45]⟩ : ByteArray), (⟨#[33]⟩ : ByteArray), (⟨#[94]⟩ : ByteArray), (⟨#[42]⟩ : ByteArray), (⟨#[38]⟩ : ByteArray), (⟨#[43]⟩ : ByteArray)].any fun u => x.toList == u.toList) by unfold textOK; simp [Bool.or_assoc]]
  have HB := Lib.hid (below2 w (.cells #[.int .i64 28, .string x, .string y, .slice A n C] 24) (.cells #[.string ⟨#[45]⟩, .string ⟨#[33]⟩, .string ⟨#[94]⟩, .string ⟨#[42]⟩, .string ⟨#[38]⟩, .string ⟨#[43]⟩] 9))
  have HC := Lib.hid (containsS x (w.heap.size + 1) 6 6 [(⟨#[45]⟩ : ByteArray), (⟨#[33]⟩ : ByteArray), (⟨#[94]⟩ : ByteArray), (⟨#[42]⟩ : ByteArray), (⟨#[38]⟩ : ByteArray), (⟨#[43]⟩ : ByteArray)] ((w.alloc (.cells #[.int .i64 28, .string x, .string y, .slice A n C] 24)).alloc (.cells #[.string ⟨#[45]⟩, .string ⟨#[33]⟩, .string ⟨#[94]⟩, .string ⟨#[42]⟩, .string ⟨#[38]⟩, .string ⟨#[43]⟩] 9)) rfl (by omega) (fun i u hu => by
    rw [World.cell?_alloc_at _ _ _ _ (by simp)]
    match i, hu with
    | 0, hu => cases hu; rfl
    | 1, hu => cases hu; rfl
    | 2, hu => cases hu; rfl
    | 3, hu => cases hu; rfl
    | 4, hu => cases hu; rfl
    | 5, hu => cases hu; rfl
    | (_ + 6), hu => simp at hu))
  generalize ([(⟨#[45]⟩ : ByteArray), (⟨#[33]⟩ : ByteArray), (⟨#[94]⟩ : ByteArray), (⟨#[42]⟩ : ByteArray), (⟨#[38]⟩ : ByteArray), (⟨#[43]⟩ : ByteArray)].any fun u => x.toList == u.toList) = bb at *
  clear b1 hT hx
  go_enter Tryd.func35, Tryd.ntmps35
  go_wp2_with fail
  refine HC.out.mono ?_
  rintro e w' ⟨rfl, rfl⟩
  go_wp2
  go_ret
  exact ⟨rfl, HB.out⟩
set_option maxRecDepth 100000 in
set_option maxHeartbeats 4000000 in
theorem text_22a (x y : ByteArray) (A : Option Addr) (n C : Nat) (w : World) (hx : x.size ≤ 1000000) (hT : Lex.Tab w) (h1 : (x.toList == [43, 43]) = true) : Calls Tryd.prog 35 #[.agg #[.int .i64 22, .string x, .string y, .slice A n C]] w fun e w' => e = .returned (.bool (textOK nmB tkB 22 x)) ∧ Below w.heap.size w w' := by
  have b1 := below1 w (.cells #[.int .i64 22, .string x, .string y, .slice A n C] 24)

  rw [show textOK nmB tkB 22 x = true by unfold textOK; simp [h1]]
  have HB := Lib.hid b1
  clear b1 hT hx
  go_enter Tryd.func35, Tryd.ntmps35
  go_wp2
  go_ret
  exact ⟨rfl, HB.out⟩
set_option maxRecDepth 100000 in
set_option maxHeartbeats 4000000 in
theorem text_22b (x y : ByteArray) (A : Option Addr) (n C : Nat) (w : World) (hx : x.size ≤ 1000000) (hT : Lex.Tab w) (h1 : (x.toList == [43, 43]) = false) (h2 : (x.toList == [45, 45]) = true) : Calls Tryd.prog 35 #[.agg #[.int .i64 22, .string x, .string y, .slice A n C]] w fun e w' => e = .returned (.bool (textOK nmB tkB 22 x)) ∧ Below w.heap.size w w' := by
  have b1 := below1 w (.cells #[.int .i64 22, .string x, .string y, .slice A n C] 24)

  rw [show textOK nmB tkB 22 x = true by unfold textOK; simp [h1, h2]]
  have HB := Lib.hid b1
  clear b1 hT hx
  go_enter Tryd.func35, Tryd.ntmps35
  go_wp2
  go_ret
  exact ⟨rfl, HB.out⟩
set_option maxRecDepth 100000 in
set_option maxHeartbeats 4000000 in
theorem text_22c (x y : ByteArray) (A : Option Addr) (n C : Nat) (w : World) (hx : x.size ≤ 1000000) (hT : Lex.Tab w) (h1 : (x.toList == [43, 43]) = false) (h2 : (x.toList == [45, 45]) = false) : Calls Tryd.prog 35 #[.agg #[.int .i64 22, .string x, .string y, .slice A n C]] w fun e w' => e = .returned (.bool (textOK nmB tkB 22 x)) ∧ Below w.heap.size w w' := by
  have b1 := below1 w (.cells #[.int .i64 22, .string x, .string y, .slice A n C] 24)

  rw [show textOK nmB tkB 22 x = false by unfold textOK; simp [h1, h2]]
  have HB := Lib.hid b1
  clear b1 hT hx
  go_enter Tryd.func35, Tryd.ntmps35
  go_wp2
  go_ret
  exact ⟨rfl, HB.out⟩
set_option maxRecDepth 100000 in
set_option maxHeartbeats 4000000 in
theorem text_29 (x y : ByteArray) (A : Option Addr) (n C : Nat) (w : World) (hx : x.size ≤ 1000000) (hT : Lex.Tab w) : Calls Tryd.prog 35 #[.agg #[.int .i64 29, .string x, .string y, .slice A n C]] w fun e w' => e = .returned (.bool (textOK nmB tkB 29 x)) ∧ Below w.heap.size w w' := by
  have b1 := below1 w (.cells #[.int .i64 29, .string x, .string y, .slice A n C] 24)
  rw [show textOK nmB tkB 29 x = decide (0 < level x) by unfold textOK; simp]
  have HC := Lib.hid (level_any x (w.alloc (.cells #[.int .i64 29, .string x, .string y, .slice A n C] 24)))
  have HB := Lib.hid b1
  generalize level x = lx at *
  clear b1 hT hx
  go_enter Tryd.func35, Tryd.ntmps35
  go_wp2_with fail
  refine HC.out.mono ?_
  rintro e w' ⟨rfl, rfl⟩
  go_wp2
  go_ret
  exact ⟨rfl, HB.out⟩
set_option maxRecDepth 100000 in
set_option maxHeartbeats 4000000 in
theorem text_none (x y : ByteArray) (A : Option Addr) (n C : Nat) (w : World) (hx : x.size ≤ 1000000) (hT : Lex.Tab w) (k : Int) (b2 : (k == 2) = false) (b4 : (k == 4) = false) (b5 : (k == 5) = false) (b6 : (k == 6) = false) (b7 : (k == 7) = false) (b14 : (k == 14) = false) (b16 : (k == 16) = false) (b9 : (k == 9) = false) (b32 : (k == 32) = false) (b3 : (k == 3) = false) (b27 : (k == 27) = false) (b26 : (k == 26) = false) (b8 : (k == 8) = false) (b21 : (k == 21) = false) (b22 : (k == 22) = false) (b28 : (k == 28) = false) (b29 : (k == 29) = false) (bb : Bool) (hbb : (x.toList == []) = bb) : Calls Tryd.prog 35 #[.agg #[.int .i64 k, .string x, .string y, .slice A n C]] w fun e w' => e = .returned (.bool bb) ∧ Below w.heap.size w w' := by
  have HB := Lib.hid (below1 w (.cells #[.int .i64 k, .string x, .string y, .slice A n C] 24))
  clear hT hx
  cases bb with
  | true =>
    have he : x.toList = [] := by simpa using hbb
    go_enter Tryd.func35, Tryd.ntmps35
    go_wp2
    go_ret
    exact ⟨rfl, HB.out⟩
  | false =>
    have he : ¬ x.toList = [] := by simpa using hbb
    have he2 : x.toList.isEmpty = false := by simpa using hbb
    go_enter Tryd.func35, Tryd.ntmps35
    go_wp2
    go_ret
    exact ⟨rfl, HB.out⟩

theorem text_any (k : Int) (x y : ByteArray) (A : Option Addr) (n C : Nat) (w : World) (hx : x.size ≤ 1000000) (hT : Lex.Tab w) : Calls Tryd.prog 35 #[.agg #[.int .i64 k, .string x, .string y, .slice A n C]] w fun e w' => e = .returned (.bool (textOK nmB tkB k x)) ∧ Below w.heap.size w w' := by
  by_cases h2 : k = 2
  · subst h2; exact text_2 x y A n C w hx hT
  by_cases h4 : k = 4
  · subst h4; exact text_4 x y A n C w hx hT
  by_cases h5 : k = 5
  · subst h5; exact text_5 x y A n C w hx hT
  by_cases h6 : k = 6
  · subst h6; exact text_6 x y A n C w hx hT
  by_cases h7 : k = 7
  · subst h7; exact text_7 x y A n C w hx hT
  by_cases h14 : k = 14
  · subst h14; exact text_14 x y A n C w hx hT
  by_cases h16 : k = 16
  · subst h16; exact text_16 x y A n C w hx hT
  by_cases h9 : k = 9
  · subst h9; exact text_9 x y A n C w hx hT
  by_cases h32 : k = 32
  · subst h32; exact text_32 x y A n C w hx hT
  by_cases h3 : k = 3
  · subst h3; exact text_3 x y A n C w hx hT
  by_cases h27 : k = 27
  · subst h27; exact text_27 x y A n C w hx hT
  by_cases h26 : k = 26
  · subst h26; exact text_26 x y A n C w hx hT
  by_cases h8 : k = 8
  · subst h8; exact text_8 x y A n C w hx hT
  by_cases h21 : k = 21
  · subst h21; exact text_21 x y A n C w hx hT
  by_cases h22 : k = 22
  · subst h22
    cases h1 : (x.toList == [43, 43]) with
    | true => exact text_22a x y A n C w hx hT h1
    | false =>
      cases h2 : (x.toList == [45, 45]) with
      | true => exact text_22b x y A n C w hx hT h1 h2
      | false => exact text_22c x y A n C w hx hT h1 h2
  by_cases h28 : k = 28
  · subst h28; exact text_28 x y A n C w hx hT
  by_cases h29 : k = 29
  · subst h29; exact text_29 x y A n C w hx hT
  rw [show textOK nmB tkB k x = (x.toList == []) by unfold textOK; simp only [h2, h4, h5, h6, h7, h14, h16, h9, h32, h3, h27, h26, h8, h21, h22, h28, h29, or_self, if_false]]
  exact text_none x y A n C w hx hT k (kno h2) (kno h4) (kno h5) (kno h6) (kno h7) (kno h14) (kno h16) (kno h9) (kno h32) (kno h3) (kno h27) (kno h26) (kno h8) (kno h21) (kno h22) (kno h28) (kno h29) _ rfl

set_option maxRecDepth 100000 in
set_option maxHeartbeats 4000000 in
theorem trail_any (k : Int) (x y : ByteArray) (A : Option Addr) (n C : Nat) (it : Bool) (w : World) (hy : y.size ≤ 1000000) (hT : Lex.Tab w) :
    Calls Tryd.prog 36 #[.agg #[.int .i64 k, .string x, .string y, .slice A n C], .bool it] w fun e w' => e = .returned (.bool (trailOK tkB k y it)) ∧ Below w.heap.size w w' := by
  have b1 := below1 w (.cells #[.int .i64 k, .string x, .string y, .slice A n C] 24)
  have HC := Lib.hid (tkB_any y 5 hy (w.alloc (.cells #[.int .i64 k, .string x, .string y, .slice A n C] 24)) (hT.below b1 hT.pos))
  have HB := Lib.hid b1
  clear b1 hT hy
  cases hyy : (y.toList == []) with
  | true =>
    have he : y.toList = [] := by simpa using hyy
    rw [show trailOK tkB k y it = true by unfold trailOK; rw [hyy]; rfl]
    go_enter Tryd.func36, Tryd.ntmps36
    go_wp2
    go_ret
    exact ⟨rfl, HB.out⟩
  | false =>
    have he : ¬ y.toList = [] := by simpa using hyy
    have he2 : y.toList.isEmpty = false := by simpa using hyy
    cases it with
    | false =>
      rw [show trailOK tkB k y false = false by unfold trailOK; rw [hyy]; rfl]
      go_enter Tryd.func36, Tryd.ntmps36
      go_wp2
      go_ret
      exact ⟨rfl, HB.out⟩
    | true =>
      by_cases h8 : k = 8
      · subst h8
        rw [show trailOK tkB 8 y true = false by unfold trailOK; rw [hyy]; rfl]
        go_enter Tryd.func36, Tryd.ntmps36
        go_wp2
        go_ret
        exact ⟨rfl, HB.out⟩
      · have k8 := kno h8
        have k8' : (k != 8) = true := by simpa using h8
        rw [show trailOK tkB k y true = tkB y 5 by unfold trailOK; rw [hyy, k8']; rfl]
        clear h8
        go_enter Tryd.func36, Tryd.ntmps36
        go_wp2_with fail
        refine HC.out.mono ?_
        rintro e w' ⟨rfl, hb⟩
        have HE := Lib.hid (HB.out.trans (hb.mono HB.out.size))
        clear hb
        go_wp2
        go_ret
        exact ⟨rfl, HE.out⟩

set_option maxRecDepth 100000 in
set_option maxHeartbeats 4000000 in
theorem fits_any (k : Int) (x y : ByteArray) (A : Option Addr) (n C : Nat) (f : F) (it : Bool) (w : World) (hf : Fs w (Lo w.heap.size) (.slice A n C) f) (hx : x.size ≤ 1000000) (hy : y.size ≤ 1000000) (hT : Lex.Tab w) :
    Calls Tryd.prog 31 #[.agg #[.int .i64 k, .string x, .string y, .slice A n C], .bool it] w fun e w' => e = .returned (.bool (fitsN nmB tkB k x y f it)) ∧ Below w.heap.size w w' := by
  have b1 := below1 w (.cells #[.int .i64 k, .string x, .string y, .slice A n C] 24)
  have HTX := Lib.hid (fun (W : World) (hW : Below w.heap.size w W) => text_any k x y A n C W hx (hT.below hW hT.pos))
  have HTR := Lib.hid (fun (W : World) (hW : Below w.heap.size w W) => trail_any k x y A n C it W hy (hT.below hW hT.pos))
  have HKD := Lib.hid (fun (W : World) (hW : Below w.heap.size w W) => kidsFit_any k x y A n C f W (hf.later hW))
  have HV : Hid (fitsN nmB tkB k x y f it = (textOK nmB tkB k x && (trailOK tkB k y it && kidsOK k x f))) := rfl
  have HB := Lib.hid b1
  have HBX : Hid (∀ W, Below (w.alloc (.cells #[.int .i64 k, .string x, .string y, .slice A n C] 24)).heap.size (w.alloc (.cells #[.int .i64 k, .string x, .string y, .slice A n C] 24)) W →
      W.cell? ⟨w.heap.size, 0, none⟩ = some (.int .i64 k) ∧ W.cell? ⟨w.heap.size, 1, none⟩ = some (.string x) ∧ W.cell? ⟨w.heap.size, 2, none⟩ = some (.string y) ∧ W.cell? ⟨w.heap.size, 3, none⟩ = some (.slice A n C)) := fun W hW => by
    have cel : ∀ i v, #[Value.int .i64 k, .string x, .string y, .slice A n C][i]? = some v → W.cell? ⟨w.heap.size, i, none⟩ = some v := fun i v hv => by
      rw [hW.cell (p := ⟨w.heap.size, i, none⟩) (by simp), World.cell?_alloc_at _ _ _ _ rfl]
      simpa using hv
    exact ⟨cel 0 _ rfl, cel 1 _ rfl, cel 2 _ rfl, cel 3 _ rfl⟩
  generalize fitsN nmB tkB k x y f it = bb at *
  generalize textOK nmB tkB k x = b0 at *
  generalize trailOK tkB k y it = b2 at *
  generalize kidsOK k x f = b3 at *
  clear b1 hT hx hy hf
  cases b0 with
  | false =>
    have hv : bb = false := HV.out
    subst hv
    go_enter Tryd.func31, Tryd.ntmps31
    go_wp2_with fail
    refine (HTX.out _ HB.out).mono ?_
    rintro e w1 ⟨rfl, hb⟩
    have HE := Lib.hid (HB.out.trans (hb.mono HB.out.size))
    clear hb
    go_wp2
    go_ret
    exact ⟨rfl, HE.out⟩
  | true =>
    cases b2 with
    | false =>
      have hv : bb = false := HV.out
      subst hv
      go_enter Tryd.func31, Tryd.ntmps31
      go_wp2_with fail
      refine (HTX.out _ HB.out).mono ?_
      rintro e w1 ⟨rfl, hb⟩
      have HE := Lib.hid (HB.out.trans (hb.mono HB.out.size))
      obtain ⟨q0, q1, q2, q3⟩ := HBX.out w1 hb
      clear hb
      go_wp2_with fail
      refine (HTR.out _ HE.out).mono ?_
      rintro e w2 ⟨rfl, hb⟩
      have HE2 := Lib.hid (HE.out.trans (hb.mono HE.out.size))
      clear hb
      go_wp2
      go_ret
      exact ⟨rfl, HE2.out⟩
    | true =>
      have hv : bb = b3 := HV.out
      subst hv
      go_enter Tryd.func31, Tryd.ntmps31
      go_wp2_with fail
      refine (HTX.out _ HB.out).mono ?_
      rintro e w1 ⟨rfl, hb⟩
      have HE := Lib.hid (HB.out.trans (hb.mono HB.out.size))
      have HBB := Lib.hid hb
      obtain ⟨q0, q1, q2, q3⟩ := HBX.out w1 hb
      clear hb
      go_wp2_with fail
      refine (HTR.out _ HE.out).mono ?_
      rintro e w2 ⟨rfl, hb⟩
      have HE2 := Lib.hid (HE.out.trans (hb.mono HE.out.size))
      obtain ⟨r0, r1, r2, r3⟩ := HBX.out w2 (HBB.out.trans (hb.mono HBB.out.size))
      clear hb q0 q1 q2 q3
      go_wp2_with fail
      refine (HKD.out _ HE2.out).mono ?_
      rintro e w3 ⟨rfl, hb⟩
      have HE3 := Lib.hid (HE2.out.trans (hb.mono HE2.out.size))
      clear hb
      go_wp2
      go_ret
      exact ⟨rfl, HE3.out⟩
end Go.Proofs.YtoecimgmghlfpaaDoor.Tree
