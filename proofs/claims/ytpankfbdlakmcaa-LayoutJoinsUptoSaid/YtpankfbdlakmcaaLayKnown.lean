/-
  Layer 8 (layout): the laws' own example (known).
-/
import Derived.Test.YtpankfbdlakmcaaLayOf
namespace Go.Proofs.Ytpankfbdlakmcaa.Doc
open Go.ChangeShapes Go.WideShapes Go.ChangeAt Go.RowKit Mem
set_option linter.unusedVariables false

theorem soft_is (X : Nat → Prop) (w : World) : Calls Try.prog 27 #[] w (IdPost X 1 [((3, emp) : Pc)] w) := id_of (nd := ⟨3, emp, .nil⟩) rfl (by decide) ⟨by decide, trivial⟩ (soft_any X w)
def exP : List Pc := [(7, emp), (1, ⟨#[102, 40]⟩), (5, emp), (3, emp), (1, ⟨#[97, 97, 97, 44]⟩), (2, emp), (1, ⟨#[98, 98, 98]⟩), (6, emp), (1, ⟨#[41]⟩), (8, emp)]
theorem exP_11 : ofS 11 exP = ⟨#[102, 40, 97, 97, 97, 44, 32, 98, 98, 98, 41]⟩ ∧ ofE 11 = 0 := by refine ⟨?_, ?_⟩ <;> decide +kernel
theorem exP_10 : ofS 10 exP = ⟨#[102, 40, 10, 9, 97, 97, 97, 44, 10, 9, 98, 98, 98, 41]⟩ ∧ ofE 10 = 0 := by refine ⟨?_, ?_⟩ <;> decide +kernel
theorem exP_bal : Bal exP := Bal.group (l := [(1, ⟨#[102, 40]⟩), (5, emp), (3, emp), (1, ⟨#[97, 97, 97, 44]⟩), (2, emp), (1, ⟨#[98, 98, 98]⟩), (6, emp), (1, ⟨#[41]⟩)])
  (Bal.app (a := [(1, ⟨#[102, 40]⟩)]) (Bal.leaf (show (1 : Int) ≠ 5 ∧ (1 : Int) ≠ 6 ∧ (1 : Int) ≠ 7 ∧ (1 : Int) ≠ 8 from by decide))
    (Bal.app (a := [(5, emp), (3, emp), (1, ⟨#[97, 97, 97, 44]⟩), (2, emp), (1, ⟨#[98, 98, 98]⟩), (6, emp)])
      (Bal.nest (l := [(3, emp), (1, ⟨#[97, 97, 97, 44]⟩), (2, emp), (1, ⟨#[98, 98, 98]⟩)])
        (Bal.app (a := [(3, emp)]) (Bal.leaf (show (3 : Int) ≠ 5 ∧ (3 : Int) ≠ 6 ∧ (3 : Int) ≠ 7 ∧ (3 : Int) ≠ 8 from by decide))
          (Bal.app (a := [(1, ⟨#[97, 97, 97, 44]⟩)]) (Bal.leaf (show (1 : Int) ≠ 5 ∧ (1 : Int) ≠ 6 ∧ (1 : Int) ≠ 7 ∧ (1 : Int) ≠ 8 from by decide))
            (Bal.app (a := [(2, emp)]) (Bal.leaf (show (2 : Int) ≠ 5 ∧ (2 : Int) ≠ 6 ∧ (2 : Int) ≠ 7 ∧ (2 : Int) ≠ 8 from by decide)) (Bal.leaf (show (1 : Int) ≠ 5 ∧ (1 : Int) ≠ 6 ∧ (1 : Int) ≠ 7 ∧ (1 : Int) ≠ 8 from by decide))))))
      (Bal.leaf (show (1 : Int) ≠ 5 ∧ (1 : Int) ≠ 6 ∧ (1 : Int) ≠ 7 ∧ (1 : Int) ≠ 8 from by decide))))
theorem exP_len : exP.length ≤ 10000 := by decide
theorem exP_txt : txL exP ≤ 400000000 := by decide +kernel

set_option maxHeartbeats 16000000 in
set_option maxRecDepth 100000 in
theorem known_any (w : World) : Calls Try.prog 10 #[] w fun e w' => e = .returned (.bool true) ∧ Below w.heap.size w w' := by
  go_enter Try.func10, Try.ntmps10
  go_wp2_with fail
  refine (text_is XF w (ne_of (l := [102, 40]) (by simp))).mono ?_
  rintro e w1 ⟨⟨k1, x1, A1, n1, C1, rfl, h1⟩, b1⟩
  have H1 := Lib.hid h1
  have B1 := Lib.hid b1
  clear h1 b1
  go_wp2_with fail
  refine (soft_is XF w1).mono ?_
  rintro e w2 ⟨⟨k2, x2, A2, n2, C2, rfl, h2⟩, b2⟩
  have H2 := Lib.hid h2
  have B2 := Lib.hid (B1.out.trans (b2.mono B1.out.size))
  replace H1 := Lib.hid (H1.out.later b2)
  clear h2 b2
  go_wp2_with fail
  refine (text_is XF w2 (ne_of (l := [97, 97, 97, 44]) (by simp))).mono ?_
  rintro e w3 ⟨⟨k3, x3, A3, n3, C3, rfl, h3⟩, b3⟩
  have H3 := Lib.hid h3
  have B3 := Lib.hid (B2.out.trans (b3.mono B2.out.size))
  replace H1 := Lib.hid (H1.out.later b3)
  replace H2 := Lib.hid (H2.out.later b3)
  clear h3 b3
  go_wp2_with fail
  refine (line_is XF w3).mono ?_
  rintro e w4 ⟨⟨k4, x4, A4, n4, C4, rfl, h4⟩, b4⟩
  have H4 := Lib.hid h4
  have B4 := Lib.hid (B3.out.trans (b4.mono B3.out.size))
  replace H1 := Lib.hid (H1.out.later b4)
  replace H2 := Lib.hid (H2.out.later b4)
  replace H3 := Lib.hid (H3.out.later b4)
  clear h4 b4
  go_wp2_with fail
  refine (text_is XF w4 (ne_of (l := [98, 98, 98]) (by simp))).mono ?_
  rintro e w5 ⟨⟨k5, x5, A5, n5, C5, rfl, h5⟩, b5⟩
  have B5 := Lib.hid (B4.out.trans (b5.mono B4.out.size))
  replace H1 := Lib.hid (H1.out.later b5)
  have hds := Ds.cons (H2.out.later b5) (Ds.cons (H3.out.later b5) (Ds.cons (H4.out.later b5) (Ds.cons h5 Ds.nil)))
  have HR := Lib.hid (row_new (n := 4) (xf w5) hds rfl (by decide))
  have hb6 := (Below.refl w5.heap.size w5).alloc (Nat.le_refl _) (.cells #[.int .i64 k2, .string x2, .slice A2 n2 C2, .int .i64 k3, .string x3, .slice A3 n3 C3, .int .i64 k4, .string x4, .slice A4 n4 C4, .int .i64 k5, .string x5, .slice A5 n5 C5] 32)
  have B6 := Lib.hid (B5.out.trans (hb6.mono B5.out.size))
  replace H1 := Lib.hid (H1.out.later hb6)
  clear hds h5 b5 hb6 H2 H3 H4
  go_wp2_with fail
  refine HR.out.mono ?_
  rintro e w7 ⟨⟨k7, x7, A7, n7, C7, rfl, h7⟩, b7⟩
  have B7 := Lib.hid (B6.out.trans (b7.mono B6.out.size))
  replace H1 := Lib.hid (H1.out.later b7)
  have HN := Lib.hid (nest_is (xf w7) h7)
  clear h7 b7 HR
  go_wp2_with fail
  refine HN.out.mono ?_
  rintro e w8 ⟨⟨k8, x8, A8, n8, C8, rfl, h8⟩, b8⟩
  have B8 := Lib.hid (B7.out.trans (b8.mono B7.out.size))
  replace H1 := Lib.hid (H1.out.later b8)
  have H8 := Lib.hid h8
  clear h8 b8 HN
  go_wp2_with fail
  refine (text_is XF w8 (ne_of (l := [41]) (by simp))).mono ?_
  rintro e w9 ⟨⟨k9, x9, A9, n9, C9, rfl, h9⟩, b9⟩
  have B9 := Lib.hid (B8.out.trans (b9.mono B8.out.size))
  have hds := Ds.cons (H1.out.later b9) (Ds.cons (H8.out.later b9) (Ds.cons h9 Ds.nil))
  have HR := Lib.hid (row_new (n := 3) (xf w9) hds rfl (by decide))
  have hb10 := (Below.refl w9.heap.size w9).alloc (Nat.le_refl _) (.cells #[.int .i64 k1, .string x1, .slice A1 n1 C1, .int .i64 k8, .string x8, .slice A8 n8 C8, .int .i64 k9, .string x9, .slice A9 n9 C9] 32)
  have B10 := Lib.hid (B9.out.trans (hb10.mono B9.out.size))
  clear hds h9 b9 hb10 H1 H8
  go_wp2_with fail
  refine HR.out.mono ?_
  rintro e w11 ⟨⟨k11, x11, A11, n11, C11, rfl, h11⟩, b11⟩
  have B11 := Lib.hid (B10.out.trans (b11.mono B10.out.size))
  have HG := Lib.hid (group_is (xf w11) h11)
  clear h11 b11 HR
  go_wp2_with fail
  refine HG.out.mono ?_
  rintro e w12 ⟨⟨kd, xd, Ad, nd, Cd, rfl, h12⟩, b12⟩
  have hb13 := (Below.refl w12.heap.size w12).alloc (Nat.le_refl _) (.cells #[.int .i64 kd, .string xd, .slice Ad nd Cd] 32)
  have hx13 := heap_alloc_new w12 (.cells #[.int .i64 kd, .string xd, .slice Ad nd Cd] 32)
  obtain ⟨p0, p1, p2⟩ := cl3 hx13
  have HX13 := Lib.hid hx13
  have H13 := Lib.hid (show IsD XF _ _ exP kd xd Ad nd Cd from h12.later hb13)
  have B13 := Lib.hid ((B11.out.trans (b12.mono B11.out.size)).trans (hb13.mono (Nat.le_trans B11.out.size b12.size)))
  have HO := Lib.hid (of_any 11 H13.out (by decide) exP_bal exP_len exP_txt)
  clear h12 b12 HG hb13 hx13
  go_wp2_with fail
  refine HO.out.mono ?_
  rintro e w14 ⟨rfl, b14⟩
  have hx14 := (b14.block _ (lt_of HX13.out)).trans HX13.out
  obtain ⟨r0, r1, r2⟩ := cl3 hx14
  have HO2 := Lib.hid (of_any 10 (H13.out.later b14) (by decide) exP_bal exP_len exP_txt)
  have B14 := Lib.hid (B13.out.trans (b14.mono B13.out.size))
  rw [exP_11.1, exP_11.2]
  clear hx14 b14 HO p0 p1 p2
  go_wp2_with fail
  refine HO2.out.mono ?_
  rintro e w15 ⟨rfl, b15⟩
  rw [exP_10.1, exP_10.2]
  have B15 := Lib.hid (B14.out.trans (b15.mono B14.out.size))
  clear b15 HO2 r0 r1 r2
  go_wp2
  go_ret
  exact ⟨rfl, B15.out⟩
end Go.Proofs.Ytpankfbdlakmcaa.Doc
