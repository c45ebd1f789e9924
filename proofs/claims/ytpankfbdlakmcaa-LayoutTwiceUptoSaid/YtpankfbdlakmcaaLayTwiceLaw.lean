/-
  Layer 8 (layout): the law LayoutTwice. Written by gen_laylaws.py.
-/
import Derived.Test.YtpankfbdlakmcaaLayOne
namespace Go.Proofs.Ytpankfbdlakmcaa.Doc
open Go.ChangeShapes Go.WideShapes Go.ChangeAt Go.RowKit Mem
set_option linter.unusedVariables false

set_option maxHeartbeats 32000000 in
set_option maxRecDepth 100000 in
theorem layoutTwice_walk (k : Int) (x : ByteArray) (A : Option Addr) (n C : Nat) (c : G) (ni : Int) (w : World) (hs : Gs w (Lo w.heap.size) (.slice A n C) c) (htx : x.size + txt c ≤ 1048576) :
    Calls Try.prog 8 #[.agg #[.int .i64 k, .string x, .slice A n C], .int .i64 ni] w fun e w' => e = .returned (.bool true) ∧ Below w.heap.size w w' := by
  have b1' := (Below.refl w.heap.size w).alloc (Nat.le_refl _) (.cells #[.int .i64 k, .string x, .slice A n C] 24)
  have hx1 := heap_alloc_new w (.cells #[.int .i64 k, .string x, .slice A n C] 24)
  obtain ⟨p0, p1, p2⟩ := cl3 hx1
  have HF := Lib.hid (few_any k x A n C c _ (lo_later hs b1'))
  have HB1 := Lib.hid b1'
  have HX1 := Lib.hid hx1
  have HS := Lib.hid hs
  have HTX := Lib.hid htx
  clear b1' hx1 hs htx
  go_enter Try.func8, Try.ntmps8
  go_wp2_with fail
  refine HF.out.mono ?_
  rintro e w2 ⟨⟨fb, rfl, hfb⟩, hb2⟩
  have HB2 := Lib.hid (HB1.out.trans (hb2.mono HB1.out.size))
  have hx2 := (hb2.block w.heap.size (lt_of HX1.out)).trans HX1.out
  clear hb2 p0 p1 p2 HX1 HF
  cases fb with
  | false =>
    clear hx2
    go_wp2_with fail
    refine (known_any w2).mono ?_
    rintro e w3 ⟨rfl, hb3⟩
    have HB3 := Lib.hid (HB2.out.trans (hb3.mono HB2.out.size))
    clear hb3
    go_wp2
    go_ret
    exact ⟨rfl, HB3.out⟩
  | true =>
    have hsz := hfb rfl
    have HBT := Lib.hid (built_is (xf w2) hsz (lo_later HS.out HB2.out) (k := k) (x := x))
    obtain ⟨p0, p1, p2⟩ := cl3 hx2
    have HLL := Lib.hid (plan_len (k := k) (x := x) hsz)
    have HTL := Lib.hid (plan_txt HTX.out : txL (plOne k x (plP c)) ≤ 1048576)
    have HBAL := Lib.hid (plan_bal k x c)
    have HNEM := Lib.hid (plan_ne k x c)
    have HEMP := Lib.hid (plan_emp k x c)
    have HFBL := Lib.hid (plan_flat hsz HTX.out : (flB (plOne k x (plP c))).length ≤ 2000000)
    obtain ⟨l, hl⟩ : ∃ l, plOne k x (plP c) = l := ⟨_, rfl⟩
    rw [hl] at HBT HLL HTL HBAL HNEM HEMP HFBL
    clear hx2 hfb hl hsz HTX HS
    go_wp2_with fail
    refine HBT.out.mono ?_
    rintro e w3 ⟨⟨kd, xd, Ad, nd, Ce, rfl, hd⟩, hb3⟩
    have hb4 := (Below.refl w3.heap.size w3).alloc (Nat.le_refl _) (.cells #[.int .i64 kd, .string xd, .slice Ad nd Ce] 32)
    have hx4 := heap_alloc_new w3 (.cells #[.int .i64 kd, .string xd, .slice Ad nd Ce] 32)
    have hd4 := hd.later hb4
    have hbb := HB2.out.trans ((hb3.trans (hb4.mono hb3.size)).mono HB2.out.size)
    obtain ⟨wd, hwd⟩ : ∃ wd, w3.alloc (.cells #[.int .i64 kd, .string xd, .slice Ad nd Ce] 32) = wd := ⟨_, rfl⟩
    obtain ⟨gd, hgd⟩ : ∃ gd, w3.heap.size = gd := ⟨_, rfl⟩
    have HWD := Lib.hid hwd
    have HGD := Lib.hid hgd
    rw [hwd] at hx4 hd4 hbb
    obtain ⟨z0, z1, z2⟩ := cl3 hx4
    rw [hgd] at hx4
    have HX := Lib.hid hx4
    have HD := Lib.hid hd4
    have HB := Lib.hid hbb
    clear hd hb3 hb4 hx4 hd4 hbb hwd hgd HBT p0 p1 p2 HB1 HB2
    have HG := Lib.hid (group_is (xf wd) HD.out)
    go_wp2_with (rw [HWD.out])
    refine HG.out.mono ?_
    rintro e w5 ⟨⟨kg, xg, Ag, ng, Cg, rfl, hg⟩, hb⟩
    rw [HGD.out]
    have HL2 := HLL.out
    have HT2 := HTL.out
    have HO := Lib.hid (page_of ni hg (by omega) (bal_w7 HBAL.out) (by rw [len_w]; omega) (by rw [txL_w]; omega))
    clear hg HG z0 z1 z2 HWD HGD
    have hx := (hb.block gd (lt_of HX.out)).trans HX.out
    replace HX := Lib.hid hx
    replace HD := Lib.hid (HD.out.later hb)
    replace HB := Lib.hid (HB.out.trans (hb.mono HB.out.size))
    clear hx hb

    go_wp2_with fail
    refine (page_any ni _).mono ?_
    rintro e w6 ⟨rfl, rfl⟩
    go_wp2_with fail
    refine HO.out.mono ?_
    rintro e w7 ⟨rfl, hb⟩
    clear HO
    have hx := (hb.block gd (lt_of HX.out)).trans HX.out
    replace HX := Lib.hid hx
    replace HD := Lib.hid (HD.out.later hb)
    replace HB := Lib.hid (HB.out.trans (hb.mono HB.out.size))
    clear hx hb

    obtain ⟨y1, hy1⟩ : ∃ y, lyS ni (((7, emp) : Pc) :: (l ++ [((8, emp) : Pc)])) = y := ⟨_, rfl⟩
    have HY1 := Lib.hid hy1
    rw [hy1]
    have HG := Lib.hid (group_is (xf w7) HD.out)
    obtain ⟨z0, z1, z2⟩ := cl3 HX.out
    clear hy1
    go_wp2_with fail
    refine HG.out.mono ?_
    rintro e w8 ⟨⟨kg, xg, Ag, ng, Cg, rfl, hg⟩, hb⟩
    have HG2 := Lib.hid (group_is (xf w8) hg)
    clear hg HG z0 z1 z2
    have hx := (hb.block gd (lt_of HX.out)).trans HX.out
    replace HX := Lib.hid hx
    replace HD := Lib.hid (HD.out.later hb)
    replace HB := Lib.hid (HB.out.trans (hb.mono HB.out.size))
    clear hx hb

    go_wp2_with fail
    refine HG2.out.mono ?_
    rintro e w9 ⟨⟨kh, xh, Ah, nh, Ch, rfl, hg⟩, hb⟩
    have HO := Lib.hid (page_of ni hg (by omega) (bal_w7 (bal_w7 HBAL.out)) (by rw [len_w, len_w]; omega) (by rw [txL_w, txL_w]; omega))
    have hy2 : lyS ni (((7, emp) : Pc) :: ((((7, emp) : Pc) :: (l ++ [((8, emp) : Pc)])) ++ [((8, emp) : Pc)])) = y1 := by
      rw [← HY1.out]
      unfold lyS
      rw [lay_twice (Nat.le_trans (pg_high ni) (by decide)) HBAL.out]
    rw [hy2] at HO
    clear hg HG2 hy2
    have hx := (hb.block gd (lt_of HX.out)).trans HX.out
    replace HX := Lib.hid hx
    replace HD := Lib.hid (HD.out.later hb)
    replace HB := Lib.hid (HB.out.trans (hb.mono HB.out.size))
    clear hx hb

    go_wp2_with fail
    refine (page_any ni _).mono ?_
    rintro e w10 ⟨rfl, rfl⟩
    go_wp2_with fail
    refine HO.out.mono ?_
    rintro e w11 ⟨rfl, hb⟩
    clear HO
    have hx := (hb.block gd (lt_of HX.out)).trans HX.out
    replace HX := Lib.hid hx
    replace HD := Lib.hid (HD.out.later hb)
    replace HB := Lib.hid (HB.out.trans (hb.mono HB.out.size))
    clear hx hb

    obtain ⟨m, hm⟩ : ∃ m, l.length = m := ⟨_, rfl⟩
    have HM := Lib.hid hm
    have HPL := Lib.hid (plain_is HD.out (by omega) hm)
    obtain ⟨z0, z1, z2⟩ := cl3 HX.out
    clear hm
    go_wp2_with fail
    refine HPL.out.mono ?_
    rintro e w12 ⟨⟨Ap, Cp, rfl, hpc, hpm, hpr⟩, hb⟩
    have HR := Lib.hid hpr
    clear HPL z0 z1 z2 hpr
    have hx := (hb.block gd (lt_of HX.out)).trans HX.out
    replace HX := Lib.hid hx
    replace HD := Lib.hid (HD.out.later hb)
    replace HB := Lib.hid (HB.out.trans (hb.mono HB.out.size))
    clear hx hb

    go_wp2
    go_loopw [11, 12] (fun s11 s12 wr => ∃ i : Nat, i ≤ m ∧ s12 = .int .i64 (i : Int) ∧ s11 = .bool ((l.take i).any fun p => isB p.1) ∧ wr = w12) (fun _ s12 _ => m - (intOf s12).toNat)
    case atStart => exact ⟨0, Nat.zero_le _, rfl, rfl, rfl⟩
    case round =>
      obtain ⟨i, hi, rfl, rfl, rfl⟩ := hrel
      by_cases hlt : i < m
      · obtain ⟨gp, op, p, rfl, hp, u0, u1⟩ := HR.out.at_ (i := i) (by rw [HM.out]; exact hlt)
        obtain ⟨k', x'⟩ := p
        dsimp only at u0 u1
        have hlt1 : (i : Int) < (m : Int) := by omega
        have hlt0 : (0 : Int) ≤ (i : Int) := by omega
        have hwi : IntKind.i64.wrap ((i : Int) + 1) = (i : Int) + 1 := by rw [IntKind.wrap_i64]; have := HM.out; have := HLL.out; omega
        have HAN : Hid (((l.take (i + 1)).any fun p => isB p.1) = (((l.take i).any fun p => isB p.1) || isB k')) := by
          show _ = _
          rw [List.take_add_one, hp]
          simp
        obtain ⟨q, hq⟩ : ∃ q, ((l.take i).any fun p => isB p.1) = q := ⟨_, rfl⟩
        rw [hq] at HAN ⊢
        clear hp hq
        cases q with
        | true =>
          go_wp2
          go_roundw
          case rel => exact ⟨i + 1, by omega, by go_num, by rw [HAN.out]; rfl, trivial⟩
          case measure => simp [intOf]; omega
        | false =>
          by_cases hb : isB k' = true
          · have h2 : (2 : Int) ≤ k' := by have := isB_iff.1 hb; omega
            have h4 : k' ≤ 4 := by have := isB_iff.1 hb; omega
            have HAN2 : Hid (((l.take (i + 1)).any fun p => isB p.1) = true) := by show _ = _; rw [HAN.out, hb]; rfl
            clear HAN hb
            go_wp2
            go_roundw
            case rel => exact ⟨i + 1, by omega, by go_num, by rw [HAN2.out], trivial⟩
            case measure => simp [intOf]; omega
          · have HAN2 : Hid (((l.take (i + 1)).any fun p => isB p.1) = false) := by show _ = _; rw [HAN.out, show isB k' = false by simpa using hb]; rfl
            have hnb2 := isB_not.1 (by simpa using hb)
            by_cases h2 : (2 : Int) ≤ k'
            · have h4 : ¬ k' ≤ 4 := by omega
              clear HAN hb hnb2
              go_wp2
              go_roundw
              case rel => exact ⟨i + 1, by omega, by go_num, by rw [HAN2.out], trivial⟩
              case measure => simp [intOf]; omega
            · clear HAN hb hnb2
              go_wp2
              go_roundw
              case rel => exact ⟨i + 1, by omega, by go_num, by rw [HAN2.out], trivial⟩
              case measure => simp [intOf]; omega
      · obtain rfl : i = m := by omega
        have hlt1 : ¬ (i : Int) < (i : Int) := by omega
        have hta : l.take i = l := by rw [← HM.out, List.take_length]
        rw [hta]
        obtain ⟨bk, hbk⟩ : ∃ bk, (l.any fun p => isB p.1) = bk := ⟨_, rfl⟩
        rw [hbk]
        have HBK := Lib.hid hbk
        obtain ⟨y3, hy3⟩ : ∃ y, lyS ni l = y := ⟨_, rfl⟩
        have HOF : Hid (∀ W, Below wr.heap.size wr W → Calls Try.prog 11 #[.agg #[.int .i64 kd, .string xd, .slice Ad nd Ce], .int .i64 (pg ni : Int)] W fun e w' => e = .returned (.tuple #[.string y3, .int .i64 0]) ∧ Below W.heap.size W w') := fun W hW => by
          rw [← hy3]
          exact page_of ni (HD.out.later hW) (by omega) HBAL.out (Nat.le_trans HLL.out (by omega)) (Nat.le_trans HTL.out (by omega))
        have HY3 := Lib.hid hy3
        clear hta hbk hy3 HR HM HNEM HEMP HFBL
        go_wp2
        refine region_rel (fun W W' => Below W.heap.size W W') [Cd.is (Value.agg #[.int .i64 kd, .string xd, .slice Ad nd Ce]), Cd.is (Value.int .i64 ni), Cd.is (Value.int .i64 (pg ni : Int)), Cd.is (Value.tuple #[.string y3, .int .i64 0]), Cd.is (Value.tuple #[.string y3, .int .i64 0]), Cd.is (Value.string y3), Cd.is (Value.int .i64 0), Cd.is (Value.string y3), Cd.is (Value.int .i64 0)] (by kernel_rfl) (by decide) (by kernel_rfl) (Below.refl _ _) (fun _ _ _ h k => h.trans (k.mono h.size)) ?steps ?behind
        case steps =>
          intro xv W hW a ha
          replace hW : Below wr.heap.size wr W := ⟨hW.os, hW.tape, hW.output, hW.size, hW.block⟩
          simp only [fillA] at ha
          simp only [List.setIfInBounds_toArray, List.set_cons_succ, List.set_cons_zero, Nat.zero_add, Nat.reduceAdd] at ha
          subst ha
          refine ⟨fun hd K hK => ?s0, fun hd K hK => ?s1, fun hd K hK => ?s2, fun hd K hK => ?s3, fun hd K hK => ?s4, fun hd K hK => ?s5, fun hd K hK => ?s6, fun hd K hK => ?s7, fun hd K hK => ?s8, trivial⟩
          case s0 =>
            clear hd
            simp only [Act.put, List.setIfInBounds_toArray, List.set_cons_succ, List.set_cons_zero] at hK
            refine (if_pos (by rfl)).mpr ?_
            obtain ⟨hq0, hq1, hq2⟩ := cl3 ((hW.block gd (lt_of HX.out)).trans HX.out)
            go_simp
            exact hK.out _ _ (Below.refl _ _) rfl
          case s1 =>
            clear hd
            simp only [Act.put, List.setIfInBounds_toArray, List.set_cons_succ, List.set_cons_zero] at hK
            refine (if_pos (by rfl)).mpr ?_
            go_simp
            exact hK.out _ _ (Below.refl _ _) rfl
          case s2 =>
            have hx1 : xv 1 = Value.int .i64 ni := hd 1 (by kernel_rfl)
            clear hd
            simp only [Act.put, List.setIfInBounds_toArray, List.set_cons_succ, List.set_cons_zero] at hK
            rw [hx1] at hK ⊢
            refine (if_pos (by rfl)).mpr ?_
            go_simp
            refine (page_any ni W).mono ?_
            rintro e W' ⟨rfl, rfl⟩
            exact hK.out _ _ (Below.refl _ _) rfl
          case s3 =>
            have hx0 : xv 0 = Value.agg #[.int .i64 kd, .string xd, .slice Ad nd Ce] := hd 0 (by kernel_rfl)
            have hx2 : xv 2 = Value.int .i64 (pg ni : Int) := hd 2 (by kernel_rfl)
            clear hd
            simp only [Act.put, List.setIfInBounds_toArray, List.set_cons_succ, List.set_cons_zero] at hK
            rw [hx0] at hK ⊢
            rw [hx2] at hK ⊢
            refine (if_pos (by rfl)).mpr ?_
            go_simp
            go_at_call 11
            refine (HOF.out W hW).mono ?_
            rintro e W' ⟨rfl, hb⟩
            exact hK.out _ _ hb rfl
          case s4 =>
            have hx3 : xv 3 = Value.tuple #[.string y3, .int .i64 0] := hd 3 (by kernel_rfl)
            clear hd
            simp only [Act.put, List.setIfInBounds_toArray, List.set_cons_succ, List.set_cons_zero] at hK
            rw [hx3] at hK ⊢
            refine (if_pos (by rfl)).mpr ?_
            go_simp
            exact hK.out _ _ (Below.refl _ _) rfl
          case s5 =>
            have hx4 : xv 4 = Value.tuple #[.string y3, .int .i64 0] := hd 4 (by kernel_rfl)
            clear hd
            simp only [Act.put, List.setIfInBounds_toArray, List.set_cons_succ, List.set_cons_zero] at hK
            rw [hx4] at hK ⊢
            refine (if_pos (by rfl)).mpr ?_
            go_simp
            exact hK.out _ _ (Below.refl _ _) rfl
          case s6 =>
            have hx4 : xv 4 = Value.tuple #[.string y3, .int .i64 0] := hd 4 (by kernel_rfl)
            clear hd
            simp only [Act.put, List.setIfInBounds_toArray, List.set_cons_succ, List.set_cons_zero] at hK
            rw [hx4] at hK ⊢
            refine (if_pos (by rfl)).mpr ?_
            go_simp
            exact hK.out _ _ (Below.refl _ _) rfl
          case s7 =>
            have hx5 : xv 5 = Value.string y3 := hd 5 (by kernel_rfl)
            clear hd
            simp only [Act.put, List.setIfInBounds_toArray, List.set_cons_succ, List.set_cons_zero] at hK
            rw [hx5] at hK ⊢
            refine (if_pos (by rfl)).mpr ?_
            go_simp
            exact hK.out _ _ (Below.refl _ _) rfl
          case s8 =>
            have hx6 : xv 6 = Value.int .i64 0 := hd 6 (by kernel_rfl)
            clear hd
            simp only [Act.put, List.setIfInBounds_toArray, List.set_cons_succ, List.set_cons_zero] at hK
            rw [hx6] at hK ⊢
            refine (if_pos (by rfl)).mpr ?_
            go_simp
            exact hK.out _ _ (Below.refl _ _) rfl
        case behind =>
          intro xv W hW hx a ha
          replace hW : Below wr.heap.size wr W := ⟨hW.os, hW.tape, hW.output, hW.size, hW.block⟩
          simp only [fillA] at ha
          simp only [List.setIfInBounds_toArray, List.set_cons_succ, List.set_cons_zero, Nat.zero_add, Nat.reduceAdd] at ha
          subst ha
          have e7 : xv 7 = Value.string y3 := hx 7 (by decide)
          have e8 : xv 8 = Value.int .i64 0 := hx 8 (by decide)
          rw [e7, e8]
          clear hx e7 e8
          have hb := hW
          have hx := (hb.block gd (lt_of HX.out)).trans HX.out
          replace HX := Lib.hid hx
          replace HD := Lib.hid (HD.out.later hb)
          replace HB := Lib.hid (HB.out.trans (hb.mono HB.out.size))
          clear hx hb
          have HN := Lib.hid (nest_is (xf W) HD.out)
          obtain ⟨z0, z1, z2⟩ := cl3 HX.out
          clear HOF
          go_wp2_with fail
          refine HN.out.mono ?_
          rintro e w14 ⟨⟨kg, xg, Ag, ng, Cg, rfl, hg⟩, hb⟩
          have HL3 := HLL.out
          have HT3 := HTL.out
          have HO := Lib.hid (page_of ni hg (by omega) (bal_w5 HBAL.out) (by rw [len_w]; omega) (by rw [txL_w]; omega))
          clear hg HN z0 z1 z2
          have hx := (hb.block gd (lt_of HX.out)).trans HX.out
          replace HX := Lib.hid hx
          replace HD := Lib.hid (HD.out.later hb)
          replace HB := Lib.hid (HB.out.trans (hb.mono HB.out.size))
          clear hx hb
          go_wp2_with fail
          refine (page_any ni _).mono ?_
          rintro e w15 ⟨rfl, rfl⟩
          go_wp2_with fail
          refine HO.out.mono ?_
          rintro e w16 ⟨rfl, hb⟩
          clear HO
          have hx := (hb.block gd (lt_of HX.out)).trans HX.out
          replace HX := Lib.hid hx
          replace HD := Lib.hid (HD.out.later hb)
          replace HB := Lib.hid (HB.out.trans (hb.mono HB.out.size))
          clear hx hb
          obtain ⟨y4, hy4⟩ : ∃ y, lyS ni (((5, emp) : Pc) :: (l ++ [((6, emp) : Pc)])) = y := ⟨_, rfl⟩
          rw [hy4]
          have HY4 : Hid (bk = false → y4 = y3) := fun hbk => by
            rw [← hy4, ← HY3.out]
            unfold lyS
            rw [lay_nest (pg ni) (l := l)]
            intro p hp
            have h := HBK.out
            rw [hbk, List.any_eq_false] at h
            simpa using h p hp
          have HK := Lib.hid (known_any w16)
          clear hy4 HY1 HY3 HBK HL3 HT3 HL2 HT2 HD HX
          cases bk with
          | true =>
            go_wp2_with fail
            refine HK.out.mono ?_
            rintro e w17 ⟨rfl, hb⟩
            have HB9 := Lib.hid (HB.out.trans (hb.mono HB.out.size))
            clear hb
            go_wp2
            go_ret
            exact ⟨rfl, HB9.out⟩
          | false =>
            obtain rfl : y4 = y3 := HY4.out rfl
            go_wp2_with fail
            refine HK.out.mono ?_
            rintro e w17 ⟨rfl, hb⟩
            have HB9 := Lib.hid (HB.out.trans (hb.mono HB.out.size))
            clear hb
            go_wp2
            go_ret
            exact ⟨rfl, HB9.out⟩
end Go.Proofs.Ytpankfbdlakmcaa.Doc
