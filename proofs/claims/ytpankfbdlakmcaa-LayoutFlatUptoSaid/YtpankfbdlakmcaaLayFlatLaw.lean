/-
  Layer 8 (layout): the law LayoutFlat. Written by gen_laylaws.py.
-/
import Derived.Test.YtpankfbdlakmcaaLayWordsLaw
namespace Go.Proofs.Ytpankfbdlakmcaa.Doc
open Go.ChangeShapes Go.WideShapes Go.ChangeAt Go.RowKit Mem
set_option linter.unusedVariables false

/-- Has a text a newline among its first j bytes? -/
def nlX (x : ByteArray) (j : Nat) : Bool := (x.data.toList.take j).any fun b => b.toNat == 10
def nlL (l : List Pc) : Bool := l.any fun p => nlX p.2 p.2.size
theorem nlX_step {x : ByteArray} {j : Nat} (hj : j < x.size) : nlX x (j + 1) = (nlX x j || bAt x j == 10) := by
  unfold nlX
  rw [List.take_add_one, at_list hj, List.any_append]
  unfold bAt
  simp
theorem nlL_step {l : List Pc} {i : Nat} {p : Pc} (hp : l[i]? = some p) : nlL (l.take (i + 1)) = (nlL (l.take i) || nlX p.2 p.2.size) := by
  unfold nlL
  rw [List.take_add_one, hp, List.any_append]; simp
theorem bks_step {l : List Pc} {i : Nat} {p : Pc} (hp : l[i]? = some p) : bks (l.take (i + 1)) = bks (l.take i) + (if isB p.1 then 1 else 0) := by
  unfold bks
  rw [List.take_add_one, hp, List.countP_append]; simp [List.countP_cons]
theorem grs_step {l : List Pc} {i : Nat} {p : Pc} (hp : l[i]? = some p) : grs (l.take (i + 1)) = grs (l.take i) + (if p.1 = 7 then 1 else 0) := by
  unfold grs
  rw [List.take_add_one, hp, List.countP_append]; simp [List.countP_cons]
theorem cnl_step1 {x : ByteArray} {j : Nat} (hj : j < x.size) : cnl (x.data.toList.take (j + 1)) = cnl (x.data.toList.take j) + (if bAt x j = 10 then 1 else 0) := by
  unfold cnl
  rw [List.take_add_one, at_list hj, List.countP_append]
  unfold bAt
  simp [List.countP_cons]
theorem noNl_of {l : List Pc} (h : nlL l = false) : NoNl l := by
  intro p hp _
  unfold nlL at h
  rw [List.any_eq_false] at h
  have h2 := h p hp
  unfold nlX at h2
  rw [all_take] at h2
  unfold cnl
  rw [List.countP_eq_zero]
  intro b hb hc
  exact h2 (List.any_eq_true.2 ⟨b, hb, hc⟩)
theorem sumP_hard : ∀ l : List Pc, noHard l = false → 65536 ≤ sumP l
  | [], h => by simp [noHard] at h
  | p :: l, h => by
    show 65536 ≤ fwp p + sumP l
    by_cases h4 : p.1 = 4
    · have : fwp p = 65536 := by unfold fwp; simp [h4]
      omega
    · have e : noHard (p :: l) = noHard l := by
        unfold noHard
        simp [h4]
      rw [e] at h
      have := sumP_hard l h
      omega
theorem bks_app (a b : List Pc) : bks (a ++ b) = bks a + bks b := List.countP_append ..
theorem lay_not {W : Nat} (hW : W ≤ 65535) {l : List Pc} (hb : Bal l) (hn : NoNl l) (hq : ¬ (noHard l = true ∧ wdL (flB l) ≤ W)) : cnl (layS W (((7, emp) : Pc) :: (l ++ [((8, emp) : Pc)]))) ≤ bks l ∧ (grs l = 0 → cnl (layS W (((7, emp) : Pc) :: (l ++ [((8, emp) : Pc)]))) = bks l) := by
  have hn8 : NoNl (l ++ [((8, emp) : Pc)]) := fun p hp h1 => by
    rcases List.mem_append.1 hp with h | h
    · exact hn p h h1
    · rw [List.mem_singleton.1 h] at h1; cases h1
  have hb8 : bks (l ++ [((8, emp) : Pc)]) = bks l := by rw [bks_app]; rfl
  have hfit : fitB W 0 (l ++ [((8, emp) : Pc)]) 0 = false := by
    rw [fitB_is hW, gwp_app l _ 0 0 (hb 0).2]
    refine decide_eq_false ?_
    cases hh : noHard l with
    | true =>
      rw [sumP_flat l hh]
      intro h
      exact hq ⟨hh, by omega⟩
    | false => have := sumP_hard l hh; omega
  have hs : step W (7, emp) (l ++ [((8, emp) : Pc)]) St0 = ⟨[], 0, 0, 0, [false]⟩ := by
    show ({ St0 with f := (St0.fl || fitB W 0 (l ++ [((8, emp) : Pc)]) 0) :: [] } : St) = _
    rw [hfit]; rfl
  have e : layS W (((7, emp) : Pc) :: (l ++ [((8, emp) : Pc)])) = (mach W (l ++ [((8, emp) : Pc)]) ⟨[], 0, 0, 0, [false]⟩).o := by
    show (mach W (l ++ [((8, emp) : Pc)]) (step W (7, emp) (l ++ [((8, emp) : Pc)]) St0)).o = _
    rw [hs]
  rw [e]
  refine ⟨?_, fun hg => ?_⟩
  · have := cnl_mach W (l ++ [((8, emp) : Pc)]) ⟨[], 0, 0, 0, [false]⟩ hn8
    rw [hb8] at this
    have h0 : cnl ([] : List UInt8) = 0 := rfl
    simp only [h0] at this
    omega
  · have h7 : ∀ p ∈ l ++ [((8, emp) : Pc)], p.1 ≠ 7 := fun p hp => by
      rcases List.mem_append.1 hp with h | h
      · unfold grs at hg
        rw [List.countP_eq_zero] at hg
        have := hg p h
        simpa using this
      · rw [List.mem_singleton.1 h]; decide
    have := cnl_mach_eq W (l ++ [((8, emp) : Pc)]) ⟨[], 0, 0, 0, [false]⟩ (fun b hb => by simpa using hb) h7 hn8
    rw [hb8] at this
    have h0 : cnl ([] : List UInt8) = 0 := rfl
    simp only [h0] at this
    omega

set_option maxHeartbeats 32000000 in
set_option maxRecDepth 100000 in
theorem layoutFlat_walk (k : Int) (x : ByteArray) (A : Option Addr) (n C : Nat) (c : G) (ni : Int) (w : World) (hs : Gs w (Lo w.heap.size) (.slice A n C) c) (htx : x.size + txt c ≤ 1048576) :
    Calls Try.prog 6 #[.agg #[.int .i64 k, .string x, .slice A n C], .int .i64 ni] w fun e w' => e = .returned (.bool true) ∧ Below w.heap.size w w' := by
  have b1' := (Below.refl w.heap.size w).alloc (Nat.le_refl _) (.cells #[.int .i64 k, .string x, .slice A n C] 24)
  have hx1 := heap_alloc_new w (.cells #[.int .i64 k, .string x, .slice A n C] 24)
  obtain ⟨p0, p1, p2⟩ := cl3 hx1
  have HF := Lib.hid (few_any k x A n C c _ (lo_later hs b1'))
  have HB1 := Lib.hid b1'
  have HX1 := Lib.hid hx1
  have HS := Lib.hid hs
  have HTX := Lib.hid htx
  clear b1' hx1 hs htx
  go_enter Try.func6, Try.ntmps6
  go_wp2_with fail
  refine HF.out.mono ?_
  rintro e w2 ⟨⟨fb, rfl, hfb⟩, hb2⟩
  have HB2 := Lib.hid (HB1.out.trans (hb2.mono HB1.out.size))
  have hx2 := (hb2.block w.heap.size (lt_of HX1.out)).trans HX1.out
  clear hb2 p0 p1 p2 HX1 HF
  cases fb with
  | false =>
    clear hx2
    go_wp2_with fail
    refine (known_any w2).mono ?_
    rintro e w3 ⟨rfl, hb3⟩
    have HB3 := Lib.hid (HB2.out.trans (hb3.mono HB2.out.size))
    clear hb3
    go_wp2
    go_ret
    exact ⟨rfl, HB3.out⟩
  | true =>
    have hsz := hfb rfl
    have HBT := Lib.hid (built_is (xf w2) hsz (lo_later HS.out HB2.out) (k := k) (x := x))
    obtain ⟨p0, p1, p2⟩ := cl3 hx2
    have HLL := Lib.hid (plan_len (k := k) (x := x) hsz)
    have HTL := Lib.hid (plan_txt HTX.out : txL (plOne k x (plP c)) ≤ 1048576)
    have HBAL := Lib.hid (plan_bal k x c)
    have HNEM := Lib.hid (plan_ne k x c)
    have HEMP := Lib.hid (plan_emp k x c)
    have HFBL := Lib.hid (plan_flat hsz HTX.out : (flB (plOne k x (plP c))).length ≤ 2000000)
    obtain ⟨l, hl⟩ : ∃ l, plOne k x (plP c) = l := ⟨_, rfl⟩
    rw [hl] at HBT HLL HTL HBAL HNEM HEMP HFBL
    clear hx2 hfb hl hsz HTX HS
    go_wp2_with fail
    refine HBT.out.mono ?_
    rintro e w3 ⟨⟨kd, xd, Ad, nd, Ce, rfl, hd⟩, hb3⟩
    have hb4 := (Below.refl w3.heap.size w3).alloc (Nat.le_refl _) (.cells #[.int .i64 kd, .string xd, .slice Ad nd Ce] 32)
    have hx4 := heap_alloc_new w3 (.cells #[.int .i64 kd, .string xd, .slice Ad nd Ce] 32)
    have hd4 := hd.later hb4
    have hbb := HB2.out.trans ((hb3.trans (hb4.mono hb3.size)).mono HB2.out.size)
    obtain ⟨wd, hwd⟩ : ∃ wd, w3.alloc (.cells #[.int .i64 kd, .string xd, .slice Ad nd Ce] 32) = wd := ⟨_, rfl⟩
    obtain ⟨gd, hgd⟩ : ∃ gd, w3.heap.size = gd := ⟨_, rfl⟩
    have HWD := Lib.hid hwd
    have HGD := Lib.hid hgd
    rw [hwd] at hx4 hd4 hbb
    obtain ⟨z0, z1, z2⟩ := cl3 hx4
    rw [hgd] at hx4
    have HX := Lib.hid hx4
    have HD := Lib.hid hd4
    have HB := Lib.hid hbb
    clear hd hb3 hb4 hx4 hd4 hbb hwd hgd HBT p0 p1 p2 HB1 HB2
    obtain ⟨fs, hfs⟩ : ∃ fs, flS l = fs := ⟨_, rfl⟩
    obtain ⟨ok, hok⟩ : ∃ ok, noHard l = ok := ⟨_, rfl⟩
    have HFS := Lib.hid hfs
    have HOK := Lib.hid hok
    have HFL := Lib.hid (flat_is HD.out (by omega) (Nat.le_trans HFBL.out (by omega)))
    unfold FlatPost at HFL
    rw [hfs, hok] at HFL
    clear hfs hok
    go_wp2_with (rw [HWD.out])
    refine HFL.out.mono ?_
    rintro e w5 ⟨rfl, hb⟩
    rw [HGD.out]
    clear HFL z0 z1 z2 HWD HGD
    have hx := (hb.block gd (lt_of HX.out)).trans HX.out
    replace HX := Lib.hid hx
    replace HD := Lib.hid (HD.out.later hb)
    replace HB := Lib.hid (HB.out.trans (hb.mono HB.out.size))
    clear hx hb

    have HG := Lib.hid (group_is (xf w5) HD.out)
    obtain ⟨z0, z1, z2⟩ := cl3 HX.out
    go_wp2_with fail
    refine HG.out.mono ?_
    rintro e w6 ⟨⟨kg, xg, Ag, ng, Cg, rfl, hg⟩, hb⟩
    have HL2 := HLL.out
    have HT2 := HTL.out
    have HO := Lib.hid (page_of ni hg (by omega) (bal_w7 HBAL.out) (by rw [len_w]; omega) (by rw [txL_w]; omega))
    obtain ⟨y1, hy1⟩ : ∃ y, lyS ni (((7, emp) : Pc) :: (l ++ [((8, emp) : Pc)])) = y := ⟨_, rfl⟩
    rw [hy1] at HO
    have HY1 := Lib.hid hy1
    clear hg HG z0 z1 z2 hy1 HL2 HT2
    have hx := (hb.block gd (lt_of HX.out)).trans HX.out
    replace HX := Lib.hid hx
    replace HD := Lib.hid (HD.out.later hb)
    replace HB := Lib.hid (HB.out.trans (hb.mono HB.out.size))
    clear hx hb

    go_wp2_with fail
    refine (page_any ni _).mono ?_
    rintro e w7 ⟨rfl, rfl⟩
    go_wp2_with fail
    refine HO.out.mono ?_
    rintro e w8 ⟨rfl, hb⟩
    clear HO
    have hx := (hb.block gd (lt_of HX.out)).trans HX.out
    replace HX := Lib.hid hx
    replace HD := Lib.hid (HD.out.later hb)
    replace HB := Lib.hid (HB.out.trans (hb.mono HB.out.size))
    clear hx hb

    go_wp2_with fail
    refine (known_any w8).mono ?_
    rintro e w9 ⟨rfl, hb⟩
    have hx := (hb.block gd (lt_of HX.out)).trans HX.out
    replace HX := Lib.hid hx
    replace HD := Lib.hid (HD.out.later hb)
    replace HB := Lib.hid (HB.out.trans (hb.mono HB.out.size))
    clear hx hb

    have HSZ : Hid (fs.size ≤ 2000000) := by
      show _ ≤ _
      rw [← HFS.out]
      unfold flS
      split
      · show (flB l).toArray.size ≤ _
        rw [List.size_toArray]; exact HFBL.out
      · exact Nat.zero_le _
    have HWF : Hid (ok = true → Doc.wd fs = wdL (flB l) ∧ (wdL (flB l) ≤ pg ni → y1 = fs)) := fun h => by
      rw [← HFS.out, ← HY1.out]
      unfold flS
      rw [HOK.out.trans h, if_pos rfl]
      refine ⟨rfl, fun hw => ?_⟩
      unfold lyS
      rw [lay_flat (Nat.le_trans (pg_high ni) (by decide)) HBAL.out (HOK.out.trans h) hw]
    have HRST : Hid (¬ (ok = true ∧ Doc.wd fs ≤ pg ni) → nlL l = false → cnl y1.data.toList ≤ bks l ∧ (grs l = 0 → cnl y1.data.toList = bks l)) := fun hnot hnl => by
      have e : y1.data.toList = layS (pg ni) (((7, emp) : Pc) :: (l ++ [((8, emp) : Pc)])) := by rw [← HY1.out]; rfl
      rw [e]
      refine lay_not (Nat.le_trans (pg_high ni) (by decide)) HBAL.out (noNl_of hnl) fun hq => hnot ?_
      have h1 := HOK.out.symm.trans hq.1
      exact ⟨h1, by rw [(HWF.out h1).1]; exact hq.2⟩
    have HYL : Hid (y1.size ≤ 200000000) := by
      show _ ≤ _
      have h := lay_size (W := pg ni) (l := ((7, emp) : Pc) :: (l ++ [((8, emp) : Pc)])) (by rw [len_w]; have := HLL.out; omega)
      have h2 := HTL.out
      rw [txL_w] at h
      rw [← HY1.out]
      show (layS (pg ni) _).toArray.size ≤ _
      rw [List.size_toArray]
      omega
    have HWI := Lib.hid (fun W => width_any fs (by have := HSZ.out; omega) W)
    obtain ⟨wv, hwv⟩ : ∃ wv, Doc.wd fs = wv := ⟨_, rfl⟩
    rw [hwv] at HWI HWF HRST
    obtain ⟨m, hm⟩ : ∃ m, l.length = m := ⟨_, rfl⟩
    have HM := Lib.hid hm
    obtain ⟨pv, hpv⟩ : ∃ pv, pg ni = pv := ⟨_, rfl⟩
    have HPG : Hid (∀ W, Calls Try.prog 17 #[.int .i64 ni] W fun e w' => e = .returned (.int .i64 (pv : Int)) ∧ W = w') := fun W => by rw [← hpv]; exact page_any ni W
    rw [hpv] at HWF HRST
    clear hwv hm hpv HY1 HFS HOK HSZ HNEM HBAL
    cases ok with
    | true =>
      go_wp2_with fail
      refine (HWI.out _).mono ?_
      rintro e v1 ⟨rfl, rfl⟩
      go_wp2_with fail
      refine (HPG.out _).mono ?_
      rintro e v1 ⟨rfl, rfl⟩
      by_cases hle : wv ≤ pv
      · have hle' : (wv : Int) ≤ (pv : Int) := by omega
        obtain rfl : y1 = fs := (HWF.out (by trivial)).2 (by rw [← (HWF.out (by trivial)).1]; exact hle)
        clear HWF HRST
        go_wp2
        go_ret
        exact ⟨rfl, HB.out⟩
      · have hle' : ¬ (wv : Int) ≤ (pv : Int) := by omega
        replace HRST := Lib.hid (HRST.out fun h => hle h.2)
        clear HWF hle HWI HPG
        have HPL := Lib.hid (plain_is HD.out (by omega) HM.out)
        obtain ⟨z0, z1, z2⟩ := cl3 HX.out
        go_wp2_with fail
        refine HPL.out.mono ?_
        rintro e w12 ⟨⟨Ap, Cp, rfl, hpc, hpm, hpr⟩, hb⟩
        have HR := Lib.hid hpr
        clear HPL z0 z1 z2 hpr
        have hx := (hb.block gd (lt_of HX.out)).trans HX.out
        replace HX := Lib.hid hx
        replace HD := Lib.hid (HD.out.later hb)
        replace HB := Lib.hid (HB.out.trans (hb.mono HB.out.size))
        clear hx hb

        have hm8 : m ≤ 802 := by rw [← HM.out]; exact HLL.out
        go_wp2
        go_loopw [11, 12, 14, 15] (fun s11 s12 s14 s15 wr => ∃ i : Nat, i ≤ m ∧ s15 = .int .i64 (i : Int) ∧ s11 = .int .i64 (bks (l.take i) : Int) ∧ s12 = .int .i64 (grs (l.take i) : Int) ∧ s14 = .bool (nlL (l.take i)) ∧ wr = w12) (fun _ _ _ s15 _ => m - (intOf s15).toNat)
        case atStart => exact ⟨0, Nat.zero_le _, rfl, rfl, rfl, rfl, rfl⟩
        case round =>
          obtain ⟨i, hi, rfl, rfl, rfl, rfl, rfl⟩ := hrel
          by_cases hlt : i < m
          · obtain ⟨gp, op, p, rfl, hp, u0, u1⟩ := HR.out.at_ (i := i) (by rw [HM.out]; exact hlt)
            obtain ⟨k', x'⟩ := p
            dsimp only at u0 u1
            have hlt1 : (i : Int) < (m : Int) := by omega
            have hlt0 : (0 : Int) ≤ (i : Int) := by omega
            have hwi : IntKind.i64.wrap ((i : Int) + 1) = (i : Int) + 1 := by rw [IntKind.wrap_i64]; omega
            have HBS := Lib.hid (bks_step hp)
            have HGS := Lib.hid (grs_step hp)
            have HTS := Lib.hid (nlL_step hp)
            have hxl := txL_mem (List.mem_of_getElem? hp)
            have hTo := HTL.out
            have hx2 : x'.size ≤ 1048576 := by have h : x'.size ≤ txL l := hxl; omega
            have hbl : bks (l.take i) ≤ i := by unfold bks; exact Nat.le_trans (List.countP_le_length) (by simp; omega)
            have hgl : grs (l.take i) ≤ i := by unfold grs; exact Nat.le_trans (List.countP_le_length) (by simp; omega)
            obtain ⟨q, hq⟩ : ∃ q, nlL (l.take i) = q := ⟨_, rfl⟩
            obtain ⟨bv, hbv⟩ : ∃ bv, bks (l.take i) = bv := ⟨_, rfl⟩
            obtain ⟨gv, hgv⟩ : ∃ gv, grs (l.take i) = gv := ⟨_, rfl⟩
            rw [hq] at HTS ⊢
            rw [hbv] at HBS hbl ⊢
            rw [hgv] at HGS hgl ⊢
            have hwb : IntKind.i64.wrap ((bv : Int) + 1) = (bv : Int) + 1 := by rw [IntKind.wrap_i64]; omega
            have hwg : IntKind.i64.wrap ((gv : Int) + 1) = (gv : Int) + 1 := by rw [IntKind.wrap_i64]; omega
            have HIX : Hid (∀ j, j < x'.size → ∀ W : World, (Instr.index 9 (.string x') (.int .i64 (j : Int))).run Try.prog W = .ok (.int .u8 (bAt x' j : Int)) W) := fun j hj W => idx_str 9 Try.underlying9 x' hj W
            have HTP : Hid (nlL (l.take (i + 1)) = (q || nlX x' x'.size)) := HTS.out
            have HTX2 : Hid (∀ j, j < x'.size → nlX x' (j + 1) = (nlX x' j || bAt x' j == 10)) := fun j hj => nlX_step hj
            obtain ⟨nx, hnx⟩ : ∃ nx, x'.size = nx := ⟨_, rfl⟩
            have HNX := Lib.hid hnx
            rw [hnx] at HIX HTP HTX2 hx2
            have HU := Lib.hid (And.intro u0 u1)
            clear hp hxl hTo hq hbv hgv HTS
            by_cases hb : isB k' = true
            · have h2 : (2 : Int) ≤ k' := by have := isB_iff.1 hb; omega
              have h4 : k' ≤ 4 := by have := isB_iff.1 hb; omega
              have b7 : (k' == 7) = false := by simp; omega
              have HB1 : Hid (bks (l.take (i + 1)) = bv + 1) := by show _ = _; rw [HBS.out]; dsimp only; rw [if_pos hb]
              have HG1 : Hid (grs (l.take (i + 1)) = gv) := by show _ = _; rw [HGS.out]; dsimp only; rw [if_neg (by omega)]; rfl
              clear HBS HGS hb
              go_wp2
              go_loopw [14, 16] (fun s14 s16 wr2 => ∃ j : Nat, j ≤ nx ∧ s16 = .int .i64 (j : Int) ∧ s14 = .bool (q || nlX x' j) ∧ wr2 = wr) (fun _ s16 _ => nx - (intOf s16).toNat)
              case atStart => exact ⟨0, Nat.zero_le _, rfl, by rw [show nlX x' 0 = false from rfl, Bool.or_false], rfl⟩
              case round =>
                obtain ⟨j, hj, rfl, rfl, rfl⟩ := hrel
                by_cases hlj : j < nx
                · obtain ⟨u0, u1⟩ := HU.out
                  have hix := HIX.out j hlj
                  have htx := HTX2.out j hlj
                  have hlj1 : (j : Int) < (nx : Int) := by omega
                  have hlj0 : (0 : Int) ≤ (j : Int) := by omega
                  have hwj : IntKind.i64.wrap ((j : Int) + 1) = (j : Int) + 1 := by rw [IntKind.wrap_i64]; omega
                  obtain ⟨b, hbe⟩ : ∃ b, bAt x' j = b := ⟨_, rfl⟩
                  rw [hbe] at hix htx
                  obtain ⟨qj, hqj⟩ : ∃ qj, nlX x' j = qj := ⟨_, rfl⟩
                  rw [hqj] at htx ⊢
                  have HT2 := Lib.hid htx
                  clear htx hbe hqj
                  cases hqq : (q || qj) with
                  | true =>
                    have HN : Hid ((q || nlX x' (j + 1)) = true) := by show _ = _; rw [HT2.out, ← Bool.or_assoc, hqq]; rfl
                    clear hqq HT2
                    go_wp2
                    go_roundw
                    case rel => exact ⟨j + 1, by omega, by go_num, by rw [HN.out], trivial⟩
                    case measure => simp [intOf]; omega
                  | false =>
                    by_cases c10 : b = 10
                    · subst c10
                      have HN : Hid ((q || nlX x' (j + 1)) = true) := by show _ = _; rw [HT2.out, ← Bool.or_assoc, hqq]; rfl
                      clear hqq HT2
                      go_wp2
                      go_roundw
                      case rel => exact ⟨j + 1, by omega, by go_num, by rw [HN.out], trivial⟩
                      case measure => simp [intOf]; omega
                    · have HN : Hid ((q || nlX x' (j + 1)) = false) := by
                        show _ = _
                        rw [HT2.out, ← Bool.or_assoc, hqq]
                        simp [c10]
                      have d10 : ((b : Int) == 10) = false := by simp; omega
                      clear hqq HT2
                      go_wp2
                      go_roundw
                      case rel => exact ⟨j + 1, by omega, by go_num, by rw [HN.out], trivial⟩
                      case measure => simp [intOf]; omega
                · obtain ⟨u0, u1⟩ := HU.out
                  obtain rfl : j = nx := by omega
                  have hlj1 : ¬ (j : Int) < (j : Int) := by omega
                  go_wp2
                  go_roundw
                  case rel => exact ⟨i + 1, by omega, by go_num, by rw [HB1.out]; go_num, by rw [HG1.out], by rw [HTP.out], trivial⟩
                  case measure => simp [intOf]; omega
            · have hb' : isB k' = false := by simpa using hb
              have HB1 : Hid (bks (l.take (i + 1)) = bv) := by show _ = _; rw [HBS.out]; dsimp only; rw [hb']; rfl
              by_cases k7 : k' = 7
              · subst k7
                have HG1 : Hid (grs (l.take (i + 1)) = gv + 1) := HGS.out
                clear HBS HGS hb hb'
                go_wp2
                go_loopw [14, 16] (fun s14 s16 wr2 => ∃ j : Nat, j ≤ nx ∧ s16 = .int .i64 (j : Int) ∧ s14 = .bool (q || nlX x' j) ∧ wr2 = wr) (fun _ s16 _ => nx - (intOf s16).toNat)
                case atStart => exact ⟨0, Nat.zero_le _, rfl, by rw [show nlX x' 0 = false from rfl, Bool.or_false], rfl⟩
                case round =>
                  obtain ⟨j, hj, rfl, rfl, rfl⟩ := hrel
                  by_cases hlj : j < nx
                  · obtain ⟨u0, u1⟩ := HU.out
                    have hix := HIX.out j hlj
                    have htx := HTX2.out j hlj
                    have hlj1 : (j : Int) < (nx : Int) := by omega
                    have hlj0 : (0 : Int) ≤ (j : Int) := by omega
                    have hwj : IntKind.i64.wrap ((j : Int) + 1) = (j : Int) + 1 := by rw [IntKind.wrap_i64]; omega
                    obtain ⟨b, hbe⟩ : ∃ b, bAt x' j = b := ⟨_, rfl⟩
                    rw [hbe] at hix htx
                    obtain ⟨qj, hqj⟩ : ∃ qj, nlX x' j = qj := ⟨_, rfl⟩
                    rw [hqj] at htx ⊢
                    have HT2 := Lib.hid htx
                    clear htx hbe hqj
                    cases hqq : (q || qj) with
                    | true =>
                      have HN : Hid ((q || nlX x' (j + 1)) = true) := by show _ = _; rw [HT2.out, ← Bool.or_assoc, hqq]; rfl
                      clear hqq HT2
                      go_wp2
                      go_roundw
                      case rel => exact ⟨j + 1, by omega, by go_num, by rw [HN.out], trivial⟩
                      case measure => simp [intOf]; omega
                    | false =>
                      by_cases c10 : b = 10
                      · subst c10
                        have HN : Hid ((q || nlX x' (j + 1)) = true) := by show _ = _; rw [HT2.out, ← Bool.or_assoc, hqq]; rfl
                        clear hqq HT2
                        go_wp2
                        go_roundw
                        case rel => exact ⟨j + 1, by omega, by go_num, by rw [HN.out], trivial⟩
                        case measure => simp [intOf]; omega
                      · have HN : Hid ((q || nlX x' (j + 1)) = false) := by
                          show _ = _
                          rw [HT2.out, ← Bool.or_assoc, hqq]
                          simp [c10]
                        have d10 : ((b : Int) == 10) = false := by simp; omega
                        clear hqq HT2
                        go_wp2
                        go_roundw
                        case rel => exact ⟨j + 1, by omega, by go_num, by rw [HN.out], trivial⟩
                        case measure => simp [intOf]; omega
                  · obtain ⟨u0, u1⟩ := HU.out
                    obtain rfl : j = nx := by omega
                    have hlj1 : ¬ (j : Int) < (j : Int) := by omega
                    go_wp2
                    go_roundw
                    case rel => exact ⟨i + 1, by omega, by go_num, by rw [HB1.out], by rw [HG1.out]; go_num, by rw [HTP.out], trivial⟩
                    case measure => simp [intOf]; omega
              · have b7 : (k' == 7) = false := by simpa using k7
                have HG1 : Hid (grs (l.take (i + 1)) = gv) := by show _ = _; rw [HGS.out]; dsimp only; rw [if_neg k7]; rfl
                have hnb2 := isB_not.1 hb'
                clear HBS HGS hb hb'
                by_cases h2 : (2 : Int) ≤ k'
                · have h4 : ¬ k' ≤ 4 := by omega
                  clear hnb2 k7
                  go_wp2
                  go_loopw [14, 16] (fun s14 s16 wr2 => ∃ j : Nat, j ≤ nx ∧ s16 = .int .i64 (j : Int) ∧ s14 = .bool (q || nlX x' j) ∧ wr2 = wr) (fun _ s16 _ => nx - (intOf s16).toNat)
                  case atStart => exact ⟨0, Nat.zero_le _, rfl, by rw [show nlX x' 0 = false from rfl, Bool.or_false], rfl⟩
                  case round =>
                    obtain ⟨j, hj, rfl, rfl, rfl⟩ := hrel
                    by_cases hlj : j < nx
                    · obtain ⟨u0, u1⟩ := HU.out
                      have hix := HIX.out j hlj
                      have htx := HTX2.out j hlj
                      have hlj1 : (j : Int) < (nx : Int) := by omega
                      have hlj0 : (0 : Int) ≤ (j : Int) := by omega
                      have hwj : IntKind.i64.wrap ((j : Int) + 1) = (j : Int) + 1 := by rw [IntKind.wrap_i64]; omega
                      obtain ⟨b, hbe⟩ : ∃ b, bAt x' j = b := ⟨_, rfl⟩
                      rw [hbe] at hix htx
                      obtain ⟨qj, hqj⟩ : ∃ qj, nlX x' j = qj := ⟨_, rfl⟩
                      rw [hqj] at htx ⊢
                      have HT2 := Lib.hid htx
                      clear htx hbe hqj
                      cases hqq : (q || qj) with
                      | true =>
                        have HN : Hid ((q || nlX x' (j + 1)) = true) := by show _ = _; rw [HT2.out, ← Bool.or_assoc, hqq]; rfl
                        clear hqq HT2
                        go_wp2
                        go_roundw
                        case rel => exact ⟨j + 1, by omega, by go_num, by rw [HN.out], trivial⟩
                        case measure => simp [intOf]; omega
                      | false =>
                        by_cases c10 : b = 10
                        · subst c10
                          have HN : Hid ((q || nlX x' (j + 1)) = true) := by show _ = _; rw [HT2.out, ← Bool.or_assoc, hqq]; rfl
                          clear hqq HT2
                          go_wp2
                          go_roundw
                          case rel => exact ⟨j + 1, by omega, by go_num, by rw [HN.out], trivial⟩
                          case measure => simp [intOf]; omega
                        · have HN : Hid ((q || nlX x' (j + 1)) = false) := by
                            show _ = _
                            rw [HT2.out, ← Bool.or_assoc, hqq]
                            simp [c10]
                          have d10 : ((b : Int) == 10) = false := by simp; omega
                          clear hqq HT2
                          go_wp2
                          go_roundw
                          case rel => exact ⟨j + 1, by omega, by go_num, by rw [HN.out], trivial⟩
                          case measure => simp [intOf]; omega
                    · obtain ⟨u0, u1⟩ := HU.out
                      obtain rfl : j = nx := by omega
                      have hlj1 : ¬ (j : Int) < (j : Int) := by omega
                      go_wp2
                      go_roundw
                      case rel => exact ⟨i + 1, by omega, by go_num, by rw [HB1.out], by rw [HG1.out], by rw [HTP.out], trivial⟩
                      case measure => simp [intOf]; omega
                · clear hnb2 k7
                  go_wp2
                  go_loopw [14, 16] (fun s14 s16 wr2 => ∃ j : Nat, j ≤ nx ∧ s16 = .int .i64 (j : Int) ∧ s14 = .bool (q || nlX x' j) ∧ wr2 = wr) (fun _ s16 _ => nx - (intOf s16).toNat)
                  case atStart => exact ⟨0, Nat.zero_le _, rfl, by rw [show nlX x' 0 = false from rfl, Bool.or_false], rfl⟩
                  case round =>
                    obtain ⟨j, hj, rfl, rfl, rfl⟩ := hrel
                    by_cases hlj : j < nx
                    · obtain ⟨u0, u1⟩ := HU.out
                      have hix := HIX.out j hlj
                      have htx := HTX2.out j hlj
                      have hlj1 : (j : Int) < (nx : Int) := by omega
                      have hlj0 : (0 : Int) ≤ (j : Int) := by omega
                      have hwj : IntKind.i64.wrap ((j : Int) + 1) = (j : Int) + 1 := by rw [IntKind.wrap_i64]; omega
                      obtain ⟨b, hbe⟩ : ∃ b, bAt x' j = b := ⟨_, rfl⟩
                      rw [hbe] at hix htx
                      obtain ⟨qj, hqj⟩ : ∃ qj, nlX x' j = qj := ⟨_, rfl⟩
                      rw [hqj] at htx ⊢
                      have HT2 := Lib.hid htx
                      clear htx hbe hqj
                      cases hqq : (q || qj) with
                      | true =>
                        have HN : Hid ((q || nlX x' (j + 1)) = true) := by show _ = _; rw [HT2.out, ← Bool.or_assoc, hqq]; rfl
                        clear hqq HT2
                        go_wp2
                        go_roundw
                        case rel => exact ⟨j + 1, by omega, by go_num, by rw [HN.out], trivial⟩
                        case measure => simp [intOf]; omega
                      | false =>
                        by_cases c10 : b = 10
                        · subst c10
                          have HN : Hid ((q || nlX x' (j + 1)) = true) := by show _ = _; rw [HT2.out, ← Bool.or_assoc, hqq]; rfl
                          clear hqq HT2
                          go_wp2
                          go_roundw
                          case rel => exact ⟨j + 1, by omega, by go_num, by rw [HN.out], trivial⟩
                          case measure => simp [intOf]; omega
                        · have HN : Hid ((q || nlX x' (j + 1)) = false) := by
                            show _ = _
                            rw [HT2.out, ← Bool.or_assoc, hqq]
                            simp [c10]
                          have d10 : ((b : Int) == 10) = false := by simp; omega
                          clear hqq HT2
                          go_wp2
                          go_roundw
                          case rel => exact ⟨j + 1, by omega, by go_num, by rw [HN.out], trivial⟩
                          case measure => simp [intOf]; omega
                    · obtain ⟨u0, u1⟩ := HU.out
                      obtain rfl : j = nx := by omega
                      have hlj1 : ¬ (j : Int) < (j : Int) := by omega
                      go_wp2
                      go_roundw
                      case rel => exact ⟨i + 1, by omega, by go_num, by rw [HB1.out], by rw [HG1.out], by rw [HTP.out], trivial⟩
                      case measure => simp [intOf]; omega
          · obtain rfl : i = m := by omega
            have hlt1 : ¬ (i : Int) < (i : Int) := by omega
            have hta : l.take i = l := by rw [← HM.out, List.take_length]
            rw [hta]
            obtain ⟨tb, htb⟩ : ∃ tb, nlL l = tb := ⟨_, rfl⟩
            rw [htb] at HRST ⊢
            have hbl : bks l ≤ i := by rw [← HM.out]; exact List.countP_le_length
            have hgl : grs l ≤ i := by rw [← HM.out]; exact List.countP_le_length
            obtain ⟨bv, hbv⟩ : ∃ bv, bks l = bv := ⟨_, rfl⟩
            obtain ⟨gv, hgv⟩ : ∃ gv, grs l = gv := ⟨_, rfl⟩
            rw [hbv] at HRST hbl ⊢
            rw [hgv] at HRST hgl ⊢
            have HIX : Hid (∀ j, j < y1.size → ∀ W : World, (Instr.index 9 (.string y1) (.int .i64 (j : Int))).run Try.prog W = .ok (.int .u8 (bAt y1 j : Int)) W) := fun j hj W => idx_str 9 Try.underlying9 y1 hj W
            have HCS : Hid (∀ j, j < y1.size → cnl (y1.data.toList.take (j + 1)) = cnl (y1.data.toList.take j) + (if bAt y1 j = 10 then 1 else 0)) := fun j hj => cnl_step1 hj
            have HAL : Hid (cnl (y1.data.toList.take y1.size) = cnl y1.data.toList) := by show _ = _; rw [all_take]
            obtain ⟨ny, hny⟩ : ∃ ny, y1.size = ny := ⟨_, rfl⟩
            rw [hny] at HIX HCS HAL HYL
            have hyl := HYL.out
            have HBW : Hid (Below w.heap.size w wr) := HB.out
            clear hta htb hbv hgv HR HM HX HD HEMP HFBL HLL HTL hi hlt hpm hm8
            go_wp2
            go_loopw [13, 17] (fun s13 s17 wr2 => ∃ j : Nat, j ≤ ny ∧ s17 = .int .i64 (j : Int) ∧ s13 = .int .i64 (cnl (y1.data.toList.take j) : Int) ∧ wr2 = wr) (fun _ s17 _ => ny - (intOf s17).toNat)
            case atStart => exact ⟨0, Nat.zero_le _, rfl, rfl, rfl⟩
            case round =>
              obtain ⟨j, hj, rfl, rfl, rfl⟩ := hrel
              by_cases hlj : j < ny
              · have hix := HIX.out j hlj
                have hcs := HCS.out j hlj
                have hlj1 : (j : Int) < (ny : Int) := by omega
                have hlj0 : (0 : Int) ≤ (j : Int) := by omega
                have hwj : IntKind.i64.wrap ((j : Int) + 1) = (j : Int) + 1 := by rw [IntKind.wrap_i64]; omega
                have hcl : cnl (y1.data.toList.take j) ≤ j := by unfold cnl; exact Nat.le_trans (List.countP_le_length) (by simp; omega)
                obtain ⟨b, hbe⟩ : ∃ b, bAt y1 j = b := ⟨_, rfl⟩
                rw [hbe] at hix hcs
                obtain ⟨cv, hcv⟩ : ∃ cv, cnl (y1.data.toList.take j) = cv := ⟨_, rfl⟩
                rw [hcv] at hcs hcl ⊢
                have hwc : IntKind.i64.wrap ((cv : Int) + 1) = (cv : Int) + 1 := by rw [IntKind.wrap_i64]; omega
                by_cases c10 : b = 10
                · subst c10
                  have HN : Hid (cnl (y1.data.toList.take (j + 1)) = cv + 1) := by show _ = _; rw [hcs, if_pos rfl]
                  clear hcs hbe hcv
                  go_wp2
                  go_roundw
                  case rel => exact ⟨j + 1, by omega, by go_num, by rw [HN.out]; go_num, trivial⟩
                  case measure => simp [intOf]; omega
                · have d10 : ((b : Int) == 10) = false := by simp; omega
                  have HN : Hid (cnl (y1.data.toList.take (j + 1)) = cv) := by show _ = _; rw [hcs, if_neg c10]; rfl
                  clear hcs hbe hcv
                  go_wp2
                  go_roundw
                  case rel => exact ⟨j + 1, by omega, by go_num, by rw [HN.out], trivial⟩
                  case measure => simp [intOf]; omega
              · obtain rfl : j = ny := by omega
                have hlj1 : ¬ (j : Int) < (j : Int) := by omega
                rw [HAL.out]
                obtain ⟨cv, hcv⟩ : ∃ cv, cnl y1.data.toList = cv := ⟨_, rfl⟩
                rw [hcv] at HRST ⊢
                clear hcv HIX HCS HAL HYL hyl hbl hgl
                cases tb with
                | true =>
                  clear HRST
                  go_wp2
                  go_ret
                  exact ⟨rfl, HBW.out⟩
                | false =>
                  obtain ⟨hle, heq⟩ := HRST.out rfl
                  have hle' : (cv : Int) ≤ (bv : Int) := by omega
                  clear HRST
                  by_cases hg0 : gv = 0
                  · subst hg0
                    obtain rfl : cv = bv := heq rfl
                    have hgg : ¬ (0 : Int) < ((0 : Nat) : Int) := by omega
                    clear heq hle
                    go_wp2
                    go_ret
                    exact ⟨rfl, HBW.out⟩
                  · have hgg : (0 : Int) < (gv : Int) := by omega
                    clear heq hle
                    go_wp2
                    go_ret
                    exact ⟨rfl, HBW.out⟩
    | false =>
      replace HRST := Lib.hid (HRST.out fun h => by cases h.1)
      clear HWF HWI HPG
      have HPL := Lib.hid (plain_is HD.out (by omega) HM.out)
      obtain ⟨z0, z1, z2⟩ := cl3 HX.out
      go_wp2_with fail
      refine HPL.out.mono ?_
      rintro e w12 ⟨⟨Ap, Cp, rfl, hpc, hpm, hpr⟩, hb⟩
      have HR := Lib.hid hpr
      clear HPL z0 z1 z2 hpr
      have hx := (hb.block gd (lt_of HX.out)).trans HX.out
      replace HX := Lib.hid hx
      replace HD := Lib.hid (HD.out.later hb)
      replace HB := Lib.hid (HB.out.trans (hb.mono HB.out.size))
      clear hx hb

      have hm8 : m ≤ 802 := by rw [← HM.out]; exact HLL.out
      go_wp2
      go_loopw [11, 12, 14, 15] (fun s11 s12 s14 s15 wr => ∃ i : Nat, i ≤ m ∧ s15 = .int .i64 (i : Int) ∧ s11 = .int .i64 (bks (l.take i) : Int) ∧ s12 = .int .i64 (grs (l.take i) : Int) ∧ s14 = .bool (nlL (l.take i)) ∧ wr = w12) (fun _ _ _ s15 _ => m - (intOf s15).toNat)
      case atStart => exact ⟨0, Nat.zero_le _, rfl, rfl, rfl, rfl, rfl⟩
      case round =>
        obtain ⟨i, hi, rfl, rfl, rfl, rfl, rfl⟩ := hrel
        by_cases hlt : i < m
        · obtain ⟨gp, op, p, rfl, hp, u0, u1⟩ := HR.out.at_ (i := i) (by rw [HM.out]; exact hlt)
          obtain ⟨k', x'⟩ := p
          dsimp only at u0 u1
          have hlt1 : (i : Int) < (m : Int) := by omega
          have hlt0 : (0 : Int) ≤ (i : Int) := by omega
          have hwi : IntKind.i64.wrap ((i : Int) + 1) = (i : Int) + 1 := by rw [IntKind.wrap_i64]; omega
          have HBS := Lib.hid (bks_step hp)
          have HGS := Lib.hid (grs_step hp)
          have HTS := Lib.hid (nlL_step hp)
          have hxl := txL_mem (List.mem_of_getElem? hp)
          have hTo := HTL.out
          have hx2 : x'.size ≤ 1048576 := by have h : x'.size ≤ txL l := hxl; omega
          have hbl : bks (l.take i) ≤ i := by unfold bks; exact Nat.le_trans (List.countP_le_length) (by simp; omega)
          have hgl : grs (l.take i) ≤ i := by unfold grs; exact Nat.le_trans (List.countP_le_length) (by simp; omega)
          obtain ⟨q, hq⟩ : ∃ q, nlL (l.take i) = q := ⟨_, rfl⟩
          obtain ⟨bv, hbv⟩ : ∃ bv, bks (l.take i) = bv := ⟨_, rfl⟩
          obtain ⟨gv, hgv⟩ : ∃ gv, grs (l.take i) = gv := ⟨_, rfl⟩
          rw [hq] at HTS ⊢
          rw [hbv] at HBS hbl ⊢
          rw [hgv] at HGS hgl ⊢
          have hwb : IntKind.i64.wrap ((bv : Int) + 1) = (bv : Int) + 1 := by rw [IntKind.wrap_i64]; omega
          have hwg : IntKind.i64.wrap ((gv : Int) + 1) = (gv : Int) + 1 := by rw [IntKind.wrap_i64]; omega
          have HIX : Hid (∀ j, j < x'.size → ∀ W : World, (Instr.index 9 (.string x') (.int .i64 (j : Int))).run Try.prog W = .ok (.int .u8 (bAt x' j : Int)) W) := fun j hj W => idx_str 9 Try.underlying9 x' hj W
          have HTP : Hid (nlL (l.take (i + 1)) = (q || nlX x' x'.size)) := HTS.out
          have HTX2 : Hid (∀ j, j < x'.size → nlX x' (j + 1) = (nlX x' j || bAt x' j == 10)) := fun j hj => nlX_step hj
          obtain ⟨nx, hnx⟩ : ∃ nx, x'.size = nx := ⟨_, rfl⟩
          have HNX := Lib.hid hnx
          rw [hnx] at HIX HTP HTX2 hx2
          have HU := Lib.hid (And.intro u0 u1)
          clear hp hxl hTo hq hbv hgv HTS
          by_cases hb : isB k' = true
          · have h2 : (2 : Int) ≤ k' := by have := isB_iff.1 hb; omega
            have h4 : k' ≤ 4 := by have := isB_iff.1 hb; omega
            have b7 : (k' == 7) = false := by simp; omega
            have HB1 : Hid (bks (l.take (i + 1)) = bv + 1) := by show _ = _; rw [HBS.out]; dsimp only; rw [if_pos hb]
            have HG1 : Hid (grs (l.take (i + 1)) = gv) := by show _ = _; rw [HGS.out]; dsimp only; rw [if_neg (by omega)]; rfl
            clear HBS HGS hb
            go_wp2
            go_loopw [14, 16] (fun s14 s16 wr2 => ∃ j : Nat, j ≤ nx ∧ s16 = .int .i64 (j : Int) ∧ s14 = .bool (q || nlX x' j) ∧ wr2 = wr) (fun _ s16 _ => nx - (intOf s16).toNat)
            case atStart => exact ⟨0, Nat.zero_le _, rfl, by rw [show nlX x' 0 = false from rfl, Bool.or_false], rfl⟩
            case round =>
              obtain ⟨j, hj, rfl, rfl, rfl⟩ := hrel
              by_cases hlj : j < nx
              · obtain ⟨u0, u1⟩ := HU.out
                have hix := HIX.out j hlj
                have htx := HTX2.out j hlj
                have hlj1 : (j : Int) < (nx : Int) := by omega
                have hlj0 : (0 : Int) ≤ (j : Int) := by omega
                have hwj : IntKind.i64.wrap ((j : Int) + 1) = (j : Int) + 1 := by rw [IntKind.wrap_i64]; omega
                obtain ⟨b, hbe⟩ : ∃ b, bAt x' j = b := ⟨_, rfl⟩
                rw [hbe] at hix htx
                obtain ⟨qj, hqj⟩ : ∃ qj, nlX x' j = qj := ⟨_, rfl⟩
                rw [hqj] at htx ⊢
                have HT2 := Lib.hid htx
                clear htx hbe hqj
                cases hqq : (q || qj) with
                | true =>
                  have HN : Hid ((q || nlX x' (j + 1)) = true) := by show _ = _; rw [HT2.out, ← Bool.or_assoc, hqq]; rfl
                  clear hqq HT2
                  go_wp2
                  go_roundw
                  case rel => exact ⟨j + 1, by omega, by go_num, by rw [HN.out], trivial⟩
                  case measure => simp [intOf]; omega
                | false =>
                  by_cases c10 : b = 10
                  · subst c10
                    have HN : Hid ((q || nlX x' (j + 1)) = true) := by show _ = _; rw [HT2.out, ← Bool.or_assoc, hqq]; rfl
                    clear hqq HT2
                    go_wp2
                    go_roundw
                    case rel => exact ⟨j + 1, by omega, by go_num, by rw [HN.out], trivial⟩
                    case measure => simp [intOf]; omega
                  · have HN : Hid ((q || nlX x' (j + 1)) = false) := by
                      show _ = _
                      rw [HT2.out, ← Bool.or_assoc, hqq]
                      simp [c10]
                    have d10 : ((b : Int) == 10) = false := by simp; omega
                    clear hqq HT2
                    go_wp2
                    go_roundw
                    case rel => exact ⟨j + 1, by omega, by go_num, by rw [HN.out], trivial⟩
                    case measure => simp [intOf]; omega
              · obtain ⟨u0, u1⟩ := HU.out
                obtain rfl : j = nx := by omega
                have hlj1 : ¬ (j : Int) < (j : Int) := by omega
                go_wp2
                go_roundw
                case rel => exact ⟨i + 1, by omega, by go_num, by rw [HB1.out]; go_num, by rw [HG1.out], by rw [HTP.out], trivial⟩
                case measure => simp [intOf]; omega
          · have hb' : isB k' = false := by simpa using hb
            have HB1 : Hid (bks (l.take (i + 1)) = bv) := by show _ = _; rw [HBS.out]; dsimp only; rw [hb']; rfl
            by_cases k7 : k' = 7
            · subst k7
              have HG1 : Hid (grs (l.take (i + 1)) = gv + 1) := HGS.out
              clear HBS HGS hb hb'
              go_wp2
              go_loopw [14, 16] (fun s14 s16 wr2 => ∃ j : Nat, j ≤ nx ∧ s16 = .int .i64 (j : Int) ∧ s14 = .bool (q || nlX x' j) ∧ wr2 = wr) (fun _ s16 _ => nx - (intOf s16).toNat)
              case atStart => exact ⟨0, Nat.zero_le _, rfl, by rw [show nlX x' 0 = false from rfl, Bool.or_false], rfl⟩
              case round =>
                obtain ⟨j, hj, rfl, rfl, rfl⟩ := hrel
                by_cases hlj : j < nx
                · obtain ⟨u0, u1⟩ := HU.out
                  have hix := HIX.out j hlj
                  have htx := HTX2.out j hlj
                  have hlj1 : (j : Int) < (nx : Int) := by omega
                  have hlj0 : (0 : Int) ≤ (j : Int) := by omega
                  have hwj : IntKind.i64.wrap ((j : Int) + 1) = (j : Int) + 1 := by rw [IntKind.wrap_i64]; omega
                  obtain ⟨b, hbe⟩ : ∃ b, bAt x' j = b := ⟨_, rfl⟩
                  rw [hbe] at hix htx
                  obtain ⟨qj, hqj⟩ : ∃ qj, nlX x' j = qj := ⟨_, rfl⟩
                  rw [hqj] at htx ⊢
                  have HT2 := Lib.hid htx
                  clear htx hbe hqj
                  cases hqq : (q || qj) with
                  | true =>
                    have HN : Hid ((q || nlX x' (j + 1)) = true) := by show _ = _; rw [HT2.out, ← Bool.or_assoc, hqq]; rfl
                    clear hqq HT2
                    go_wp2
                    go_roundw
                    case rel => exact ⟨j + 1, by omega, by go_num, by rw [HN.out], trivial⟩
                    case measure => simp [intOf]; omega
                  | false =>
                    by_cases c10 : b = 10
                    · subst c10
                      have HN : Hid ((q || nlX x' (j + 1)) = true) := by show _ = _; rw [HT2.out, ← Bool.or_assoc, hqq]; rfl
                      clear hqq HT2
                      go_wp2
                      go_roundw
                      case rel => exact ⟨j + 1, by omega, by go_num, by rw [HN.out], trivial⟩
                      case measure => simp [intOf]; omega
                    · have HN : Hid ((q || nlX x' (j + 1)) = false) := by
                        show _ = _
                        rw [HT2.out, ← Bool.or_assoc, hqq]
                        simp [c10]
                      have d10 : ((b : Int) == 10) = false := by simp; omega
                      clear hqq HT2
                      go_wp2
                      go_roundw
                      case rel => exact ⟨j + 1, by omega, by go_num, by rw [HN.out], trivial⟩
                      case measure => simp [intOf]; omega
                · obtain ⟨u0, u1⟩ := HU.out
                  obtain rfl : j = nx := by omega
                  have hlj1 : ¬ (j : Int) < (j : Int) := by omega
                  go_wp2
                  go_roundw
                  case rel => exact ⟨i + 1, by omega, by go_num, by rw [HB1.out], by rw [HG1.out]; go_num, by rw [HTP.out], trivial⟩
                  case measure => simp [intOf]; omega
            · have b7 : (k' == 7) = false := by simpa using k7
              have HG1 : Hid (grs (l.take (i + 1)) = gv) := by show _ = _; rw [HGS.out]; dsimp only; rw [if_neg k7]; rfl
              have hnb2 := isB_not.1 hb'
              clear HBS HGS hb hb'
              by_cases h2 : (2 : Int) ≤ k'
              · have h4 : ¬ k' ≤ 4 := by omega
                clear hnb2 k7
                go_wp2
                go_loopw [14, 16] (fun s14 s16 wr2 => ∃ j : Nat, j ≤ nx ∧ s16 = .int .i64 (j : Int) ∧ s14 = .bool (q || nlX x' j) ∧ wr2 = wr) (fun _ s16 _ => nx - (intOf s16).toNat)
                case atStart => exact ⟨0, Nat.zero_le _, rfl, by rw [show nlX x' 0 = false from rfl, Bool.or_false], rfl⟩
                case round =>
                  obtain ⟨j, hj, rfl, rfl, rfl⟩ := hrel
                  by_cases hlj : j < nx
                  · obtain ⟨u0, u1⟩ := HU.out
                    have hix := HIX.out j hlj
                    have htx := HTX2.out j hlj
                    have hlj1 : (j : Int) < (nx : Int) := by omega
                    have hlj0 : (0 : Int) ≤ (j : Int) := by omega
                    have hwj : IntKind.i64.wrap ((j : Int) + 1) = (j : Int) + 1 := by rw [IntKind.wrap_i64]; omega
                    obtain ⟨b, hbe⟩ : ∃ b, bAt x' j = b := ⟨_, rfl⟩
                    rw [hbe] at hix htx
                    obtain ⟨qj, hqj⟩ : ∃ qj, nlX x' j = qj := ⟨_, rfl⟩
                    rw [hqj] at htx ⊢
                    have HT2 := Lib.hid htx
                    clear htx hbe hqj
                    cases hqq : (q || qj) with
                    | true =>
                      have HN : Hid ((q || nlX x' (j + 1)) = true) := by show _ = _; rw [HT2.out, ← Bool.or_assoc, hqq]; rfl
                      clear hqq HT2
                      go_wp2
                      go_roundw
                      case rel => exact ⟨j + 1, by omega, by go_num, by rw [HN.out], trivial⟩
                      case measure => simp [intOf]; omega
                    | false =>
                      by_cases c10 : b = 10
                      · subst c10
                        have HN : Hid ((q || nlX x' (j + 1)) = true) := by show _ = _; rw [HT2.out, ← Bool.or_assoc, hqq]; rfl
                        clear hqq HT2
                        go_wp2
                        go_roundw
                        case rel => exact ⟨j + 1, by omega, by go_num, by rw [HN.out], trivial⟩
                        case measure => simp [intOf]; omega
                      · have HN : Hid ((q || nlX x' (j + 1)) = false) := by
                          show _ = _
                          rw [HT2.out, ← Bool.or_assoc, hqq]
                          simp [c10]
                        have d10 : ((b : Int) == 10) = false := by simp; omega
                        clear hqq HT2
                        go_wp2
                        go_roundw
                        case rel => exact ⟨j + 1, by omega, by go_num, by rw [HN.out], trivial⟩
                        case measure => simp [intOf]; omega
                  · obtain ⟨u0, u1⟩ := HU.out
                    obtain rfl : j = nx := by omega
                    have hlj1 : ¬ (j : Int) < (j : Int) := by omega
                    go_wp2
                    go_roundw
                    case rel => exact ⟨i + 1, by omega, by go_num, by rw [HB1.out], by rw [HG1.out], by rw [HTP.out], trivial⟩
                    case measure => simp [intOf]; omega
              · clear hnb2 k7
                go_wp2
                go_loopw [14, 16] (fun s14 s16 wr2 => ∃ j : Nat, j ≤ nx ∧ s16 = .int .i64 (j : Int) ∧ s14 = .bool (q || nlX x' j) ∧ wr2 = wr) (fun _ s16 _ => nx - (intOf s16).toNat)
                case atStart => exact ⟨0, Nat.zero_le _, rfl, by rw [show nlX x' 0 = false from rfl, Bool.or_false], rfl⟩
                case round =>
                  obtain ⟨j, hj, rfl, rfl, rfl⟩ := hrel
                  by_cases hlj : j < nx
                  · obtain ⟨u0, u1⟩ := HU.out
                    have hix := HIX.out j hlj
                    have htx := HTX2.out j hlj
                    have hlj1 : (j : Int) < (nx : Int) := by omega
                    have hlj0 : (0 : Int) ≤ (j : Int) := by omega
                    have hwj : IntKind.i64.wrap ((j : Int) + 1) = (j : Int) + 1 := by rw [IntKind.wrap_i64]; omega
                    obtain ⟨b, hbe⟩ : ∃ b, bAt x' j = b := ⟨_, rfl⟩
                    rw [hbe] at hix htx
                    obtain ⟨qj, hqj⟩ : ∃ qj, nlX x' j = qj := ⟨_, rfl⟩
                    rw [hqj] at htx ⊢
                    have HT2 := Lib.hid htx
                    clear htx hbe hqj
                    cases hqq : (q || qj) with
                    | true =>
                      have HN : Hid ((q || nlX x' (j + 1)) = true) := by show _ = _; rw [HT2.out, ← Bool.or_assoc, hqq]; rfl
                      clear hqq HT2
                      go_wp2
                      go_roundw
                      case rel => exact ⟨j + 1, by omega, by go_num, by rw [HN.out], trivial⟩
                      case measure => simp [intOf]; omega
                    | false =>
                      by_cases c10 : b = 10
                      · subst c10
                        have HN : Hid ((q || nlX x' (j + 1)) = true) := by show _ = _; rw [HT2.out, ← Bool.or_assoc, hqq]; rfl
                        clear hqq HT2
                        go_wp2
                        go_roundw
                        case rel => exact ⟨j + 1, by omega, by go_num, by rw [HN.out], trivial⟩
                        case measure => simp [intOf]; omega
                      · have HN : Hid ((q || nlX x' (j + 1)) = false) := by
                          show _ = _
                          rw [HT2.out, ← Bool.or_assoc, hqq]
                          simp [c10]
                        have d10 : ((b : Int) == 10) = false := by simp; omega
                        clear hqq HT2
                        go_wp2
                        go_roundw
                        case rel => exact ⟨j + 1, by omega, by go_num, by rw [HN.out], trivial⟩
                        case measure => simp [intOf]; omega
                  · obtain ⟨u0, u1⟩ := HU.out
                    obtain rfl : j = nx := by omega
                    have hlj1 : ¬ (j : Int) < (j : Int) := by omega
                    go_wp2
                    go_roundw
                    case rel => exact ⟨i + 1, by omega, by go_num, by rw [HB1.out], by rw [HG1.out], by rw [HTP.out], trivial⟩
                    case measure => simp [intOf]; omega
        · obtain rfl : i = m := by omega
          have hlt1 : ¬ (i : Int) < (i : Int) := by omega
          have hta : l.take i = l := by rw [← HM.out, List.take_length]
          rw [hta]
          obtain ⟨tb, htb⟩ : ∃ tb, nlL l = tb := ⟨_, rfl⟩
          rw [htb] at HRST ⊢
          have hbl : bks l ≤ i := by rw [← HM.out]; exact List.countP_le_length
          have hgl : grs l ≤ i := by rw [← HM.out]; exact List.countP_le_length
          obtain ⟨bv, hbv⟩ : ∃ bv, bks l = bv := ⟨_, rfl⟩
          obtain ⟨gv, hgv⟩ : ∃ gv, grs l = gv := ⟨_, rfl⟩
          rw [hbv] at HRST hbl ⊢
          rw [hgv] at HRST hgl ⊢
          have HIX : Hid (∀ j, j < y1.size → ∀ W : World, (Instr.index 9 (.string y1) (.int .i64 (j : Int))).run Try.prog W = .ok (.int .u8 (bAt y1 j : Int)) W) := fun j hj W => idx_str 9 Try.underlying9 y1 hj W
          have HCS : Hid (∀ j, j < y1.size → cnl (y1.data.toList.take (j + 1)) = cnl (y1.data.toList.take j) + (if bAt y1 j = 10 then 1 else 0)) := fun j hj => cnl_step1 hj
          have HAL : Hid (cnl (y1.data.toList.take y1.size) = cnl y1.data.toList) := by show _ = _; rw [all_take]
          obtain ⟨ny, hny⟩ : ∃ ny, y1.size = ny := ⟨_, rfl⟩
          rw [hny] at HIX HCS HAL HYL
          have hyl := HYL.out
          have HBW : Hid (Below w.heap.size w wr) := HB.out
          clear hta htb hbv hgv HR HM HX HD HEMP HFBL HLL HTL hi hlt hpm hm8
          go_wp2
          go_loopw [13, 17] (fun s13 s17 wr2 => ∃ j : Nat, j ≤ ny ∧ s17 = .int .i64 (j : Int) ∧ s13 = .int .i64 (cnl (y1.data.toList.take j) : Int) ∧ wr2 = wr) (fun _ s17 _ => ny - (intOf s17).toNat)
          case atStart => exact ⟨0, Nat.zero_le _, rfl, rfl, rfl⟩
          case round =>
            obtain ⟨j, hj, rfl, rfl, rfl⟩ := hrel
            by_cases hlj : j < ny
            · have hix := HIX.out j hlj
              have hcs := HCS.out j hlj
              have hlj1 : (j : Int) < (ny : Int) := by omega
              have hlj0 : (0 : Int) ≤ (j : Int) := by omega
              have hwj : IntKind.i64.wrap ((j : Int) + 1) = (j : Int) + 1 := by rw [IntKind.wrap_i64]; omega
              have hcl : cnl (y1.data.toList.take j) ≤ j := by unfold cnl; exact Nat.le_trans (List.countP_le_length) (by simp; omega)
              obtain ⟨b, hbe⟩ : ∃ b, bAt y1 j = b := ⟨_, rfl⟩
              rw [hbe] at hix hcs
              obtain ⟨cv, hcv⟩ : ∃ cv, cnl (y1.data.toList.take j) = cv := ⟨_, rfl⟩
              rw [hcv] at hcs hcl ⊢
              have hwc : IntKind.i64.wrap ((cv : Int) + 1) = (cv : Int) + 1 := by rw [IntKind.wrap_i64]; omega
              by_cases c10 : b = 10
              · subst c10
                have HN : Hid (cnl (y1.data.toList.take (j + 1)) = cv + 1) := by show _ = _; rw [hcs, if_pos rfl]
                clear hcs hbe hcv
                go_wp2
                go_roundw
                case rel => exact ⟨j + 1, by omega, by go_num, by rw [HN.out]; go_num, trivial⟩
                case measure => simp [intOf]; omega
              · have d10 : ((b : Int) == 10) = false := by simp; omega
                have HN : Hid (cnl (y1.data.toList.take (j + 1)) = cv) := by show _ = _; rw [hcs, if_neg c10]; rfl
                clear hcs hbe hcv
                go_wp2
                go_roundw
                case rel => exact ⟨j + 1, by omega, by go_num, by rw [HN.out], trivial⟩
                case measure => simp [intOf]; omega
            · obtain rfl : j = ny := by omega
              have hlj1 : ¬ (j : Int) < (j : Int) := by omega
              rw [HAL.out]
              obtain ⟨cv, hcv⟩ : ∃ cv, cnl y1.data.toList = cv := ⟨_, rfl⟩
              rw [hcv] at HRST ⊢
              clear hcv HIX HCS HAL HYL hyl hbl hgl
              cases tb with
              | true =>
                clear HRST
                go_wp2
                go_ret
                exact ⟨rfl, HBW.out⟩
              | false =>
                obtain ⟨hle, heq⟩ := HRST.out rfl
                have hle' : (cv : Int) ≤ (bv : Int) := by omega
                clear HRST
                by_cases hg0 : gv = 0
                · subst hg0
                  obtain rfl : cv = bv := heq rfl
                  have hgg : ¬ (0 : Int) < ((0 : Nat) : Int) := by omega
                  clear heq hle
                  go_wp2
                  go_ret
                  exact ⟨rfl, HBW.out⟩
                · have hgg : (0 : Int) < (gv : Int) := by omega
                  clear heq hle
                  go_wp2
                  go_ret
                  exact ⟨rfl, HBW.out⟩
end Go.Proofs.Ytpankfbdlakmcaa.Doc
