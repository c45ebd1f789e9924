/-
  Layer 8 (layout): the law LayoutWords. Written by gen_laylaws.py.
-/
import Derived.Test.YtpankfbdlakmcaaLayOne
namespace Go.Proofs.Ytpankfbdlakmcaa.Doc
open Go.ChangeShapes Go.WideShapes Go.ChangeAt Go.RowKit Mem
set_option linter.unusedVariables false

theorem all_step {l : List Pc} {i : Nat} {p : Pc} (hp : l[i]? = some p) : (l.take (i + 1)).flatMap txB = (l.take i).flatMap txB ++ txB p := by
  rw [List.take_add_one, hp, List.flatMap_append]; simp
/-- Has a text a tab or a newline among its first j bytes? -/
def tbX (x : ByteArray) (j : Nat) : Bool := (x.data.toList.take j).any fun b => b.toNat == 9 || b.toNat == 10
def tbP (p : Pc) : Bool := if p.1 = 1 then tbX p.2 p.2.size else false
def tbL (l : List Pc) : Bool := l.any tbP
theorem tbX_step {x : ByteArray} {j : Nat} (hj : j < x.size) : tbX x (j + 1) = (tbX x j || (bAt x j == 9 || bAt x j == 10)) := by
  unfold tbX
  rw [List.take_add_one, at_list hj, List.any_append]
  unfold bAt
  simp
theorem tbL_step {l : List Pc} {i : Nat} {p : Pc} (hp : l[i]? = some p) : tbL (l.take (i + 1)) = (tbL (l.take i) || tbP p) := by
  unfold tbL
  rw [List.take_add_one, hp, List.any_append]; simp
theorem noTab_of {l : List Pc} (h : tbL l = false) : NoTab l := by
  intro p hp h1 b hb
  unfold tbL at h
  rw [List.any_eq_false] at h
  have h2 := h p hp
  unfold tbP tbX at h2
  rw [if_pos h1, all_take] at h2
  simp only [List.any_eq_true, not_exists, not_and, Bool.not_eq_true, Bool.or_eq_false_iff, beq_eq_false_iff_ne] at h2
  have h3 := h2 b hb
  exact ⟨fun e => h3.1 (by rw [e]; rfl), fun e => h3.2 (by rw [e]; rfl)⟩
theorem lay_size {W : Nat} {l : List Pc} (hl : l.length ≤ 10000) : (layS W l).length ≤ txL l + 100010000 := by
  have key : ∀ (k : List Pc) (s : St) (T i : Nat), Bnd T i s → i + k.length ≤ 10000 → (mach W k s).o.length ≤ T + txL k + 10001 * (i + k.length) := by
    intro k
    induction k with
    | nil => intro s T i h _; have := h.o; simp only [mach, txL, List.map_nil, List.sum_nil, List.length_nil]; omega
    | cons p k ih =>
      intro s T i h hi
      simp only [List.length_cons] at hi ⊢
      have h1 := ih (step W p k s) (T + p.2.size) (i + 1) (h.stepD (by omega) _ _) (by omega)
      have e : txL (p :: k) = p.2.size + txL k := rfl
      show (mach W k (step W p k s)).o.length ≤ _
      rw [e]
      omega
  have := key l St0 0 0 Bnd.start (by omega)
  unfold layS
  omega

set_option maxHeartbeats 32000000 in
set_option maxRecDepth 100000 in
theorem layoutWords_walk (k : Int) (x : ByteArray) (A : Option Addr) (n C : Nat) (c : G) (ni : Int) (mi : Int) (w : World) (hs : Gs w (Lo w.heap.size) (.slice A n C) c) (htx : x.size + txt c ≤ 1048576) :
    Calls Try.prog 5 #[.agg #[.int .i64 k, .string x, .slice A n C], .int .i64 ni, .int .i64 mi] w fun e w' => e = .returned (.bool true) ∧ Below w.heap.size w w' := by
  have b1' := (Below.refl w.heap.size w).alloc (Nat.le_refl _) (.cells #[.int .i64 k, .string x, .slice A n C] 24)
  have hx1 := heap_alloc_new w (.cells #[.int .i64 k, .string x, .slice A n C] 24)
  obtain ⟨p0, p1, p2⟩ := cl3 hx1
  have HF := Lib.hid (few_any k x A n C c _ (lo_later hs b1'))
  have HB1 := Lib.hid b1'
  have HX1 := Lib.hid hx1
  have HS := Lib.hid hs
  have HTX := Lib.hid htx
  clear b1' hx1 hs htx
  go_enter Try.func5, Try.ntmps5
  go_wp2_with fail
  refine HF.out.mono ?_
  rintro e w2 ⟨⟨fb, rfl, hfb⟩, hb2⟩
  have HB2 := Lib.hid (HB1.out.trans (hb2.mono HB1.out.size))
  have hx2 := (hb2.block w.heap.size (lt_of HX1.out)).trans HX1.out
  clear hb2 p0 p1 p2 HX1 HF
  cases fb with
  | false =>
    clear hx2
    go_wp2_with fail
    refine (known_any w2).mono ?_
    rintro e w3 ⟨rfl, hb3⟩
    have HB3 := Lib.hid (HB2.out.trans (hb3.mono HB2.out.size))
    clear hb3
    go_wp2
    go_ret
    exact ⟨rfl, HB3.out⟩
  | true =>
    have hsz := hfb rfl
    have HBT := Lib.hid (built_is (xf w2) hsz (lo_later HS.out HB2.out) (k := k) (x := x))
    obtain ⟨p0, p1, p2⟩ := cl3 hx2
    have HLL := Lib.hid (plan_len (k := k) (x := x) hsz)
    have HTL := Lib.hid (plan_txt HTX.out : txL (plOne k x (plP c)) ≤ 1048576)
    have HBAL := Lib.hid (plan_bal k x c)
    have HNEM := Lib.hid (plan_ne k x c)
    have HEMP := Lib.hid (plan_emp k x c)
    have HFBL := Lib.hid (plan_flat hsz HTX.out : (flB (plOne k x (plP c))).length ≤ 2000000)
    obtain ⟨l, hl⟩ : ∃ l, plOne k x (plP c) = l := ⟨_, rfl⟩
    rw [hl] at HBT HLL HTL HBAL HNEM HEMP HFBL
    clear hx2 hfb hl hsz HTX HS
    go_wp2_with fail
    refine HBT.out.mono ?_
    rintro e w3 ⟨⟨kd, xd, Ad, nd, Ce, rfl, hd⟩, hb3⟩
    have hb4 := (Below.refl w3.heap.size w3).alloc (Nat.le_refl _) (.cells #[.int .i64 kd, .string xd, .slice Ad nd Ce] 32)
    have hx4 := heap_alloc_new w3 (.cells #[.int .i64 kd, .string xd, .slice Ad nd Ce] 32)
    have hd4 := hd.later hb4
    have hbb := HB2.out.trans ((hb3.trans (hb4.mono hb3.size)).mono HB2.out.size)
    obtain ⟨wd, hwd⟩ : ∃ wd, w3.alloc (.cells #[.int .i64 kd, .string xd, .slice Ad nd Ce] 32) = wd := ⟨_, rfl⟩
    obtain ⟨gd, hgd⟩ : ∃ gd, w3.heap.size = gd := ⟨_, rfl⟩
    have HWD := Lib.hid hwd
    have HGD := Lib.hid hgd
    rw [hwd] at hx4 hd4 hbb
    obtain ⟨z0, z1, z2⟩ := cl3 hx4
    rw [hgd] at hx4
    have HX := Lib.hid hx4
    have HD := Lib.hid hd4
    have HB := Lib.hid hbb
    clear hd hb3 hb4 hx4 hd4 hbb hwd hgd HBT p0 p1 p2 HB1 HB2
    obtain ⟨y1, hy1⟩ : ∃ y, lyS ni l = y := ⟨_, rfl⟩
    obtain ⟨y2, hy2⟩ : ∃ y, lyS mi l = y := ⟨_, rfl⟩
    have HOF : Hid (∀ W, Below wd.heap.size wd W → Calls Try.prog 11 #[.agg #[.int .i64 kd, .string xd, .slice Ad nd Ce], .int .i64 (pg ni : Int)] W fun e w' => e = .returned (.tuple #[.string y1, .int .i64 0]) ∧ Below W.heap.size W w') := fun W hW => by
      rw [← hy1]
      exact page_of ni (HD.out.later hW) (by omega) HBAL.out (Nat.le_trans HLL.out (by omega)) (Nat.le_trans HTL.out (by omega))
    have HOG : Hid (∀ W, Below wd.heap.size wd W → Calls Try.prog 11 #[.agg #[.int .i64 kd, .string xd, .slice Ad nd Ce], .int .i64 (pg mi : Int)] W fun e w' => e = .returned (.tuple #[.string y2, .int .i64 0]) ∧ Below W.heap.size W w') := fun W hW => by
      rw [← hy2]
      exact page_of mi (HD.out.later hW) (by omega) HBAL.out (Nat.le_trans HLL.out (by omega)) (Nat.le_trans HTL.out (by omega))
    have HYS1 : Hid (y1.size ≤ 200000000) := by
      show _ ≤ _
      have h := lay_size (W := pg ni) (l := l) (Nat.le_trans HLL.out (by omega))
      have h2 := HTL.out
      rw [← hy1]
      show (layS (pg ni) l).toArray.size ≤ _
      rw [List.size_toArray]
      omega
    have HYS2 : Hid (y2.size ≤ 200000000) := by
      show _ ≤ _
      have h := lay_size (W := pg mi) (l := l) (Nat.le_trans HLL.out (by omega))
      have h2 := HTL.out
      rw [← hy2]
      show (layS (pg mi) l).toArray.size ≤ _
      rw [List.size_toArray]
      omega
    have HN1 : Hid (nb y1.data.toList = nb (l.flatMap txB)) := by
      show _ = _
      rw [← hy1]
      show nb (layS (pg ni) l) = _
      unfold layS
      rw [nb_mach]; rfl
    have HN2 : Hid (nb y2.data.toList = nb (l.flatMap txB)) := by
      show _ = _
      rw [← hy2]
      show nb (layS (pg mi) l) = _
      unfold layS
      rw [nb_mach]; rfl
    have HTB : Hid (tbL l = false → okT y1.data.toList) := fun h => by
      rw [← hy1]
      exact okT_mach (pg ni) l St0 trivial HNEM.out (noTab_of h)
    clear hy1 hy2
    go_wp2
    rw [HWD.out, HGD.out]
    clear z0 z1 z2 HWD HGD
    refine region_rel (fun W W' => Below W.heap.size W W') [Cd.is (Value.agg #[.int .i64 kd, .string xd, .slice Ad nd Ce]), Cd.is (Value.int .i64 ni), Cd.is (Value.int .i64 (pg ni : Int)), Cd.is (Value.tuple #[.string y1, .int .i64 0]), Cd.is (Value.tuple #[.string y1, .int .i64 0]), Cd.is (Value.string y1), Cd.is (Value.int .i64 0), Cd.is (Value.string y1), Cd.is (Value.int .i64 0)] (by kernel_rfl) (by decide) (by kernel_rfl) (Below.refl _ _) (fun _ _ _ h k => h.trans (k.mono h.size)) ?steps ?behind
    case steps =>
      intro xv W hW a ha
      replace hW : Below wd.heap.size wd W := ⟨hW.os, hW.tape, hW.output, hW.size, hW.block⟩
      simp only [fillA] at ha
      simp only [List.setIfInBounds_toArray, List.set_cons_succ, List.set_cons_zero, Nat.zero_add, Nat.reduceAdd] at ha
      subst ha
      refine ⟨fun hd K hK => ?s0, fun hd K hK => ?s1, fun hd K hK => ?s2, fun hd K hK => ?s3, fun hd K hK => ?s4, fun hd K hK => ?s5, fun hd K hK => ?s6, fun hd K hK => ?s7, fun hd K hK => ?s8, trivial⟩
      case s0 =>
        clear hd
        simp only [Act.put, List.setIfInBounds_toArray, List.set_cons_succ, List.set_cons_zero] at hK
        refine (if_pos (by rfl)).mpr ?_
        obtain ⟨hq0, hq1, hq2⟩ := cl3 ((hW.block gd (lt_of HX.out)).trans HX.out)
        go_simp
        exact hK.out _ _ (Below.refl _ _) rfl
      case s1 =>
        clear hd
        simp only [Act.put, List.setIfInBounds_toArray, List.set_cons_succ, List.set_cons_zero] at hK
        refine (if_pos (by rfl)).mpr ?_
        go_simp
        exact hK.out _ _ (Below.refl _ _) rfl
      case s2 =>
        have hx1 : xv 1 = Value.int .i64 ni := hd 1 (by kernel_rfl)
        clear hd
        simp only [Act.put, List.setIfInBounds_toArray, List.set_cons_succ, List.set_cons_zero] at hK
        rw [hx1] at hK ⊢
        refine (if_pos (by rfl)).mpr ?_
        go_simp
        refine (page_any ni W).mono ?_
        rintro e W' ⟨rfl, rfl⟩
        exact hK.out _ _ (Below.refl _ _) rfl
      case s3 =>
        have hx0 : xv 0 = Value.agg #[.int .i64 kd, .string xd, .slice Ad nd Ce] := hd 0 (by kernel_rfl)
        have hx2 : xv 2 = Value.int .i64 (pg ni : Int) := hd 2 (by kernel_rfl)
        clear hd
        simp only [Act.put, List.setIfInBounds_toArray, List.set_cons_succ, List.set_cons_zero] at hK
        rw [hx0] at hK ⊢
        rw [hx2] at hK ⊢
        refine (if_pos (by rfl)).mpr ?_
        go_simp
        go_at_call 11
        refine (HOF.out W hW).mono ?_
        rintro e W' ⟨rfl, hb⟩
        exact hK.out _ _ hb rfl
      case s4 =>
        have hx3 : xv 3 = Value.tuple #[.string y1, .int .i64 0] := hd 3 (by kernel_rfl)
        clear hd
        simp only [Act.put, List.setIfInBounds_toArray, List.set_cons_succ, List.set_cons_zero] at hK
        rw [hx3] at hK ⊢
        refine (if_pos (by rfl)).mpr ?_
        go_simp
        exact hK.out _ _ (Below.refl _ _) rfl
      case s5 =>
        have hx4 : xv 4 = Value.tuple #[.string y1, .int .i64 0] := hd 4 (by kernel_rfl)
        clear hd
        simp only [Act.put, List.setIfInBounds_toArray, List.set_cons_succ, List.set_cons_zero] at hK
        rw [hx4] at hK ⊢
        refine (if_pos (by rfl)).mpr ?_
        go_simp
        exact hK.out _ _ (Below.refl _ _) rfl
      case s6 =>
        have hx4 : xv 4 = Value.tuple #[.string y1, .int .i64 0] := hd 4 (by kernel_rfl)
        clear hd
        simp only [Act.put, List.setIfInBounds_toArray, List.set_cons_succ, List.set_cons_zero] at hK
        rw [hx4] at hK ⊢
        refine (if_pos (by rfl)).mpr ?_
        go_simp
        exact hK.out _ _ (Below.refl _ _) rfl
      case s7 =>
        have hx5 : xv 5 = Value.string y1 := hd 5 (by kernel_rfl)
        clear hd
        simp only [Act.put, List.setIfInBounds_toArray, List.set_cons_succ, List.set_cons_zero] at hK
        rw [hx5] at hK ⊢
        refine (if_pos (by rfl)).mpr ?_
        go_simp
        exact hK.out _ _ (Below.refl _ _) rfl
      case s8 =>
        have hx6 : xv 6 = Value.int .i64 0 := hd 6 (by kernel_rfl)
        clear hd
        simp only [Act.put, List.setIfInBounds_toArray, List.set_cons_succ, List.set_cons_zero] at hK
        rw [hx6] at hK ⊢
        refine (if_pos (by rfl)).mpr ?_
        go_simp
        exact hK.out _ _ (Below.refl _ _) rfl
    case behind =>
      intro xv W hW hx a ha
      replace hW : Below wd.heap.size wd W := ⟨hW.os, hW.tape, hW.output, hW.size, hW.block⟩
      simp only [fillA] at ha
      simp only [List.setIfInBounds_toArray, List.set_cons_succ, List.set_cons_zero, Nat.zero_add, Nat.reduceAdd] at ha
      subst ha
      have e7 : xv 7 = Value.string y1 := hx 7 (by decide)
      have e8 : xv 8 = Value.int .i64 0 := hx 8 (by decide)
      rw [e7, e8]
      clear hx e7 e8
      have hb := hW
      replace HOG : Hid (∀ W', Below W.heap.size W W' → Calls Try.prog 11 #[.agg #[.int .i64 kd, .string xd, .slice Ad nd Ce], .int .i64 (pg mi : Int)] W' fun e w' => e = .returned (.tuple #[.string y2, .int .i64 0]) ∧ Below W'.heap.size W' w') := fun W' hW' => HOG.out W' (hb.trans (hW'.mono hb.size))
      have hx := (hb.block gd (lt_of HX.out)).trans HX.out
      replace HX := Lib.hid hx
      replace HD := Lib.hid (HD.out.later hb)
      replace HB := Lib.hid (HB.out.trans (hb.mono HB.out.size))
      clear hx hb
      clear HOF
      obtain ⟨wa, hwa⟩ : ∃ wa, W = wa := ⟨_, rfl⟩
      rw [hwa] at HX HD HB HOG ⊢
      clear hwa hW
      go_wp2
      refine region_rel (fun W W' => Below W.heap.size W W') [Cd.is (Value.agg #[.int .i64 kd, .string xd, .slice Ad nd Ce]), Cd.is (Value.int .i64 mi), Cd.is (Value.int .i64 (pg mi : Int)), Cd.is (Value.tuple #[.string y2, .int .i64 0]), Cd.is (Value.tuple #[.string y2, .int .i64 0]), Cd.is (Value.string y2), Cd.is (Value.int .i64 0), Cd.is (Value.string y2), Cd.is (Value.int .i64 0)] (by kernel_rfl) (by decide) (by kernel_rfl) (Below.refl _ _) (fun _ _ _ h k => h.trans (k.mono h.size)) ?steps ?behind
      case steps =>
        intro xv W hW a ha
        replace hW : Below wa.heap.size wa W := ⟨hW.os, hW.tape, hW.output, hW.size, hW.block⟩
        simp only [fillA] at ha
        simp only [List.setIfInBounds_toArray, List.set_cons_succ, List.set_cons_zero, Nat.zero_add, Nat.reduceAdd] at ha
        subst ha
        refine ⟨fun hd K hK => ?s0, fun hd K hK => ?s1, fun hd K hK => ?s2, fun hd K hK => ?s3, fun hd K hK => ?s4, fun hd K hK => ?s5, fun hd K hK => ?s6, fun hd K hK => ?s7, fun hd K hK => ?s8, trivial⟩
        case s0 =>
          clear hd
          simp only [Act.put, List.setIfInBounds_toArray, List.set_cons_succ, List.set_cons_zero] at hK
          refine (if_pos (by rfl)).mpr ?_
          obtain ⟨hq0, hq1, hq2⟩ := cl3 ((hW.block gd (lt_of HX.out)).trans HX.out)
          go_simp
          exact hK.out _ _ (Below.refl _ _) rfl
        case s1 =>
          clear hd
          simp only [Act.put, List.setIfInBounds_toArray, List.set_cons_succ, List.set_cons_zero] at hK
          refine (if_pos (by rfl)).mpr ?_
          go_simp
          exact hK.out _ _ (Below.refl _ _) rfl
        case s2 =>
          have hx1 : xv 1 = Value.int .i64 mi := hd 1 (by kernel_rfl)
          clear hd
          simp only [Act.put, List.setIfInBounds_toArray, List.set_cons_succ, List.set_cons_zero] at hK
          rw [hx1] at hK ⊢
          refine (if_pos (by rfl)).mpr ?_
          go_simp
          refine (page_any mi W).mono ?_
          rintro e W' ⟨rfl, rfl⟩
          exact hK.out _ _ (Below.refl _ _) rfl
        case s3 =>
          have hx0 : xv 0 = Value.agg #[.int .i64 kd, .string xd, .slice Ad nd Ce] := hd 0 (by kernel_rfl)
          have hx2 : xv 2 = Value.int .i64 (pg mi : Int) := hd 2 (by kernel_rfl)
          clear hd
          simp only [Act.put, List.setIfInBounds_toArray, List.set_cons_succ, List.set_cons_zero] at hK
          rw [hx0] at hK ⊢
          rw [hx2] at hK ⊢
          refine (if_pos (by rfl)).mpr ?_
          go_simp
          go_at_call 11
          refine (HOG.out W hW).mono ?_
          rintro e W' ⟨rfl, hb⟩
          exact hK.out _ _ hb rfl
        case s4 =>
          have hx3 : xv 3 = Value.tuple #[.string y2, .int .i64 0] := hd 3 (by kernel_rfl)
          clear hd
          simp only [Act.put, List.setIfInBounds_toArray, List.set_cons_succ, List.set_cons_zero] at hK
          rw [hx3] at hK ⊢
          refine (if_pos (by rfl)).mpr ?_
          go_simp
          exact hK.out _ _ (Below.refl _ _) rfl
        case s5 =>
          have hx4 : xv 4 = Value.tuple #[.string y2, .int .i64 0] := hd 4 (by kernel_rfl)
          clear hd
          simp only [Act.put, List.setIfInBounds_toArray, List.set_cons_succ, List.set_cons_zero] at hK
          rw [hx4] at hK ⊢
          refine (if_pos (by rfl)).mpr ?_
          go_simp
          exact hK.out _ _ (Below.refl _ _) rfl
        case s6 =>
          have hx4 : xv 4 = Value.tuple #[.string y2, .int .i64 0] := hd 4 (by kernel_rfl)
          clear hd
          simp only [Act.put, List.setIfInBounds_toArray, List.set_cons_succ, List.set_cons_zero] at hK
          rw [hx4] at hK ⊢
          refine (if_pos (by rfl)).mpr ?_
          go_simp
          exact hK.out _ _ (Below.refl _ _) rfl
        case s7 =>
          have hx5 : xv 5 = Value.string y2 := hd 5 (by kernel_rfl)
          clear hd
          simp only [Act.put, List.setIfInBounds_toArray, List.set_cons_succ, List.set_cons_zero] at hK
          rw [hx5] at hK ⊢
          refine (if_pos (by rfl)).mpr ?_
          go_simp
          exact hK.out _ _ (Below.refl _ _) rfl
        case s8 =>
          have hx6 : xv 6 = Value.int .i64 0 := hd 6 (by kernel_rfl)
          clear hd
          simp only [Act.put, List.setIfInBounds_toArray, List.set_cons_succ, List.set_cons_zero] at hK
          rw [hx6] at hK ⊢
          refine (if_pos (by rfl)).mpr ?_
          go_simp
          exact hK.out _ _ (Below.refl _ _) rfl
      case behind =>
        intro xv W hW hx a ha
        replace hW : Below wa.heap.size wa W := ⟨hW.os, hW.tape, hW.output, hW.size, hW.block⟩
        simp only [fillA] at ha
        simp only [List.setIfInBounds_toArray, List.set_cons_succ, List.set_cons_zero, Nat.zero_add, Nat.reduceAdd] at ha
        subst ha
        have e7 : xv 7 = Value.string y2 := hx 7 (by decide)
        have e8 : xv 8 = Value.int .i64 0 := hx 8 (by decide)
        rw [e7, e8]
        clear hx e7 e8
        have hb := hW
        have hx := (hb.block gd (lt_of HX.out)).trans HX.out
        replace HX := Lib.hid hx
        replace HD := Lib.hid (HD.out.later hb)
        replace HB := Lib.hid (HB.out.trans (hb.mono HB.out.size))
        clear hx hb
        clear HOG
        obtain ⟨m, hm⟩ : ∃ m, l.length = m := ⟨_, rfl⟩
        have HM := Lib.hid hm
        have HPL := Lib.hid (plain_is HD.out (by omega) hm)
        obtain ⟨z0, z1, z2⟩ := cl3 HX.out
        clear hm hW
        go_wp2_with fail
        refine HPL.out.mono ?_
        rintro e w12 ⟨⟨Ap, Cp, rfl, hpc, hpm, hpr⟩, hb⟩
        have HR := Lib.hid hpr
        clear HPL z0 z1 z2 hpr
        have hx := (hb.block gd (lt_of HX.out)).trans HX.out
        replace HX := Lib.hid hx
        replace HD := Lib.hid (HD.out.later hb)
        replace HB := Lib.hid (HB.out.trans (hb.mono HB.out.size))
        clear hx hb

        go_wp2
        go_loopw [12, 14, 15] (fun s12 s14 s15 wr => ∃ (i : Nat) (y : ByteArray), i ≤ m ∧ s15 = .int .i64 (i : Int) ∧ s12 = .string y ∧ Hid (y.data.toList = (l.take i).flatMap txB) ∧ Hid (y.size ≤ txL (l.take i)) ∧ s14 = .bool (tbL (l.take i)) ∧ wr = w12) (fun _ _ s15 _ => m - (intOf s15).toNat)
        case atStart => exact ⟨0, _, Nat.zero_le _, rfl, rfl, rfl, Nat.le_refl _, rfl, rfl⟩
        case round =>
          obtain ⟨i, y, hi, rfl, rfl, hy, hys, rfl, rfl⟩ := hrel
          by_cases hlt : i < m
          · obtain ⟨gp, op, p, rfl, hp, u0, u1⟩ := HR.out.at_ (i := i) (by rw [HM.out]; exact hlt)
            obtain ⟨k', x'⟩ := p
            dsimp only at u0 u1
            have hlt1 : (i : Int) < (m : Int) := by omega
            have hlt0 : (0 : Int) ≤ (i : Int) := by omega
            have hwi : IntKind.i64.wrap ((i : Int) + 1) = (i : Int) + 1 := by rw [IntKind.wrap_i64]; have := HM.out; have := HLL.out; omega
            have HAS := Lib.hid (all_step hp)
            have HTS := Lib.hid (tbL_step hp)
            have HTK := Lib.hid (txL_take hp)
            have hxl := txL_mem (List.mem_of_getElem? hp)
            have htl := txL_take_le l i
            have hTo := HTL.out
            have hyso := hys.out
            have hx2 : x'.size ≤ 1048576 := by have h : x'.size ≤ txL l := hxl; omega
            have hy2 : y.size ≤ 1048576 := by omega
            obtain ⟨q, hq⟩ : ∃ q, tbL (l.take i) = q := ⟨_, rfl⟩
            rw [hq] at HTS ⊢
            clear hp hxl htl hTo hyso hq
            by_cases k1 : k' = 1
            · subst k1
              have hadd : ¬ 9223372036854775807 < y.size + x'.size := by omega
              have HY2 : Hid ((y ++ x').data.toList = (l.take (i + 1)).flatMap txB) := by
                show _ = _
                rw [ByteArray.data_append, Array.toList_append, hy.out, HAS.out]
                rfl
              have HYS : Hid ((y ++ x').size ≤ txL (l.take (i + 1))) := by
                show _ ≤ _
                have e := HTK.out
                dsimp only at e
                rw [e, ByteArray.size_append]
                have := hys.out
                omega
              have HTP : Hid (tbL (l.take (i + 1)) = (q || tbX x' x'.size)) := HTS.out
              have HIX : Hid (∀ j, j < x'.size → ∀ W : World, (Instr.index 9 (.string x') (.int .i64 (j : Int))).run Try.prog W = .ok (.int .u8 (bAt x' j : Int)) W) := fun j hj W => idx_str 9 Try.underlying9 x' hj W
              obtain ⟨nx, hnx⟩ : ∃ nx, x'.size = nx := ⟨_, rfl⟩
              have HTX2 : Hid (∀ j, j < nx → tbX x' (j + 1) = (tbX x' j || (bAt x' j == 9 || bAt x' j == 10))) := fun j hj => tbX_step (by omega)
              rw [hnx] at HIX HTP hx2
              clear HAS HTS HTK hy hys
              go_wp2
              go_loopw [14, 16] (fun s14 s16 wr2 => ∃ j : Nat, j ≤ nx ∧ s16 = .int .i64 (j : Int) ∧ s14 = .bool (q || tbX x' j) ∧ wr2 = wr) (fun _ s16 _ => nx - (intOf s16).toNat)
              case atStart => exact ⟨0, Nat.zero_le _, rfl, by rw [show tbX x' 0 = false from rfl, Bool.or_false], rfl⟩
              case round =>
                obtain ⟨j, hj, rfl, rfl, rfl⟩ := hrel
                by_cases hlj : j < nx
                · have hix := HIX.out j hlj
                  have htx := HTX2.out j hlj
                  have hlj1 : (j : Int) < (nx : Int) := by omega
                  have hlj0 : (0 : Int) ≤ (j : Int) := by omega
                  have hwj : IntKind.i64.wrap ((j : Int) + 1) = (j : Int) + 1 := by rw [IntKind.wrap_i64]; omega
                  obtain ⟨b, hbe⟩ : ∃ b, bAt x' j = b := ⟨_, rfl⟩
                  rw [hbe] at hix htx
                  obtain ⟨qj, hqj⟩ : ∃ qj, tbX x' j = qj := ⟨_, rfl⟩
                  rw [hqj] at htx ⊢
                  have HT2 := Lib.hid htx
                  clear htx hbe hqj
                  cases hqq : (q || qj) with
                  | true =>
                    have HN : Hid ((q || tbX x' (j + 1)) = true) := by show _ = _; rw [HT2.out, ← Bool.or_assoc, hqq]; rfl
                    clear hqq HT2
                    go_wp2
                    go_roundw
                    case rel => exact ⟨j + 1, by omega, by go_num, by rw [HN.out], trivial⟩
                    case measure => simp [intOf]; omega
                  | false =>
                    by_cases c9 : b = 9
                    · subst c9
                      have HN : Hid ((q || tbX x' (j + 1)) = true) := by show _ = _; rw [HT2.out, ← Bool.or_assoc, hqq]; rfl
                      clear hqq HT2
                      go_wp2
                      go_roundw
                      case rel => exact ⟨j + 1, by omega, by go_num, by rw [HN.out], trivial⟩
                      case measure => simp [intOf]; omega
                    · by_cases c10 : b = 10
                      · subst c10
                        have HN : Hid ((q || tbX x' (j + 1)) = true) := by show _ = _; rw [HT2.out, ← Bool.or_assoc, hqq]; rfl
                        clear hqq HT2 c9
                        go_wp2
                        go_roundw
                        case rel => exact ⟨j + 1, by omega, by go_num, by rw [HN.out], trivial⟩
                        case measure => simp [intOf]; omega
                      · have HN : Hid ((q || tbX x' (j + 1)) = false) := by
                          show _ = _
                          rw [HT2.out, ← Bool.or_assoc, hqq]
                          simp [c9, c10]
                        have d9 : ((b : Int) == 9) = false := by simp; omega
                        have d10 : ((b : Int) == 10) = false := by simp; omega
                        clear hqq HT2
                        go_wp2
                        go_roundw
                        case rel => exact ⟨j + 1, by omega, by go_num, by rw [HN.out], trivial⟩
                        case measure => simp [intOf]; omega
                · obtain rfl : j = nx := by omega
                  have hlj1 : ¬ (j : Int) < (j : Int) := by omega
                  go_wp2
                  go_roundw
                  case rel => exact ⟨i + 1, _, by omega, by go_num, rfl, HY2, HYS, by rw [HTP.out], trivial⟩
                  case measure => simp [intOf]; omega
            · have b1 : (k' == 1) = false := by simpa using k1
              have HY2 : Hid (y.data.toList = (l.take (i + 1)).flatMap txB) := by
                show _ = _
                rw [HAS.out, hy.out]
                unfold txB
                rw [if_neg k1, List.append_nil]
              have HYS : Hid (y.size ≤ txL (l.take (i + 1))) := by show _ ≤ _; have e := HTK.out; dsimp only at e; rw [e]; have := hys.out; omega
              have HTP : Hid (tbL (l.take (i + 1)) = q) := by show _ = _; rw [HTS.out]; unfold tbP; rw [if_neg k1, Bool.or_false]
              clear HAS HTS HTK hy hys k1
              go_wp2
              go_roundw
              case rel => exact ⟨i + 1, y, by omega, by go_num, rfl, HY2, HYS, by rw [HTP.out], trivial⟩
              case measure => simp [intOf]; omega
          · obtain rfl : i = m := by omega
            have hlt1 : ¬ (i : Int) < (i : Int) := by omega
            have hta : l.take i = l := by rw [← HM.out, List.take_length]
            rw [hta] at hy hys ⊢
            obtain ⟨tb, htb⟩ : ∃ tb, tbL l = tb := ⟨_, rfl⟩
            rw [htb] at HTB ⊢
            have HPY : Hid (∀ W, Calls Try.prog 19 #[.string y] W fun e w' => e = .returned (.string ⟨(nb (l.flatMap txB)).toArray⟩) ∧ Below W.heap.size W w') := fun W => by rw [← hy.out]; exact plain_str y (by have := hys.out; have := HTL.out; omega) W
            have HP1 : Hid (∀ W, Calls Try.prog 19 #[.string y1] W fun e w' => e = .returned (.string ⟨(nb (l.flatMap txB)).toArray⟩) ∧ Below W.heap.size W w') := fun W => by rw [← HN1.out]; exact plain_str y1 (by have := HYS1.out; omega) W
            have HP2 : Hid (∀ W, Calls Try.prog 19 #[.string y2] W fun e w' => e = .returned (.string ⟨(nb (l.flatMap txB)).toArray⟩) ∧ Below W.heap.size W w') := fun W => by rw [← HN2.out]; exact plain_str y2 (by have := HYS2.out; omega) W
            obtain ⟨yp, hyp⟩ : ∃ yp, (ByteArray.mk (nb (l.flatMap txB)).toArray) = yp := ⟨_, rfl⟩
            rw [hyp] at HPY HP1 HP2
            have HIX : Hid (∀ j, j < y1.size → ∀ W : World, (Instr.index 9 (.string y1) (.int .i64 (j : Int))).run Try.prog W = .ok (.int .u8 (bAt y1 j : Int)) W) := fun j hj W => idx_str 9 Try.underlying9 y1 hj W
            have HOK : Hid (tb = false → ∀ j, j < y1.size → bAt y1 j = 9 → j + 1 < y1.size ∧ bAt y1 (j + 1) ≠ 10) := fun ht j hj h9 => by
              have h9' : y1.data.toList[j]? = some 9 := by
                rw [at_list hj]
                congr 1
                apply UInt8.toNat_inj.1
                exact h9
              obtain ⟨c', hc', hne⟩ := okT_at (HTB.out ht) h9'
              have hj1 : j + 1 < y1.size := by
                have := (List.getElem?_eq_some_iff.1 hc').1
                rw [Array.length_toList] at this
                exact this
              refine ⟨hj1, fun e => hne ?_⟩
              rw [at_list hj1] at hc'
              injection hc' with hc'
              apply UInt8.toNat_inj.1
              rw [← hc']
              exact e
            obtain ⟨ny, hny⟩ : ∃ ny, y1.size = ny := ⟨_, rfl⟩
            have HYS := HYS1
            rw [hny] at HIX HOK HYS
            have HBW : Hid (Below w.heap.size w wr) := HB.out
            clear hta hy hys htb HTB HN1 HN2 HYS1 HYS2 HR HM HX HD HBAL HNEM HEMP HFBL HLL HTL hyp hi hlt hpm
            go_wp2
            go_loopw [17] (fun s17 wr2 => ∃ j : Nat, j ≤ ny ∧ s17 = .int .i64 (j : Int) ∧ wr2 = wr) (fun s17 _ => ny - (intOf s17).toNat)
            case atStart => exact ⟨0, Nat.zero_le _, rfl, rfl⟩
            case round =>
              obtain ⟨j, hj, rfl, rfl⟩ := hrel
              by_cases hgo : tb = false ∧ j < ny
              · obtain ⟨rfl, hlj⟩ := hgo
                have hix := HIX.out j hlj
                have hlj1 : (j : Int) < (ny : Int) := by omega
                have hlj0 : (0 : Int) ≤ (j : Int) := by omega
                have hwj : IntKind.i64.wrap ((j : Int) + 1) = (j : Int) + 1 := by rw [IntKind.wrap_i64]; have := HYS.out; omega
                have hok := HOK.out rfl j hlj
                obtain ⟨b, hbe⟩ : ∃ b, bAt y1 j = b := ⟨_, rfl⟩
                rw [hbe] at hix hok
                by_cases c9 : b = 9
                · subst c9
                  obtain ⟨hj1, hne⟩ := hok rfl
                  have hix2 := HIX.out (j + 1) hj1
                  obtain ⟨b2, hbe2⟩ : ∃ b2, bAt y1 (j + 1) = b2 := ⟨_, rfl⟩
                  rw [hbe2] at hix2 hne
                  have hcj : ((j + 1 : Nat) : Int) = (j : Int) + 1 := by omega
                  rw [hcj] at hix2
                  have e1 : ((j : Int) + 1 == (ny : Int)) = false := by simp; omega
                  have e2 : ((b2 : Int) == 10) = false := by simp; omega
                  have e3 : (0 : Int) ≤ (j : Int) + 1 := by omega
                  have e4 : (j : Int) + 1 < (ny : Int) := by omega
                  clear hok hbe hbe2 hcj hne hj1
                  go_wp2
                  go_roundw
                  case rel => exact ⟨j + 1, by omega, by go_num, trivial⟩
                  case measure => simp [intOf]; omega
                · have d9 : ((b : Int) == 9) = false := by simp; omega
                  clear hok hbe
                  go_wp2
                  go_roundw
                  case rel => exact ⟨j + 1, by omega, by go_num, trivial⟩
                  case measure => simp [intOf]; omega
              · have hstop : tb = true ∨ j = ny := by
                  cases tb with
                  | true => exact .inl rfl
                  | false => exact .inr (by have : ¬ j < ny := fun h => hgo ⟨rfl, h⟩; omega)
                have HK := Lib.hid (known_any wr)
                have hlj1 : tb = false → ¬ (j : Int) < (ny : Int) := fun h => by
                  rcases hstop with e | e
                  · rw [h] at e; cases e
                  · omega
                clear hgo hstop HIX HOK HYS
                cases tb with
                | true =>
                  clear hlj1
                  go_wp2_with fail
                  refine HK.out.mono ?_
                  rintro e v1 ⟨rfl, hb1⟩
                  have HV1 := Lib.hid (HBW.out.trans (hb1.mono HBW.out.size))
                  clear hb1 HK
                  go_wp2_with fail
                  refine (HP1.out _).mono ?_
                  rintro e v2 ⟨rfl, hb2⟩
                  have HV2 := Lib.hid (HV1.out.trans (hb2.mono HV1.out.size))
                  clear hb2
                  go_wp2_with fail
                  refine (HPY.out _).mono ?_
                  rintro e v3 ⟨rfl, hb3⟩
                  have HV3 := Lib.hid (HV2.out.trans (hb3.mono HV2.out.size))
                  clear hb3
                  go_wp2_with fail
                  refine (HP2.out _).mono ?_
                  rintro e v4 ⟨rfl, hb4⟩
                  have HV4 := Lib.hid (HV3.out.trans (hb4.mono HV3.out.size))
                  clear hb4
                  go_wp2_with fail
                  refine (HPY.out _).mono ?_
                  rintro e v5 ⟨rfl, hb5⟩
                  have HV5 := Lib.hid (HV4.out.trans (hb5.mono HV4.out.size))
                  clear hb5
                  go_wp2
                  go_ret
                  exact ⟨rfl, HV5.out⟩
                | false =>
                  replace hlj1 := hlj1 rfl
                  go_wp2_with fail
                  refine HK.out.mono ?_
                  rintro e v1 ⟨rfl, hb1⟩
                  have HV1 := Lib.hid (HBW.out.trans (hb1.mono HBW.out.size))
                  clear hb1 HK
                  go_wp2_with fail
                  refine (HP1.out _).mono ?_
                  rintro e v2 ⟨rfl, hb2⟩
                  have HV2 := Lib.hid (HV1.out.trans (hb2.mono HV1.out.size))
                  clear hb2
                  go_wp2_with fail
                  refine (HPY.out _).mono ?_
                  rintro e v3 ⟨rfl, hb3⟩
                  have HV3 := Lib.hid (HV2.out.trans (hb3.mono HV2.out.size))
                  clear hb3
                  go_wp2_with fail
                  refine (HP2.out _).mono ?_
                  rintro e v4 ⟨rfl, hb4⟩
                  have HV4 := Lib.hid (HV3.out.trans (hb4.mono HV3.out.size))
                  clear hb4
                  go_wp2_with fail
                  refine (HPY.out _).mono ?_
                  rintro e v5 ⟨rfl, hb5⟩
                  have HV5 := Lib.hid (HV4.out.trans (hb5.mono HV4.out.size))
                  clear hb5
                  go_wp2
                  go_ret
                  exact ⟨rfl, HV5.out⟩
end Go.Proofs.Ytpankfbdlakmcaa.Doc
