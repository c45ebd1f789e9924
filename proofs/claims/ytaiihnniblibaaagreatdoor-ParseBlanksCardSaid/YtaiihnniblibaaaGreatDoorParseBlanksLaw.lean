/-
 Layer 6 (parse): the walk of ParseBlanks: other blanks and newlines between, and ends that are written, change nothing. Written by gen_parseblanks.py.
-/
import Derived.Test.YtaiihnniblibaaaGreatDoorParseWords
import Derived.Test.YtaiihnniblibaaaGreatDoorParseLooseW
namespace Go.Proofs.YtaiihnniblibaaaGreatDoor.Parse
open Go.ChangeShapes Go.WideShapes Go.ChangeAt Go.RowKit Tree MemT Mem Utf
set_option linter.unusedVariables false

set_option maxRecDepth 100000 in
set_option maxHeartbeats 8000000 in
theorem parseBlanks_walk (A : Option Addr) (n0 cap : Nat) (xs0 : List Int) (ends wide : Bool) (w : World) (h0 : RB w w.heap.size A xs0) (hn0 : xs0.length = n0) (hcap0 : n0 ≤ cap) (hcap' : cap ≤ maxLen) (hT : Lex.Tab w) :
  Calls Tryz.prog 4 #[.slice A n0 cap, .bool ends, .bool wide] w (AnsB true w) := by
 have HT := Lib.hid hT
 have HX : Hid (∃ xs, xs.length = min n0 4000 ∧ RB w w.heap.size A xs) := ⟨xs0.take (min n0 4000), by rw [List.length_take, hn0]; omega, h0.take _⟩
 have HFEW := Lib.hid (fewB_any A n0 cap w hcap0 (by unfold maxLen at hcap'; exact hcap'))
 have HC := Lib.hid hcap'
 have hm : min n0 4000 ≤ cap := by omega
 have hm2 : min n0 4000 ≤ 4000 := by omega
 clear hT h0 hn0 hcap0 hcap'
 generalize min n0 4000 = m at *
 cases wide with
 | true =>
  have hlit : strOfNums [9, 13, 32, 32] = ⟨#[9, 13, 32, 32]⟩ := by rfl
  have HLIT := Lib.hid hlit
  clear hlit
  go_enter Tryz.func4, Tryz.ntmps4
  go_wp2_with fail
  refine HFEW.out.mono ?_
  rintro e w' ⟨rfl, rfl⟩
  obtain ⟨xs, hxn, hrx⟩ := HX.out
  have HP := Lib.hid (parse_any A m cap xs w' _ hrx (Nat.le_refl _) hxn hm HC.out (by omega) HT.out)
  have HRX := Lib.hid hrx; have HXN := Lib.hid hxn
  clear hrx hxn HX HFEW
  go_wp2_with fail
  refine HP.out.mono ?_
  intro e w1 h1
  obtain ⟨k1, x1, y1, A1, C1, c1, p1, er1, rfl, hb1, hf1, hr1⟩ := parse_form h1
  obtain ⟨n1, hn1⟩ : ∃ n, c1.len = n := ⟨_, rfl⟩
  rw [hn1] at hf1 ⊢
  have hx1 := nbx_below w1 k1 x1 y1 A1 n1 C1
  have HB1 := Lib.hid (hb1.trans (hx1.mono hb1.size)); have HF1 := Lib.hid (hf1.later hx1); have HR1 := Lib.hid hr1
  have HT1 := Lib.hid ((HT.out.below hb1 HT.out.pos).below hx1 (HT.out.below hb1 HT.out.pos).pos)
  have HX1 := Lib.hid (nbx_new w1 k1 x1 y1 A1 n1 C1)
  have HKN := Lib.hid (known_any (w1.alloc (nbx k1 x1 y1 A1 n1 C1)) HT1.out)
  clear h1 hb1 hf1 hr1 HP hx1
  go_wp2_with fail
  refine HKN.out.mono ?_
  rintro e w2 ⟨rfl, hb2⟩
  have HB2 := Lib.hid (HB1.out.trans (hb2.mono HB1.out.size))
  have HT2 := Lib.hid (HT1.out.below hb2 HT1.out.pos)
  have HF2 := Lib.hid (HF1.out.later hb2)
  have HX2 := Lib.hid (HX1.out.below hb2 HX1.out.lt)
  clear hb2 HKN HT1 HF1 HX1
  rcases HR1.out with ⟨he1, r1, hok⟩ | ⟨hne, _⟩
  case inr =>
   have hbb : (er1 != 0) = true := bne_iff_ne.2 hne
   have HK2 := Lib.hid (known_any w2 HT2.out)
   clear hne HR1 HF2 HX2
   go_wp2_with fail
   refine HK2.out.mono ?_
   rintro e w3 ⟨rfl, hb3⟩
   have HB3 := Lib.hid (HB2.out.trans (hb3.mono HB2.out.size))
   clear hb3
   go_wp2
   go_ret
   exact ⟨rfl, HB3.out⟩
  subst he1
  have hrx := HRX.out.below HB2.out (Nat.le_refl _)
  have HLO := Lib.hid (loose_any A m cap xs w2 _ hrx HB2.out.size HXN.out hm HC.out hm2 (parse_ok hok).1 [9, 13, 32, 32] (by decide) ends)
  rw [HLIT.out] at HLO
  obtain ⟨hby, hpl⟩ := parse_loose (gp := [9, 13, 32, 32]) (ends := ends) HRX.out.1 hok (by decide) (by decide)
  have hlT : Lex.lexT xs = Lex.toks xs := by unfold Lex.lexT; rw [if_pos (parse_ok hok).1]
  rw [hlT] at HLO
  have hll : (10 :: lo [9, 13, 32, 32] ends (Lex.toks xs)).length ≤ 1000000 := by
   have h1 := lo_len [9, 13, 32, 32] ends (Lex.toks xs)
   have h2 := (@Lex.toks_count xs).1
   have h3 := (@Lex.toks_count xs).2
   rw [hlT] at h2 h3
   rw [HXN.out] at h2 h3
   have h4 : ([9, 13, 32, 32].length + 3) * (Lex.toks xs).length ≤ 7 * 8000 := Nat.mul_le_mul (by decide) (by omega)
   rw [List.length_cons]; omega
  have HPL := Lib.hid hpl
  have HBY := Lib.hid hby; have HLL := Lib.hid hll
  clear hrx hlT hpl hby hll hok
  generalize 10 :: lo [9, 13, 32, 32] ends (Lex.toks xs) = Z at *
  go_wp2_with fail
  refine HLO.out.mono ?_
  rintro e w3 ⟨rfl, hb3⟩
  have HB3 := Lib.hid (HB2.out.trans (hb3.mono HB2.out.size))
  have HT3 := Lib.hid (HT2.out.below hb3 HT2.out.pos)
  have HF3 := Lib.hid (HF2.out.later hb3)
  have HX3 := Lib.hid (HX2.out.below hb3 HX2.out.lt)
  obtain ⟨c3, W3, hconv, hc3, hc3', hbW, hrb⟩ := Lex.conv_str w3 (strOfNums Z) (by rw [strOfNums_size]; have := HLL.out; unfold maxLen; omega)
  have hnn : Lex.nums (strOfNums Z) = Z := strOfNums_inj (Lex.nums_byt _) HBY.out (Lex.str_nums _)
  rw [hnn] at hrb
  rw [strOfNums_size] at hconv hc3
  have HP3 := Lib.hid (parse_any _ Z.length c3 Z W3 _ hrb (Nat.le_refl _) rfl hc3 hc3' HLL.out (HT3.out.below hbW HT3.out.pos))
  have HB4 := Lib.hid (HB3.out.trans (hbW.mono HB3.out.size))
  have HF4 := Lib.hid (HF3.out.later hbW)
  have HX4 := Lib.hid (HX3.out.below hbW HX3.out.lt)
  clear HX2 HX3 hb3 hrb hnn hbW HLO HF2 HF3 HT2 HT3 hc3 hc3'
  go_wp2_with fail
  refine HP3.out.mono ?_
  intro e w4 h4
  obtain ⟨k4, x4, y4, A4, C4, c4, p4, er4, rfl, hb4, hf4, hr4⟩ := parse_form h4
  have hv : er4 = 0 ∧ (⟨k4, x4, y4, c4⟩ : Nd) = ⟨k1, x1, y1, c1⟩ := by
   rcases hr4 with ⟨h, r, hr⟩ | ⟨_, hr⟩
   ·rw [HPL.out] at hr
    simp only [Rd.ok.injEq] at hr
    exact ⟨h, hr.1.symm⟩
   ·rw [HPL.out] at hr
    cases hr
  obtain ⟨rfl, hv⟩ := hv
  simp only [Nd.mk.injEq] at hv
  obtain ⟨rfl, rfl, rfl, rfl⟩ := hv
  rw [hn1] at hf4 ⊢
  have hx5 := nbx_below w4 k4 x4 y4 A4 n1 C4
  have hB5 := HB4.out.trans (hb4.mono HB4.out.size)
  have HB5 := Lib.hid (hB5.trans (hx5.mono hB5.size))
  have HF5 := Lib.hid ((HF4.out.later hb4).later hx5); have HG5 := Lib.hid (hf4.later hx5)
  have HX5 := Lib.hid ((HX4.out.below hb4 HX4.out.lt).below hx5 (HX4.out.below hb4 HX4.out.lt).lt)
  have HY5 := Lib.hid (nbx_new w4 k4 x4 y4 A4 n1 C4)
  obtain ⟨p0, p1', p2, p3'⟩ := HX5.out.cells
  obtain ⟨q0, q1, q2, q3⟩ := HY5.out.cells
  have hs : sameT k4 x4 y4 c4 k4 x4 y4 c4 = true := by simp [sameT, same_refl]
  have HSM := Lib.hid (rsame_any c4.size k4 x4 y4 A1 n1 C1 c4 k4 x4 y4 A4 n1 C4 c4 _ (Nat.le_refl _) HF5.out HG5.out)
  rw [hs] at HSM
  clear h4 hb4 hf4 hr4 HP3 HF4 HR1 hs hn1 HX4 hx5 hB5
  go_wp2_with fail
  refine HSM.out.mono ?_
  rintro e w5 ⟨rfl, hb5⟩
  have HB6 := Lib.hid (HB5.out.trans (hb5.mono HB5.out.size))
  clear hb5
  go_wp2
  go_ret
  exact ⟨rfl, HB6.out⟩
 | false =>
  have hlit : strOfNums [32] = ⟨#[32]⟩ := by rfl
  have HLIT := Lib.hid hlit
  clear hlit
  go_enter Tryz.func4, Tryz.ntmps4
  go_wp2_with fail
  refine HFEW.out.mono ?_
  rintro e w' ⟨rfl, rfl⟩
  obtain ⟨xs, hxn, hrx⟩ := HX.out
  have HP := Lib.hid (parse_any A m cap xs w' _ hrx (Nat.le_refl _) hxn hm HC.out (by omega) HT.out)
  have HRX := Lib.hid hrx; have HXN := Lib.hid hxn
  clear hrx hxn HX HFEW
  go_wp2_with fail
  refine HP.out.mono ?_
  intro e w1 h1
  obtain ⟨k1, x1, y1, A1, C1, c1, p1, er1, rfl, hb1, hf1, hr1⟩ := parse_form h1
  obtain ⟨n1, hn1⟩ : ∃ n, c1.len = n := ⟨_, rfl⟩
  rw [hn1] at hf1 ⊢
  have hx1 := nbx_below w1 k1 x1 y1 A1 n1 C1
  have HB1 := Lib.hid (hb1.trans (hx1.mono hb1.size)); have HF1 := Lib.hid (hf1.later hx1); have HR1 := Lib.hid hr1
  have HT1 := Lib.hid ((HT.out.below hb1 HT.out.pos).below hx1 (HT.out.below hb1 HT.out.pos).pos)
  have HX1 := Lib.hid (nbx_new w1 k1 x1 y1 A1 n1 C1)
  have HKN := Lib.hid (known_any (w1.alloc (nbx k1 x1 y1 A1 n1 C1)) HT1.out)
  clear h1 hb1 hf1 hr1 HP hx1
  go_wp2_with fail
  refine HKN.out.mono ?_
  rintro e w2 ⟨rfl, hb2⟩
  have HB2 := Lib.hid (HB1.out.trans (hb2.mono HB1.out.size))
  have HT2 := Lib.hid (HT1.out.below hb2 HT1.out.pos)
  have HF2 := Lib.hid (HF1.out.later hb2)
  have HX2 := Lib.hid (HX1.out.below hb2 HX1.out.lt)
  clear hb2 HKN HT1 HF1 HX1
  rcases HR1.out with ⟨he1, r1, hok⟩ | ⟨hne, _⟩
  case inr =>
   have hbb : (er1 != 0) = true := bne_iff_ne.2 hne
   have HK2 := Lib.hid (known_any w2 HT2.out)
   clear hne HR1 HF2 HX2
   go_wp2_with fail
   refine HK2.out.mono ?_
   rintro e w3 ⟨rfl, hb3⟩
   have HB3 := Lib.hid (HB2.out.trans (hb3.mono HB2.out.size))
   clear hb3
   go_wp2
   go_ret
   exact ⟨rfl, HB3.out⟩
  subst he1
  have hrx := HRX.out.below HB2.out (Nat.le_refl _)
  have HLO := Lib.hid (loose_any A m cap xs w2 _ hrx HB2.out.size HXN.out hm HC.out hm2 (parse_ok hok).1 [32] (by decide) ends)
  rw [HLIT.out] at HLO
  obtain ⟨hby, hpl⟩ := parse_loose (gp := [32]) (ends := ends) HRX.out.1 hok (by decide) (by decide)
  have hlT : Lex.lexT xs = Lex.toks xs := by unfold Lex.lexT; rw [if_pos (parse_ok hok).1]
  rw [hlT] at HLO
  have hll : (10 :: lo [32] ends (Lex.toks xs)).length ≤ 1000000 := by
   have h1 := lo_len [32] ends (Lex.toks xs)
   have h2 := (@Lex.toks_count xs).1
   have h3 := (@Lex.toks_count xs).2
   rw [hlT] at h2 h3
   rw [HXN.out] at h2 h3
   have h4 : ([32].length + 3) * (Lex.toks xs).length ≤ 7 * 8000 := Nat.mul_le_mul (by decide) (by omega)
   rw [List.length_cons]; omega
  have HPL := Lib.hid hpl
  have HBY := Lib.hid hby; have HLL := Lib.hid hll
  clear hrx hlT hpl hby hll hok
  generalize 10 :: lo [32] ends (Lex.toks xs) = Z at *
  go_wp2_with fail
  refine HLO.out.mono ?_
  rintro e w3 ⟨rfl, hb3⟩
  have HB3 := Lib.hid (HB2.out.trans (hb3.mono HB2.out.size))
  have HT3 := Lib.hid (HT2.out.below hb3 HT2.out.pos)
  have HF3 := Lib.hid (HF2.out.later hb3)
  have HX3 := Lib.hid (HX2.out.below hb3 HX2.out.lt)
  obtain ⟨c3, W3, hconv, hc3, hc3', hbW, hrb⟩ := Lex.conv_str w3 (strOfNums Z) (by rw [strOfNums_size]; have := HLL.out; unfold maxLen; omega)
  have hnn : Lex.nums (strOfNums Z) = Z := strOfNums_inj (Lex.nums_byt _) HBY.out (Lex.str_nums _)
  rw [hnn] at hrb
  rw [strOfNums_size] at hconv hc3
  have HP3 := Lib.hid (parse_any _ Z.length c3 Z W3 _ hrb (Nat.le_refl _) rfl hc3 hc3' HLL.out (HT3.out.below hbW HT3.out.pos))
  have HB4 := Lib.hid (HB3.out.trans (hbW.mono HB3.out.size))
  have HF4 := Lib.hid (HF3.out.later hbW)
  have HX4 := Lib.hid (HX3.out.below hbW HX3.out.lt)
  clear HX2 HX3 hb3 hrb hnn hbW HLO HF2 HF3 HT2 HT3 hc3 hc3'
  go_wp2_with fail
  refine HP3.out.mono ?_
  intro e w4 h4
  obtain ⟨k4, x4, y4, A4, C4, c4, p4, er4, rfl, hb4, hf4, hr4⟩ := parse_form h4
  have hv : er4 = 0 ∧ (⟨k4, x4, y4, c4⟩ : Nd) = ⟨k1, x1, y1, c1⟩ := by
   rcases hr4 with ⟨h, r, hr⟩ | ⟨_, hr⟩
   ·rw [HPL.out] at hr
    simp only [Rd.ok.injEq] at hr
    exact ⟨h, hr.1.symm⟩
   ·rw [HPL.out] at hr
    cases hr
  obtain ⟨rfl, hv⟩ := hv
  simp only [Nd.mk.injEq] at hv
  obtain ⟨rfl, rfl, rfl, rfl⟩ := hv
  rw [hn1] at hf4 ⊢
  have hx5 := nbx_below w4 k4 x4 y4 A4 n1 C4
  have hB5 := HB4.out.trans (hb4.mono HB4.out.size)
  have HB5 := Lib.hid (hB5.trans (hx5.mono hB5.size))
  have HF5 := Lib.hid ((HF4.out.later hb4).later hx5); have HG5 := Lib.hid (hf4.later hx5)
  have HX5 := Lib.hid ((HX4.out.below hb4 HX4.out.lt).below hx5 (HX4.out.below hb4 HX4.out.lt).lt)
  have HY5 := Lib.hid (nbx_new w4 k4 x4 y4 A4 n1 C4)
  obtain ⟨p0, p1', p2, p3'⟩ := HX5.out.cells
  obtain ⟨q0, q1, q2, q3⟩ := HY5.out.cells
  have hs : sameT k4 x4 y4 c4 k4 x4 y4 c4 = true := by simp [sameT, same_refl]
  have HSM := Lib.hid (rsame_any c4.size k4 x4 y4 A1 n1 C1 c4 k4 x4 y4 A4 n1 C4 c4 _ (Nat.le_refl _) HF5.out HG5.out)
  rw [hs] at HSM
  clear h4 hb4 hf4 hr4 HP3 HF4 HR1 hs hn1 HX4 hx5 hB5
  go_wp2_with fail
  refine HSM.out.mono ?_
  rintro e w5 ⟨rfl, hb5⟩
  have HB6 := Lib.hid (HB5.out.trans (hb5.mono HB5.out.size))
  clear hb5
  go_wp2
  go_ret
  exact ⟨rfl, HB6.out⟩

theorem parseBlanks_of (a0 : Option Addr) (len0 cap0 : Nat) (z0 : List Int) (ends wide : Bool) (w : World) (hT : Lex.Tab w) (w0 : Row .u8 w a0 len0 cap0 z0) :
  Calls Tryz.prog 4 #[.slice a0 len0 cap0, .bool ends, .bool wide] w fun e w' => e = .returned (.bool true) ∧ Below w.heap.size w w' := by
 obtain ⟨xs, hx, h1, h2, h3⟩ := row_rb w0
 exact parseBlanks_walk a0 len0 cap0 xs ends wide w h3 hx h1 h2 hT
end Go.Proofs.YtaiihnniblibaaaGreatDoor.Parse
