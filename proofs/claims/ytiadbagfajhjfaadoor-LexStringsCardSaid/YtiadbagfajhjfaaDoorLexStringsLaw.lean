/-
  Layer 4 (lex): the walk of LexStrings: strings and remarks of any text.
-/
import Derived.Test.YtiadbagfajhjfaaDoorLexKnown
import Derived.Test.YtiadbagfajhjfaaDoorLexWrite
import Derived.Deep.Cut
import Derived.Deep.CutRange
import Derived.Deep.RegionHeldLaw
namespace Go.Proofs.YtiadbagfajhjfaaDoor.Lex
open Go.ChangeShapes Go.WideShapes Go.ChangeAt Go.RowKit Utf MemT
set_option linter.unusedVariables false

def plainB (x : Int) : Bool := decide (x ≠ 34) && (decide (x ≠ 92) && decide (x ≠ 10))
def calmF (l : List Int) : List Int := l.filter plainB
theorem ext_nums2 (s : ByteArray) (k : Nat) : s.extract 0 k = strOfNums ((nums s).take k) := by
  rw [← str_nums (s.extract 0 k)]
  congr 1
  simp [nums, List.map_take]
theorem calmF_calm (l : List Int) : Calm (calmF l) := fun x hx => by
  have := (List.mem_filter.1 hx).2
  unfold plainB at this
  simp only [Bool.and_eq_true, decide_eq_true_eq] at this
  exact this
theorem calmF_byt {l : List Int} (h : Byt l) : Byt (calmF l) := fun x hx => h x (List.mem_filter.1 hx).1
theorem calmF_len (l : List Int) : (calmF l).length ≤ l.length := List.length_filter_le _ _
theorem calmF_snoc (l : List Int) (k : Nat) (h : k < l.length) : calmF (l.take (k + 1)) = calmF (l.take k) ++ (if plainB (l.getD k 0) = true then [l.getD k 0] else []) := by
  rw [List.take_succ_eq_append_getElem h]
  unfold calmF
  rw [List.filter_append]
  simp only [List.getD, List.getElem?_eq_getElem h, Option.getD_some]
  by_cases hp : plainB l[k] = true
  · simp [hp]
  · simp [hp]
theorem trim_step {l : List Int} {e : Nat} (h : ∀ i, e ≤ i → i < l.length → blk (l.getD i 0) = true) (he : 0 < e) (hl : e ≤ l.length) : (blk (l.getD (e - 1) 0) = true → ∀ i, e - 1 ≤ i → i < l.length → blk (l.getD i 0) = true) ∧ (blk (l.getD (e - 1) 0) = false → trimL l = e) :=
  ⟨fun hb i h1 h2 => by
    by_cases hi : i = e - 1
    · rw [hi]; exact hb
    · exact h i (by omega) h2, fun hb => trimL_is l e hl (fun _ => hb) h⟩

/-- The row of bytes of the call's own. -/
def OwnB (w : World) (base : Nat) (A : Option Addr) (c : Nat) (n : Nat) (xs : List Int) : Prop := w.ownsRow base 5 1 (.slice A n c) n (xs.map (Value.int .u8)) ∧ xs.length = n ∧ n ≤ c ∧ c ≤ maxLen

set_option maxRecDepth 100000 in
set_option maxHeartbeats 8000000 in
theorem lexStrings_walk (s : ByteArray) (w : World) (hs : s.size ≤ maxLen) (hT : Tab w) :
    Calls Tryd.prog 8 #[.string s] w fun e w' => e = .returned (.bool true) ∧ Below w.heap.size w w' := by
  have HT := Lib.hid hT
  have hsz : (nums s).length = s.size := nums_len s
  have HSZ := Lib.hid hsz
  clear hT hsz
  unfold maxLen at hs
  go_enter Tryd.func8, Tryd.ntmps8
  go_upto_region 1 with (fail)
  go_cut [0] from 12 to 16 (fun s0 W => s0 = .string (strOfNums ((nums s).take (min s.size 2000))) ∧ W = w)
  case first =>
    have he : Hid (strOfNums ((nums s).take (min s.size 2000)) = s.extract 0 (min s.size 2000)) := by
      show _ = _
      rw [ext_nums2]
    have hm : Hid ((min (s.size : Int) 2000).toNat = min s.size 2000) := by
      show _ = _
      omega
    go_wp2
    go_meet
    case rel => exact ⟨by rw [he.out, ← hm.out], rfl⟩
  case rest =>
    obtain ⟨rfl, hw⟩ := hcut
    subst hw
    have hbt : Byt ((nums s).take (min s.size 2000)) := (nums_byt s).take _
    have hlt : ((nums s).take (min s.size 2000)).length ≤ 2000 := by rw [List.length_take]; omega
    generalize (nums s).take (min s.size 2000) = t at *
    clear HSZ hs
    have hz : (strOfNums t).size = t.length := strOfNums_size t
    have HIX : Hid (∀ i, i < t.length → ∀ W : World, (Instr.index 9 (.string (strOfNums t)) (.int .i64 (i : Int))).run Tryd.prog W = .ok (.int .u8 (t.getD i 0)) W) := fun i hi W => run_idx_str (P := Tryd.prog) 9 Tryd.underlying9 hbt hi W
    have HBT := Lib.hid hbt
    clear hbt
    obtain ⟨n, hn⟩ : ∃ n, t.length = n := ⟨_, rfl⟩
    have HN := Lib.hid hn
    obtain ⟨st, hst⟩ : ∃ st, strOfNums t = st := ⟨_, rfl⟩
    rw [hn] at HIX hz hlt
    rw [hst] at HIX hz ⊢
    clear hn hst
    obtain ⟨i0, hi0, hz0, hz1, hz2⟩ := info_parts u8_info
    go_wp2
    go_loopw [3, 4] (fun b i wr => ∃ (k : Nat) (a : Option Addr) (c m : Nat), k ≤ n ∧ m ≤ k ∧ i = .int .i64 k ∧ b = .slice a m c ∧ Hid (OwnB wr wc.heap.size a c m (calmF (t.take k))) ∧ Hid (Below wc.heap.size wc wr)) (fun _ i _ => n - (intOf i).toNat)
    case atStart => exact ⟨0, none, 0, 0, by omega, by omega, rfl, rfl, ⟨World.ownsRow_nil _ _ _ _, rfl, by omega, by unfold maxLen; omega⟩, Below.refl _ _⟩
    case round =>
      obtain ⟨k, a, c, m, hk, hmk, rfl, rfl, hown, hbel⟩ := hrel
      by_cases hlk : k < n
      · have hix := HIX.out k hlk
        have hsn := calmF_snoc t k (by rw [HN.out]; exact hlk)
        have hd := HBT.out.getD k
        have hpd : plainB (t.getD k 0) = (decide (t.getD k 0 ≠ 34) && (decide (t.getD k 0 ≠ 92) && decide (t.getD k 0 ≠ 10))) := rfl
        generalize t.getD k 0 = d at *
        have HSN := Lib.hid hsn
        clear hsn
        have hlk' : (k : Int) < n := by omega
        obtain ⟨hd0, hd1⟩ := hd
        by_cases h34 : d = 34
        · have hp : plainB d = false := by rw [hpd, h34]; rfl
          have HS1 : Hid (calmF (t.take (k + 1)) = calmF (t.take k)) := by
            show _ = _
            rw [HSN.out, hp]; simp
          subst h34
          clear hpd hp HSN
          go_wp2
          go_roundw
          case rel => exact ⟨k + 1, a, c, m, by omega, by omega, by go_num, rfl, by rw [HS1.out]; exact hown.out, hbel.out⟩
          case measure => simp [intOf]; omega
        by_cases h92 : d = 92
        · have hp : plainB d = false := by rw [hpd, h92]; rfl
          have HS1 : Hid (calmF (t.take (k + 1)) = calmF (t.take k)) := by
            show _ = _
            rw [HSN.out, hp]; simp
          subst h92
          clear hpd hp HSN h34
          go_wp2
          go_roundw
          case rel => exact ⟨k + 1, a, c, m, by omega, by omega, by go_num, rfl, by rw [HS1.out]; exact hown.out, hbel.out⟩
          case measure => simp [intOf]; omega
        by_cases h10 : d = 10
        · have hp : plainB d = false := by rw [hpd, h10]; rfl
          have HS1 : Hid (calmF (t.take (k + 1)) = calmF (t.take k)) := by
            show _ = _
            rw [HSN.out, hp]; simp
          subst h10
          clear hpd hp HSN h34 h92
          go_wp2
          go_roundw
          case rel => exact ⟨k + 1, a, c, m, by omega, by omega, by go_num, rfl, by rw [HS1.out]; exact hown.out, hbel.out⟩
          case measure => simp [intOf]; omega
        have hp : plainB d = true := by rw [hpd, decide_eq_true h34, decide_eq_true h92, decide_eq_true h10]; rfl
        have HS1 : Hid (calmF (t.take (k + 1)) = calmF (t.take k) ++ [d]) := by
          show _ = _
          rw [HSN.out, if_pos hp]
        have n34 : (d != 34) = true := by rw [bne_iff_ne]; exact h34
        have n92 : (d != 92) = true := by rw [bne_iff_ne]; exact h92
        have n10 : (d != 10) = true := by rw [bne_iff_ne]; exact h10
        clear hpd hp HSN h34 h92 h10
        have hbA : Below wr.heap.size wr (wr.alloc (.cells #[.int .u8 d] 5)) := (Below.refl _ _).alloc (Nat.le_refl _) _
        have HOA := Lib.hid (own_below hown.out.1 hbA (Nat.le_refl _))
        have HBA := Lib.hid (hbel.out.trans (hbA.mono hbel.out.size))
        have HRD := Lib.hid (rb_new wr [d] 5 (by intro x hx; simp at hx; omega))
        have hx63 : m + 1 ≤ 140737488355328 := by omega
        clear hbA
        go_wp2_with (at_builtin; refine app_rb (wr.alloc (.cells #[.int .u8 d] 5)) rfl _ _ rfl wc.heap.size _ _ _ rfl HOA.out (wr.heap.size + 1) (some ⟨wr.heap.size, 0, none⟩) 1 1 [d] rfl HRD.out rfl hx63 HBA.out.size ?_)
        intro v3 w3 hown3 hg3 _
        have hb3 : Below wc.heap.size wc w3 := HBA.out.grown hg3 (by have := HBA.out.size; omega) (fun q hq => (HOA.out.lt q hq).1)
        obtain ⟨a3, c3, rfl, hc3, hc3'⟩ := own_slice hown3
        have HO3 : Hid (OwnB w3 wc.heap.size a3 c3 (m + 1) (calmF (t.take k) ++ [d])) := ⟨by rw [List.map_append]; exact hown3, by rw [List.length_append, hown.out.2.1]; rfl, hc3, hc3'⟩
        have HB3 := Lib.hid hb3
        clear hown3 hg3 hb3 hc3 hc3'
        go_wp2
        go_roundw
        case rel => exact ⟨k + 1, a3, c3, m + 1, by omega, by omega, by go_num, rfl, by rw [HS1.out]; exact HO3.out, HB3.out⟩
        case measure => simp [intOf]; omega
      · have HB : Hid (OwnB wr wc.heap.size a c m (calmF t)) := by
          have := hown.out
          rw [List.take_of_length_le (by rw [HN.out]; omega)] at this
          exact this
        have hnl : ¬ (k : Int) < n := by omega
        have hcb := calmF_byt HBT.out
        have hcc := calmF_calm t
        have hcl : (calmF t).length = m := HB.out.2.1
        have hm2000 : m ≤ 2000 := by omega
        generalize calmF t = bs at *
        clear hown hlk
        have HBY := Lib.hid hcb; have HCA := Lib.hid hcc; have HCL := Lib.hid hcl
        clear hcb hcc hcl HIX HBT HN
        have hrb0 : RB wr wr.heap.size a bs := own_rb HB.out.1 HBY.out
        have HRB := Lib.hid hrb0
        have hmc := HB.out.2.2.1
        have hcm : c ≤ 9223372036854775807 := by have := HB.out.2.2.2; unfold maxLen at this; omega
        clear hrb0
        go_wp2
        go_loop [5] (fun e => ∃ k : Nat, k ≤ m ∧ e = .int .i64 k ∧ Hid (∀ i, k ≤ i → i < bs.length → blk (bs.getD i 0) = true)) (fun e => (intOf e).toNat)
        case atStart => exact ⟨m, Nat.le_refl _, rfl, fun i h1 h2 => by rw [HCL.out] at h2; omega⟩
        case round =>
          obtain ⟨e, he, rfl, hall⟩ := hrel
          have hstep : 0 < e → _ := fun h0 => trim_step hall.out h0 (by rw [HCL.out]; exact he)
          have HST := Lib.hid hstep
          clear hstep
          by_cases h0 : 0 < e
          · obtain ⟨b0, off0, rfl, hbw, hcl⟩ := HRB.out.cell (by intro e'; have := HCL.out; rw [e'] at this; simp at this; omega)
            have hce : wr.cell? ⟨b0, off0 + (e - 1), none⟩ = some (.int .u8 (bs.getD (e - 1) 0)) := hcl (e - 1) (by rw [HCL.out]; omega)
            have hdd := HBY.out.getD (e - 1)
            obtain ⟨HS1, HS2⟩ := HST.out h0
            have hbk : blk (bs.getD (e - 1) 0) = true ↔ bs.getD (e - 1) 0 = 32 ∨ bs.getD (e - 1) 0 = 9 ∨ bs.getD (e - 1) 0 = 13 := blk_iff
            have HS1 := Lib.hid HS1; have HS2 := Lib.hid HS2
            obtain ⟨f, rfl⟩ : ∃ f, e = f + 1 := ⟨e - 1, by omega⟩
            rw [show f + 1 - 1 = f from rfl] at *
            clear hcl HST hall
            generalize bs.getD f 0 = d at *
            by_cases hblk : blk d = true
            · have HX := Lib.hid (HS1.out hblk)
              have h3 := hbk.1 hblk
              clear hbk hblk HS1 HS2
              have hd1 : (d = 32) ∨ (d = 9) ∨ (d = 13) := h3
              rcases hd1 with rfl | rfl | rfl
              all_goals
                go_wp2
                go_round
                case rel => exact ⟨f, by omega, by go_num, HX.out⟩
                case measure => simp [intOf]
            · have hb32 : (d == 32) = false := beq_no (fun h => hblk (hbk.2 (.inl h)))
              have hb9 : (d == 9) = false := beq_no (fun h => hblk (hbk.2 (.inr (.inl h))))
              have hb13 : (d == 13) = false := beq_no (fun h => hblk (hbk.2 (.inr (.inr h))))
              have HTRIM := Lib.hid (HS2.out (by simpa using hblk))
              clear hbk hblk HS1 HS2 hdd
              have hbd : bad bs < bs.length ∨ bad bs = bs.length := by
                have := bad_le HBY.out
                omega
              have h34s : (⟨#[34]⟩ : ByteArray) = strOfNums [34] := by rfl
              have h47s : (⟨#[47, 47]⟩ : ByteArray) = strOfNums [47, 47] := by rfl
              have hsb : (strOfNums bs).size = m := by rw [strOfNums_size, HCL.out]
              have cv1 := run_conv (P := Tryd.prog) wr 22 9 5 Tryd.underlying22 Tryd.underlying5 Tryd.underlying9 HRB.out c
              rw [HCL.out] at cv1
              have hq1 : ⟨#[34]⟩ ++ strOfNums bs ++ ⟨#[34]⟩ = strOfNums (34 :: (bs ++ [34])) := by
                rw [h34s, str_add, str_add]; rfl
              have hq2 : ⟨#[47, 47]⟩ ++ strOfNums bs = strOfNums (47 :: 47 :: bs) := by
                rw [h47s, str_add]; rfl
              have hz1' : (strOfNums (34 :: (bs ++ [34]))).size = m + 2 := by rw [strOfNums_size]; simp [HCL.out]
              have hz2' : (strOfNums (47 :: 47 :: bs)).size = m + 2 := by rw [strOfNums_size]; simp [HCL.out]
              have hB1 : Byt (34 :: (bs ++ [34])) := byt_cons (by omega) (HBY.out.append (fun x hx => by simp at hx; omega))
              have hB2 : Byt (47 :: 47 :: bs) := byt_cons (by omega) (byt_cons (by omega) HBY.out)
              obtain ⟨c1, W1, cw1, hcc1, hcc2, hbW1, hrb1⟩ := conv_str wr (⟨#[34]⟩ ++ strOfNums bs ++ ⟨#[34]⟩) (by rw [hq1, hz1']; unfold maxLen; omega)
              have hsz1 : (⟨#[34]⟩ ++ strOfNums bs ++ ⟨#[34]⟩ : ByteArray).size = m + 2 := by rw [hq1, hz1']
              rw [hsz1] at cw1 hcc1
              rw [hq1, strOfNums_inj (nums_byt _) hB1 (str_nums _)] at hrb1
              have HTOK := Lib.hid (tokens_any _ (m + 2) c1 _ W1 _ hrb1 (Nat.le_refl _) (by simp [HCL.out]) hcc1 hcc2 (by omega) (HT.out.below (hbel.out.trans (hbW1.mono hbel.out.size)) HT.out.pos))
              have HBW := Lib.hid hbW1
              have HZS : Hid ((⟨#[34]⟩ ++ strOfNums bs : ByteArray).size = m + 1) := by
                show _ = _
                rw [h34s, str_add, strOfNums_size]; simp [HCL.out]
              have hp1 : ¬ 9223372036854775807 < 1 + (strOfNums bs).size := by omega
              have hp2 : ¬ 9223372036854775807 < (⟨#[34]⟩ ++ strOfNums bs : ByteArray).size + 1 := by rw [HZS.out]; omega
              have hp3 : ¬ 9223372036854775807 < 2 + (strOfNums bs).size := by omega
              have HQ1 := Lib.hid hq1; have HQ2 := Lib.hid hq2; have HZ1 := Lib.hid hz1'; have HZ2 := Lib.hid hz2'; have HB2Y := Lib.hid hB2; have H47 := Lib.hid h47s
              clear h34s h47s hq1 hq2 hz1' hz2' hB1 hB2 hsz1 hrb1 hcc1 hcc2 hbW1 hsb
              go_wp2_with fail
              refine HTOK.out.mono ?_
              rintro e w1 ⟨v1, rfl, ho1, hb1⟩
              have HBR := Lib.hid (HBW.out.trans (hb1.mono HBW.out.size))
              have HBE := Lib.hid (hbel.out.trans (HBR.out.mono hbel.out.size))
              have HO1 := Lib.hid ho1
              clear ho1 hb1 cv1 cw1 hp1 hp2
              have cv2 := run_conv (P := Tryd.prog) w1 22 9 5 Tryd.underlying22 Tryd.underlying5 Tryd.underlying9 (HRB.out.below HBR.out (Nat.le_refl _)) c
              rw [HCL.out] at cv2
              obtain ⟨c2, W2, cw2, hcc1, hcc2, hbW2, hrb2⟩ := conv_str w1 (⟨#[47, 47]⟩ ++ strOfNums bs) (by rw [HQ2.out, HZ2.out]; unfold maxLen; omega)
              have hsz2 : (⟨#[47, 47]⟩ ++ strOfNums bs : ByteArray).size = m + 2 := by rw [HQ2.out, HZ2.out]
              rw [hsz2] at cw2 hcc1
              rw [HQ2.out, strOfNums_inj (nums_byt _) HB2Y.out (str_nums _)] at hrb2
              have HTOK2 := Lib.hid (tokens_any _ (m + 2) c2 _ W2 _ hrb2 (Nat.le_refl _) (by simp [HCL.out]) hcc1 hcc2 (by omega) (HT.out.below (HBE.out.trans (hbW2.mono HBE.out.size)) HT.out.pos))
              have HBW2 := Lib.hid hbW2
              clear hsz2 hcc1 hcc2 hrb2 hbW2
              go_wp2_with fail
              refine HTOK2.out.mono ?_
              rintro e w2 ⟨v2, rfl, ho2, hb2⟩
              have HB12 := Lib.hid (HBW2.out.trans (hb2.mono HBW2.out.size))
              have HBF := Lib.hid (HBE.out.trans (HB12.out.mono HBE.out.size))
              have HO2 := Lib.hid ho2
              clear ho2 hb2 cv2 cw2 hp3
              have HKN := Lib.hid (fun (W : World) (hW : Below w2.heap.size w2 W) => (known_any W (HT.out.below (HBF.out.trans (hW.mono HBF.out.size)) HT.out.pos)).mono fun e w' h => (⟨h.1, hW.trans (h.2.mono hW.size)⟩ : e = .returned (.bool true) ∧ Below w2.heap.size w2 w'))
              rcases hbd with hbad | hgood
              · obtain ⟨a1, a2, a3, a4⟩ := str_bad HBY.out hbad
                obtain ⟨x, hx, hx1⟩ : ∃ x : Int, ((1 + bad bs : Nat) : Int) = x ∧ 1 ≤ x ∧ x ≤ 3000 := ⟨_, rfl, by have := HCL.out; omega⟩
                rw [a1, a2, a3, a4, show ((2 + bad bs : Nat) : Int) = x + 1 by omega, hx]
                clear hx a1 a2 a3 a4 hbad
                obtain ⟨hx1, hx2⟩ := hx1
                go_wp2_with fail
                refine (HKN.out _ (Below.refl _ _)).mono ?_
                rintro e w3 ⟨rfl, hb3⟩
                have HB3 := Lib.hid (HBF.out.trans (hb3.mono HBF.out.size))
                clear hb3
                go_wp2_with fail
                go_ret
                exact ⟨rfl, HB3.out⟩
              · obtain ⟨a1, a2⟩ := str_lex HBY.out HCA.out hgood
                obtain ⟨a3, a4⟩ := rem_lex HBY.out HCA.out hgood
                have ho1 := HO1.out; have ho2 := HO2.out
                rw [a2] at ho1; rw [a4, HTRIM.out] at ho2
                obtain ⟨q1, d1, e1, _, _, hr1⟩ := ownT_rt ho1
                obtain ⟨q2, d2, e2, _, _, hr2⟩ := ownT_rt ho2
                change v1 = .slice q1 2 d1 at e1
                change v2 = .slice q2 1 d2 at e2
                subst e1; subst e2
                rw [a1, a3]
                obtain ⟨b1, rfl, hbb1, hcell1⟩ := (hr1.below HB12.out (Nat.le_refl _)).at_ (by simp)
                obtain ⟨b2, rfl, hbb2, hcell2⟩ := hr2.at_ (by simp)
                have d0 : w2.cell? ⟨b1, 0, none⟩ = some (.int .i64 3) := hcell1 0 _ rfl 0 _ rfl
                have d1' : w2.cell? ⟨b1, 1, none⟩ = some (.string (strOfNums (34 :: (bs ++ [34])))) := hcell1 0 _ rfl 1 _ rfl
                have d4 : w2.cell? ⟨b1, 4, none⟩ = some (.int .i64 6) := hcell1 1 _ rfl 0 _ rfl
                have g0 : w2.cell? ⟨b2, 0, none⟩ = some (.int .i64 5) := hcell2 0 _ rfl 0 _ rfl
                have g1 : w2.cell? ⟨b2, 1, none⟩ = some (.string (strOfNums (47 :: 47 :: bs.take (f + 1)))) := hcell2 0 _ rfl 1 _ rfl
                have hbb1' : b1 < w2.heap.size := by have := HB12.out.size; omega
                have KQ := Lib.hid (fun (W : World) (hW : Below w2.heap.size w2 W) => (⟨(hW.cell hbb1').trans d0, (hW.cell hbb1').trans d1', (hW.cell hbb1').trans d4, (hW.cell hbb2).trans g0, (hW.cell hbb2).trans g1, hW⟩ : W.cell? ⟨b1, 0, none⟩ = some (.int .i64 3) ∧ W.cell? ⟨b1, 1, none⟩ = some (.string (strOfNums (34 :: (bs ++ [34])))) ∧ W.cell? ⟨b1, 4, none⟩ = some (.int .i64 6) ∧ W.cell? ⟨b2, 0, none⟩ = some (.int .i64 5) ∧ W.cell? ⟨b2, 1, none⟩ = some (.string (strOfNums (47 :: 47 :: bs.take (f + 1)))) ∧ Below w2.heap.size w2 W))
                have CV3 : ∀ W, Below w2.heap.size w2 W → (convert 22 9 (.slice (some ⟨b0, off0, none⟩) (f + 1) c)).run Tryd.prog W = .ok (.string (strOfNums (bs.take (f + 1)))) W := fun W hW => by
                  have := run_conv (P := Tryd.prog) W 22 9 5 Tryd.underlying22 Tryd.underlying5 Tryd.underlying9 (((HRB.out.below (HBR.out.trans (HB12.out.mono HBR.out.size)) (Nat.le_refl _)).below hW (by have := HBR.out.size; have := HB12.out.size; omega)).take (f + 1)) c
                  rw [List.length_take, HCL.out, Nat.min_eq_left he] at this
                  exact this
                have hs1 : (strOfNums (34 :: (bs ++ [34]))).size = m + 2 := HZ1.out
                have hq3 : ((strOfNums (47 :: 47 :: bs.take (f + 1))).toList == (⟨#[47, 47]⟩ ++ strOfNums (bs.take (f + 1))).toList) = true := by
                  rw [H47.out, str_add]; simp
                have hp4 : ¬ 9223372036854775807 < 2 + (strOfNums (bs.take (f + 1))).size := by
                  rw [strOfNums_size, List.length_take]; omega
                have hec : ((f + 1 : Nat) : Int) ≤ (c : Int) := by omega
                have hec0 : (0 : Int) ≤ ((f + 1 : Nat) : Int) := by omega
                have hec1 : (f : Int) + 1 ≤ (c : Int) := by omega
                have hec2 : (0 : Int) ≤ (f : Int) + 1 := by omega
                clear hcell1 hcell2 hr1 hr2 ho1 ho2 a1 a2 a3 a4 d0 d1' d4 g0 g1 hgood HZ1 HZ2 HO1 HO2 HTOK HTOK2 HQ1 HQ2 HZS HB2Y H47
                generalize strOfNums (34 :: (bs ++ [34])) = s1 at *
                generalize strOfNums (47 :: 47 :: bs.take (f + 1)) = s2 at *
                generalize strOfNums (bs.take (f + 1)) = s3 at *
                have hs1' : (s1.size : Int) = (m : Int) + 2 := by rw [hs1]; omega
                have hwm : IntKind.i64.wrap ((m : Int) + 2) = (m : Int) + 2 := by rw [IntKind.wrap_i64]; omega
                clear hs1
                obtain ⟨k0, k1, k2, k3, k4, _⟩ := KQ.out w2 (Below.refl _ _)
                go_wp2
                go_region_held_law (fun W => W.cell? ⟨b1, 0, none⟩ = some (.int .i64 3) ∧ W.cell? ⟨b1, 1, none⟩ = some (.string s1) ∧ W.cell? ⟨b1, 4, none⟩ = some (.int .i64 6) ∧ W.cell? ⟨b2, 0, none⟩ = some (.int .i64 5) ∧ W.cell? ⟨b2, 1, none⟩ = some (.string s2) ∧ Below w2.heap.size w2 W) (first | assumption | exact KQ.out _ (by assumption) | exact KQ.out _ (Below.refl _ _) | exact KQ.out _ (Below.refl _ _).drew) (first | (go_at_call 11; refine (HKN.out _ (by first | assumption | exact Below.refl _ _ | exact (Below.refl _ _).drew)).mono ?_; rintro e w3 ⟨rfl, hb3⟩))
                all_goals
                  go_wp2
                  go_ret
                  first | exact ⟨rfl, HBF.out.trans (hb3.mono HBF.out.size)⟩ | exact ⟨rfl, (HBF.out.trans (hb3.mono HBF.out.size)).drew⟩
          · have HTRIM : Hid (trimL bs = e) := by
              obtain rfl : e = 0 := by omega
              exact trimL_is bs 0 (Nat.zero_le _) (fun h => absurd h (by omega)) hall.out
            clear HST hall
            obtain rfl : e = 0 := by omega
            have hbd : bad bs < bs.length ∨ bad bs = bs.length := by
              have := bad_le HBY.out
              omega
            have h34s : (⟨#[34]⟩ : ByteArray) = strOfNums [34] := by rfl
            have h47s : (⟨#[47, 47]⟩ : ByteArray) = strOfNums [47, 47] := by rfl
            have hsb : (strOfNums bs).size = m := by rw [strOfNums_size, HCL.out]
            have cv1 := run_conv (P := Tryd.prog) wr 22 9 5 Tryd.underlying22 Tryd.underlying5 Tryd.underlying9 HRB.out c
            rw [HCL.out] at cv1
            have hq1 : ⟨#[34]⟩ ++ strOfNums bs ++ ⟨#[34]⟩ = strOfNums (34 :: (bs ++ [34])) := by
              rw [h34s, str_add, str_add]; rfl
            have hq2 : ⟨#[47, 47]⟩ ++ strOfNums bs = strOfNums (47 :: 47 :: bs) := by
              rw [h47s, str_add]; rfl
            have hz1' : (strOfNums (34 :: (bs ++ [34]))).size = m + 2 := by rw [strOfNums_size]; simp [HCL.out]
            have hz2' : (strOfNums (47 :: 47 :: bs)).size = m + 2 := by rw [strOfNums_size]; simp [HCL.out]
            have hB1 : Byt (34 :: (bs ++ [34])) := byt_cons (by omega) (HBY.out.append (fun x hx => by simp at hx; omega))
            have hB2 : Byt (47 :: 47 :: bs) := byt_cons (by omega) (byt_cons (by omega) HBY.out)
            obtain ⟨c1, W1, cw1, hcc1, hcc2, hbW1, hrb1⟩ := conv_str wr (⟨#[34]⟩ ++ strOfNums bs ++ ⟨#[34]⟩) (by rw [hq1, hz1']; unfold maxLen; omega)
            have hsz1 : (⟨#[34]⟩ ++ strOfNums bs ++ ⟨#[34]⟩ : ByteArray).size = m + 2 := by rw [hq1, hz1']
            rw [hsz1] at cw1 hcc1
            rw [hq1, strOfNums_inj (nums_byt _) hB1 (str_nums _)] at hrb1
            have HTOK := Lib.hid (tokens_any _ (m + 2) c1 _ W1 _ hrb1 (Nat.le_refl _) (by simp [HCL.out]) hcc1 hcc2 (by omega) (HT.out.below (hbel.out.trans (hbW1.mono hbel.out.size)) HT.out.pos))
            have HBW := Lib.hid hbW1
            have HZS : Hid ((⟨#[34]⟩ ++ strOfNums bs : ByteArray).size = m + 1) := by
              show _ = _
              rw [h34s, str_add, strOfNums_size]; simp [HCL.out]
            have hp1 : ¬ 9223372036854775807 < 1 + (strOfNums bs).size := by omega
            have hp2 : ¬ 9223372036854775807 < (⟨#[34]⟩ ++ strOfNums bs : ByteArray).size + 1 := by rw [HZS.out]; omega
            have hp3 : ¬ 9223372036854775807 < 2 + (strOfNums bs).size := by omega
            have HQ1 := Lib.hid hq1; have HQ2 := Lib.hid hq2; have HZ1 := Lib.hid hz1'; have HZ2 := Lib.hid hz2'; have HB2Y := Lib.hid hB2; have H47 := Lib.hid h47s
            clear h34s h47s hq1 hq2 hz1' hz2' hB1 hB2 hsz1 hrb1 hcc1 hcc2 hbW1 hsb
            go_wp2_with fail
            refine HTOK.out.mono ?_
            rintro e w1 ⟨v1, rfl, ho1, hb1⟩
            have HBR := Lib.hid (HBW.out.trans (hb1.mono HBW.out.size))
            have HBE := Lib.hid (hbel.out.trans (HBR.out.mono hbel.out.size))
            have HO1 := Lib.hid ho1
            clear ho1 hb1 cv1 cw1 hp1 hp2
            have cv2 := run_conv (P := Tryd.prog) w1 22 9 5 Tryd.underlying22 Tryd.underlying5 Tryd.underlying9 (HRB.out.below HBR.out (Nat.le_refl _)) c
            rw [HCL.out] at cv2
            obtain ⟨c2, W2, cw2, hcc1, hcc2, hbW2, hrb2⟩ := conv_str w1 (⟨#[47, 47]⟩ ++ strOfNums bs) (by rw [HQ2.out, HZ2.out]; unfold maxLen; omega)
            have hsz2 : (⟨#[47, 47]⟩ ++ strOfNums bs : ByteArray).size = m + 2 := by rw [HQ2.out, HZ2.out]
            rw [hsz2] at cw2 hcc1
            rw [HQ2.out, strOfNums_inj (nums_byt _) HB2Y.out (str_nums _)] at hrb2
            have HTOK2 := Lib.hid (tokens_any _ (m + 2) c2 _ W2 _ hrb2 (Nat.le_refl _) (by simp [HCL.out]) hcc1 hcc2 (by omega) (HT.out.below (HBE.out.trans (hbW2.mono HBE.out.size)) HT.out.pos))
            have HBW2 := Lib.hid hbW2
            clear hsz2 hcc1 hcc2 hrb2 hbW2
            go_wp2_with fail
            refine HTOK2.out.mono ?_
            rintro e w2 ⟨v2, rfl, ho2, hb2⟩
            have HB12 := Lib.hid (HBW2.out.trans (hb2.mono HBW2.out.size))
            have HBF := Lib.hid (HBE.out.trans (HB12.out.mono HBE.out.size))
            have HO2 := Lib.hid ho2
            clear ho2 hb2 cv2 cw2 hp3
            have HKN := Lib.hid (fun (W : World) (hW : Below w2.heap.size w2 W) => (known_any W (HT.out.below (HBF.out.trans (hW.mono HBF.out.size)) HT.out.pos)).mono fun e w' h => (⟨h.1, hW.trans (h.2.mono hW.size)⟩ : e = .returned (.bool true) ∧ Below w2.heap.size w2 w'))
            rcases hbd with hbad | hgood
            · obtain ⟨a1, a2, a3, a4⟩ := str_bad HBY.out hbad
              obtain ⟨x, hx, hx1⟩ : ∃ x : Int, ((1 + bad bs : Nat) : Int) = x ∧ 1 ≤ x ∧ x ≤ 3000 := ⟨_, rfl, by have := HCL.out; omega⟩
              rw [a1, a2, a3, a4, show ((2 + bad bs : Nat) : Int) = x + 1 by omega, hx]
              clear hx a1 a2 a3 a4 hbad
              obtain ⟨hx1, hx2⟩ := hx1
              go_wp2_with fail
              refine (HKN.out _ (Below.refl _ _)).mono ?_
              rintro e w3 ⟨rfl, hb3⟩
              have HB3 := Lib.hid (HBF.out.trans (hb3.mono HBF.out.size))
              clear hb3
              go_wp2_with fail
              go_ret
              exact ⟨rfl, HB3.out⟩
            · obtain ⟨a1, a2⟩ := str_lex HBY.out HCA.out hgood
              obtain ⟨a3, a4⟩ := rem_lex HBY.out HCA.out hgood
              have ho1 := HO1.out; have ho2 := HO2.out
              rw [a2] at ho1; rw [a4, HTRIM.out] at ho2
              obtain ⟨q1, d1, e1, _, _, hr1⟩ := ownT_rt ho1
              obtain ⟨q2, d2, e2, _, _, hr2⟩ := ownT_rt ho2
              change v1 = .slice q1 2 d1 at e1
              change v2 = .slice q2 1 d2 at e2
              subst e1; subst e2
              rw [a1, a3]
              obtain ⟨b1, rfl, hbb1, hcell1⟩ := (hr1.below HB12.out (Nat.le_refl _)).at_ (by simp)
              obtain ⟨b2, rfl, hbb2, hcell2⟩ := hr2.at_ (by simp)
              have d0 : w2.cell? ⟨b1, 0, none⟩ = some (.int .i64 3) := hcell1 0 _ rfl 0 _ rfl
              have d1' : w2.cell? ⟨b1, 1, none⟩ = some (.string (strOfNums (34 :: (bs ++ [34])))) := hcell1 0 _ rfl 1 _ rfl
              have d4 : w2.cell? ⟨b1, 4, none⟩ = some (.int .i64 6) := hcell1 1 _ rfl 0 _ rfl
              have g0 : w2.cell? ⟨b2, 0, none⟩ = some (.int .i64 5) := hcell2 0 _ rfl 0 _ rfl
              have g1 : w2.cell? ⟨b2, 1, none⟩ = some (.string (strOfNums (47 :: 47 :: bs.take (0)))) := hcell2 0 _ rfl 1 _ rfl
              have hbb1' : b1 < w2.heap.size := by have := HB12.out.size; omega
              have KQ := Lib.hid (fun (W : World) (hW : Below w2.heap.size w2 W) => (⟨(hW.cell hbb1').trans d0, (hW.cell hbb1').trans d1', (hW.cell hbb1').trans d4, (hW.cell hbb2).trans g0, (hW.cell hbb2).trans g1, hW⟩ : W.cell? ⟨b1, 0, none⟩ = some (.int .i64 3) ∧ W.cell? ⟨b1, 1, none⟩ = some (.string (strOfNums (34 :: (bs ++ [34])))) ∧ W.cell? ⟨b1, 4, none⟩ = some (.int .i64 6) ∧ W.cell? ⟨b2, 0, none⟩ = some (.int .i64 5) ∧ W.cell? ⟨b2, 1, none⟩ = some (.string (strOfNums (47 :: 47 :: bs.take (0)))) ∧ Below w2.heap.size w2 W))
              have CV3 : ∀ W, Below w2.heap.size w2 W → (convert 22 9 (.slice a (0) c)).run Tryd.prog W = .ok (.string (strOfNums (bs.take (0)))) W := fun W hW => by
                have := run_conv (P := Tryd.prog) W 22 9 5 Tryd.underlying22 Tryd.underlying5 Tryd.underlying9 (((HRB.out.below (HBR.out.trans (HB12.out.mono HBR.out.size)) (Nat.le_refl _)).below hW (by have := HBR.out.size; have := HB12.out.size; omega)).take (0)) c
                rw [List.length_take, HCL.out, Nat.min_eq_left he] at this
                exact this
              have hs1 : (strOfNums (34 :: (bs ++ [34]))).size = m + 2 := HZ1.out
              have hq3 : ((strOfNums (47 :: 47 :: bs.take (0))).toList == (⟨#[47, 47]⟩ ++ strOfNums (bs.take (0))).toList) = true := by
                rw [H47.out, str_add]; simp
              have hp4 : ¬ 9223372036854775807 < 2 + (strOfNums (bs.take (0))).size := by
                rw [strOfNums_size, List.length_take]; omega
              have hec : ((0 : Nat) : Int) ≤ (c : Int) := by omega
              have hec0 : (0 : Int) ≤ ((0 : Nat) : Int) := by omega
              have hec1 : (0 : Int) ≤ (c : Int) := by omega
              clear hcell1 hcell2 hr1 hr2 ho1 ho2 a1 a2 a3 a4 d0 d1' d4 g0 g1 hgood HZ1 HZ2 HO1 HO2 HTOK HTOK2 HQ1 HQ2 HZS HB2Y H47
              generalize strOfNums (34 :: (bs ++ [34])) = s1 at *
              generalize strOfNums (47 :: 47 :: bs.take (0)) = s2 at *
              generalize strOfNums (bs.take (0)) = s3 at *
              have hs1' : (s1.size : Int) = (m : Int) + 2 := by rw [hs1]; omega
              have hwm : IntKind.i64.wrap ((m : Int) + 2) = (m : Int) + 2 := by rw [IntKind.wrap_i64]; omega
              clear hs1
              obtain ⟨k0, k1, k2, k3, k4, _⟩ := KQ.out w2 (Below.refl _ _)
              go_wp2
              go_region_held_law (fun W => W.cell? ⟨b1, 0, none⟩ = some (.int .i64 3) ∧ W.cell? ⟨b1, 1, none⟩ = some (.string s1) ∧ W.cell? ⟨b1, 4, none⟩ = some (.int .i64 6) ∧ W.cell? ⟨b2, 0, none⟩ = some (.int .i64 5) ∧ W.cell? ⟨b2, 1, none⟩ = some (.string s2) ∧ Below w2.heap.size w2 W) (first | assumption | exact KQ.out _ (by assumption) | exact KQ.out _ (Below.refl _ _) | exact KQ.out _ (Below.refl _ _).drew) (first | (go_at_call 11; refine (HKN.out _ (by first | assumption | exact Below.refl _ _ | exact (Below.refl _ _).drew)).mono ?_; rintro e w3 ⟨rfl, hb3⟩))
              all_goals
                go_wp2
                go_ret
                first | exact ⟨rfl, HBF.out.trans (hb3.mono HBF.out.size)⟩ | exact ⟨rfl, (HBF.out.trans (hb3.mono HBF.out.size)).drew⟩

theorem lexStrings_row (s : ByteArray) (hs : s.size ≤ maxLen) (w : World) (hT : Tab w) :
    Calls Tryd.prog 8 #[.string s] w fun e w' => e = .returned (.bool true) ∧ Below w.heap.size w w' := lexStrings_walk s w hs hT

end Go.Proofs.YtiadbagfajhjfaaDoor.Lex
