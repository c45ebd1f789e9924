/-
  Layer 8 (layout): the document's own layout (scarfref08). Written by gen_layref.py.
-/
import Derived.Test.YtpankfbdlakmcaaLayTools
namespace Go.Proofs.Ytpankfbdlakmcaa.Doc
open Go.ChangeShapes Go.WideShapes Go.ChangeAt Go.RowKit Mem
set_option linter.unusedVariables false

theorem drop_at {l : List Pc} {i : Nat} {p : Pc} (h : l[i]? = some p) : l.drop i = p :: l.drop (i + 1) := by
  obtain ⟨h1, h2⟩ := List.getElem?_eq_some_iff.1 h
  rw [List.drop_eq_getElem_cons h1, h2]
theorem fitB_cons (W d : Nat) (p : Pc) (l : List Pc) (c : Nat) : fitB W d (p :: l) c = if p.1 = 4 then false else if p.1 = 8 then (match d with | 0 => bhB W l c | d + 1 => fitB W d l c) else if p.1 = 7 then fitB W (d + 1) l c else fitB W d l (c + fwp p) := by cases d <;> rfl
/-- Where fits stands: ahead of the group's beginning, or within it, so deep. -/
def FS (Wd : Nat) (l : List Pc) (at_ col : Nat) (FQ : Bool) (i dp n : Nat) : Prop := (dp = 0 ∧ i = at_ ∧ n = col) ∨ (∃ d g, dp = d + 1 ∧ fitB Wd d (l.drop i) n = FQ ∧ dep 7 8 (g + d + 1) (l.drop i) = some 0)
section
variable {Wd : Nat} {l : List Pc} {at_ col : Nat} {FQ : Bool} {i dp n : Nat} {k : Int} {x : ByteArray}
theorem FS.txt (h : FS Wd l at_ col FQ i dp n) (hp : l[i]? = some ((1, x) : Pc)) (h7 : ∃ x, l[at_]? = some ((7, x) : Pc)) : 1 ≤ dp ∧ FS Wd l at_ col FQ (i + 1) dp (n + wd x) := by
  rcases h with ⟨_, rfl, _⟩ | ⟨d, g, rfl, h1, h2⟩
  · obtain ⟨y, h7⟩ := h7; rw [hp] at h7; cases h7
  · rw [drop_at hp] at h1 h2
    refine ⟨by omega, .inr ⟨d, g, rfl, ?_, ?_⟩⟩
    · rw [fitB_cons] at h1; exact h1
    · exact h2
theorem FS.lin (h : FS Wd l at_ col FQ i dp n) (hp : l[i]? = some ((2, x) : Pc)) (h7 : ∃ x, l[at_]? = some ((7, x) : Pc)) : 1 ≤ dp ∧ FS Wd l at_ col FQ (i + 1) dp (n + 1) := by
  rcases h with ⟨_, rfl, _⟩ | ⟨d, g, rfl, h1, h2⟩
  · obtain ⟨y, h7⟩ := h7; rw [hp] at h7; cases h7
  · rw [drop_at hp] at h1 h2
    refine ⟨by omega, .inr ⟨d, g, rfl, ?_, ?_⟩⟩
    · rw [fitB_cons] at h1; exact h1
    · exact h2
theorem FS.hard (h : FS Wd l at_ col FQ i dp n) (hp : l[i]? = some ((4, x) : Pc)) (h7 : ∃ x, l[at_]? = some ((7, x) : Pc)) : FQ = false := by
  rcases h with ⟨_, rfl, _⟩ | ⟨d, g, rfl, h1, h2⟩
  · obtain ⟨y, h7⟩ := h7; rw [hp] at h7; cases h7
  · rw [drop_at hp, fitB_cons] at h1; exact h1.symm
theorem FS.opn (h : FS Wd l at_ col FQ i dp n) (hp : l[i]? = some ((7, x) : Pc)) (h0 : fitB Wd 0 (l.drop (at_ + 1)) col = FQ) (hd : ∃ g, dep 7 8 (g + 1) (l.drop (at_ + 1)) = some 0) : FS Wd l at_ col FQ (i + 1) (dp + 1) n := by
  rcases h with ⟨rfl, rfl, rfl⟩ | ⟨d, g, rfl, h1, h2⟩
  · obtain ⟨g, hd⟩ := hd
    exact .inr ⟨0, g, rfl, h0, hd⟩
  · rw [drop_at hp] at h1 h2
    refine .inr ⟨d + 1, g, rfl, ?_, ?_⟩
    · rw [fitB_cons] at h1; exact h1
    · exact h2
theorem FS.cls (h : FS Wd l at_ col FQ i dp n) (hp : l[i]? = some ((8, x) : Pc)) (h7 : ∃ x, l[at_]? = some ((7, x) : Pc)) : 1 ≤ dp ∧ (dp = 1 → bhB Wd (l.drop (i + 1)) n = FQ) ∧ (dp ≠ 1 → FS Wd l at_ col FQ (i + 1) (dp - 1) n) := by
  rcases h with ⟨_, rfl, _⟩ | ⟨d, g, rfl, h1, h2⟩
  · obtain ⟨y, h7⟩ := h7; rw [hp] at h7; cases h7
  · rw [drop_at hp] at h1 h2
    refine ⟨by omega, fun e => ?_, fun e => ?_⟩
    · obtain rfl : d = 0 := by omega
      rw [fitB_cons] at h1; exact h1
    · obtain ⟨d, rfl⟩ : ∃ d', d = d' + 1 := ⟨d - 1, by omega⟩
      refine .inr ⟨d, g, by omega, ?_, ?_⟩
      · rw [fitB_cons] at h1; exact h1
      · exact h2
theorem FS.oth (h : FS Wd l at_ col FQ i dp n) (hp : l[i]? = some ((k, x) : Pc)) (h7 : ∃ x, l[at_]? = some ((7, x) : Pc)) (k1 : k ≠ 1) (k2 : k ≠ 2) (k4 : k ≠ 4) (k7 : k ≠ 7) (k8 : k ≠ 8) : 1 ≤ dp ∧ FS Wd l at_ col FQ (i + 1) dp n := by
  rcases h with ⟨_, rfl, _⟩ | ⟨d, g, rfl, h1, h2⟩
  · obtain ⟨y, h7⟩ := h7; rw [hp] at h7; injection h7 with h7; injection h7 with h7 _; exact absurd h7 k7
  · rw [drop_at hp] at h1 h2
    refine ⟨by omega, .inr ⟨d, g, rfl, ?_, ?_⟩⟩
    · rw [fitB_cons, if_neg k4, if_neg k8, if_neg k7, show fwp (k, x) = 0 by unfold fwp; rw [if_neg k1, if_neg k2, if_neg k4], Nat.add_zero] at h1; exact h1
    · unfold dep at h2; rw [if_neg k7, if_neg k8] at h2; exact h2
theorem FS.more (h : FS Wd l at_ col FQ l.length dp n) (ha : at_ < l.length) : False := by
  rcases h with ⟨_, h, _⟩ | ⟨d, g, rfl, h1, h2⟩
  · omega
  · rw [List.drop_eq_nil_of_le (Nat.le_refl _)] at h2
    simp only [dep, Option.some.injEq] at h2
    omega
end

set_option maxHeartbeats 8000000 in
set_option maxRecDepth 100000 in
theorem fits_any (a : Option Addr) (m C : Nat) (l : List Pc) (at_ col Wd : Nat) (w : World) (hm : l.length = m) (hmb : m ≤ 100000) (hmC : m ≤ C) (hr : RdP w a l) (hT : txL l ≤ 400000000) (hc : col ≤ 1000000000) (h7 : ∃ x, l[at_]? = some ((7, x) : Pc)) (hd : ∃ g, dep 7 8 (g + 1) (l.drop (at_ + 1)) = some 0) :
    Calls Try.prog 32 #[.slice a m C, .int .i64 (at_ : Int), .int .i64 (col : Int), .int .i64 (Wd : Int)] w fun e w' => e = .returned (.bool (fitB Wd 0 (l.drop (at_ + 1)) col)) ∧ w = w' := by
  have ha : at_ < m := by obtain ⟨x7, h7⟩ := h7; rw [← hm]; exact (List.getElem?_eq_some_iff.1 h7).1
  have HR := Lib.hid hr
  have HM := Lib.hid hm
  have HT := Lib.hid hT
  have H7 := Lib.hid h7
  have HD := Lib.hid hd
  obtain ⟨FQ, hFQ⟩ : ∃ FQ, fitB Wd 0 (l.drop (at_ + 1)) col = FQ := ⟨_, rfl⟩
  have HFQ := Lib.hid hFQ
  rw [hFQ]
  clear hr hm hT h7 hFQ hd
  go_enter Try.func32, Try.ntmps32
  go_wp2
  go_loopw [9, 10, 11] (fun s9 s10 s11 wr => ∃ (i dp n : Nat), s11 = .int .i64 (i : Int) ∧ s9 = .int .i64 (dp : Int) ∧ s10 = .int .i64 (n : Int) ∧ i ≤ m ∧ dp ≤ i ∧ Hid (n ≤ col + txL (l.take i) + i) ∧ wr = w ∧ Hid (FS Wd l at_ col FQ i dp n)) (fun _ _ s11 _ => m - (intOf s11).toNat)
  case atStart => exact ⟨at_, 0, col, rfl, rfl, rfl, by omega, by omega, (show col ≤ _ by omega), rfl, .inl ⟨rfl, rfl, rfl⟩⟩
  case round =>
    obtain ⟨i, dp, n, rfl, rfl, rfl, hi, hdp, hnb, rfl, hF⟩ := hrel
    by_cases hlt : i < m
    · obtain ⟨gp, op, p, rfl, hp, u0, u1⟩ := HR.out.at_ (i := i) (by rw [HM.out]; exact hlt)
      obtain ⟨k, x⟩ := p
      dsimp only at u0 u1
      have hlt1 : (i : Int) < (m : Int) := by omega
      have hlt0 : (0 : Int) ≤ (i : Int) := by omega
      have hwi : IntKind.i64.wrap ((i : Int) + 1) = (i : Int) + 1 := by rw [IntKind.wrap_i64]; omega
      have HTK := Lib.hid (txL_take hp)
      have hxl := txL_mem (List.mem_of_getElem? hp)
      have htl := txL_take_le l i
      have hTo := HT.out
      have hno := hnb.out
      have hn2 : n ≤ 1500000000 := by omega
      have hx2 : x.size ≤ 400000000 := by have h : x.size ≤ txL l := hxl; omega
      have HP := Lib.hid hp
      clear hxl htl hTo hno hp
      by_cases k1 : k = 1
      · subst k1
        obtain ⟨hdp1, hF2⟩ := hF.out.txt HP.out H7.out
        have hdz : ((dp : Int) == 0) = false := by simp; omega
        have hwl := wd_le x
        have HW := Lib.hid (refWidth_any x (by omega) wr)
        have HF2 := Lib.hid hF2
        obtain ⟨wx, hwx⟩ : ∃ wx, wd x = wx := ⟨_, rfl⟩
        rw [hwx] at HW HF2 hwl
        have hwn : IntKind.i64.wrap ((n : Int) + (wx : Int)) = (n : Int) + (wx : Int) := by rw [IntKind.wrap_i64]; omega
        have HNB : Hid (n + wx ≤ col + txL (l.take (i + 1)) + (i + 1)) := by show _ ≤ _; have := hnb.out; have e := HTK.out; dsimp only at e; omega
        clear hF hF2 hwx HTK
        go_wp2_with fail
        refine HW.out.mono ?_
        rintro e w2 ⟨rfl, rfl⟩
        go_wp2
        go_roundw
        case rel => exact ⟨i + 1, dp, n + wx, by go_num, rfl, by go_num, by omega, by omega, HNB, trivial, HF2⟩
        case measure => simp [intOf]; omega
      have b1 : (k == 1) = false := by simpa using k1
      by_cases k2 : k = 2
      · subst k2
        obtain ⟨hdp1, hF2⟩ := hF.out.lin HP.out H7.out
        have hdz : ((dp : Int) == 0) = false := by simp; omega
        have HF2 := Lib.hid hF2
        have hwn : IntKind.i64.wrap ((n : Int) + 1) = (n : Int) + 1 := by rw [IntKind.wrap_i64]; omega
        have HNB : Hid (n + 1 ≤ col + txL (l.take (i + 1)) + (i + 1)) := by show _ ≤ _; have := hnb.out; have e := HTK.out; dsimp only at e; omega
        clear hF hF2 HTK k1 b1
        go_wp2
        go_roundw
        case rel => exact ⟨i + 1, dp, n + 1, by go_num, rfl, by go_num, by omega, by omega, HNB, trivial, HF2⟩
        case measure => simp [intOf]; omega
      have b2 : (k == 2) = false := by simpa using k2
      by_cases k4 : k = 4
      · subst k4
        have HE : Hid (FQ = false) := hF.out.hard HP.out H7.out
        clear hF HTK k1 k2 b1 b2
        go_wp2
        go_ret
        refine ⟨?_, rfl⟩
        rw [HE.out]
        rfl
      have b4 : (k == 4) = false := by simpa using k4
      by_cases k7 : k = 7
      · subst k7
        have HF2 := Lib.hid (hF.out.opn HP.out HFQ.out HD.out)
        have hwd : IntKind.i64.wrap ((dp : Int) + 1) = (dp : Int) + 1 := by rw [IntKind.wrap_i64]; omega
        have hdz : ((dp : Int) + 1 == 0) = false := by simp; omega
        have HNB : Hid (n ≤ col + txL (l.take (i + 1)) + (i + 1)) := by show _ ≤ _; have := hnb.out; have e := HTK.out; dsimp only at e; omega
        clear hF HTK k1 k2 k4 b1 b2 b4
        go_wp2
        go_roundw
        case rel => exact ⟨i + 1, dp + 1, n, by go_num, by go_num, rfl, by omega, by omega, HNB, trivial, HF2⟩
        case measure => simp [intOf]; omega
      have b7 : (k == 7) = false := by simpa using k7
      by_cases k8 : k = 8
      · subst k8
        obtain ⟨hdp1, hF1, hF2⟩ := hF.out.cls HP.out H7.out
        obtain ⟨d, rfl⟩ : ∃ d, dp = d + 1 := ⟨dp - 1, by omega⟩
        have hwd : IntKind.i64.wrap (((d + 1 : Nat) : Int) - 1) = (d : Int) := by rw [IntKind.wrap_i64]; omega
        have HNB : Hid (n ≤ col + txL (l.take (i + 1)) + (i + 1)) := by show _ ≤ _; have := hnb.out; have e := HTK.out; dsimp only at e; omega
        have HX1 := Lib.hid hF1
        have HX2 := Lib.hid hF2
        obtain ⟨e1, he1⟩ : ∃ e1 : Int, ((d + 1 : Nat) : Int) = e1 := ⟨_, rfl⟩
        rw [he1] at hwd ⊢
        clear hF hF1 hF2 HTK k1 k2 k4 k7 b1 b2 b4 b7 he1
        by_cases hz : d = 0
        · subst hz
          have HB : Hid (bhB Wd (l.drop (i + 1)) n = FQ) := HX1.out rfl
          clear HX1 HX2
          go_wp2
          go_loopw [10, 11] (fun s10 s11 wr2 => ∃ (i n : Nat), s11 = .int .i64 (i : Int) ∧ s10 = .int .i64 (n : Int) ∧ i ≤ m ∧ Hid (n ≤ col + txL (l.take i) + i) ∧ wr2 = wr ∧ Hid (bhB Wd (l.drop i) n = FQ)) (fun _ s11 _ => m - (intOf s11).toNat)
          case atStart => exact ⟨i + 1, n, by go_num, rfl, by omega, HNB, rfl, HB⟩
          case round =>
            clear HB HNB hnb hlt hi hdp hn2 hx2 u0 u1 HP
            obtain ⟨i, n, rfl, rfl, hi, hnb, rfl, hB⟩ := hrel
            by_cases hlt : i < m
            · obtain ⟨gp2, op2, p, hA, hp, u0, u1⟩ := HR.out.at_ (i := i) (by rw [HM.out]; exact hlt)
              injection hA with hA
              injection hA with hA1 hA2
              subst hA1
              subst hA2
              obtain ⟨k, x⟩ := p
              dsimp only at u0 u1
              have hlt1 : (i : Int) < (m : Int) := by omega
              have hlt0 : (0 : Int) ≤ (i : Int) := by omega
              have hwi : IntKind.i64.wrap ((i : Int) + 1) = (i : Int) + 1 := by rw [IntKind.wrap_i64]; omega
              have HTK := Lib.hid (txL_take hp)
              have hxl := txL_mem (List.mem_of_getElem? hp)
              have htl := txL_take_le l i
              have hTo := HT.out
              have hno := hnb.out
              have hn2 : n ≤ 1500000000 := by omega
              have hx2 : x.size ≤ 400000000 := by have h : x.size ≤ txL l := hxl; omega
              have hB2 := hB.out
              rw [drop_at hp] at hB2
              clear hxl htl hTo hno hp
              by_cases k1 : k = 1
              · subst k1
                have hwl := wd_le x
                have HW := Lib.hid (refWidth_any x (by omega) wr)
                have HB2 : Hid (bhB Wd (l.drop (i + 1)) (n + wd x) = FQ) := hB2
                obtain ⟨wx, hwx⟩ : ∃ wx, wd x = wx := ⟨_, rfl⟩
                rw [hwx] at HW HB2 hwl
                have hwn : IntKind.i64.wrap ((n : Int) + (wx : Int)) = (n : Int) + (wx : Int) := by rw [IntKind.wrap_i64]; omega
                have HNB : Hid (n + wx ≤ col + txL (l.take (i + 1)) + (i + 1)) := by show _ ≤ _; have := hnb.out; have e := HTK.out; dsimp only at e; omega
                clear hB hB2 hwx HTK
                go_wp2_with fail
                refine HW.out.mono ?_
                rintro e w2 ⟨rfl, rfl⟩
                go_wp2
                go_roundw
                case rel => exact ⟨i + 1, n + wx, by go_num, by go_num, by omega, HNB, trivial, HB2⟩
                case measure => simp [intOf]; omega
              have b1 : (k == 1) = false := by simpa using k1
              by_cases hb : isB k = true
              · have HE : Hid (decide (n ≤ Wd) = FQ) := by
                  show _ = _
                  unfold bhB at hB2
                  rw [if_pos hb] at hB2
                  exact hB2
                have h2 : (2 : Int) ≤ k := by have := isB_iff.1 hb; omega
                have h4 : k ≤ 4 := by have := isB_iff.1 hb; omega
                clear hB hB2 HTK hb
                go_wp2
                go_ret
                refine ⟨?_, rfl⟩
                rw [← HE.out]
                rfl
              · have HB2 : Hid (bhB Wd (l.drop (i + 1)) n = FQ) := by
                  show _ = _
                  unfold bhB at hB2
                  rw [if_neg hb, show txtW (k, x) = 0 from if_neg k1, Nat.add_zero] at hB2
                  exact hB2
                have HNB : Hid (n ≤ col + txL (l.take (i + 1)) + (i + 1)) := by show _ ≤ _; have := hnb.out; have e := HTK.out; dsimp only at e; omega
                have hnb2 := isB_not.1 (by simpa using hb)
                by_cases h2 : (2 : Int) ≤ k
                · have h4 : ¬ k ≤ 4 := by omega
                  clear hB hB2 HTK hb hnb2
                  go_wp2
                  go_roundw
                  case rel => exact ⟨i + 1, n, by go_num, rfl, by omega, HNB, trivial, HB2⟩
                  case measure => simp [intOf]; omega
                · clear hB hB2 HTK hb hnb2
                  go_wp2
                  go_roundw
                  case rel => exact ⟨i + 1, n, by go_num, rfl, by omega, HNB, trivial, HB2⟩
                  case measure => simp [intOf]; omega
            · obtain rfl : i = m := by omega
              have hlt1 : ¬ (i : Int) < (i : Int) := by omega
              have HE : Hid (decide (n ≤ Wd) = FQ) := by
                have := hB.out
                rw [List.drop_eq_nil_of_le (by rw [HM.out]; exact Nat.le_refl _)] at this
                exact this
              clear hB
              go_wp2
              go_ret
              refine ⟨?_, rfl⟩
              rw [← HE.out]
              rfl
        · have hdz : ((d : Int) == 0) = false := by simp; omega
          have HF2 := Lib.hid (HX2.out (by omega))
          clear HX1 HX2
          go_wp2
          go_roundw
          case rel => exact ⟨i + 1, d, n, by go_num, rfl, rfl, by omega, by omega, HNB, trivial, HF2⟩
          case measure => simp [intOf]; omega
      have b8 : (k == 8) = false := by simpa using k8
      obtain ⟨hdp1, hF2⟩ := hF.out.oth HP.out H7.out k1 k2 k4 k7 k8
      have hdz : ((dp : Int) == 0) = false := by simp; omega
      have HF2 := Lib.hid hF2
      have HNB : Hid (n ≤ col + txL (l.take (i + 1)) + (i + 1)) := by show _ ≤ _; have := hnb.out; have e := HTK.out; dsimp only at e; omega
      clear hF hF2 HTK k1 k2 k4 k7 k8
      go_wp2
      go_roundw
      case rel => exact ⟨i + 1, dp, n, by go_num, rfl, rfl, by omega, by omega, HNB, trivial, HF2⟩
      case measure => simp [intOf]; omega
    · obtain rfl : i = m := by omega
      exact (FS.more (by rw [HM.out]; exact hF.out) (by rw [HM.out]; exact ha)).elim
/-- How many groups are open from the outermost flat one on, behind a piece. -/
def kfN (W : Nat) (p : Pc) (l : List Pc) (s : St) (kf : Nat) : Nat := if p.1 = 7 then (if 0 < kf ∨ fitB W 0 l s.c = true then kf + 1 else 0) else if p.1 = 8 then kf - 1 else kf
/-- Where the document's way stands: kf groups are open from the outermost flat one on. -/
structure RS (W : Nat) (l : List Pc) (i : Nat) (s : St) (kf : Nat) : Prop where
  op : Op s (l.drop i)
  bd : Bnd (txL (l.take i)) i s
  ma : mach W (l.drop i) s = mach W l St0
  fl : ∃ m, s.f = List.replicate kf true ++ List.replicate m false
  nh : nhd kf (l.drop i) = true
section
variable {W i kf : Nat} {l : List Pc} {s : St} {p : Pc}
theorem RS.isfl (h : RS W l i s kf) : s.fl = decide (0 < kf) := by
  obtain ⟨m, hf⟩ := h.fl
  unfold St.fl
  rw [hf]
  cases kf with
  | zero => cases m <;> rfl
  | succ k => rfl
theorem RS.start (hb : Bal l) : RS W l 0 St0 0 := ⟨Op.start hb, Bnd.start, rfl, ⟨0, rfl⟩, by cases h : l.drop 0 <;> rfl⟩
theorem nhd_cons (k : Nat) (p : Pc) (l : List Pc) : nhd (k + 1) (p :: l) = (!(p.1 == 4) && (if p.1 = 8 then nhd k l else if p.1 = 7 then nhd (k + 2) l else nhd (k + 1) l)) := rfl
theorem nhd_zero (l : List Pc) : nhd 0 l = true := by cases l <;> rfl
theorem stepf (q : Bool) (p : Pc) (s : St) : (stepD q p s).f = if p.1 = 7 then q :: s.f else if p.1 = 8 then s.f.tail else s.f := by
  unfold stepD
  by_cases h1 : p.1 = 1
  · rw [if_pos h1, if_neg (by omega), if_neg (by omega)]; rfl
  rw [if_neg h1]
  by_cases hb : isB p.1 = true
  · have := isB_iff.1 hb
    have e : (if p.1 = 7 then q :: s.f else if p.1 = 8 then s.f.tail else s.f) = s.f := by rw [if_neg (by omega), if_neg (by omega)]
    rw [if_pos hb, e]
    split
    · split <;> rfl
    · rfl
  rw [if_neg hb]
  by_cases h5 : p.1 = 5
  · rw [if_pos h5, if_neg (by omega), if_neg (by omega)]
  rw [if_neg h5]
  by_cases h6 : p.1 = 6
  · rw [if_pos h6, if_neg (by omega), if_neg (by omega)]
  rw [if_neg h6]
  split
  · rfl
  · split <;> rfl
theorem RS.next (h : RS W l i s kf) (hp : l[i]? = some p) (hi : i ≤ 10000) : RS W l (i + 1) (step W p (l.drop (i + 1)) s) (kfN W p (l.drop (i + 1)) s kf) := by
  have hop := h.op
  have hma := h.ma
  have hnh := h.nh
  rw [drop_at hp] at hop hma hnh
  obtain ⟨m, hf⟩ := h.fl
  refine ⟨(Op.next hop).1, ?_, hma, ?_, ?_⟩
  · rw [txL_take hp]; exact h.bd.stepD hi _ _
  · unfold step kfN
    rw [stepf, h.isfl, hf]
    by_cases h7 : p.1 = 7
    · rw [if_pos h7, if_pos h7]
      by_cases hk : 0 < kf
      · rw [if_pos (.inl hk)]
        exact ⟨m, by rw [decide_eq_true hk, List.replicate_succ]; rfl⟩
      · obtain rfl : kf = 0 := by omega
        by_cases hq : fitB W 0 (l.drop (i + 1)) s.c = true
        · rw [if_pos (.inr hq)]
          exact ⟨m, by rw [hq]; rfl⟩
        · rw [if_neg (by rintro (h | h); exact hk h; exact hq h)]
          exact ⟨m + 1, by rw [show fitB W 0 (l.drop (i + 1)) s.c = false by simpa using hq]; rfl⟩
    · rw [if_neg h7, if_neg h7]
      by_cases h8 : p.1 = 8
      · rw [if_pos h8, if_pos h8]
        cases kf with
        | zero =>
          cases m with
          | zero => exact ⟨0, rfl⟩
          | succ m => exact ⟨m, rfl⟩
        | succ k => exact ⟨m, rfl⟩
      · rw [if_neg h8, if_neg h8]
        exact ⟨m, rfl⟩
  · unfold kfN
    cases kf with
    | zero =>
      by_cases h7 : p.1 = 7
      · rw [if_pos h7]
        by_cases hq : fitB W 0 (l.drop (i + 1)) s.c = true
        · rw [if_pos (.inr hq)]; exact fit_nhd W _ 0 _ hq
        · rw [if_neg (by rintro (h | h); omega; exact hq h)]; exact nhd_zero _
      · rw [if_neg h7]
        split <;> exact nhd_zero _
    | succ k =>
      rw [nhd_cons] at hnh
      simp only [Bool.and_eq_true] at hnh
      have h2 := hnh.2
      by_cases h7 : p.1 = 7
      · rw [if_pos h7, if_pos (.inl (Nat.succ_pos k))]
        rw [if_neg (by omega), if_pos h7] at h2
        exact h2
      · rw [if_neg h7]
        by_cases h8 : p.1 = 8
        · rw [if_pos h8] at h2 ⊢; exact h2
        · rw [if_neg h8, if_neg h7] at h2
          rw [if_neg h8]; exact h2
theorem RS.hard (h : RS W l i s kf) (hp : l[i]? = some p) (h4 : p.1 = 4) : kf = 0 := by
  have hnh := h.nh
  rw [drop_at hp] at hnh
  cases kf with
  | zero => rfl
  | succ k =>
    rw [nhd_cons] at hnh
    simp [h4] at hnh
end

set_option maxHeartbeats 16000000 in
set_option maxRecDepth 100000 in
theorem refOf_good (a : Option Addr) (m C : Nat) (l : List Pc) (Wd : Int) (Wn : Nat) (w : World) (hWn : Wd = (Wn : Int)) (h1 : 1 ≤ Wn) (h2 : Wn ≤ 65535) (hm : l.length = m) (hmb : m ≤ 10000) (hmC : m ≤ C) (hr : RdP w a l) (hBal : Bal l) (hNe : Ne l) (hT : txL l ≤ 400000000) :
    Calls Try.prog 13 #[.slice a m C, .int .i64 Wd] w fun e w' => e = .returned (.tuple #[.string ⟨(layS Wn l).toArray⟩, .int .i64 0]) ∧ w = w' := by
  have HR := Lib.hid hr
  have HM := Lib.hid hm
  have HT := Lib.hid hT
  have HBAL := Lib.hid hBal
  have HNE := Lib.hid hNe
  have hg1 : ¬ Wd < 1 := by omega
  have hg2 : ¬ 65535 < Wd := by omega
  have HWN := Lib.hid hWn
  clear hr hm hT hBal hNe hWn h1 h2
  go_enter Try.func13, Try.ntmps13
  go_wp2
  go_loopw [6, 7, 8, 9, 10, 11] (fun s6 s7 s8 s9 s10 s11 wr => ∃ (i : Nat) (s : St) (kf : Nat) (y : ByteArray), i ≤ m ∧ s11 = .int .i64 (i : Int) ∧ s6 = .string y ∧ Hid (y.data.toList = s.o) ∧ s7 = .int .i64 (s.c : Int) ∧ s8 = .int .i64 (s.n : Int) ∧ s9 = .int .i64 (s.t : Int) ∧ s10 = .int .i64 (kf : Int) ∧ wr = w ∧ Hid (RS Wn l i s kf)) (fun _ _ _ _ _ s11 _ => m - (intOf s11).toNat)
  case atStart => exact ⟨0, St0, 0, _, Nat.zero_le _, rfl, rfl, (show (ByteArray.mk #[]).data.toList = St0.o from rfl), rfl, rfl, rfl, rfl, rfl, RS.start HBAL.out⟩
  case round =>
    obtain ⟨i, s, kf, y, hi, rfl, rfl, hy, rfl, rfl, rfl, rfl, rfl, hRS⟩ := hrel
    by_cases hlt : i < m
    · obtain ⟨gp, op, p, rfl, hp, u0, u1⟩ := HR.out.at_ (i := i) (by rw [HM.out]; exact hlt)
      obtain ⟨k, x⟩ := p
      dsimp only at u0 u1
      have hlt1 : (i : Int) < (m : Int) := by omega
      have hlt0 : (0 : Int) ≤ (i : Int) := by omega
      have hwi : IntKind.i64.wrap ((i : Int) + 1) = (i : Int) + 1 := by rw [IntKind.wrap_i64]; omega
      have hil : i ≤ 10000 := by omega
      obtain ⟨e1, e2, e3, e4⟩ := hRS.out.bd
      have htx : txL (l.take i) ≤ 400000000 := Nat.le_trans (txL_take_le l i) HT.out
      have hxt : x.size ≤ 400000000 := Nat.le_trans (txL_mem (List.mem_of_getElem? hp)) HT.out
      have hn1 : s.n ≤ 10000 := by omega
      have ht1 : s.t ≤ 10000 := by omega
      have hc1 : s.c ≤ 1000000000 := by omega
      have ho1 : s.o.length ≤ 1000000000 := by omega
      have hys0 : y.size = s.o.length := by have := congrArg List.length hy.out; rw [Array.length_toList] at this; exact this
      have hyb : y.size ≤ 1000000000 := by omega
      have hkf : kf ≤ 10000 := by
        obtain ⟨mm, hf⟩ := hRS.out.fl
        have h2 := hRS.out.op.2
        have h3 := bst_len _ _ h2
        have h4 := bst_length_le (l.drop i)
        have h5 := congrArg List.length hf
        rw [List.length_append, List.length_replicate, List.length_replicate] at h5
        rw [List.length_drop, HM.out] at h4
        omega
      have HNX := Lib.hid (hRS.out.next hp hil)
      have HFL := Lib.hid hRS.out.isfl
      have HP := Lib.hid hp
      clear e1 e2 e3 e4 htx hys0
      by_cases k1 : k = 1
      · subst k1
        have hxn : (x.toList == []) = false := by have := HNE.out _ (List.mem_of_getElem? HP.out) rfl; simpa using this
        have hxn2 : (x.toList != []) = true := by have := HNE.out _ (List.mem_of_getElem? HP.out) rfl; simpa using this
        have hwl := wd_le x
        have HW := Lib.hid (refWidth_any x (by omega) wr)
        have HRS : Hid (RS Wn l (i + 1) (wrS x.data.toList (wd x) s) kf) := HNX.out
        obtain ⟨kw, hkw⟩ : ∃ kw, wd x = kw := ⟨_, rfl⟩
        rw [hkw] at HW HRS hwl
        have hwc : IntKind.i64.wrap ((s.c : Int) + (kw : Int)) = (s.c : Int) + (kw : Int) := by rw [IntKind.wrap_i64]; omega
        have HCN : Hid ((((s.c + kw : Nat)) : Int) = (s.c : Int) + (kw : Int)) := by show _ = _; omega
        clear hRS HNX HFL HP hkw
        go_wp2
        go_loopw [6, 9] (fun s6 s9 wr2 => ∃ (j : Nat) (z : Int) (y2 : ByteArray), j ≤ s.t ∧ s9 = .int .i64 z ∧ Hid (z = (s.t : Int) - (j : Int)) ∧ s6 = .string y2 ∧ Hid (y2.data.toList = s.o ++ List.replicate j 9) ∧ wr2 = wr) (fun _ s9 _ => (intOf s9).toNat)
        case atStart => exact ⟨0, _, y, Nat.zero_le _, rfl, (by show _ = _; omega), rfl, (by show _ = _; rw [List.replicate_zero, List.append_nil]; exact hy.out), rfl⟩
        case round =>
          obtain ⟨j, z, y2, hj, rfl, hz, rfl, hy2, rfl⟩ := hrel
          have hzo := hz.out
          have hys : y2.size = s.o.length + j := by have := congrArg List.length hy2.out; rw [Array.length_toList, List.length_append, List.length_replicate] at this; exact this
          by_cases hlt : j < s.t
          · have hz0 : (0 : Int) < z := by omega
            have hadd : ¬ 9223372036854775807 < y2.size + (ByteArray.mk #[9]).size := by have : (ByteArray.mk #[9]).size = 1 := rfl; omega
            have hwz : IntKind.i64.wrap (z - 1) = z - 1 := by rw [IntKind.wrap_i64]; omega
            have HY : Hid ((y2 ++ ByteArray.mk #[9]).data.toList = s.o ++ List.replicate (j + 1) 9) := by
              show _ = _
              rw [ByteArray.data_append, Array.toList_append, hy2.out, List.append_assoc, List.replicate_succ']
            have HZ2 : Hid (z - 1 = (s.t : Int) - ((j + 1 : Nat) : Int)) := by show _ = _; omega
            clear hzo hys hy2
            go_wp2
            go_roundw
            case rel => exact ⟨j + 1, z - 1, _, by omega, rfl, HZ2, rfl, HY, trivial⟩
            case measure => simp [intOf]; omega
          · obtain rfl : z = 0 := by omega
            obtain rfl : j = s.t := by omega
            have hadd : ¬ 9223372036854775807 < y2.size + x.size := by omega
            have HY : Hid ((y2 ++ x).data.toList = (wrS x.data.toList kw s).o) := by
              show _ = _
              rw [ByteArray.data_append, Array.toList_append, hy2.out]
              show _ = s.o ++ (List.replicate s.t 9 ++ x.data.toList)
              rw [List.append_assoc]
            clear hzo hys hy2 hz hj
            go_wp2_with fail
            refine HW.out.mono ?_
            rintro e w2 ⟨rfl, rfl⟩
            go_wp2
            go_roundw
            case rel => exact ⟨i + 1, wrS x.data.toList kw s, kf, _, by omega, by go_num, rfl, HY, by show _ = Value.int .i64 ((s.c + kw : Nat) : Int); rw [HCN.out], rfl, rfl, rfl, trivial, HRS⟩
            case measure => simp [intOf]; omega
      have b1 : (k == 1) = false := by simpa using k1
      by_cases k2 : k = 2
      · subst k2
        by_cases hk : 0 < kf
        · have hk' : (0 : Int) < (kf : Int) := by omega
          have hkz : ((kf : Int) == 0) = false := by simp; omega
          have HW : Hid (Calls Try.prog 16 #[.string (ByteArray.mk #[32])] wr fun e w' => e = .returned (.int .i64 (1 : Int)) ∧ wr = w') := refWidth_any ⟨#[32]⟩ (by decide) wr
          have HRS : Hid (RS Wn l (i + 1) (wrS (ByteArray.mk #[32]).data.toList 1 s) kf) := by
            have h := HNX.out
            have hs : step Wn (2, x) (l.drop (i + 1)) s = wrS [32] 1 s := by
              show (if s.fl then (if (2 : Int) = 2 then wrS [32] 1 s else s) else nlS s) = _
              rw [HFL.out, decide_eq_true hk]; rfl
            rw [hs] at h
            exact h
          have hwc : IntKind.i64.wrap ((s.c : Int) + 1) = (s.c : Int) + 1 := by rw [IntKind.wrap_i64]; omega
          have HCN : Hid ((((s.c + 1 : Nat)) : Int) = (s.c : Int) + 1) := by show _ = _; omega
          have hx1 : (ByteArray.mk #[32]).size = 1 := rfl
          clear hRS HNX HFL HP k1 b1
          go_wp2
          go_loopw [6, 9] (fun s6 s9 wr2 => ∃ (j : Nat) (z : Int) (y2 : ByteArray), j ≤ s.t ∧ s9 = .int .i64 z ∧ Hid (z = (s.t : Int) - (j : Int)) ∧ s6 = .string y2 ∧ Hid (y2.data.toList = s.o ++ List.replicate j 9) ∧ wr2 = wr) (fun _ s9 _ => (intOf s9).toNat)
          case atStart => exact ⟨0, _, y, Nat.zero_le _, rfl, (by show _ = _; omega), rfl, (by show _ = _; rw [List.replicate_zero, List.append_nil]; exact hy.out), rfl⟩
          case round =>
            obtain ⟨j, z, y2, hj, rfl, hz, rfl, hy2, rfl⟩ := hrel
            have hzo := hz.out
            have hys : y2.size = s.o.length + j := by have := congrArg List.length hy2.out; rw [Array.length_toList, List.length_append, List.length_replicate] at this; exact this
            by_cases hlt : j < s.t
            · have hz0 : (0 : Int) < z := by omega
              have hadd : ¬ 9223372036854775807 < y2.size + (ByteArray.mk #[9]).size := by have : (ByteArray.mk #[9]).size = 1 := rfl; omega
              have hwz : IntKind.i64.wrap (z - 1) = z - 1 := by rw [IntKind.wrap_i64]; omega
              have HY : Hid ((y2 ++ ByteArray.mk #[9]).data.toList = s.o ++ List.replicate (j + 1) 9) := by
                show _ = _
                rw [ByteArray.data_append, Array.toList_append, hy2.out, List.append_assoc, List.replicate_succ']
              have HZ2 : Hid (z - 1 = (s.t : Int) - ((j + 1 : Nat) : Int)) := by show _ = _; omega
              clear hzo hys hy2
              go_wp2
              go_roundw
              case rel => exact ⟨j + 1, z - 1, _, by omega, rfl, HZ2, rfl, HY, trivial⟩
              case measure => simp [intOf]; omega
            · obtain rfl : z = 0 := by omega
              obtain rfl : j = s.t := by omega
              have hadd : ¬ 9223372036854775807 < y2.size + (ByteArray.mk #[32]).size := by omega
              have HY : Hid ((y2 ++ (ByteArray.mk #[32])).data.toList = (wrS (ByteArray.mk #[32]).data.toList 1 s).o) := by
                show _ = _
                rw [ByteArray.data_append, Array.toList_append, hy2.out]
                show _ = s.o ++ (List.replicate s.t 9 ++ (ByteArray.mk #[32]).data.toList)
                rw [List.append_assoc]
              clear hzo hys hy2 hz hj
              go_wp2_with fail
              refine HW.out.mono ?_
              rintro e w2 ⟨rfl, rfl⟩
              go_wp2
              go_roundw
              case rel => exact ⟨i + 1, wrS (ByteArray.mk #[32]).data.toList 1 s, kf, _, by omega, by go_num, rfl, HY, by show _ = Value.int .i64 ((s.c + 1 : Nat) : Int); rw [HCN.out], rfl, rfl, rfl, trivial, HRS⟩
              case measure => simp [intOf]; omega
        · obtain rfl : kf = 0 := by omega
          have hkz : ((0 : Int) == 0) = true := rfl
          have HRS : Hid (RS Wn l (i + 1) (nlS s) 0) := by
            have h := HNX.out
            have hs : step Wn (2, x) (l.drop (i + 1)) s = nlS s := by
              show (if s.fl then (if (2 : Int) = 2 then wrS [32] 1 s else s) else nlS s) = _
              rw [HFL.out]; rfl
            rw [hs] at h
            exact h
          have hadd : ¬ 9223372036854775807 < y.size + (ByteArray.mk #[10]).size := by have : (ByteArray.mk #[10]).size = 1 := rfl; omega
          have HY : Hid ((y ++ ByteArray.mk #[10]).data.toList = (nlS s).o) := by
            show _ = s.o ++ [10]
            rw [ByteArray.data_append, Array.toList_append, hy.out]
          have HCN : Hid (((4 * s.n : Nat) : Int) = 4 * (s.n : Int)) := by show _ = _; omega
          have hwn : IntKind.i64.wrap (4 * (s.n : Int)) = 4 * (s.n : Int) := by rw [IntKind.wrap_i64]; omega
          clear hRS HNX HFL HP hy
          go_wp2
          go_roundw
          case rel => exact ⟨i + 1, nlS s, 0, _, by omega, by go_num, rfl, HY, by show _ = Value.int .i64 ((4 * s.n : Nat) : Int); rw [HCN.out], rfl, rfl, rfl, trivial, HRS⟩
          case measure => simp [intOf]; omega
      have b2 : (k == 2) = false := by simpa using k2
      by_cases k3 : k = 3
      · subst k3
        by_cases hk : 0 < kf
        · have hk' : (0 : Int) < (kf : Int) := by omega
          have hkz : ((kf : Int) == 0) = false := by simp; omega
          have HRS : Hid (RS Wn l (i + 1) s kf) := by
            have h := HNX.out
            have hs : step Wn (3, x) (l.drop (i + 1)) s = s := by
              show (if s.fl then (if (3 : Int) = 2 then wrS [32] 1 s else s) else nlS s) = _
              rw [HFL.out, decide_eq_true hk]; rfl
            rw [hs] at h
            exact h
          clear hRS HNX HFL HP k1 k2 b1 b2
          go_wp2
          go_roundw
          case rel => exact ⟨i + 1, s, kf, y, by omega, by go_num, rfl, hy, rfl, rfl, rfl, rfl, trivial, HRS⟩
          case measure => simp [intOf]; omega
        · obtain rfl : kf = 0 := by omega
          have hkz : ((0 : Int) == 0) = true := rfl
          have HRS : Hid (RS Wn l (i + 1) (nlS s) 0) := by
            have h := HNX.out
            have hs : step Wn (3, x) (l.drop (i + 1)) s = nlS s := by
              show (if s.fl then (if (3 : Int) = 2 then wrS [32] 1 s else s) else nlS s) = _
              rw [HFL.out]; rfl
            rw [hs] at h
            exact h
          have hadd : ¬ 9223372036854775807 < y.size + (ByteArray.mk #[10]).size := by have : (ByteArray.mk #[10]).size = 1 := rfl; omega
          have HY : Hid ((y ++ ByteArray.mk #[10]).data.toList = (nlS s).o) := by
            show _ = s.o ++ [10]
            rw [ByteArray.data_append, Array.toList_append, hy.out]
          have HCN : Hid (((4 * s.n : Nat) : Int) = 4 * (s.n : Int)) := by show _ = _; omega
          have hwn : IntKind.i64.wrap (4 * (s.n : Int)) = 4 * (s.n : Int) := by rw [IntKind.wrap_i64]; omega
          clear hRS HNX HFL HP hy
          go_wp2
          go_roundw
          case rel => exact ⟨i + 1, nlS s, 0, _, by omega, by go_num, rfl, HY, by show _ = Value.int .i64 ((4 * s.n : Nat) : Int); rw [HCN.out], rfl, rfl, rfl, trivial, HRS⟩
          case measure => simp [intOf]; omega
      have b3 : (k == 3) = false := by simpa using k3
      by_cases k4 : k = 4
      · subst k4
        obtain rfl : kf = 0 := hRS.out.hard HP.out rfl
        have hkz : ((0 : Int) == 0) = true := rfl
        have HRS : Hid (RS Wn l (i + 1) (nlS s) 0) := by
          have h := HNX.out
          have hs : step Wn (4, x) (l.drop (i + 1)) s = nlS s := by
            show (if s.fl then (if (4 : Int) = 2 then wrS [32] 1 s else s) else nlS s) = _
            rw [HFL.out]; rfl
          rw [hs] at h
          exact h
        have hadd : ¬ 9223372036854775807 < y.size + (ByteArray.mk #[10]).size := by have : (ByteArray.mk #[10]).size = 1 := rfl; omega
        have HY : Hid ((y ++ ByteArray.mk #[10]).data.toList = (nlS s).o) := by
          show _ = s.o ++ [10]
          rw [ByteArray.data_append, Array.toList_append, hy.out]
        have HCN : Hid (((4 * s.n : Nat) : Int) = 4 * (s.n : Int)) := by show _ = _; omega
        have hwn : IntKind.i64.wrap (4 * (s.n : Int)) = 4 * (s.n : Int) := by rw [IntKind.wrap_i64]; omega
        clear hRS HNX HFL HP hy
        go_wp2
        go_roundw
        case rel => exact ⟨i + 1, nlS s, 0, _, by omega, by go_num, rfl, HY, by show _ = Value.int .i64 ((4 * s.n : Nat) : Int); rw [HCN.out], rfl, rfl, rfl, trivial, HRS⟩
        case measure => simp [intOf]; omega
      have b4 : (k == 4) = false := by simpa using k4
      by_cases k5 : k = 5
      · subst k5
        have HRS : Hid (RS Wn l (i + 1) { s with n := s.n + 1 } kf) := HNX.out
        have hwn : IntKind.i64.wrap ((s.n : Int) + 1) = (s.n : Int) + 1 := by rw [IntKind.wrap_i64]; omega
        clear hRS HNX HFL HP k1 k2 k3 k4 b1 b2 b3 b4
        go_wp2
        go_roundw
        case rel => exact ⟨i + 1, { s with n := s.n + 1 }, kf, y, by omega, by go_num, rfl, hy, rfl, by go_num, rfl, rfl, trivial, HRS⟩
        case measure => simp [intOf]; omega
      have b5 : (k == 5) = false := by simpa using k5
      by_cases k6 : k = 6
      · subst k6
        have hn0 : 1 ≤ s.n := by
          have h := hRS.out.op
          rw [drop_at HP.out] at h
          exact (Op.next (q := true) h).2.1 rfl
        have HRS : Hid (RS Wn l (i + 1) { s with n := s.n - 1 } kf) := HNX.out
        have HNN : Hid (((s.n - 1 : Nat) : Int) = (s.n : Int) - 1) := by show _ = _; omega
        have hwn : IntKind.i64.wrap ((s.n : Int) - 1) = (s.n : Int) - 1 := by rw [IntKind.wrap_i64]; omega
        clear hRS HNX HFL HP k1 k2 k3 k4 k5 b1 b2 b3 b4 b5 hn0
        go_wp2
        go_roundw
        case rel => exact ⟨i + 1, { s with n := s.n - 1 }, kf, y, by omega, by go_num, rfl, hy, rfl, by rw [HNN.out], rfl, rfl, trivial, HRS⟩
        case measure => simp [intOf]; omega
      have b6 : (k == 6) = false := by simpa using k6
      by_cases k7 : k = 7
      · subst k7
        have hwk : IntKind.i64.wrap ((kf : Int) + 1) = (kf : Int) + 1 := by rw [IntKind.wrap_i64]; omega
        by_cases hk : 0 < kf
        · have hk' : (0 : Int) < (kf : Int) := by omega
          have HRS : Hid (RS Wn l (i + 1) { s with f := (s.fl || fitB Wn 0 (l.drop (i + 1)) s.c) :: s.f } (kf + 1)) := by
            have h := HNX.out
            unfold kfN at h
            rw [if_pos rfl, if_pos (.inl hk)] at h
            exact h
          clear hRS HNX HFL HP k1 k2 k3 k4 k5 k6 b1 b2 b3 b4 b5 b6
          go_wp2
          go_roundw
          case rel => exact ⟨i + 1, { s with f := (s.fl || fitB Wn 0 (l.drop (i + 1)) s.c) :: s.f }, kf + 1, y, by omega, by go_num, rfl, hy, rfl, rfl, rfl, by go_num, trivial, HRS⟩
          case measure => simp [intOf]; omega
        · obtain rfl : kf = 0 := by omega
          have HFI := Lib.hid (fits_any (some ⟨gp, op, none⟩) m C l i s.c Wn wr HM.out (by omega) hmC HR.out HT.out hc1 ⟨x, HP.out⟩ (by
            have h := hRS.out.op.2
            rw [drop_at HP.out] at h
            exact ⟨s.f.length, h⟩))
          rw [← HWN.out] at HFI
          obtain ⟨fq, hfq⟩ : ∃ fq, fitB Wn 0 (l.drop (i + 1)) s.c = fq := ⟨_, rfl⟩
          have HNX2 : Hid (RS Wn l (i + 1) { s with f := (s.fl || fitB Wn 0 (l.drop (i + 1)) s.c) :: s.f } (if fq = true then 1 else 0)) := by
            have h := HNX.out
            unfold kfN at h
            rw [if_pos rfl] at h
            have e : (if 0 < 0 ∨ fitB Wn 0 (l.drop (i + 1)) s.c = true then 0 + 1 else 0) = (if fq = true then 1 else 0) := by rw [hfq]; simp
            have h2 : RS Wn l (i + 1) { s with f := (s.fl || fitB Wn 0 (l.drop (i + 1)) s.c) :: s.f } (if 0 < 0 ∨ fitB Wn 0 (l.drop (i + 1)) s.c = true then 0 + 1 else 0) := h
            rw [e] at h2
            exact h2
          rw [hfq] at HFI HNX2
          clear hRS HNX HFL HP k1 k2 k3 k4 k5 k6 b1 b2 b3 b4 b5 b6 hfq
          go_wp2_with fail
          refine HFI.out.mono ?_
          rintro e w2 ⟨rfl, rfl⟩
          cases fq with
          | true =>
            have HRS : Hid (RS Wn l (i + 1) { s with f := (s.fl || true) :: s.f } 1) := HNX2.out
            clear HNX2 HFI
            go_wp2
            go_roundw
            case rel => exact ⟨i + 1, { s with f := (s.fl || true) :: s.f }, 1, y, by omega, by go_num, rfl, hy, rfl, rfl, rfl, by go_num, trivial, HRS⟩
            case measure => simp [intOf]; omega
          | false =>
            have HRS : Hid (RS Wn l (i + 1) { s with f := (s.fl || false) :: s.f } 0) := HNX2.out
            clear HNX2 HFI
            go_wp2
            go_roundw
            case rel => exact ⟨i + 1, { s with f := (s.fl || false) :: s.f }, 0, y, by omega, by go_num, rfl, hy, rfl, rfl, rfl, rfl, trivial, HRS⟩
            case measure => simp [intOf]; omega
      have b7 : (k == 7) = false := by simpa using k7
      by_cases k8 : k = 8
      · subst k8
        have HRS : Hid (RS Wn l (i + 1) { s with f := s.f.tail } (kf - 1)) := HNX.out
        by_cases hk : 0 < kf
        · have hk' : (0 : Int) < (kf : Int) := by omega
          have hwk : IntKind.i64.wrap ((kf : Int) - 1) = (kf : Int) - 1 := by rw [IntKind.wrap_i64]; omega
          have HKK : Hid (((kf - 1 : Nat) : Int) = (kf : Int) - 1) := by show _ = _; omega
          clear hRS HNX HFL HP k1 k2 k3 k4 k5 k6 k7 b1 b2 b3 b4 b5 b6 b7
          go_wp2
          go_roundw
          case rel => exact ⟨i + 1, { s with f := s.f.tail }, kf - 1, y, by omega, by go_num, rfl, hy, rfl, rfl, rfl, by rw [HKK.out], trivial, HRS⟩
          case measure => simp [intOf]; omega
        · obtain rfl : kf = 0 := by omega
          clear hRS HNX HFL HP k1 k2 k3 k4 k5 k6 k7 b1 b2 b3 b4 b5 b6 b7
          go_wp2
          go_roundw
          case rel => exact ⟨i + 1, { s with f := s.f.tail }, 0, y, by omega, by go_num, rfl, hy, rfl, rfl, rfl, rfl, trivial, HRS⟩
          case measure => simp [intOf]; omega
      have b8 : (k == 8) = false := by simpa using k8
      have HRS : Hid (RS Wn l (i + 1) s kf) := by
        have h := HNX.out
        have hb : isB k = false := isB_not.2 ⟨k2, k3, k4⟩
        have hs : step Wn (k, x) (l.drop (i + 1)) s = s := by
          unfold step stepD
          simp only [hb, k1, k5, k6, k7, k8, if_false, Bool.false_eq_true]
        have hkn : kfN Wn (k, x) (l.drop (i + 1)) s kf = kf := by unfold kfN; rw [if_neg k7, if_neg k8]
        rw [hs, hkn] at h
        exact h
      clear hRS HNX HFL HP k1 k2 k3 k4 k5 k6 k7 k8
      go_wp2
      go_roundw
      case rel => exact ⟨i + 1, s, kf, y, by omega, by go_num, rfl, hy, rfl, rfl, rfl, rfl, trivial, HRS⟩
      case measure => simp [intOf]; omega
    · obtain rfl : i = m := by omega
      have hlt1 : ¬ (i : Int) < (i : Int) := by omega
      have HFE : Hid (y = ⟨(layS Wn l).toArray⟩) := by
        show _ = _
        have hma := hRS.out.ma
        rw [List.drop_eq_nil_of_le (by rw [HM.out]; exact Nat.le_refl _)] at hma
        have h2 : s = mach Wn l St0 := hma
        unfold layS
        rw [← h2, ← hy.out]
      clear hRS hy
      go_wp2
      go_ret2
      refine ⟨?_, rfl⟩
      rw [← HFE.out]
      rfl
set_option maxRecDepth 100000 in
theorem refOf_bad (a : Option Addr) (m C : Nat) (l : List Pc) (Wd : Int) (w : World) (hbad : ¬ (1 ≤ Wd ∧ Wd ≤ 65535)) :
    Calls Try.prog 13 #[.slice a m C, .int .i64 Wd] w fun e w' => e = .returned (.tuple #[.string ⟨#[]⟩, .int .i64 1]) ∧ w = w' := by
  by_cases h1 : Wd < 1
  · clear hbad
    go_enter Try.func13, Try.ntmps13
    go_wp2
    go_ret2
    exact ⟨rfl, rfl⟩
  · have h2 : 65535 < Wd := by omega
    clear hbad
    go_enter Try.func13, Try.ntmps13
    go_wp2
    go_ret2
    exact ⟨rfl, rfl⟩
theorem refOf_any (a : Option Addr) (m C : Nat) (l : List Pc) (Wd : Int) (w : World) (hm : l.length = m) (hmb : m ≤ 10000) (hmC : m ≤ C) (hr : RdP w a l) (hBal : Bal l) (hNe : Ne l) (hT : txL l ≤ 400000000) :
    Calls Try.prog 13 #[.slice a m C, .int .i64 Wd] w fun e w' => e = .returned (.tuple #[.string (ofS Wd l), .int .i64 (ofE Wd)]) ∧ w = w' := by
  by_cases hw : 1 ≤ Wd ∧ Wd ≤ 65535
  · refine (refOf_good a m C l Wd Wd.toNat w (by omega) (by omega) (by omega) hm hmb hmC hr hBal hNe hT).mono ?_
    rintro e w' ⟨rfl, hb⟩
    exact ⟨by unfold ofS ofE; rw [if_pos hw, if_pos hw], hb⟩
  · refine (refOf_bad a m C l Wd w hw).mono ?_
    rintro e w' ⟨rfl, hb⟩
    exact ⟨by unfold ofS ofE; rw [if_neg hw, if_neg hw], hb⟩
end Go.Proofs.Ytpankfbdlakmcaa.Doc
