/-
  Layer 8 (layout): Of. Written by gen_layof.py.
-/
import Derived.Test.YtpankfbdlakmcaaLayNeeds
namespace Go.Proofs.Ytpankfbdlakmcaa.Doc
open Go.ChangeShapes Go.WideShapes Go.ChangeAt Go.RowKit Mem
set_option linter.unusedVariables false

theorem stepD_irrel {p : Pc} (h : p.1 ≠ 7) (q q' : Bool) (s : St) : stepD q p s = stepD q' p s := by
  unfold stepD
  simp only [if_neg h]
theorem step_is {Wn : Nat} (hW : Wn ≤ 65535) (p : Pc) (l : List Pc) (s : St) (nd : Nat) (hn : nd = if p.1 = 7 then gwp 0 l else 0) : stepD (s.fl || decide ((s.c : Int) + (nd : Int) ≤ (Wn : Int))) p s = step Wn p l s := by
  unfold step
  by_cases h7 : p.1 = 7
  · rw [if_pos h7] at hn
    rw [fitB_is hW, ← hn]
    congr 2
    exact decide_eq_decide.2 (by omega)
  · exact stepD_irrel h7 _ _ s
/-- What is open in the machine. -/
def Op (s : St) (l : List Pc) : Prop := dep 5 6 s.n l = some 0 ∧ dep 7 8 s.f.length l = some 0
theorem Op.start {l : List Pc} (h : Bal l) : Op St0 l := h 0
theorem Op.next {q : Bool} {s : St} {p : Pc} {l : List Pc} (h : Op s (p :: l)) : Op (stepD q p s) l ∧ (p.1 = 6 → 1 ≤ s.n) ∧ (p.1 = 8 → s.f ≠ []) := by
  obtain ⟨h1, h2⟩ := h
  unfold dep at h1 h2
  unfold stepD
  by_cases k1 : p.1 = 1
  · rw [if_pos k1]
    rw [if_neg (by omega), if_neg (by omega)] at h1 h2
    exact ⟨⟨h1, h2⟩, fun h => by omega, fun h => by omega⟩
  rw [if_neg k1]
  by_cases kb : isB p.1 = true
  · rw [if_pos kb]
    have := isB_iff.1 kb
    rw [if_neg (by omega), if_neg (by omega)] at h1 h2
    refine ⟨?_, fun h => by omega, fun h => by omega⟩
    split
    · split <;> exact ⟨h1, h2⟩
    · exact ⟨h1, h2⟩
  rw [if_neg kb]
  by_cases k5 : p.1 = 5
  · rw [if_pos k5] at h1 ⊢
    rw [if_neg (by omega), if_neg (by omega)] at h2
    exact ⟨⟨h1, h2⟩, fun h => by omega, fun h => by omega⟩
  rw [if_neg k5] at h1 ⊢
  by_cases k6 : p.1 = 6
  · rw [if_pos k6] at h1 ⊢
    rw [if_neg (by omega), if_neg (by omega)] at h2
    cases hn : s.n with
    | zero => rw [hn] at h1; cases h1
    | succ n => rw [hn] at h1; exact ⟨⟨h1, h2⟩, fun _ => by omega, fun h => by omega⟩
  rw [if_neg k6] at h1 ⊢
  by_cases k7 : p.1 = 7
  · rw [if_pos k7] at h2 ⊢
    exact ⟨⟨h1, h2⟩, fun h => by omega, fun h => by omega⟩
  rw [if_neg k7] at h2 ⊢
  by_cases k8 : p.1 = 8
  · rw [if_pos k8] at h2 ⊢
    cases hf : s.f with
    | nil => rw [hf] at h2; cases h2
    | cons q r =>
      rw [hf] at h2
      refine ⟨⟨h1, h2⟩, fun h => by omega, fun _ h => by cases h⟩
  rw [if_neg k8] at h2 ⊢
  exact ⟨⟨h1, h2⟩, fun h => by omega, fun h => by omega⟩
theorem fLen (W : Nat) (q : Bool) (p : Pc) (s : St) : (stepD q p s).f.length ≤ s.f.length + 1 := by
  unfold stepD
  split
  · exact Nat.le_succ _
  · split
    · split
      · split <;> exact Nat.le_succ _
      · exact Nat.le_succ _
    · split
      · exact Nat.le_succ _
      · split
        · exact Nat.le_succ _
        · split
          · exact Nat.le_refl _
          · split
            · simp only [List.length_tail]; omega
            · exact Nat.le_succ _
theorem txL_take {l : List Pc} {i : Nat} {p : Pc} (h : l[i]? = some p) : txL (l.take (i + 1)) = txL (l.take i) + p.2.size := by
  unfold txL
  rw [List.take_add_one, h]
  simp
theorem txL_take_le (l : List Pc) (i : Nat) : txL (l.take i) ≤ txL l := by
  have := congrArg txL (List.take_append_drop i l)
  unfold txL at this ⊢
  rw [List.map_append, List.sum_append] at this
  omega
theorem txL_mem {l : List Pc} {p : Pc} (h : p ∈ l) : p.2.size ≤ txL l := by
  unfold txL
  induction l with
  | nil => cases h
  | cons q l ih =>
    simp only [List.map_cons, List.sum_cons]
    rcases List.mem_cons.1 h with rfl | h
    · omega
    · have := ih h; omega
theorem sumP_le : ∀ l : List Pc, sumP l ≤ txL l + 65536 * l.length
  | [] => Nat.le_refl _
  | p :: l => by
    have h1 := sumP_le l
    have h2 : fwp p ≤ p.2.size + 65536 := by
      unfold fwp
      have := wd_le p.2
      split
      · omega
      · split
        · omega
        · split <;> omega
    have e : txL (p :: l) = p.2.size + txL l := rfl
    simp only [sumP, List.length_cons, e]
    omega
/-- What Of tells. -/
def ofS (Wd : Int) (l : List Pc) : ByteArray := if 1 ≤ Wd ∧ Wd ≤ 65535 then ⟨(layS Wd.toNat l).toArray⟩ else ⟨#[]⟩
def ofE (Wd : Int) : Int := if 1 ≤ Wd ∧ Wd ≤ 65535 then 0 else 1
def OfPost (Wd : Int) (l : List Pc) (w : World) (e : Ending) (w' : World) : Prop := e = .returned (.tuple #[.string (ofS Wd l), .int .i64 (ofE Wd)]) ∧ Below w.heap.size w w'

set_option maxHeartbeats 16000000 in
set_option maxRecDepth 100000 in
theorem of_bad {w : World} {l : List Pc} {k : Int} {x : ByteArray} {A : Option Addr} {n C : Nat} (Wd : Int) (hbad : ¬ (1 ≤ Wd ∧ Wd ≤ 65535)) :
    Calls Try.prog 11 #[.agg #[.int .i64 k, .string x, .slice A n C], .int .i64 Wd] w (OfPost Wd l w) := by
  have hb := (Below.refl w.heap.size w).alloc (Nat.le_refl _) (.cells #[.int .i64 k, .string x, .slice A n C] 32)
  have HB := Lib.hid hb
  have HE : Hid (ofS Wd l = ⟨#[]⟩ ∧ ofE Wd = 1) := ⟨if_neg hbad, if_neg hbad⟩
  clear hb
  by_cases h1 : Wd < 1
  · clear hbad
    go_enter Try.func11, Try.ntmps11
    go_wp2
    go_ret2
    refine ⟨?_, HB.out⟩
    rw [HE.out.1, HE.out.2]
    rfl
  · have h2 : 65535 < Wd := by omega
    clear hbad
    go_enter Try.func11, Try.ntmps11
    go_wp2
    go_ret2
    refine ⟨?_, HB.out⟩
    rw [HE.out.1, HE.out.2]
    rfl

set_option maxHeartbeats 16000000 in
set_option maxRecDepth 100000 in
theorem of_good {X : Nat → Prop} {w : World} {N : Nat} {l : List Pc} {k : Int} {x : ByteArray} {A : Option Addr} {n C : Nat} (Wd : Int) (Wn : Nat) (hWn : Wd = (Wn : Int)) (h1 : 1 ≤ Wn) (h2 : Wn ≤ 65535) (h : IsD X w N l k x A n C) (hN : N ≤ 100000) (hBal : Bal l) (hll : l.length ≤ 10000) (hT : txL l ≤ 400000000) :
    Calls Try.prog 11 #[.agg #[.int .i64 k, .string x, .slice A n C], .int .i64 Wd] w fun e w' => e = .returned (.tuple #[.string ⟨(layS Wn l).toArray⟩, .int .i64 0]) ∧ Below w.heap.size w w' := by
  have hb := (Below.refl w.heap.size w).alloc (Nat.le_refl _) (.cells #[.int .i64 k, .string x, .slice A n C] 32)
  obtain ⟨q0, q1, q2⟩ := cl3 (heap_alloc_new w (.cells #[.int .i64 k, .string x, .slice A n C] 32))
  have HPL := Lib.hid (plain_own (h.later hb) hN)
  have HB0 := Lib.hid hb
  have HT := Lib.hid hT
  have HLL := Lib.hid hll
  have HBAL := Lib.hid hBal
  have hg1 : ¬ Wd < 1 := by omega
  have hg2 : ¬ 65535 < Wd := by omega
  have HWN := Lib.hid hWn
  have HW2 := Lib.hid h2
  clear hb h hN hBal hll hT hWn h1 h2
  go_enter Try.func11, Try.ntmps11
  go_wp2_with fail
  refine HPL.out.mono ?_
  rintro e w1 ⟨a, c, rfl, hown, hb1⟩
  obtain ⟨m, hm⟩ : ∃ m, l.length = m := ⟨_, rfl⟩
  have hmc : l.length ≤ c := by
    rcases hown.2 with ⟨e, h0⟩ | ⟨g, cap, cur, e, _, _, h3, _⟩
    · omega
    · injection e with _ _ e3; omega
  have hrd := RdP.of_own hown
  have hlt1 := hown.lt
  have hll := HLL.out
  rw [hm] at hmc hlt1 hll
  rw [hm]
  have hsP : sumP l ≤ 4611686018427387904 := by have := sumP_le l; have := HT.out; have := HLL.out; omega
  have HNE := Lib.hid (needs_any a m c l w1 hm (by omega) hmc hsP (fun p hp => Nat.le_trans (txL_mem hp) (by have := HT.out; omega)) (HBAL.out 0).2 hrd (fun b hb => (hlt1 b hb).2))
  have HRD := Lib.hid hrd
  have HM := Lib.hid hm
  have HB1 := Lib.hid (HB0.out.trans (hb1.mono HB0.out.size))
  have HSP := Lib.hid hsP
  clear hown hrd hlt1 hb1 HPL hm hsP q0 q1 q2
  go_wp2_with fail
  refine HNE.out.mono ?_
  rintro e w2 ⟨⟨gn, rfl, hgn, hnds⟩, hb2⟩
  have HRD2 := Lib.hid (HRD.out.below hb2)
  have HB2 := Lib.hid (HB1.out.trans (hb2.mono HB1.out.size))
  have HNDS := Lib.hid hnds
  obtain ⟨B, hB⟩ : ∃ B, w2.heap.size = B := ⟨_, rfl⟩
  have hb3 := (Below.refl w2.heap.size w2).alloc (Nat.le_refl _) (.cells #[.pointer none, .slice none 0 0, .int .i64 Wd, .int .i64 0, .int .i64 0, .int .i64 0, .slice none 0 0] 65)
  have hx3 := heap_alloc_new w2 (.cells #[.pointer none, .slice none 0 0, .int .i64 Wd, .int .i64 0, .int .i64 0, .int .i64 0, .slice none 0 0] 65)
  obtain ⟨w3, hw3⟩ : ∃ w3, w2.alloc (.cells #[.pointer none, .slice none 0 0, .int .i64 Wd, .int .i64 0, .int .i64 0, .int .i64 0, .slice none 0 0] 65) = w3 := ⟨_, rfl⟩
  have HW3 := Lib.hid hw3
  rw [hw3, hB] at hb3 hx3
  have HL0 : Hid (LA B B Wd St0 w3) := ⟨Nat.le_refl _, _, _, _, hx3, .inl rfl, World.ownsRowF_nil _ _ _ _, World.ownsRow_nil _ _ _ _⟩
  have HB3 := Lib.hid hb3
  have HBE := Lib.hid hB
  have hgnB : gn < B := by omega
  clear hnds hb2 hb3 hx3 hw3 HNE HRD HB0 HB1 hB
  go_wp2
  rw [HW3.out, HBE.out]
  go_loopw [25] (fun s25 wr => ∃ (i : Nat) (s : St), i ≤ m ∧ s25 = .int .i64 (i : Int) ∧ Hid (LA B B Wd s wr) ∧ Hid (Below B w3 wr) ∧ Hid (Bnd (txL (l.take i)) i s) ∧ Hid (mach Wn (l.drop i) s = mach Wn l St0) ∧ Hid (Op s (l.drop i) ∧ s.f.length ≤ i)) (fun s25 _ => m - (intOf s25).toNat)
  case atStart => exact ⟨0, St0, Nat.zero_le _, rfl, HL0.out, Below.refl _ _, Bnd.start, rfl, Op.start HBAL.out, Nat.le_refl _⟩
  case round =>
    obtain ⟨i, s, hi, rfl, hLs, HBw, hBnd, hMa, hOp⟩ := hrel
    by_cases hlt : i < m
    · have hb23 : Below B w2 wr := by have h := HB3.out.trans HBw.out; exact h
      obtain ⟨gp, op, p, rfl, hp, u0, u1⟩ := (HRD2.out.below (by rw [HBE.out]; exact hb23)).at_ (i := i) (by rw [HM.out]; exact hlt)
      obtain ⟨k', x'⟩ := p
      dsimp only at u0 u1
      have hlt1 : (i : Int) < (m : Int) := by omega
      have hlt0 : (0 : Int) ≤ (i : Int) := by omega
      have hdr : l.drop i = (k', x') :: l.drop (i + 1) := by
        have h1 : i < l.length := by rw [HM.out]; exact hlt
        rw [List.drop_eq_getElem_cons h1]
        rw [List.getElem?_eq_getElem h1] at hp
        injection hp with hp
        rw [hp]
      obtain ⟨nd, hnd⟩ : ∃ nd, (needL l)[i]? = some nd := ⟨_, List.getElem?_eq_getElem (by rw [needL_len, HM.out]; exact hlt)⟩
      have hnd1 := needL_at l i _ hp
      rw [hnd] at hnd1
      have hnd2 : nd = if k' = 7 then gwp 0 (l.drop (i + 1)) else 0 := by simpa using hnd1
      have hndb : nd ≤ 4611686018427387904 := Nat.le_trans (needL_le l i nd hnd) HSP.out
      have hcell := HNDS.out i nd hnd
      have HND : Hid (∀ W, Below B wr W → W.cell? ⟨gn, i, none⟩ = some (.int .i64 (nd : Int))) := fun W hW => (((hb23.trans hW)).cell (p := ⟨gn, i, none⟩) hgnB).trans hcell
      have hbd := hBnd.out
      have htx : txL (l.take i) ≤ 400000000 := Nat.le_trans (txL_take_le l i) HT.out
      have hxt : x'.size ≤ 400000000 := Nat.le_trans (txL_mem (List.mem_of_getElem? hp)) HT.out
      have hop := hOp.out.1
      rw [hdr] at hop
      obtain ⟨_, h6, h8⟩ := Op.next (q := true) hop
      have hil : i ≤ 10000 := by omega
      obtain ⟨s2, hs2⟩ : ∃ s2, step Wn (k', x') (l.drop (i + 1)) s = s2 := ⟨_, rfl⟩
      have hst := step_is HW2.out (k', x') (l.drop (i + 1)) s nd hnd2
      rw [hs2, ← HWN.out] at hst
      have HNX : Hid (Bnd (txL (l.take (i + 1))) (i + 1) s2 ∧ mach Wn (l.drop (i + 1)) s2 = mach Wn l St0 ∧ (Op s2 (l.drop (i + 1)) ∧ s2.f.length ≤ i + 1)) := by
        refine ⟨?_, ?_, ?_, ?_⟩
        · rw [txL_take hp, ← hst]; exact hbd.stepD hil _ _
        · have := hMa.out
          rw [hdr] at this
          rw [← hs2]; exact this
        · rw [← hst]; exact (Op.next hop).1
        · rw [← hst]; exact Nat.le_trans (fLen Wn _ _ _) (by have := hOp.out.2; omega)
      have HADD : Hid (∀ W, LA B B Wd s W → Calls Try.prog 30 #[.pointer (some ⟨B, 0, none⟩), .agg #[.int .i64 k', .string x'], .int .i64 (nd : Int)] W fun e w' => e = .returned (.tuple #[]) ∧ LA B B Wd s2 w' ∧ Below B W w') := fun W hW => by
        obtain ⟨e1, e2, e3, e4⟩ := hbd
        have := add_any k' x' (nd : Int) (by omega) (by omega) hW (by omega) (by omega) (by omega) (by omega) (by have := hOp.out.2; omega) h6 h8
        rw [hst] at this
        exact this
      have hwi : IntKind.i64.wrap ((i : Int) + 1) = (i : Int) + 1 := by rw [IntKind.wrap_i64]; omega
      have hbp := (Below.refl wr.heap.size wr).alloc (Nat.le_refl _) (.cells #[.int .i64 k', .string x'] 45)
      have hxp := heap_alloc_new wr (.cells #[.int .i64 k', .string x'] 45)
      obtain ⟨w4, hw4⟩ : ∃ w4, wr.alloc (.cells #[.int .i64 k', .string x'] 45) = w4 := ⟨_, rfl⟩
      have HW4 := Lib.hid hw4
      rw [hw4] at hbp hxp
      obtain ⟨ST, hST⟩ : ∃ ST : World → Prop, (fun W => LA B B Wd s W ∧ W.heap[wr.heap.size]? = some (Obj.cells #[.int .i64 k', .string x'] 45 (0, 0))) = ST := ⟨_, rfl⟩
      have HST0 : Hid (ST w4.drew) := by show ST _; rw [← hST]; exact ⟨(hLs.out.later hbp).drew, hxp⟩
      have HSTP : Hid (∀ W, ST W → W.cell? ⟨wr.heap.size, 0, none⟩ = some (.int .i64 k') ∧ W.cell? ⟨wr.heap.size, 1, none⟩ = some (.string x')) := fun W h => by rw [← hST] at h; exact cl2 h.2
      have HSTL : Hid (∀ W, ST W → LA B B Wd s W) := fun W h => by rw [← hST] at h; exact h.1
      replace HND : Hid (∀ W, Below B w4 W → W.cell? ⟨gn, i, none⟩ = some (.int .i64 (nd : Int))) := fun W hW => HND.out W ((hbp.mono hLs.out.size).trans hW)
      replace HBw := Lib.hid (HBw.out.trans (hbp.mono hLs.out.size))
      clear hST hLs hBnd hMa hOp hb23 hp hdr hnd hnd1 hnd2 hndb hcell hbd htx hxt hop h6 h8 hil hs2 hst hbp hxp hw4 HNDS
      generalize k' = k at *
      generalize x' = x at *
      go_wp2
      rw [HW4.out]
      refine region_rel2 5 (ST) (fun W W' => Below B W W' ∧ (LA B B Wd s2 W → LA B B Wd s2 W')) [Cd.is (Value.agg #[.int .i64 k, .string x]), Cd.is (Value.slice (some ⟨gn, 0, none⟩) m m), Cd.is (Value.int .i64 ((i : Int))), Cd.is (Value.pointer (some ⟨gn, i, none⟩)), Cd.is (Value.int .i64 ((nd : Int))), ⟨fun _ W => LA B B Wd s2 W, fun _ _ _ h q => h.2 q⟩] (by kernel_rfl) (by decide) (by kernel_rfl) HST0.out ⟨Below.refl B _, id⟩ (fun _ _ _ h k => ⟨h.1.trans k.1, fun q => k.2 (h.2 q)⟩) ?steps ?behind
      case steps =>
        intro xv W hW a ha
        replace hW : Below B w4 W := ⟨hW.1.os, hW.1.tape, hW.1.output, hW.1.size, hW.1.block⟩
        simp only [fillA] at ha
        simp only [List.setIfInBounds_toArray, List.set_cons_succ, List.set_cons_zero, Nat.zero_add, Nat.reduceAdd] at ha
        subst ha
        refine ⟨fun hI hS hd K hK => ?s0, fun hI hS hd K hK => ?s1, fun hI hS hd K hK => ?s2, fun hI hS hd K hK => ?s3, fun hI hS hd K hK => ?s4, fun hI hS hd K hK => ?s5, trivial⟩
        case s0 =>
          clear hd
          simp only [Act.put, List.setIfInBounds_toArray, List.set_cons_succ, List.set_cons_zero] at hK
          refine (if_pos (by rfl)).mpr ?_
          obtain ⟨hp0, hp1⟩ := HSTP.out W (hS (.inl (by kernel_rfl)))
          go_simp
          exact hK.out _ _ ⟨Below.refl B _, id⟩ (.inr id) rfl
        case s1 =>
          clear hd
          simp only [Act.put, List.setIfInBounds_toArray, List.set_cons_succ, List.set_cons_zero] at hK
          refine (if_pos (by rfl)).mpr ?_
          go_simp
          exact hK.out _ _ ⟨Below.refl B _, id⟩ (.inr id) rfl
        case s2 =>
          clear hd
          simp only [Act.put, List.setIfInBounds_toArray, List.set_cons_succ, List.set_cons_zero] at hK
          refine (if_pos (by rfl)).mpr ?_
          go_simp
          exact hK.out _ _ ⟨Below.refl B _, id⟩ (.inr id) rfl
        case s3 =>
          have hx1 : xv 1 = Value.slice (some ⟨gn, 0, none⟩) m m := hd 1 (by kernel_rfl)
          have hx2 : xv 2 = Value.int .i64 ((i : Int)) := hd 2 (by kernel_rfl)
          clear hd
          simp only [Act.put, List.setIfInBounds_toArray, List.set_cons_succ, List.set_cons_zero] at hK
          rw [hx1] at hK ⊢
          rw [hx2] at hK ⊢
          refine (if_pos (by rfl)).mpr ?_
          go_simp
          exact hK.out _ _ ⟨Below.refl B _, id⟩ (.inr id) rfl
        case s4 =>
          have hx3 : xv 3 = Value.pointer (some ⟨gn, i, none⟩) := hd 3 (by kernel_rfl)
          clear hd
          simp only [Act.put, List.setIfInBounds_toArray, List.set_cons_succ, List.set_cons_zero] at hK
          rw [hx3] at hK ⊢
          refine (if_pos (by rfl)).mpr ?_
          have hn := HND.out W hW
          go_simp
          exact hK.out _ _ ⟨Below.refl B _, id⟩ (.inr id) rfl
        case s5 =>
          have hx0 : xv 0 = Value.agg #[.int .i64 k, .string x] := hd 0 (by kernel_rfl)
          have hx4 : xv 4 = Value.int .i64 ((nd : Int)) := hd 4 (by kernel_rfl)
          clear hd
          simp only [Act.put, List.setIfInBounds_toArray, List.set_cons_succ, List.set_cons_zero] at hK
          rw [hx0] at hK ⊢
          rw [hx4] at hK ⊢
          refine (if_pos (by rfl)).mpr ?_
          have hL := HSTL.out W (hS (.inr rfl))
          go_simp
          refine (HADD.out W hL).mono ?_
          rintro e W' ⟨rfl, hl, hb⟩
          exact hK.out _ _ ⟨hb, fun _ => hl⟩ (.inl trivial) hl
      case behind =>
        intro xv W hW hx a ha
        replace hW : Below B w4 W := ⟨hW.1.os, hW.1.tape, hW.1.output, hW.1.size, hW.1.block⟩
        simp only [fillA] at ha
        simp only [List.setIfInBounds_toArray, List.set_cons_succ, List.set_cons_zero, Nat.zero_add, Nat.reduceAdd] at ha
        subst ha
        have hL := hx 5 (by decide)
        have HL2 : Hid (LA B B Wd s2 W) := hL
        have HB2 := Lib.hid hW
        clear hx hW hL HADD HST0 HSTP HSTL HND
        go_wp2
        go_roundw
        case rel => exact ⟨i + 1, s2, by omega, by go_num, HL2.out, (HBw.out.trans HB2.out), HNX.out.1, HNX.out.2.1, HNX.out.2.2⟩
        case measure => simp [intOf]; omega
    · obtain rfl : i = m := by omega
      have hlt1 : ¬ (i : Int) < (i : Int) := by omega
      have hma : mach Wn l St0 = s := by
        have := hMa.out
        rw [List.drop_eq_nil_of_le (by rw [HM.out]; exact Nat.le_refl _)] at this
        exact this.symm
      have HFE : Hid (layS Wn l = s.o) := by show _ = _; unfold layS; rw [hma]
      obtain ⟨hBB, p, v, fv, hk1, hk2, hk3, hk4⟩ := hLs.out
      have HSTR := Lib.hid (string_at B B v s.o wr (lt_of hk1) hLs.out.size (cl7 hk1).2.1 hk3)
      have HBX : Hid (∀ w', Below B wr w' → Below w.heap.size w w') := fun w' hw' => by
        have h := (HB3.out.trans HBw.out).trans hw'
        have h2 : Below w2.heap.size w2 w' := by rw [HBE.out]; exact h
        exact HB2.out.trans (h2.mono HB2.out.size)
      clear hk1 hk2 hk3 hk4 hLs hBnd hMa hOp hma
      go_wp2_with fail
      refine HSTR.out.mono ?_
      rintro e w5 ⟨rfl, hb5⟩
      have HB5 := Lib.hid (HBX.out w5 hb5)
      clear hb5 HSTR
      go_wp2
      go_ret2
      refine ⟨?_, HB5.out⟩
      rw [HFE.out]
      rfl
/-- A document's layout. -/
theorem of_any {X : Nat → Prop} {w : World} {N : Nat} {l : List Pc} {k : Int} {x : ByteArray} {A : Option Addr} {n C : Nat} (Wd : Int) (h : IsD X w N l k x A n C) (hN : N ≤ 100000) (hBal : Bal l) (hll : l.length ≤ 10000) (hT : txL l ≤ 400000000) :
    Calls Try.prog 11 #[.agg #[.int .i64 k, .string x, .slice A n C], .int .i64 Wd] w (OfPost Wd l w) := by
  by_cases hw : 1 ≤ Wd ∧ Wd ≤ 65535
  · refine (of_good Wd Wd.toNat (by omega) (by omega) (by omega) h hN hBal hll hT).mono ?_
    rintro e w' ⟨rfl, hb⟩
    exact ⟨by unfold ofS ofE; rw [if_pos hw, if_pos hw], hb⟩
  · exact of_bad Wd hw
end Go.Proofs.Ytpankfbdlakmcaa.Doc
