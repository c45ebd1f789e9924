/-
  Layer 5 (tree): slices.EqualFunc at the program's Same, and Same. Written by gen_treesame.py.
-/
import Derived.Test.YtoecimgmghlfpaaDoorTreeSameA
namespace Go.Proofs.YtoecimgmghlfpaaDoor.Tree
open Go.ChangeShapes Go.WideShapes Go.ChangeAt Go.RowKit Mem
set_option linter.unusedVariables false

def sameT (k : Int) (x y : ByteArray) (c : F) (k' : Int) (x' y' : ByteArray) (c' : F) : Bool := k == k' && (x.toList == x'.toList && (y.toList == y'.toList && same c c'))
theorem same_len : ∀ {f g : F}, same f g = true → f.len = g.len
  | .nil, .nil, _ => rfl
  | .nil, .cons .., h => by simp [same] at h
  | .cons .., .nil, h => by simp [same] at h
  | .cons k x y c r, .cons k' x' y' c' r', h => by
    simp only [same, Bool.and_eq_true] at h
    simp only [F.len, same_len h.2]
theorem same_cons (k : Int) (x y : ByteArray) (c r : F) (k' : Int) (x' y' : ByteArray) (c' r' : F) : same (.cons k x y c r) (.cons k' x' y' c' r') = (sameT k x y c k' x' y' c' && same r r') := by
  simp only [same, sameT, Bool.and_assoc]
theorem sameT_alike {k : Int} {x y : ByteArray} {c : F} {k' : Int} {x' y' : ByteArray} {c' : F} (h : alikeB k x y c.len k' x' y' c'.len = false) : sameT k x y c k' x' y' c' = false := by
  unfold sameT
  unfold alikeB at h
  cases hs : same c c' with
  | false => simp
  | true =>
    rw [decide_eq_true (same_len hs), Bool.and_true] at h
    rw [Bool.and_true]
    exact h
theorem sameT_same {k : Int} {x y : ByteArray} {c : F} {k' : Int} {x' y' : ByteArray} {c' : F} (h : alikeB k x y c.len k' x' y' c'.len = true) : sameT k x y c k' x' y' c' = same c c' ∧ c.len = c'.len := by
  unfold alikeB at h
  unfold sameT
  simp only [Bool.and_eq_true, decide_eq_true_eq] at h
  obtain ⟨h1, h2, h3, h4⟩ := h
  rw [h1, h2, h3]
  exact ⟨by simp, h4⟩
def SamePost (b : Bool) (w : World) (e : Ending) (w' : World) : Prop := e = .returned (.bool b) ∧ Below w.heap.size w w'
def SameSpec (N : Nat) : Prop := ∀ (k : Int) (x y : ByteArray) (A : Option Addr) (n C : Nat) (c : F) (k' : Int) (x' y' : ByteArray) (A' : Option Addr) (n' C' : Nat) (c' : F) (w : World), c.size ≤ N → c.size ≤ 100000 → Fs w (Lo w.heap.size) (.slice A n C) c → Fs w (Lo w.heap.size) (.slice A' n' C') c' →
  Calls Tryd.prog 8 #[.agg #[.int .i64 k, .string x, .string y, .slice A n C], .agg #[.int .i64 k', .string x', .string y', .slice A' n' C']] w fun e w' => SamePost (sameT k x y c k' x' y' c') w e w'

set_option maxRecDepth 100000 in
set_option maxHeartbeats 16000000 in
theorem eqf_any (N : Nat) (ih : ∀ M, M < N → SameSpec M) (A : Option Addr) (n C : Nat) (c : F) (A' : Option Addr) (n' C' : Nat) (c' : F) (w : World) (hN : c.size ≤ N) (hbig : c.size ≤ 100000) (hf : Fs w (Lo w.heap.size) (.slice A n C) c) (hf' : Fs w (Lo w.heap.size) (.slice A' n' C') c') (hl : n = n') :
    Calls Tryd.prog 26 #[.slice A n C, .slice A' n' C', .func (.func 8) #[] #[]] w fun e w' => SamePost (same c c') w e w' := by
  subst hl
  have HIH := Lib.hid ih
  have HF := Lib.hid hf; have HF' := Lib.hid hf'
  obtain ⟨_, _, e, hnC, hCm⟩ := hf.slice
  injection e with q1 q2 q3
  obtain ⟨_, _, e', hnC', hCm'⟩ := hf'.slice
  injection e' with q1' q2' q3'
  have HN := Lib.hid q2.symm; have HN' := Lib.hid q2'.symm
  have hn1 : n ≤ 100000 := by have := F.len_le_size c; omega
  have hC1 : C ≤ 9223372036854775807 := by omega
  have hC2 : C' ≤ 9223372036854775807 := by omega
  have hc1 : n ≤ C := by omega
  have hc2 : n ≤ C' := by omega
  have HBR := Lib.hid (Below.refl w.heap.size w)
  obtain ⟨res, hres⟩ : ∃ res, same c c' = res := ⟨_, rfl⟩
  have HR : Hid (same (c.drop 0) (c'.drop 0) = res) := hres
  rw [hres]
  clear ih hf hf' q1 q2 q3 q1' q2' q3' hnC hnC' hCm hCm' hres
  go_enter Tryd.func26, Tryd.ntmps26
  go_wp2
  go_loopw [17] (fun s17 wr => ∃ j : Nat, j ≤ n ∧ s17 = .int .i64 (j : Int) ∧ Hid (same (c.drop j) (c'.drop j) = res) ∧ Hid (Below w.heap.size w wr)) (fun s17 _ => n - (intOf s17).toNat)
  case atStart => exact ⟨0, Nat.zero_le _, rfl, HR.out, HBR.out⟩
  case round =>
    clear HR HBR
    obtain ⟨j, hj, rfl, HR, HB⟩ := hrel
    by_cases hlt : j < n
    · have hlt' : (j : Int) < (n : Int) := by omega
      have hj0 : (0 : Int) ≤ (j : Int) := by omega
      obtain ⟨k1, x1, y1, c1, r1, hd1, hd1'⟩ := F.drop_cons (n := j) (f := c) (by rw [HN.out]; exact hlt)
      obtain ⟨k2, x2, y2, c2, r2, hd2, hd2'⟩ := F.drop_cons (n := j) (f := c') (by rw [HN'.out]; exact hlt)
      have hw1 := HF.out.below HB.out (Nat.le_refl _)
      have hw2 := HF'.out.below HB.out (Nat.le_refl _)
      obtain ⟨ba, oa, s1, rfl, hba, _, hat1⟩ := hw1.at_ hd1
      obtain ⟨bb, ob, s2, rfl, hbb, _, hat2⟩ := hw2.at_ hd2
      obtain ⟨Ak, Ck, rfl, _, _⟩ := hat1.kids.slice
      obtain ⟨Al, Cl, rfl, _, _⟩ := hat2.kids.slice
      have hs1 := size_drop hd1
      obtain ⟨m1, hm1⟩ : ∃ m, c1.len = m := ⟨_, rfl⟩
      obtain ⟨m2, hm2⟩ : ∃ m, c2.len = m := ⟨_, rfl⟩
      rw [hm1] at hat1
      rw [hm2] at hat2
      have e0 := hat1.c0; have e1 := hat1.c1; have e2 := hat1.c2; have e3 := hat1.c3
      have b1 := below1 wr (.cells #[.int .i64 k1, .string x1, .string y1, .slice Ak m1 Ck] 24)
      have b2 := b1.trans ((below1 _ (.cells #[.int .i64 k2, .string x2, .string y2, .slice Al m2 Cl] 24)).mono b1.size)
      have hlb : bb < wr.heap.size := Nat.lt_of_lt_of_le hbb HB.out.size
      have f0 := (b1.cell (p := ⟨bb, ob + j * 4, none⟩) hlb).trans hat2.c0
      have f1 := (b1.cell (p := ⟨bb, ob + j * 4 + 1, none⟩) hlb).trans hat2.c1
      have f2 := (b1.cell (p := ⟨bb, ob + j * 4 + 2, none⟩) hlb).trans hat2.c2
      have f3 := (b1.cell (p := ⟨bb, ob + j * 4 + 3, none⟩) hlb).trans hat2.c3
      have HX1 : Hid (Boxed ((wr.alloc (.cells #[.int .i64 k1, .string x1, .string y1, .slice Ak m1 Ck] 24)).alloc (.cells #[.int .i64 k2, .string x2, .string y2, .slice Al m2 Cl] 24)) wr.heap.size k1 x1 y1 (.slice Ak m1 Ck)) := (Below.heap_alloc _ _ _ (by simp)).trans (heap_alloc_new _ _)
      have HC := Lib.hid (HIH.out c1.size (by omega) k1 x1 y1 Ak m1 Ck c1 k2 x2 y2 Al m2 Cl c2 _ (Nat.le_refl _) (by omega) (((hat1.kids.below b2 HB.out.size).up (Nat.le_trans HB.out.size b2.size))) (((hat2.kids.below b2 HB.out.size).up (Nat.le_trans HB.out.size b2.size))))
      obtain ⟨sm, hsm⟩ : ∃ sm, sameT k1 x1 y1 c1 k2 x2 y2 c2 = sm := ⟨_, rfl⟩
      have hrr := HR.out
      rw [hd1, hd2, same_cons, hsm] at hrr
      rw [hsm] at HC
      have HRR : Hid ((sm && same (c.drop (j + 1)) (c'.drop (j + 1))) = res) := by show _ = _; rw [hd1', hd2']; exact hrr
      have HB2 := Lib.hid (HB.out.trans (b2.mono HB.out.size))
      obtain ⟨g0, g1, g2, g3⟩ := HX1.out.cells
      clear hd1 hd1' hd2 hd2' hw1 hw2 hba hbb hlb hat1 hat2 hs1 hm1 hm2 b1 b2 hsm hrr HR HX1
      go_wp2_with fail
      refine HC.out.mono ?_
      rintro e w5 ⟨rfl, hb5⟩
      have HB5 := Lib.hid (HB2.out.trans (hb5.mono HB2.out.size))
      clear hb5 HC g0 g1 g2 g3 e0 e1 e2 e3 f0 f1 f2 f3
      cases sm with
      | false =>
        have HE : Hid (res = false) := by show _ = _; rw [← HRR.out]; rfl
        go_wp2
        go_ret
        exact ⟨by rw [HE.out]; rfl, HB5.out⟩
      | true =>
        have HE : Hid (same (c.drop (j + 1)) (c'.drop (j + 1)) = res) := by show _ = _; rw [← HRR.out]; rfl
        go_wp2
        go_roundw
        case rel => exact ⟨j + 1, by omega, by go_num, HE.out, HB5.out⟩
        case measure => simp [intOf]; omega
    · have hlt' : ¬ (j : Int) < (n : Int) := by omega
      have HE : Hid (res = true) := by
        show _ = _
        rw [← HR.out, F.drop_all _ _ (by rw [HN.out]; omega), F.drop_all _ _ (by rw [HN'.out]; omega)]
        rfl
      clear hlt
      go_wp2
      go_ret
      exact ⟨by rw [HE.out]; rfl, HB.out⟩

/-- The two variables of Same. -/
structure MAt (w W : World) (k : Int) (x y : ByteArray) (s : Value) (c : F) (k' : Int) (x' y' : ByteArray) (s' : Value) (c' : F) : Prop where
  bel : Below w.heap.size w W
  b2 : Boxed W w.heap.size k x y s
  b3 : Boxed W (w.heap.size + 1) k' x' y' s'
  f2 : Fs W (Lo w.heap.size) s c
  f3 : Fs W (Lo w.heap.size) s' c'
/-- While both are written anew: q: has the second been written? -/
structure MQ (w W : World) (k : Int) (x y : ByteArray) (s : Value) (kb : Int) (xb yb : ByteArray) (sb : Value) (k2 : Int) (x2 y2 : ByteArray) (s2 : Value) (q : Bool) : Prop where
  bel : Below w.heap.size w W
  b2 : Boxed W w.heap.size k x y s
  b3 : q = false → Boxed W (w.heap.size + 1) k2 x2 y2 s2
  b4 : q = true → Boxed W (w.heap.size + 1) kb xb yb sb
section
variable {w W W' : World} {k kb k2 : Int} {x y xb yb x2 y2 : ByteArray} {s sb s2 : Value} {q : Bool}
theorem MQ.later (h : MQ w W k x y s kb xb yb sb k2 x2 y2 s2 q) (hb : Below W.heap.size W W') : MQ w W' k x y s kb xb yb sb k2 x2 y2 s2 q :=
  ⟨h.bel.trans (hb.mono h.bel.size), h.b2.below hb h.b2.lt, fun e => (h.b3 e).below hb (h.b3 e).lt, fun e => (h.b4 e).below hb (h.b4 e).lt⟩
theorem MQ.start {k0 : Int} {x0 y0 : ByteArray} {s0 : Value} (hb : Below w.heap.size w W) (h2 : Boxed W w.heap.size k0 x0 y0 s0) (h3 : Boxed W (w.heap.size + 1) k2 x2 y2 s2) :
    MQ w ((((W.setCell ⟨w.heap.size, 0, none⟩ (.int .i64 k)).setCell ⟨w.heap.size, 1, none⟩ (.string x)).setCell ⟨w.heap.size, 2, none⟩ (.string y)).setCell ⟨w.heap.size, 3, none⟩ s) k x y s kb xb yb sb k2 x2 y2 s2 false :=
  ⟨hb.trans (box_below _ _ _ _ _ _), box_new h2, fun _ => (set4_other _ _ _ _ _ _ _ (by omega)).trans h3, fun e => by cases e⟩
theorem MQ.done (h : MQ w W k x y s kb xb yb sb k2 x2 y2 s2 false) :
    MQ w ((((W.setCell ⟨w.heap.size + 1, 0, none⟩ (.int .i64 kb)).setCell ⟨w.heap.size + 1, 1, none⟩ (.string xb)).setCell ⟨w.heap.size + 1, 2, none⟩ (.string yb)).setCell ⟨w.heap.size + 1, 3, none⟩ sb) k x y s kb xb yb sb k2 x2 y2 s2 true :=
  ⟨h.bel.trans ((box_below _ _ _ _ _ _).mono (Nat.le_succ _)), (set4_other _ _ _ _ _ _ _ (by omega)).trans h.b2, fun e => (by cases e), fun _ => box_new (h.b3 rfl)⟩
end

set_option maxRecDepth 100000 in
set_option maxHeartbeats 16000000 in
theorem same_step (N : Nat) (ih : ∀ M, M < N → SameSpec M) : SameSpec N := by
  intro k x y A n C c k' x' y' A' n' C' c' w hN hbig hf hf'
  have HIH := Lib.hid ih
  have b1 := below2 w (.cells #[.int .i64 k, .string x, .string y, .slice A n C] 24) (.cells #[.int .i64 k', .string x', .string y', .slice A' n' C'] 24)
  have HM : Hid (MAt w ((w.alloc (.cells #[.int .i64 k, .string x, .string y, .slice A n C] 24)).alloc (.cells #[.int .i64 k', .string x', .string y', .slice A' n' C'] 24)) k x y (.slice A n C) c k' x' y' (.slice A' n' C') c') := by
    refine ⟨b1, (Below.heap_alloc _ _ _ (by simp)).trans (heap_alloc_new _ _), ?_, hf.below b1 (Nat.le_refl _), hf'.below b1 (Nat.le_refl _)⟩
    have e : w.heap.size + 1 = (w.alloc (.cells #[.int .i64 k, .string x, .string y, .slice A n C] 24)).heap.size := by simp
    rw [e]
    exact heap_alloc_new _ _
  obtain ⟨res, hres⟩ : ∃ res, sameT k x y c k' x' y' c' = res := ⟨_, rfl⟩
  have HR := Lib.hid hres
  rw [hres]
  clear ih hf hf' b1 hres
  go_enter Tryd.func8, Tryd.ntmps8
  go_wp2
  go_loopg [4] (c.size + 1) (fun p s4 wr => ∃ (k : Int) (x y : ByteArray) (A : Option Addr) (n C : Nat) (c : F) (k' : Int) (x' y' : ByteArray) (A' : Option Addr) (n' C' : Nat) (c' : F), c.size < p ∧ c.size ≤ N ∧ c.size ≤ 100000 ∧ s4 = .bool false ∧ Hid (MAt w wr k x y (.slice A n C) c k' x' y' (.slice A' n' C') c') ∧ Hid (sameT k x y c k' x' y' c' = res))
  case atStart => exact ⟨k, x, y, A, n, C, c, k', x', y', A', n', C', c', by omega, hN, hbig, rfl, HM.out, HR.out⟩
  case round =>
    clear HM HR hN hbig
    obtain ⟨k1, x1, y1, A1, na, Ca, f1, k2, x2, y2, A2, nb, Cb, f2, hsz, hN, hbig, rfl, HM, HR⟩ := hrel
    obtain ⟨_, _, e, hnC, hCm⟩ := HM.out.f2.slice
    injection e with q1 q2 q3
    obtain ⟨_, _, e', hnC', hCm'⟩ := HM.out.f3.slice
    injection e' with q1' q2' q3'
    have HN1 := Lib.hid q2; have HN2 := Lib.hid q2'
    have hca : Ca ≤ 9223372036854775807 := by omega
    have hcb : Cb ≤ 9223372036854775807 := by omega
    have HNC : Hid (na ≤ Ca) := by show _ ≤ _; omega
    have HNC' : Hid (nb ≤ Cb) := by show _ ≤ _; omega
    have HAL := Lib.hid (alike_any k1 k2 x1 y1 x2 y2 A1 A2 na Ca nb Cb wr (by omega) (by omega))
    obtain ⟨p0, p1, p2, p3⟩ := HM.out.b2.cells
    obtain ⟨r0, r1, r2, r3⟩ := HM.out.b3.cells
    clear q1 q2 q3 q1' q2' q3' hnC hnC' hCm hCm'
    cases hal : alikeB k1 x1 y1 na k2 x2 y2 nb with
    | false =>
      have HE : Hid (res = false) := by show _ = _; rw [← HR.out, sameT_alike (by rw [← HN1.out, ← HN2.out]; exact hal)]
      rw [hal] at HAL
      clear hal
      go_wp2_with fail
      refine HAL.out.mono ?_
      rintro e w5 ⟨rfl, hb5⟩
      have HB5 := Lib.hid (HM.out.bel.trans (hb5.mono HM.out.bel.size))
      clear hb5
      go_wp2
      go_ret
      exact ⟨by rw [HE.out]; rfl, HB5.out⟩
    | true =>
      obtain ⟨hss, hll⟩ := sameT_same (c := f1) (c' := f2) (by rw [← HN1.out, ← HN2.out]; exact hal)
      have HRS : Hid (same f1 f2 = res) := by show _ = _; rw [← hss]; exact HR.out
      have HLL : Hid (na = nb) := by show _ = _; rw [HN1.out, HN2.out]; exact hll
      rw [hal] at HAL
      clear hal hss hll HR
      cases hfe : f1 with
      | nil =>
        have hn0 : na = 0 := by rw [HN1.out, hfe]; rfl
        have HE : Hid (res = true) := by
          show _ = _
          have h0 : f2.len = 0 := by rw [← HN2.out, ← HLL.out]; exact hn0
          rw [← HRS.out, hfe, F.len_zero h0]
          rfl
        subst hn0
        clear hfe
        go_wp2_with fail
        refine HAL.out.mono ?_
        rintro e w5 ⟨rfl, hb5⟩
        have HB5 := Lib.hid (HM.out.bel.trans (hb5.mono HM.out.bel.size))
        obtain ⟨z0, z1, z2, z3⟩ := (HM.out.b2.below hb5 HM.out.b2.lt).cells
        clear hb5 p0 p1 p2 p3 r0 r1 r2 r3
        go_wp2
        go_ret
        exact ⟨by rw [HE.out]; rfl, HB5.out⟩
      | cons ka xa ya ca ra =>
        obtain ⟨kb, xb, yb, cb, rb, hfe2, hrb⟩ := F.cons_of (f := f2) (n := ra.len) (by rw [← HN2.out, ← HLL.out, HN1.out, hfe]; rfl)
        rw [hfe] at HM HRS hsz hN hbig HN1
        rw [hfe2] at HM HRS
        obtain ⟨ba, oa, s1, rfl, hba, hna0, hat1⟩ := HM.out.f2.at_ (i := 0) rfl
        obtain ⟨bb, ob, s2, rfl, hbb, hnb0, hat2⟩ := HM.out.f3.at_ (i := 0) rfl
        obtain ⟨A3, C3, rfl, _, _⟩ := hat1.kids.slice
        obtain ⟨A4, C4, rfl, _, _⟩ := hat2.kids.slice
        simp only [F.size] at hsz hN hbig
        obtain ⟨n3, hn3⟩ : ∃ m, ca.len = m := ⟨_, rfl⟩
        obtain ⟨n4, hn4⟩ : ∃ m, cb.len = m := ⟨_, rfl⟩
        rw [hn3] at hat1
        rw [hn4] at hat2
        obtain ⟨t1, t2, t3, t4, tr1⟩ := HM.out.f2.tail
        obtain ⟨t1', t2', t3', t4', tr2⟩ := HM.out.f3.tail
        obtain ⟨A1, n1, C1, hsl1, en1, eC1, hA1⟩ := tail_slice ba oa na Ca t1 t2
        obtain ⟨A2, n2, C2, hsl2, en2, eC2, hA2⟩ := tail_slice bb ob nb Cb t1' t2'
        have g1 := tr1 A1 hA1
        have g2 := tr2 A2 hA2
        rw [← en1, ← eC1] at g1
        rw [← en2, ← eC2] at g2
        have HKC : Hid (∀ W, Below w.heap.size w W → (W.cell? ⟨ba, oa, none⟩ = some (.int .i64 ka) ∧ W.cell? ⟨ba, oa + 1, none⟩ = some (.string xa) ∧ W.cell? ⟨ba, oa + 2, none⟩ = some (.string ya) ∧ W.cell? ⟨ba, oa + 3, none⟩ = some (.slice A3 n3 C3)) ∧
            (W.cell? ⟨bb, ob, none⟩ = some (.int .i64 kb) ∧ W.cell? ⟨bb, ob + 1, none⟩ = some (.string xb) ∧ W.cell? ⟨bb, ob + 2, none⟩ = some (.string yb) ∧ W.cell? ⟨bb, ob + 3, none⟩ = some (.slice A4 n4 C4))) := fun W hW => by
          have c0 := hat1.c0; have c1 := hat1.c1; have c2 := hat1.c2; have c3 := hat1.c3
          have d0 := hat2.c0; have d1 := hat2.c1; have d2 := hat2.c2; have d3 := hat2.c3
          simp only [Nat.zero_mul, Nat.add_zero] at c0 c1 c2 c3 d0 d1 d2 d3
          have e1 : ∀ (b o : Nat) (v : Value), b < w.heap.size → wr.cell? ⟨b, o, none⟩ = some v → W.cell? ⟨b, o, none⟩ = some v := fun b o v hb h => ((hW.cell (p := ⟨b, o, none⟩) hb).trans (HM.out.bel.cell (p := ⟨b, o, none⟩) hb).symm).trans h
          exact ⟨⟨e1 _ _ _ hba c0, e1 _ _ _ hba c1, e1 _ _ _ hba c2, e1 _ _ _ hba c3⟩, e1 _ _ _ hbb d0, e1 _ _ _ hbb d1, e1 _ _ _ hbb d2, e1 _ _ _ hbb d3⟩
        have HK1 := Lib.hid hat1.kids; have HK2 := Lib.hid hat2.kids
        have HG1 := Lib.hid g1; have HG2 := Lib.hid g2
        have HEN : Hid (n1 = n2) := by show _ = _; have := HLL.out; omega
        have hna : (0 : Int) < (na : Int) := by omega
        have hnb : (0 : Int) < (nb : Int) := by omega
        have hna1 : (1 : Int) ≤ (na : Int) := by omega
        have hna2 : 0 < na := by omega
        have hnb2 : 0 < nb := by omega
        have hnz : ((na : Int) == 0) = false := by
          have : ¬ ((na : Int) = 0) := by omega
          simpa using this
        have hra : ra.size ≤ N ∧ ra.size ≤ 100000 := by omega
        clear hat1 hat2 g1 g2 tr1 tr2 hba hbb hA1 hA2 en1 en2 eC1 eC2 t1 t2 t3 t4 t1' t2' t3' t4' hn3 hn4 hfe hfe2 hrb hna0 hnb0
        go_wp2_with fail
        refine HAL.out.mono ?_
        rintro e wa ⟨rfl, hba⟩
        have HWA := Lib.hid (HM.out.bel.trans (hba.mono HM.out.bel.size))
        have HX : Hid (∀ W, Below wa.heap.size wa W → Boxed W w.heap.size k1 x1 y1 (.slice (some ⟨ba, oa, none⟩) na Ca) ∧ Boxed W (w.heap.size + 1) k2 x2 y2 (.slice (some ⟨bb, ob, none⟩) nb Cb)) := fun W hW =>
          ⟨(HM.out.b2.below hba HM.out.b2.lt).below hW (HM.out.b2.below hba HM.out.b2.lt).lt, (HM.out.b3.below hba HM.out.b3.lt).below hW (HM.out.b3.below hba HM.out.b3.lt).lt⟩
        have HEQ : Hid (∀ W, Below wa.heap.size wa W → Calls Tryd.prog 26 #[.slice A1 n1 C1, .slice A2 n2 C2, .func (.func 8) #[] #[]] W fun e w' => SamePost (same ra rb) W e w') := fun W hW => by
          have hw := hba.trans (hW.mono hba.size)
          have hs := Nat.le_trans HM.out.bel.size hw.size
          exact eqf_any N HIH.out A1 n1 C1 ra A2 n2 C2 rb W hra.1 hra.2 ((HG1.out.below hw HM.out.bel.size).up hs) ((HG2.out.below hw HM.out.bel.size).up hs) HEN.out
        have HRQ : Hid ((sameT ka xa ya ca kb xb yb cb && same ra rb) = res) := by show _ = _; rw [← same_cons]; exact HRS.out
        have HKB : Hid (∀ W, Below wa.heap.size wa W → Fs W (Lo w.heap.size) (.slice A3 n3 C3) ca ∧ Fs W (Lo w.heap.size) (.slice A4 n4 C4) cb) := fun W hW => ⟨HK1.out.below (hba.trans (hW.mono hba.size)) HM.out.bel.size, HK2.out.below (hba.trans (hW.mono hba.size)) HM.out.bel.size⟩
        obtain ⟨sr, hsr⟩ : ∃ sr, same ra rb = sr := ⟨_, rfl⟩
        rw [hsr] at HEQ HRQ
        obtain ⟨z0, z1, z2, z3⟩ := (HX.out wa (Below.refl _ _)).1.cells
        clear hba hsr p0 p1 p2 p3 r0 r1 r2 r3 HM HRS HK1 HK2 HG1 HG2 HAL
        go_wp2
        refine region_rel (fun W W' => Below W.heap.size W W') [Cd.is (Value.pointer (some ⟨w.heap.size, 3, none⟩)), Cd.is (Value.slice (some ⟨ba, oa, none⟩) na Ca), Cd.is (Value.slice A1 n1 C1), Cd.is (Value.pointer (some ⟨w.heap.size + 1, 3, none⟩)), Cd.is (Value.slice (some ⟨bb, ob, none⟩) nb Cb), Cd.is (Value.slice A2 n2 C2), Cd.is (Value.bool sr), Cd.is (Value.bool (!sr))] (by kernel_rfl) (by decide) (by kernel_rfl) (Below.refl _ _) (fun _ _ _ h k => h.trans (k.mono h.size)) ?steps ?behind
        case steps =>
          intro xv W hW a ha
          replace hW := undrew hW
          simp only [fillA] at ha
          simp only [List.setIfInBounds_toArray, List.set_cons_succ, List.set_cons_zero, Nat.zero_add, Nat.reduceAdd] at ha
          subst ha
          refine ⟨fun hd K hK => ?s0, fun hd K hK => ?s1, fun hd K hK => ?s2, fun hd K hK => ?s3, fun hd K hK => ?s4, fun hd K hK => ?s5, fun hd K hK => ?s6, fun hd K hK => ?s7, trivial⟩
          case s0 =>
            clear hd
            simp only [Act.put, List.setIfInBounds_toArray, List.set_cons_succ, List.set_cons_zero] at hK
            refine (if_pos (by rfl)).mpr ?_
            go_simp
            exact hK.out _ _ (Below.refl _ _) rfl
          case s1 =>
            have hx0 : xv 0 = Value.pointer (some ⟨w.heap.size, 3, none⟩) := hd 0 (by kernel_rfl)
            clear hd
            simp only [Act.put, List.setIfInBounds_toArray, List.set_cons_succ, List.set_cons_zero] at hK
            rw [hx0] at hK ⊢
            refine (if_pos (by rfl)).mpr ?_
            obtain ⟨hq0, hq1, hq2, hq3⟩ := (HX.out W hW).1.cells
            go_simp
            exact hK.out _ _ (Below.refl _ _) rfl
          case s2 =>
            have hx1 : xv 1 = Value.slice (some ⟨ba, oa, none⟩) na Ca := hd 1 (by kernel_rfl)
            clear hd
            simp only [Act.put, List.setIfInBounds_toArray, List.set_cons_succ, List.set_cons_zero] at hK
            rw [hx1] at hK ⊢
            refine (if_pos (by rfl)).mpr ?_
            go_simp
            exact hK.out _ _ (Below.refl _ _) rfl
          case s3 =>
            clear hd
            simp only [Act.put, List.setIfInBounds_toArray, List.set_cons_succ, List.set_cons_zero] at hK
            refine (if_pos (by rfl)).mpr ?_
            go_simp
            exact hK.out _ _ (Below.refl _ _) rfl
          case s4 =>
            have hx3 : xv 3 = Value.pointer (some ⟨w.heap.size + 1, 3, none⟩) := hd 3 (by kernel_rfl)
            clear hd
            simp only [Act.put, List.setIfInBounds_toArray, List.set_cons_succ, List.set_cons_zero] at hK
            rw [hx3] at hK ⊢
            refine (if_pos (by rfl)).mpr ?_
            obtain ⟨hq0, hq1, hq2, hq3⟩ := (HX.out W hW).2.cells
            go_simp
            exact hK.out _ _ (Below.refl _ _) rfl
          case s5 =>
            have hx4 : xv 4 = Value.slice (some ⟨bb, ob, none⟩) nb Cb := hd 4 (by kernel_rfl)
            clear hd
            simp only [Act.put, List.setIfInBounds_toArray, List.set_cons_succ, List.set_cons_zero] at hK
            rw [hx4] at hK ⊢
            refine (if_pos (by rfl)).mpr ?_
            go_simp
            exact hK.out _ _ (Below.refl _ _) rfl
          case s6 =>
            have hx2 : xv 2 = Value.slice A1 n1 C1 := hd 2 (by kernel_rfl)
            have hx5 : xv 5 = Value.slice A2 n2 C2 := hd 5 (by kernel_rfl)
            clear hd
            simp only [Act.put, List.setIfInBounds_toArray, List.set_cons_succ, List.set_cons_zero] at hK
            rw [hx2] at hK ⊢
            rw [hx5] at hK ⊢
            refine (if_pos (by rfl)).mpr ?_
            go_simp
            go_at_call 26
            refine (HEQ.out W hW).mono ?_
            rintro e w' ⟨rfl, hb⟩
            exact hK.out _ _ hb rfl
          case s7 =>
            have hx6 : xv 6 = Value.bool sr := hd 6 (by kernel_rfl)
            clear hd
            simp only [Act.put, List.setIfInBounds_toArray, List.set_cons_succ, List.set_cons_zero] at hK
            rw [hx6] at hK ⊢
            refine (if_pos (by rfl)).mpr ?_
            go_simp
            exact hK.out _ _ (Below.refl _ _) rfl
        case behind =>
          intro xv W hW hx a ha
          replace hW := undrew hW
          simp only [fillA] at ha
          simp only [List.setIfInBounds_toArray, List.set_cons_succ, List.set_cons_zero, Nat.zero_add, Nat.reduceAdd] at ha
          subst ha
          have h7 : xv 7 = Value.bool (!sr) := hx 7 (by decide)
          rw [h7]
          rename World => wg
          have HWG := Lib.hid (HWA.out.trans (hW.mono HWA.out.size))
          have HKD := Lib.hid (HKB.out wg hW)
          have HX' : Hid (∀ W, Below wg.heap.size wg W → Boxed W w.heap.size k1 x1 y1 (.slice (some ⟨ba, oa, none⟩) na Ca) ∧ Boxed W (w.heap.size + 1) k2 x2 y2 (.slice (some ⟨bb, ob, none⟩) nb Cb)) := fun W hW' => HX.out W (hW.trans (hW'.mono hW.size))
          clear hx hW h7 HX HKB HEQ z0 z1 z2 z3
          have HX := HX'
          clear HX'
          cases sr with
          | false =>
            have HE : Hid (res = false) := by show _ = _; rw [← HRQ.out, Bool.and_false]
            go_wp2
            go_ret
            exact ⟨by rw [HE.out]; rfl, HWG.out⟩
          | true =>
            have HRE : Hid (sameT ka xa ya ca kb xb yb cb = res) := by show _ = _; rw [← HRQ.out, Bool.and_true]
            go_wp2
            refine region_rel4 [0, 1, 2, 3, 8] 8 9 10 (fun W W' => Below W.heap.size W W') (fun W => Below wg.heap.size wg W) (fun q _ _ W => MQ w W ka xa ya (.slice A3 n3 C3) kb xb yb (.slice A4 n4 C4) k2 x2 y2 (.slice (some ⟨bb, ob, none⟩) nb Cb) q) [Cd.any, Cd.any, Cd.any, Cd.any, Cd.any, Cd.any, Cd.any, Cd.any, Cd.any, Cd.any] [(fun v => v = Value.pointer (some ⟨w.heap.size, 3, none⟩)), (fun v => v = Value.slice (some ⟨ba, oa, none⟩) na Ca), (fun v => v = Value.pointer (some ⟨ba, oa, none⟩)), (fun v => v = Value.agg #[.int .i64 ka, .string xa, .string ya, .slice A3 n3 C3]), (fun v => v = Value.pointer (some ⟨w.heap.size + 1, 3, none⟩)), (fun v => v = Value.slice (some ⟨bb, ob, none⟩) nb Cb), (fun v => v = Value.pointer (some ⟨bb, ob, none⟩)), (fun v => v = Value.agg #[.int .i64 kb, .string xb, .string yb, .slice A4 n4 C4]), (fun _ => True), (fun _ => True)] [(fun _ _ => True), (fun _ _ => True), (fun _ _ => True), (fun _ _ => True), (fun _ _ => True), (fun _ _ => True), (fun _ _ => True), (fun _ _ => True), (fun _ _ => True), (fun _ _ => True)] (by kernel_rfl) (by decide) (by kernel_rfl) (by kernel_rfl) (by kernel_rfl) (by kernel_rfl) (by decide) (by decide) (by decide) (by decide) (by decide) ((Below.refl _ _).drew) (fun _ _ hU hS => hS.trans (hU.mono hS.size)) (fun _ _ _ _ _ hU hS => hS.later hU) ?steps ?behind
            case steps =>
              intro xv W a ha
              simp only [fillA] at ha
              simp only [List.setIfInBounds_toArray, List.set_cons_succ, List.set_cons_zero, Nat.zero_add, Nat.reduceAdd] at ha
              subst ha
              refine ⟨fun hI hd hdB pp qq rr hp0 hp1 hpre hpost hq0 hr0 hq1 hr1 K hK => ?s0, fun hI hd hdB pp qq rr hp0 hp1 hpre hpost hq0 hr0 hq1 hr1 K hK => ?s1, fun hI hd hdB pp qq rr hp0 hp1 hpre hpost hq0 hr0 hq1 hr1 K hK => ?s2, fun hI hd hdB pp qq rr hp0 hp1 hpre hpost hq0 hr0 hq1 hr1 K hK => ?s3, fun hI hd hdB pp qq rr hp0 hp1 hpre hpost hq0 hr0 hq1 hr1 K hK => ?s4, fun hI hd hdB pp qq rr hp0 hp1 hpre hpost hq0 hr0 hq1 hr1 K hK => ?s5, fun hI hd hdB pp qq rr hp0 hp1 hpre hpost hq0 hr0 hq1 hr1 K hK => ?s6, fun hI hd hdB pp qq rr hp0 hp1 hpre hpost hq0 hr0 hq1 hr1 K hK => ?s7, fun hI hd hdB pp qq rr hp0 hp1 hpre hpost hq0 hr0 hq1 hr1 K hK => ?s8, fun hI hd hdB pp qq rr hp0 hp1 hpre hpost hq0 hr0 hq1 hr1 K hK => ?s9, trivial⟩
              case s0 =>
                clear hd hp0 hp1 hpre hpost hq0 hr0 hq1 hr1
                simp only [Act.put, List.setIfInBounds_toArray, List.set_cons_succ, List.set_cons_zero] at hK
                refine (if_pos (by rfl)).mpr ?_
                go_simp
                exact hK.out _ _ (fun _ _ _ => ⟨Below.refl _ _, trivial⟩) (fun e => absurd e (by decide)) (fun e => absurd e (by decide)) (fun e => absurd e (by decide)) rfl (fun _ => trivial)
              case s1 =>
                have hx0 : xv 0 = Value.pointer (some ⟨w.heap.size, 3, none⟩) := hd 0 (by kernel_rfl)
                obtain rfl := hpre (.inl (by kernel_rfl))
                obtain ⟨hSW, he⟩ := hp0 rfl
                clear hd hp0 hp1 hpre hpost hq0 hr0 hq1 hr1 he
                simp only [Act.put, List.setIfInBounds_toArray, List.set_cons_succ, List.set_cons_zero] at hK
                rw [hx0] at hK ⊢
                refine (if_pos (by rfl)).mpr ?_
                obtain ⟨hq0, hq1, hq2, hq3⟩ := (HX.out W hSW).1.cells
                go_simp
                exact hK.out _ _ (fun _ _ _ => ⟨Below.refl _ _, trivial⟩) (fun e => absurd e (by decide)) (fun e => absurd e (by decide)) (fun e => absurd e (by decide)) rfl (fun _ => trivial)
              case s2 =>
                have hx1 : xv 1 = Value.slice (some ⟨ba, oa, none⟩) na Ca := hd 1 (by kernel_rfl)
                clear hd hp0 hp1 hpre hpost hq0 hr0 hq1 hr1
                simp only [Act.put, List.setIfInBounds_toArray, List.set_cons_succ, List.set_cons_zero] at hK
                rw [hx1] at hK ⊢
                refine (if_pos (by rfl)).mpr ?_
                go_simp
                exact hK.out _ _ (fun _ _ _ => ⟨Below.refl _ _, trivial⟩) (fun e => absurd e (by decide)) (fun e => absurd e (by decide)) (fun e => absurd e (by decide)) rfl (fun _ => trivial)
              case s3 =>
                have hx2 : xv 2 = Value.pointer (some ⟨ba, oa, none⟩) := hd 2 (by kernel_rfl)
                obtain rfl := hpre (.inl (by kernel_rfl))
                obtain ⟨hSW, he⟩ := hp0 rfl
                clear hd hp0 hp1 hpre hpost hq0 hr0 hq1 hr1 he
                simp only [Act.put, List.setIfInBounds_toArray, List.set_cons_succ, List.set_cons_zero] at hK
                rw [hx2] at hK ⊢
                refine (if_pos (by rfl)).mpr ?_
                obtain ⟨hq0, hq1, hq2, hq3⟩ := (HKC.out W (HWG.out.trans (hSW.mono HWG.out.size))).1
                go_simp
                exact hK.out _ _ (fun _ _ _ => ⟨Below.refl _ _, trivial⟩) (fun e => absurd e (by decide)) (fun e => absurd e (by decide)) (fun e => absurd e (by decide)) rfl (fun _ => trivial)
              case s4 =>
                clear hd hp0 hp1 hpre hpost hq0 hr0 hq1 hr1
                simp only [Act.put, List.setIfInBounds_toArray, List.set_cons_succ, List.set_cons_zero] at hK
                refine (if_pos (by rfl)).mpr ?_
                go_simp
                exact hK.out _ _ (fun _ _ _ => ⟨Below.refl _ _, trivial⟩) (fun e => absurd e (by decide)) (fun e => absurd e (by decide)) (fun e => absurd e (by decide)) rfl (fun _ => trivial)
              case s5 =>
                have hx4 : xv 4 = Value.pointer (some ⟨w.heap.size + 1, 3, none⟩) := hd 4 (by kernel_rfl)
                simp only [Act.put, List.setIfInBounds_toArray, List.set_cons_succ, List.set_cons_zero] at hK
                rw [hx4] at hK ⊢
                refine (if_pos (by rfl)).mpr ?_
                have hbx : Boxed W (w.heap.size + 1) k2 x2 y2 (.slice (some ⟨bb, ob, none⟩) nb Cb) ∧ Below w.heap.size w W := by
                  cases pp with
                  | false => exact ⟨(HX.out W (hp0 rfl).1).2, HWG.out.trans ((hp0 rfl).1.mono HWG.out.size)⟩
                  | true =>
                    obtain rfl := hq0 (.inl (by kernel_rfl))
                    exact ⟨(hp1 rfl).b3 rfl, (hp1 rfl).bel⟩
                clear hp0 hp1 hpre hpost hq0 hr0 hq1 hr1 hd
                obtain ⟨hz0, hz1, hz2, hz3⟩ := hbx.1.cells
                go_simp
                exact hK.out _ _ (fun _ _ _ => ⟨Below.refl _ _, trivial⟩) (fun e => absurd e (by decide)) (fun e => absurd e (by decide)) (fun e => absurd e (by decide)) rfl (fun _ => trivial)
              case s6 =>
                have hx5 : xv 5 = Value.slice (some ⟨bb, ob, none⟩) nb Cb := hd 5 (by kernel_rfl)
                clear hd hp0 hp1 hpre hpost hq0 hr0 hq1 hr1
                simp only [Act.put, List.setIfInBounds_toArray, List.set_cons_succ, List.set_cons_zero] at hK
                rw [hx5] at hK ⊢
                refine (if_pos (by rfl)).mpr ?_
                go_simp
                exact hK.out _ _ (fun _ _ _ => ⟨Below.refl _ _, trivial⟩) (fun e => absurd e (by decide)) (fun e => absurd e (by decide)) (fun e => absurd e (by decide)) rfl (fun _ => trivial)
              case s7 =>
                have hx6 : xv 6 = Value.pointer (some ⟨bb, ob, none⟩) := hd 6 (by kernel_rfl)
                simp only [Act.put, List.setIfInBounds_toArray, List.set_cons_succ, List.set_cons_zero] at hK
                rw [hx6] at hK ⊢
                refine (if_pos (by rfl)).mpr ?_
                have hbx : Boxed W (w.heap.size + 1) k2 x2 y2 (.slice (some ⟨bb, ob, none⟩) nb Cb) ∧ Below w.heap.size w W := by
                  cases pp with
                  | false => exact ⟨(HX.out W (hp0 rfl).1).2, HWG.out.trans ((hp0 rfl).1.mono HWG.out.size)⟩
                  | true =>
                    obtain rfl := hq0 (.inl (by kernel_rfl))
                    exact ⟨(hp1 rfl).b3 rfl, (hp1 rfl).bel⟩
                clear hp0 hp1 hpre hpost hq0 hr0 hq1 hr1 hd
                obtain ⟨hz0, hz1, hz2, hz3⟩ := (HKC.out W hbx.2).2
                go_simp
                exact hK.out _ _ (fun _ _ _ => ⟨Below.refl _ _, trivial⟩) (fun e => absurd e (by decide)) (fun e => absurd e (by decide)) (fun e => absurd e (by decide)) rfl (fun _ => trivial)
              case s8 =>
                have hx3 : xv 3 = Value.agg #[.int .i64 ka, .string xa, .string ya, .slice A3 n3 C3] := hd 3 (by kernel_rfl)
                obtain rfl := hpre (.inr rfl)
                obtain ⟨hSW, he⟩ := hp0 rfl
                clear hd hp0 hp1 hpre hpost hq0 hr0 hq1 hr1 he
                simp only [Act.put] at hK
                rw [hx3] at hK ⊢
                refine (if_pos (by rfl)).mpr ?_
                have hbx := HX.out W hSW
                obtain ⟨y0, y1, y2', y3⟩ := frz hbx.1
                obtain ⟨z0, z1, z2, z3⟩ := hbx.1.cells
                have hset := MQ.start (k := ka) (x := xa) (y := ya) (s := .slice A3 n3 C3) (kb := kb) (xb := xb) (yb := yb) (sb := .slice A4 n4 C4) (HWG.out.trans (hSW.mono HWG.out.size)) hbx.1 hbx.2
                go_simp
                exact hK.out undef _ (fun e => absurd rfl e) (fun _ => hset) (fun e => absurd e (by decide)) (fun e => absurd e (by decide)) trivial (fun _ => trivial)
              case s9 =>
                have hx7 : xv 7 = Value.agg #[.int .i64 kb, .string xb, .string yb, .slice A4 n4 C4] := hd 7 (by kernel_rfl)
                obtain rfl := hpost (by kernel_rfl)
                obtain rfl := hq0 (.inr rfl)
                have hPh := hp1 rfl
                clear hd hp0 hp1 hpre hpost hq0 hr0 hq1 hr1
                simp only [Act.put] at hK
                rw [hx7] at hK ⊢
                refine (if_pos (by rfl)).mpr ?_
                obtain ⟨y0, y1, y2', y3⟩ := frz (hPh.b3 rfl)
                obtain ⟨z0, z1, z2, z3⟩ := (hPh.b3 rfl).cells
                have hset := hPh.done
                go_simp
                exact hK.out undef _ (fun _ e => absurd rfl e) (fun e => absurd e (by decide)) (fun _ => hset) (fun e => absurd e (by decide)) trivial (fun _ => trivial)
            case behind =>
              intro xv W hW hx hxB a ha
              simp only [fillA] at ha
              simp only [List.setIfInBounds_toArray, List.set_cons_succ, List.set_cons_zero, Nat.zero_add, Nat.reduceAdd] at ha
              subst ha
              have HMB := Lib.hid (hW : MQ w W ka xa ya (.slice A3 n3 C3) kb xb yb (.slice A4 n4 C4) k2 x2 y2 (.slice (some ⟨bb, ob, none⟩) nb Cb) true)
              have HMN : Hid (MAt w W ka xa ya (.slice A3 n3 C3) ca kb xb yb (.slice A4 n4 C4) cb) := ⟨HMB.out.bel, HMB.out.b2, HMB.out.b4 rfl, HKD.out.1.keep fun b hb => (HMB.out.bel.block b hb).trans (HWG.out.block b hb).symm, HKD.out.2.keep fun b hb => (HMB.out.bel.block b hb).trans (HWG.out.block b hb).symm⟩
              clear hx hxB hW
              go_wp2
              go_roundg (ca.size + 1)
              case measure => omega
              case rel => exact ⟨ka, xa, ya, A3, n3, C3, ca, kb, xb, yb, A4, n4, C4, cb, by omega, by omega, by omega, rfl, HMN.out, HRE.out⟩
theorem same_any (N : Nat) : SameSpec N := by
  induction N using Nat.strongRecOn with
  | _ N ih => exact same_step N ih
end Go.Proofs.YtoecimgmghlfpaaDoor.Tree
