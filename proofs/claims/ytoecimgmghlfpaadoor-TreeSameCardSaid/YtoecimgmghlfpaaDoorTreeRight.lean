/-
  Layer 5 (tree): Right: which trees are programs. Written by gen_treeright.py.
-/
import Derived.Test.YtoecimgmghlfpaaDoorTreeFits
import Derived.Test.YtoecimgmghlfpaaDoorTreeDeeper
import Derived.Test.YtoecimgmghlfpaaDoorMemRel2
import Derived.Deep.LoopGhost
namespace Go.Proofs.YtoecimgmghlfpaaDoor.Tree
open Go.ChangeShapes Go.WideShapes Go.ChangeAt Go.RowKit Mem
set_option linter.unusedVariables false

/-- No text is longer than a million bytes. -/
def Small : F → Prop
  | .nil => True
  | .cons k x y c r => x.size ≤ 1000000 ∧ y.size ≤ 1000000 ∧ Small c ∧ Small r
theorem Small.drop : ∀ {n : Nat} {f : F}, Small f → Small (f.drop n)
  | 0, f, h => h
  | n + 1, .nil, _ => by simp [F.drop, Small]
  | n + 1, .cons k x y c r, h => Small.drop (n := n) h.2.2.2

/-- Block g is a variable that holds a node. -/
def Boxed (w : World) (g : Nat) (k : Int) (x y : ByteArray) (s : Value) : Prop := w.heap[g]? = some (.cells #[.int .i64 k, .string x, .string y, s] 24 (0, 0))
theorem Boxed.cells {w : World} {g : Nat} {k : Int} {x y : ByteArray} {s : Value} (h : Boxed w g k x y s) :
    w.cell? ⟨g, 0, none⟩ = some (.int .i64 k) ∧ w.cell? ⟨g, 1, none⟩ = some (.string x) ∧ w.cell? ⟨g, 2, none⟩ = some (.string y) ∧ w.cell? ⟨g, 3, none⟩ = some s := by
  unfold Boxed at h
  refine ⟨?_, ?_, ?_, ?_⟩ <;> simp [World.cell?, h]
theorem Boxed.below {w w' : World} {g : Nat} {k : Int} {x y : ByteArray} {s : Value} (h : Boxed w g k x y s) {B : Nat} (hb : Below B w w') (hg : g < B) : Boxed w' g k x y s := (hb.block g hg).trans h
theorem Boxed.lt {w : World} {g : Nat} {k : Int} {x y : ByteArray} {s : Value} (h : Boxed w g k x y s) : g < w.heap.size := lt_of_block h
theorem boxed_new (w : World) (k : Int) (x y : ByteArray) (s : Value) : Boxed (w.alloc (.cells #[.int .i64 k, .string x, .string y, s] 24)) w.heap.size k x y s := heap_alloc_new w _
theorem frz {w : World} {g : Nat} {k : Int} {x y : ByteArray} {s : Value} (h : Boxed w g k x y s) : w.frozen? ⟨g, 0, none⟩ = false ∧ w.frozen? ⟨g, 1, none⟩ = false ∧ w.frozen? ⟨g, 2, none⟩ = false ∧ w.frozen? ⟨g, 3, none⟩ = false := by
  unfold Boxed at h
  refine ⟨?_, ?_, ?_, ?_⟩ <;> simp [World.frozen?, h]

/-- What holds at each round of Right's closure. -/
structure RAt (w wr : World) (cr : Nat) (res : Bool) (k : Int) (x y : ByteArray) (A : Option Addr) (n C : Nat) (c : F) (it : Bool) (d : Nat) : Prop where
  bel : Below w.heap.size w wr
  box : Boxed wr w.heap.size k x y (.slice A n C)
  fs : Fs wr (Lo w.heap.size) (.slice A n C) c
  hx : x.size ≤ 1000000
  hy : y.size ≤ 1000000
  sm : Small c
  eq : nodeR nmB tkB k x y c it d = res

theorem nodeR_deep {k : Int} {x y : ByteArray} {c : F} {it : Bool} {d : Nat} (h : 256 < d) : nodeR nmB tkB k x y c it d = false := by
  unfold nodeR; rw [decide_eq_false (by omega)]; rfl
theorem nodeR_fits {k : Int} {x y : ByteArray} {c : F} {it : Bool} {d : Nat} (h : fitsN nmB tkB k x y c it = false) : nodeR nmB tkB k x y c it d = false := by
  unfold nodeR; rw [h]; simp
theorem nodeR_leaf {k : Int} {x y : ByteArray} {it : Bool} {d : Nat} (hd : d ≤ 256) (h : fitsN nmB tkB k x y .nil it = true) : nodeR nmB tkB k x y .nil it d = true := by
  unfold nodeR; rw [h, decide_eq_true hd]; rfl
theorem nodeR_cons {k : Int} {x y : ByteArray} {it : Bool} {d : Nat} {k1 : Int} {x1 y1 : ByteArray} {c1 r1 : F} (hd : d ≤ 256) (h : fitsN nmB tkB k x y (.cons k1 x1 y1 c1 r1) it = true) :
    nodeR nmB tkB k x y (.cons k1 x1 y1 c1 r1) it d = (nodeR nmB tkB k1 x1 y1 c1 (holds k) (d + down k x 0 k1 x1) && kidsR nmB tkB k x (holds k) d 1 r1) := by
  conv => lhs; unfold nodeR
  rw [h, decide_eq_true hd, kidsR_cons]
  rfl

theorem set_at {w : World} {g : Nat} {cs : Array Value} {T : TypeId} (h : w.heap[g]? = some (.cells cs T (0, 0))) (i : Nat) (v : Value) : (w.setCell ⟨g, i, none⟩ v).heap[g]? = some (.cells (cs.setIfInBounds i v) T (0, 0)) := by
  have hlt := lt_of_block h
  have h' : w.heap[g] = .cells cs T (0, 0) := by simpa [Array.getElem?_eq_getElem hlt] using h
  show (w.heap.modify g _)[g]? = _
  rw [Array.getElem?_eq_getElem (by simpa using hlt), Array.getElem_modify_self, h']
  simp
theorem box_new {w : World} {g : Nat} {k k1 : Int} {x y x1 y1 : ByteArray} {s s1 : Value} (h : Boxed w g k x y s) :
    Boxed ((((w.setCell ⟨g, 0, none⟩ (.int .i64 k1)).setCell ⟨g, 1, none⟩ (.string x1)).setCell ⟨g, 2, none⟩ (.string y1)).setCell ⟨g, 3, none⟩ s1) g k1 x1 y1 s1 := by
  unfold Boxed at h ⊢
  have := set_at (set_at (set_at (set_at h 0 (.int .i64 k1)) 1 (.string x1)) 2 (.string y1)) 3 s1
  simpa using this
theorem box_below (w : World) (g : Nat) (v0 v1 v2 v3 : Value) : Below g w ((((w.setCell ⟨g, 0, none⟩ v0).setCell ⟨g, 1, none⟩ v1).setCell ⟨g, 2, none⟩ v2).setCell ⟨g, 3, none⟩ v3) :=
  ((((Below.refl g w).setCell (Nat.le_refl _) v0).setCell (Nat.le_refl _) v1).setCell (Nat.le_refl _) v2).setCell (Nat.le_refl _) v3

theorem size_drop {f : F} {j : Nat} {k : Int} {x y : ByteArray} {c r : F} (h : f.drop j = .cons k x y c r) : c.size < f.size := by
  induction j generalizing f with
  | zero => rw [show f = .cons k x y c r from h]; simp only [F.size]; omega
  | succ j ih =>
    cases f with
    | nil => simp [F.drop] at h
    | cons k' x' y' c' r' => have := ih (f := r') h; simp only [F.size]; omega
theorem wrap_small {i : Int} (h1 : -1000000000000 ≤ i) (h2 : i ≤ 9223372036854775807) : IntKind.i64.wrap i = i := by
  rw [IntKind.wrap_i64]; omega

theorem kid0 {w W : World} {S : Nat → Prop} {b off : Nat} {k : Int} {x y : ByteArray} {c : F} {s : Value} (h : At w S b off 0 k x y c s) (hb : Below w.heap.size w W) (hlt : b < w.heap.size) :
    W.cell? ⟨b, off, none⟩ = some (.int .i64 k) ∧ W.cell? ⟨b, off + 1, none⟩ = some (.string x) ∧ W.cell? ⟨b, off + 2, none⟩ = some (.string y) ∧ W.cell? ⟨b, off + 3, none⟩ = some s := by
  have c0 := h.c0; have c1 := h.c1; have c2 := h.c2; have c3 := h.c3
  simp only [Nat.zero_mul, Nat.add_zero] at c0 c1 c2 c3
  exact ⟨(hb.cell (p := ⟨b, off, none⟩) hlt).trans c0, (hb.cell (p := ⟨b, off + 1, none⟩) hlt).trans c1, (hb.cell (p := ⟨b, off + 2, none⟩) hlt).trans c2, (hb.cell (p := ⟨b, off + 3, none⟩) hlt).trans c3⟩

def RightSpec (N : Nat) : Prop := ∀ (cr : Nat) (k : Int) (x y : ByteArray) (A : Option Addr) (n C : Nat) (c : F) (it : Bool) (d : Nat) (w : World), c.size ≤ N → Fs w (Lo w.heap.size) (.slice A n C) c → x.size ≤ 1000000 → y.size ≤ 1000000 → Small c → d ≤ 1000 → Lex.Tab w → cr < w.heap.size →
  w.cell? ⟨cr, 0, none⟩ = some (.func (.func 30) #[] #[.pointer (some ⟨cr, 0, none⟩)]) →
  Calls Tryd.prog 30 #[.agg #[.int .i64 k, .string x, .string y, .slice A n C], .bool it, .int .i64 (d : Int), .pointer (some ⟨cr, 0, none⟩)] w fun e w' => e = .returned (.bool (nodeR nmB tkB k x y c it d)) ∧ Below w.heap.size w w'

set_option maxRecDepth 100000 in
set_option maxHeartbeats 16000000 in
theorem right1_step (N : Nat) (ih : ∀ M, M < N → RightSpec M) : RightSpec N := by
  intro cr k x y A n C c it d w hN hf hx hy hsm hd1 hT hcr hcl
  have HIHS := Lib.hid ih
  have HT := Lib.hid hT
  have HCL : Hid (∀ W, Below w.heap.size w W → W.cell? ⟨cr, 0, none⟩ = some (.func (.func 30) #[] #[.pointer (some ⟨cr, 0, none⟩)])) := fun W hW => (hW.cell (p := ⟨cr, 0, none⟩) hcr).trans hcl
  have b1 := below1 w (.cells #[.int .i64 k, .string x, .string y, .slice A n C] 24)
  have HR : Hid (RAt w (w.alloc (.cells #[.int .i64 k, .string x, .string y, .slice A n C] 24)) cr (nodeR nmB tkB k x y c it d) k x y A n C c it d) := ⟨b1, boxed_new _ _ _ _ _, hf.below b1 (Nat.le_refl _), hx, hy, hsm, rfl⟩
  generalize nodeR nmB tkB k x y c it d = res at *
  clear ih hT hf hx hy hsm hcl b1
  go_enter Tryd.func30, Tryd.ntmps30
  go_wp2
  go_loopg [1, 2] (c.size + 1) (fun p s1 s2 wr => ∃ (k : Int) (x y : ByteArray) (A : Option Addr) (n C : Nat) (c : F) (it : Bool) (d : Nat), c.size < p ∧ c.size ≤ N ∧ s1 = .bool it ∧ s2 = .int .i64 (d : Int) ∧ d ≤ 1000 ∧ Hid (RAt w wr cr res k x y A n C c it d))
  case atStart => exact ⟨k, x, y, A, n, C, c, it, d, by omega, hN, rfl, rfl, hd1, HR.out⟩
  case round =>
    clear HR hN hd1
    obtain ⟨k, x, y, A, n, C, c, it, d, hsz, hN, rfl, rfl, hd1, HM⟩ := hrel
    obtain ⟨q0, q1, q2, q3⟩ := HM.out.box.cells
    by_cases hd : 256 < d
    · have HE : Hid (res = false) := HM.out.eq.symm.trans (nodeR_deep hd)
      have hdi : ¬ (d : Int) ≤ 256 := by omega
      clear hd
      go_wp2
      go_ret
      exact ⟨by rw [HE.out]; rfl, HM.out.bel⟩
    have hd2 : d ≤ 256 := by omega
    have hdi : (d : Int) ≤ 256 := by omega
    have HFT := Lib.hid (fits_any k x y A n C c it wr (HM.out.fs.up HM.out.bel.size) HM.out.hx HM.out.hy (HT.out.below HM.out.bel HT.out.pos))
    have HBF : Hid (∀ W, Below wr.heap.size wr W → Boxed W w.heap.size k x y (.slice A n C)) := fun W hW => HM.out.box.below hW HM.out.box.lt
    cases hft : fitsN nmB tkB k x y c it with
    | false =>
      have HE : Hid (res = false) := HM.out.eq.symm.trans (nodeR_fits hft)
      rw [hft] at HFT
      clear hd hft
      go_wp2_with fail
      refine HFT.out.mono ?_
      rintro e wf ⟨rfl, hbf⟩
      have HB := Lib.hid (HM.out.bel.trans (hbf.mono HM.out.bel.size))
      clear hbf
      go_wp2
      go_ret
      exact ⟨by rw [HE.out]; rfl, HB.out⟩
    | true =>
      cases hc : c with
      | nil =>
        rw [hc] at hft HM HFT
        have HE : Hid (res = true) := HM.out.eq.symm.trans (nodeR_leaf hd2 hft)
        obtain ⟨A0, C0, e, _, _⟩ := HM.out.fs.slice
        injection e with e1 e2 e3
        subst e1; subst e3
        simp only [F.len] at e2
        subst e2
        rw [hft] at HFT
        clear hd hft hc
        go_wp2_with fail
        refine HFT.out.mono ?_
        rintro e wf ⟨rfl, hbf⟩
        have HB := Lib.hid (HM.out.bel.trans (hbf.mono HM.out.bel.size))
        obtain ⟨r0, r1, r2, r3⟩ := (HBF.out wf hbf).cells
        clear hbf q0 q1 q2 q3
        go_wp2
        go_ret
        exact ⟨by rw [HE.out]; rfl, HB.out⟩
      | cons k1 x1 y1 c1 r1 =>
        rw [hc] at hft HM HFT hsz hN
        have HEQ : Hid ((nodeR nmB tkB k1 x1 y1 c1 (holds k) (d + down k x 0 k1 x1) && kidsR nmB tkB k x (holds k) d 1 r1) = res) := (nodeR_cons hd2 hft).symm.trans HM.out.eq
        obtain ⟨b, off, s1, rfl, hbS, hn0, hat⟩ := HM.out.fs.at_ (i := 0) rfl
        obtain ⟨A1, C1, rfl, hl1, hl1'⟩ := hat.kids.slice
        have HAT := Lib.hid hat
        obtain ⟨h1n, hnC, hCm, hrl, hr⟩ := HM.out.fs.tail
        obtain ⟨A', n', C', hsl, en, eC, hA'⟩ := tail_slice b off n C h1n hnC
        have hr2 := hr A' hA'
        rw [← en, ← eC] at hr2
        rw [← en] at hrl
        have HR1 := Lib.hid hr2
        have HRL := Lib.hid hrl
        have hCn : n' ≤ C' := by omega
        have hCm' : C' ≤ 9223372036854775807 := by omega
        have hnz : ((n : Int) == 0) = false := kno (by omega)
        have HBS : Hid (b < w.heap.size) := hbS
        have hn01 : (0 : Int) < (n : Int) := by omega
        rw [hft] at HFT
        clear hd hft hc hat hr hr2 hrl hA' en eC hbS
        go_wp2_with fail
        refine HFT.out.mono ?_
        rintro e wf ⟨rfl, hbf⟩
        have HBE := Lib.hid (HM.out.bel.trans (hbf.mono HM.out.bel.size))
        have HBK := Lib.hid (HBF.out wf hbf)
        obtain ⟨r0, r1', r2, r3⟩ := HBK.out.cells
        have HFS := Lib.hid (HM.out.fs.below hbf HM.out.bel.size)
        have HRS := Lib.hid (HR1.out.below hbf HM.out.bel.size)
        have HKS := Lib.hid (HAT.out.kids.below hbf HM.out.bel.size)
        have HK0 : Hid (∀ W, Below wf.heap.size wf W → W.cell? ⟨b, off, none⟩ = some (.int .i64 k1) ∧ W.cell? ⟨b, off + 1, none⟩ = some (.string x1) ∧ W.cell? ⟨b, off + 2, none⟩ = some (.string y1) ∧ W.cell? ⟨b, off + 3, none⟩ = some (.slice A1 c1.len C1)) := fun W hW => kid0 HAT.out (hbf.trans (hW.mono hbf.size)) (Nat.lt_of_lt_of_le HBS.out HM.out.bel.size)
        have HHD := Lib.hid (holds_any k wf)
        clear hbf q0 q1 q2 q3 HFT
        go_wp2_with fail
        refine HHD.out.mono ?_
        rintro e wg ⟨rfl, hw⟩
        subst hw
        clear HHD
        go_wp2
        go_loopw [29] (fun i wr => ∃ j : Nat, j ≤ n' ∧ i = .int .i64 (j : Int) ∧ Hid (kidsR nmB tkB k x (holds k) d (j + 1) (r1.drop j) = kidsR nmB tkB k x (holds k) d 1 r1) ∧ Hid (Below wg.heap.size wg wr)) (fun i _ => n' - (intOf i).toNat)
        case atStart => exact ⟨0, Nat.zero_le _, rfl, rfl, Below.refl _ _⟩
        case round =>
          obtain ⟨j, hj, rfl, hkr, hbw⟩ := hrel
          by_cases hlt : j < n'
          · obtain ⟨kk, kx, ky, kc, kr, hdr, hdr2⟩ := F.drop_cons (n := j) (f := r1) (by rw [HRL.out]; exact hlt)
            obtain ⟨b2, off2, s2, rfl, hb2S, _, hat2⟩ := HRS.out.at_ hdr
            obtain ⟨Ak, Ck, rfl, _, _⟩ := hat2.kids.slice
            have hb2 : b2 < wr.heap.size := Nat.lt_of_lt_of_le hb2S (Nat.le_trans HBE.out.size hbw.out.size)
            have hb2g : b2 < wg.heap.size := Nat.lt_of_lt_of_le hb2S HBE.out.size
            have e0 := (hbw.out.cell (p := ⟨b2, off2 + j * 4, none⟩) hb2g).trans hat2.c0
            have e1 := (hbw.out.cell (p := ⟨b2, off2 + j * 4 + 1, none⟩) hb2g).trans hat2.c1
            have e2 := (hbw.out.cell (p := ⟨b2, off2 + j * 4 + 2, none⟩) hb2g).trans hat2.c2
            have e3 := (hbw.out.cell (p := ⟨b2, off2 + j * 4 + 3, none⟩) hb2g).trans hat2.c3
            have hlt' : (j : Int) < (n' : Int) := by omega
            have hj0 : (0 : Int) ≤ (j : Int) := by omega
            have hdn := down_le k x (j + 1) kk kx
            have bk := below1 wr (.cells #[.int .i64 kk, .string kx, .string ky, .slice Ak kc.len Ck] 24)
            have H8 : Hid (∀ W, Below (wr.alloc (.cells #[.int .i64 kk, .string kx, .string ky, .slice Ak kc.len Ck] 24)).heap.size (wr.alloc (.cells #[.int .i64 kk, .string kx, .string ky, .slice Ak kc.len Ck] 24)) W →
                W.cell? ⟨cr, 0, none⟩ = some (.func (.func 30) #[] #[.pointer (some ⟨cr, 0, none⟩)]) ∧
                (W.cell? ⟨wr.heap.size, 0, none⟩ = some (.int .i64 kk) ∧ W.cell? ⟨wr.heap.size, 1, none⟩ = some (.string kx) ∧ W.cell? ⟨wr.heap.size, 2, none⟩ = some (.string ky) ∧ W.cell? ⟨wr.heap.size, 3, none⟩ = some (.slice Ak kc.len Ck)) ∧
                (W.cell? ⟨w.heap.size, 0, none⟩ = some (.int .i64 k) ∧ W.cell? ⟨w.heap.size, 1, none⟩ = some (.string x) ∧ W.cell? ⟨w.heap.size, 2, none⟩ = some (.string y) ∧ W.cell? ⟨w.heap.size, 3, none⟩ = some (.slice (some ⟨b, off, none⟩) n C))) := fun W hW => by
              have hw1 : Below wg.heap.size wg W := hbw.out.trans ((bk.trans (hW.mono bk.size)).mono hbw.out.size)
              refine ⟨HCL.out W (HBE.out.trans (hw1.mono HBE.out.size)), ((boxed_new wr _ _ _ _).below hW (by simp)).cells, (HBK.out.below hw1 HBK.out.lt).cells⟩
            have hsz2 : kc.size < N := by have := size_drop hdr; simp only [F.size] at hN; omega
            have hsm2 : Small (F.cons kk kx ky kc kr) := by
              have := HM.out.sm
              simp only [Small] at this
              have h2 := Small.drop (n := j) this.2.2.2
              rwa [hdr] at h2
            have HDP : Hid (∀ W, Below (wr.alloc (.cells #[.int .i64 kk, .string kx, .string ky, .slice Ak kc.len Ck] 24)).heap.size (wr.alloc (.cells #[.int .i64 kk, .string kx, .string ky, .slice Ak kc.len Ck] 24)) W →
                Calls Tryd.prog 33 #[.agg #[.int .i64 k, .string x, .string y, .slice (some ⟨b, off, none⟩) n C], .int .i64 ((j : Int) + 1)] W fun e w' => e = .returned (.int .i64 ((down k x (j + 1) kk kx : Nat) : Int)) ∧ Below W.heap.size W w') := fun W hW => by
              have hw1 : Below wg.heap.size wg W := hbw.out.trans ((bk.trans (hW.mono bk.size)).mono hbw.out.size)
              have hww := HBE.out.trans (hw1.mono HBE.out.size)
              have := deeper_any k x y (some ⟨b, off, none⟩) n C (.cons k1 x1 y1 c1 r1) (j + 1) kk kx ky kc kr W ((HFS.out.below hw1 HBE.out.size).up hww.size) hdr
              rwa [show ((j + 1 : Nat) : Int) = (j : Int) + 1 from by omega] at this
            obtain ⟨rk, hrk⟩ : ∃ rk, nodeR nmB tkB kk kx ky kc (holds k) (d + down k x (j + 1) kk kx) = rk := ⟨_, rfl⟩
            have HIH : Hid (∀ W, Below (wr.alloc (.cells #[.int .i64 kk, .string kx, .string ky, .slice Ak kc.len Ck] 24)).heap.size (wr.alloc (.cells #[.int .i64 kk, .string kx, .string ky, .slice Ak kc.len Ck] 24)) W →
                Calls Tryd.prog 30 #[.agg #[.int .i64 kk, .string kx, .string ky, .slice Ak kc.len Ck], .bool (holds k), .int .i64 ((d : Int) + ((down k x (j + 1) kk kx : Nat) : Int)), .pointer (some ⟨cr, 0, none⟩)] W fun e w' => e = .returned (.bool rk) ∧ Below W.heap.size W w') := fun W hW => by
              have hw1 : Below wg.heap.size wg W := hbw.out.trans ((bk.trans (hW.mono bk.size)).mono hbw.out.size)
              have hww := HBE.out.trans (hw1.mono HBE.out.size)
              have := HIHS.out kc.size hsz2 cr kk kx ky Ak kc.len Ck kc (holds k) (d + down k x (j + 1) kk kx) W (Nat.le_refl _) ((hat2.kids.below hw1 HBE.out.size).up hww.size) hsm2.1 hsm2.2.1 hsm2.2.2.1 (by omega) (HT.out.below hww HT.out.pos) (by have := hww.size; omega) (HCL.out W hww)
              rwa [hrk, Int.natCast_add] at this
            have HKR : Hid (kidsR nmB tkB k x (holds k) d 1 r1 = (rk && kidsR nmB tkB k x (holds k) d (j + 1 + 1) (r1.drop (j + 1)))) := by
              show _ = _
              rw [← hkr.out, hdr, kidsR_cons, hrk, hdr2]
            have HBW2 : Hid (∀ W, Below (wr.alloc (.cells #[.int .i64 kk, .string kx, .string ky, .slice Ak kc.len Ck] 24)).heap.size (wr.alloc (.cells #[.int .i64 kk, .string kx, .string ky, .slice Ak kc.len Ck] 24)) W → Below wg.heap.size wg W) := fun W hW => hbw.out.trans ((bk.trans (hW.mono bk.size)).mono hbw.out.size)
            have hwr1 : IntKind.i64.wrap ((j : Int) + 1) = (j : Int) + 1 := wrap_small (by omega) (by omega)
            have hwr : IntKind.i64.wrap ((d : Int) + ((down k x (j + 1) kk kx : Nat) : Int)) = (d : Int) + ((down k x (j + 1) kk kx : Nat) : Int) := wrap_small (by omega) (by omega)
            clear hdr hdr2 hb2S hat2 hdn bk hsz2 hsm2 hrk hkr r0 r1' r2 r3
            generalize down k x (j + 1) kk kx = dn at *
            go_wp2
            refine region_rel (fun W W' => Below W.heap.size W W') [Cd.is (Value.func (.func 30) #[] #[.pointer (some ⟨cr, 0, none⟩)]), Cd.is (Value.agg #[.int .i64 kk, .string kx, .string ky, .slice Ak kc.len Ck]), Cd.is (Value.bool (holds k)), Cd.is (Value.int .i64 (d : Int)), Cd.is (Value.agg #[.int .i64 k, .string x, .string y, .slice (some ⟨b, off, none⟩) n C]), Cd.is (Value.int .i64 (j : Int)), Cd.is (Value.int .i64 ((j : Int) + 1)), Cd.is (Value.int .i64 (dn : Int)), Cd.is (Value.int .i64 ((d : Int) + (dn : Int))), Cd.is (Value.bool rk), Cd.is (Value.bool (!rk))] (by kernel_rfl) (by decide) (by kernel_rfl) (Below.refl _ _) (fun _ _ _ h k => h.trans (k.mono h.size)) ?steps ?behind
            case steps =>
              intro xv W hW a ha
              replace hW := undrew hW
              simp only [fillA] at ha
              simp only [List.setIfInBounds_toArray, List.set_cons_succ, List.set_cons_zero, Nat.zero_add, Nat.reduceAdd] at ha
              subst ha
              refine ⟨fun hd K hK => ?s0, fun hd K hK => ?s1, fun hd K hK => ?s2, fun hd K hK => ?s3, fun hd K hK => ?s4, fun hd K hK => ?s5, fun hd K hK => ?s6, fun hd K hK => ?s7, fun hd K hK => ?s8, fun hd K hK => ?s9, fun hd K hK => ?s10, trivial⟩
              case s0 =>
                clear hd
                simp only [Act.put, List.setIfInBounds_toArray, List.set_cons_succ, List.set_cons_zero] at hK
                refine (if_pos (by rfl)).mpr ?_
                obtain ⟨hq, _, _⟩ := H8.out W hW
                go_simp
                exact hK.out _ _ (Below.refl _ _) rfl
              case s1 =>
                clear hd
                simp only [Act.put, List.setIfInBounds_toArray, List.set_cons_succ, List.set_cons_zero] at hK
                refine (if_pos (by rfl)).mpr ?_
                obtain ⟨_, ⟨hq0, hq1, hq2, hq3⟩, _⟩ := H8.out W hW
                go_simp
                exact hK.out _ _ (Below.refl _ _) rfl
              case s2 =>
                clear hd
                simp only [Act.put, List.setIfInBounds_toArray, List.set_cons_succ, List.set_cons_zero] at hK
                refine (if_pos (by rfl)).mpr ?_
                go_simp
                exact hK.out _ _ (Below.refl _ _) rfl
              case s3 =>
                clear hd
                simp only [Act.put, List.setIfInBounds_toArray, List.set_cons_succ, List.set_cons_zero] at hK
                refine (if_pos (by rfl)).mpr ?_
                go_simp
                exact hK.out _ _ (Below.refl _ _) rfl
              case s4 =>
                clear hd
                simp only [Act.put, List.setIfInBounds_toArray, List.set_cons_succ, List.set_cons_zero] at hK
                refine (if_pos (by rfl)).mpr ?_
                obtain ⟨_, _, ⟨hq0, hq1, hq2, hq3⟩⟩ := H8.out W hW
                go_simp
                exact hK.out _ _ (Below.refl _ _) rfl
              case s5 =>
                clear hd
                simp only [Act.put, List.setIfInBounds_toArray, List.set_cons_succ, List.set_cons_zero] at hK
                refine (if_pos (by rfl)).mpr ?_
                go_simp
                exact hK.out _ _ (Below.refl _ _) rfl
              case s6 =>
                have hx5 : xv 5 = Value.int .i64 (j : Int) := hd 5 (by kernel_rfl)
                clear hd
                simp only [Act.put, List.setIfInBounds_toArray, List.set_cons_succ, List.set_cons_zero] at hK
                rw [hx5] at hK ⊢
                refine (if_pos (by rfl)).mpr ?_
                go_simp
                exact hK.out _ _ (Below.refl _ _) rfl
              case s7 =>
                have hx4 : xv 4 = Value.agg #[.int .i64 k, .string x, .string y, .slice (some ⟨b, off, none⟩) n C] := hd 4 (by kernel_rfl)
                have hx6 : xv 6 = Value.int .i64 ((j : Int) + 1) := hd 6 (by kernel_rfl)
                clear hd
                simp only [Act.put, List.setIfInBounds_toArray, List.set_cons_succ, List.set_cons_zero] at hK
                rw [hx4] at hK ⊢
                rw [hx6] at hK ⊢
                refine (if_pos (by rfl)).mpr ?_
                go_simp
                go_at_call 33
                refine (HDP.out W hW).mono ?_
                rintro e w' ⟨rfl, hb⟩
                exact hK.out _ _ hb rfl
              case s8 =>
                have hx3 : xv 3 = Value.int .i64 (d : Int) := hd 3 (by kernel_rfl)
                have hx7 : xv 7 = Value.int .i64 (dn : Int) := hd 7 (by kernel_rfl)
                clear hd
                simp only [Act.put, List.setIfInBounds_toArray, List.set_cons_succ, List.set_cons_zero] at hK
                rw [hx3] at hK ⊢
                rw [hx7] at hK ⊢
                refine (if_pos (by rfl)).mpr ?_
                go_simp
                exact hK.out _ _ (Below.refl _ _) rfl
              case s9 =>
                have hx0 : xv 0 = Value.func (.func 30) #[] #[.pointer (some ⟨cr, 0, none⟩)] := hd 0 (by kernel_rfl)
                have hx1 : xv 1 = Value.agg #[.int .i64 kk, .string kx, .string ky, .slice Ak kc.len Ck] := hd 1 (by kernel_rfl)
                have hx2 : xv 2 = Value.bool (holds k) := hd 2 (by kernel_rfl)
                have hx8 : xv 8 = Value.int .i64 ((d : Int) + (dn : Int)) := hd 8 (by kernel_rfl)
                clear hd
                simp only [Act.put, List.setIfInBounds_toArray, List.set_cons_succ, List.set_cons_zero] at hK
                rw [hx0] at hK ⊢
                rw [hx1] at hK ⊢
                rw [hx2] at hK ⊢
                rw [hx8] at hK ⊢
                refine (if_pos (by rfl)).mpr ?_
                go_simp
                go_at_call 30
                refine (HIH.out W hW).mono ?_
                rintro e w' ⟨rfl, hb⟩
                exact hK.out _ _ hb rfl
              case s10 =>
                have hx9 : xv 9 = Value.bool rk := hd 9 (by kernel_rfl)
                clear hd
                simp only [Act.put, List.setIfInBounds_toArray, List.set_cons_succ, List.set_cons_zero] at hK
                rw [hx9] at hK ⊢
                refine (if_pos (by rfl)).mpr ?_
                go_simp
                exact hK.out _ _ (Below.refl _ _) rfl
            case behind =>
              intro xv W hW hx a ha
              replace hW := undrew hW
              simp only [fillA] at ha
              simp only [List.setIfInBounds_toArray, List.set_cons_succ, List.set_cons_zero, Nat.zero_add, Nat.reduceAdd] at ha
              subst ha
              have h10 : xv 10 = Value.bool (!rk) := hx 10 (by decide)
              rw [h10]
              have HW := Lib.hid (HBW2.out W hW)
              clear hx h10 hW HBW2 H8 HDP HIH
              cases rk with
              | true =>
                have HK2 : Hid (kidsR nmB tkB k x (holds k) d (j + 1 + 1) (r1.drop (j + 1)) = kidsR nmB tkB k x (holds k) d 1 r1) := by
                  show _ = _
                  rw [HKR.out]; rfl
                go_wp2
                go_roundw
                case rel => exact ⟨j + 1, by omega, by go_num, HK2.out, HW.out⟩
                case measure => simp [intOf]; omega
              | false =>
                have HE : Hid (res = false) := by
                  show _ = _
                  rw [← HEQ.out, HKR.out]; simp
                go_wp2
                go_ret
                exact ⟨by rw [HE.out]; rfl, HBE.out.trans (HW.out.mono HBE.out.size)⟩
          · have hn' : ¬ (j : Int) < (n' : Int) := by omega
            obtain rfl : j = n' := by omega
            have HQ : Hid (nodeR nmB tkB k1 x1 y1 c1 (holds k) (d + down k x 0 k1 x1) = res) := by
              show _ = _
              rw [← HEQ.out, ← hkr.out, F.drop_all _ _ (by rw [HRL.out]; exact Nat.le_refl _)]
              simp [kidsR]
            have HBW := Lib.hid (HBE.out.trans (hbw.out.mono HBE.out.size))
            have HGL : Hid (w.heap.size < wr.heap.size) := Nat.lt_of_lt_of_le HBK.out.lt hbw.out.size
            have HBLK : Hid (∀ W, Below wr.heap.size wr W → Boxed W w.heap.size k x y (.slice (some ⟨b, off, none⟩) n C)) := fun W hW => HBK.out.below (hbw.out.trans (hW.mono hbw.out.size)) HBK.out.lt
            have HBOX : Hid (∀ W, Below wr.heap.size wr W → W.cell? ⟨w.heap.size, 0, none⟩ = some (.int .i64 k) ∧ W.cell? ⟨w.heap.size, 1, none⟩ = some (.string x) ∧ W.cell? ⟨w.heap.size, 2, none⟩ = some (.string y) ∧ W.cell? ⟨w.heap.size, 3, none⟩ = some (.slice (some ⟨b, off, none⟩) n C)) := fun W hW => (HBLK.out W hW).cells
            have HK1 : Hid (∀ W, Below wr.heap.size wr W → W.cell? ⟨b, off, none⟩ = some (.int .i64 k1) ∧ W.cell? ⟨b, off + 1, none⟩ = some (.string x1) ∧ W.cell? ⟨b, off + 2, none⟩ = some (.string y1) ∧ W.cell? ⟨b, off + 3, none⟩ = some (.slice A1 c1.len C1)) := fun W hW => HK0.out W (hbw.out.trans (hW.mono hbw.out.size))
            have HDP0 : Hid (∀ W, Below wr.heap.size wr W → Calls Tryd.prog 33 #[.agg #[.int .i64 k, .string x, .string y, .slice (some ⟨b, off, none⟩) n C], .int .i64 0] W fun e w' => e = .returned (.int .i64 ((down k x 0 k1 x1 : Nat) : Int)) ∧ Below W.heap.size W w') := fun W hW => by
              have hw1 : Below wg.heap.size wg W := hbw.out.trans (hW.mono hbw.out.size)
              have hww := HBE.out.trans (hw1.mono HBE.out.size)
              exact deeper_any k x y (some ⟨b, off, none⟩) n C (.cons k1 x1 y1 c1 r1) 0 k1 x1 y1 c1 r1 W ((HFS.out.below hw1 HBE.out.size).up hww.size) rfl
            have HKW := Lib.hid (HKS.out.below hbw.out HBE.out.size)
            have hdn := down_le k x 0 k1 x1
            have hwr2 : IntKind.i64.wrap ((d : Int) + ((down k x 0 k1 x1 : Nat) : Int)) = (d : Int) + ((down k x 0 k1 x1 : Nat) : Int) := wrap_small (by omega) (by omega)
            have hbl : b < wr.heap.size := Nat.lt_trans HBS.out HGL.out
            clear hkr hbw HEQ HRL HRS HK0 HKS r0 r1' r2 r3
            generalize down k x 0 k1 x1 = dn at *
            go_wp2
            refine region_rel2 9 (fun W => Below wr.heap.size wr W) (fun W W' => Below w.heap.size W W' ∧ (Boxed W w.heap.size k1 x1 y1 (.slice A1 c1.len C1) → Boxed W' w.heap.size k1 x1 y1 (.slice A1 c1.len C1)) ∧ W.heap.size ≤ W'.heap.size) [Cd.is (Value.pointer (some ⟨w.heap.size, 3, none⟩)), Cd.is (Value.slice (some ⟨b, off, none⟩) n C), Cd.is (Value.pointer (some ⟨b, off, none⟩)), Cd.is (Value.agg #[.int .i64 k1, .string x1, .string y1, .slice A1 c1.len C1]), Cd.is (Value.bool (holds k)), Cd.is (Value.int .i64 (d : Int)), Cd.is (Value.agg #[.int .i64 k, .string x, .string y, .slice (some ⟨b, off, none⟩) n C]), Cd.is (Value.int .i64 (dn : Int)), Cd.is (Value.int .i64 ((d : Int) + (dn : Int))), ⟨fun _ W => Boxed W w.heap.size k1 x1 y1 (.slice A1 c1.len C1), fun _ W W' hT h => hT.2.1 h⟩, Cd.is (Value.bool (holds k)), Cd.is (Value.int .i64 ((d : Int) + (dn : Int)))] (by kernel_rfl) (by decide) (by kernel_rfl) ((Below.refl _ _).drew) ⟨Below.refl _ _, fun h => h, Nat.le_refl _⟩ (fun _ _ _ h k => ⟨h.1.trans k.1, fun z => k.2.1 (h.2.1 z), Nat.le_trans h.2.2 k.2.2⟩) ?steps ?behind
            case steps =>
              intro xv W hW a ha
              skip
              simp only [fillA] at ha
              simp only [List.setIfInBounds_toArray, List.set_cons_succ, List.set_cons_zero, Nat.zero_add, Nat.reduceAdd] at ha
              subst ha
              refine ⟨fun hI hS hd K hK => ?s0, fun hI hS hd K hK => ?s1, fun hI hS hd K hK => ?s2, fun hI hS hd K hK => ?s3, fun hI hS hd K hK => ?s4, fun hI hS hd K hK => ?s5, fun hI hS hd K hK => ?s6, fun hI hS hd K hK => ?s7, fun hI hS hd K hK => ?s8, fun hI hS hd K hK => ?s9, fun hI hS hd K hK => ?s10, fun hI hS hd K hK => ?s11, trivial⟩
              case s0 =>
                clear hd
                simp only [Act.put, List.setIfInBounds_toArray, List.set_cons_succ, List.set_cons_zero] at hK
                refine (if_pos (by rfl)).mpr ?_
                clear hS
                go_simp
                exact hK.out _ _ ⟨Below.refl _ _, fun h => h, Nat.le_refl _⟩ (.inr fun h => h) rfl
              case s1 =>
                have hx0 : xv 0 = Value.pointer (some ⟨w.heap.size, 3, none⟩) := hd 0 (by kernel_rfl)
                clear hd
                simp only [Act.put, List.setIfInBounds_toArray, List.set_cons_succ, List.set_cons_zero] at hK
                rw [hx0] at hK ⊢
                refine (if_pos (by rfl)).mpr ?_
                have hSW := hS (.inl (by kernel_rfl))
                obtain ⟨hq0, hq1, hq2, hq3⟩ := HBOX.out W hSW
                clear hS
                go_simp
                exact hK.out _ _ ⟨Below.refl _ _, fun h => h, Nat.le_refl _⟩ (.inr fun h => h) rfl
              case s2 =>
                have hx1 : xv 1 = Value.slice (some ⟨b, off, none⟩) n C := hd 1 (by kernel_rfl)
                clear hd
                simp only [Act.put, List.setIfInBounds_toArray, List.set_cons_succ, List.set_cons_zero] at hK
                rw [hx1] at hK ⊢
                refine (if_pos (by rfl)).mpr ?_
                clear hS
                go_simp
                exact hK.out _ _ ⟨Below.refl _ _, fun h => h, Nat.le_refl _⟩ (.inr fun h => h) rfl
              case s3 =>
                have hx2 : xv 2 = Value.pointer (some ⟨b, off, none⟩) := hd 2 (by kernel_rfl)
                clear hd
                simp only [Act.put, List.setIfInBounds_toArray, List.set_cons_succ, List.set_cons_zero] at hK
                rw [hx2] at hK ⊢
                refine (if_pos (by rfl)).mpr ?_
                have hSW := hS (.inl (by kernel_rfl))
                obtain ⟨hq0, hq1, hq2, hq3⟩ := HK1.out W hSW
                clear hS
                go_simp
                exact hK.out _ _ ⟨Below.refl _ _, fun h => h, Nat.le_refl _⟩ (.inr fun h => h) rfl
              case s4 =>
                clear hd
                simp only [Act.put, List.setIfInBounds_toArray, List.set_cons_succ, List.set_cons_zero] at hK
                refine (if_pos (by rfl)).mpr ?_
                clear hS
                go_simp
                exact hK.out _ _ ⟨Below.refl _ _, fun h => h, Nat.le_refl _⟩ (.inr fun h => h) rfl
              case s5 =>
                clear hd
                simp only [Act.put, List.setIfInBounds_toArray, List.set_cons_succ, List.set_cons_zero] at hK
                refine (if_pos (by rfl)).mpr ?_
                clear hS
                have h11 : xv 11 = Value.int .i64 (d : Int) := hI 11 (by kernel_rfl)
                rw [h11] at hK ⊢
                go_simp
                exact hK.out _ _ ⟨Below.refl _ _, fun h => h, Nat.le_refl _⟩ (.inr fun h => h) rfl
              case s6 =>
                clear hd
                simp only [Act.put, List.setIfInBounds_toArray, List.set_cons_succ, List.set_cons_zero] at hK
                refine (if_pos (by rfl)).mpr ?_
                have hSW := hS (.inl (by kernel_rfl))
                obtain ⟨hq0, hq1, hq2, hq3⟩ := HBOX.out W hSW
                clear hS
                go_simp
                exact hK.out _ _ ⟨Below.refl _ _, fun h => h, Nat.le_refl _⟩ (.inr fun h => h) rfl
              case s7 =>
                have hx6 : xv 6 = Value.agg #[.int .i64 k, .string x, .string y, .slice (some ⟨b, off, none⟩) n C] := hd 6 (by kernel_rfl)
                clear hd
                simp only [Act.put, List.setIfInBounds_toArray, List.set_cons_succ, List.set_cons_zero] at hK
                rw [hx6] at hK ⊢
                refine (if_pos (by rfl)).mpr ?_
                have hSW := hS (.inl (by kernel_rfl))
                clear hS
                go_simp
                go_at_call 33
                refine (HDP0.out W hSW).mono ?_
                rintro e w' ⟨rfl, hb⟩
                exact hK.out _ _ ⟨hb.mono (Nat.le_of_lt (Nat.lt_of_lt_of_le HGL.out hSW.size)), fun h => h.below hb (Nat.lt_of_lt_of_le HGL.out hSW.size), hb.size⟩ (.inr fun h => h.trans (hb.mono h.size)) rfl
              case s8 =>
                have hx5 : xv 5 = Value.int .i64 (d : Int) := hd 5 (by kernel_rfl)
                have hx7 : xv 7 = Value.int .i64 (dn : Int) := hd 7 (by kernel_rfl)
                clear hd
                simp only [Act.put, List.setIfInBounds_toArray, List.set_cons_succ, List.set_cons_zero] at hK
                rw [hx5] at hK ⊢
                rw [hx7] at hK ⊢
                refine (if_pos (by rfl)).mpr ?_
                clear hS
                go_simp
                exact hK.out _ _ ⟨Below.refl _ _, fun h => h, Nat.le_refl _⟩ (.inr fun h => h) rfl
              case s9 =>
                have hx3 : xv 3 = Value.agg #[.int .i64 k1, .string x1, .string y1, .slice A1 c1.len C1] := hd 3 (by kernel_rfl)
                clear hd
                simp only [Act.put] at hK
                rw [hx3] at hK ⊢
                refine (if_pos (by rfl)).mpr ?_
                have hSW := hS (.inr rfl)
                obtain ⟨hq0, hq1, hq2, hq3⟩ := HBOX.out W hSW
                have hbk := HBLK.out W hSW
                have hz := frz hbk
                clear hS
                go_simp
                exact hK.out undef _ ⟨box_below _ _ _ _ _ _, fun _ => box_new hbk, (box_below _ _ _ _ _ _).size⟩ (.inl trivial) (box_new hbk)
              case s10 =>
                have hx4 : xv 4 = Value.bool (holds k) := hd 4 (by kernel_rfl)
                clear hd
                simp only [Act.put, List.setIfInBounds_toArray, List.set_cons_succ, List.set_cons_zero] at hK
                rw [hx4] at hK ⊢
                refine (if_pos (by rfl)).mpr ?_
                clear hS
                go_simp
                exact hK.out _ _ ⟨Below.refl _ _, fun h => h, Nat.le_refl _⟩ (.inr fun h => h) rfl
              case s11 =>
                have hx8 : xv 8 = Value.int .i64 ((d : Int) + (dn : Int)) := hd 8 (by kernel_rfl)
                clear hd
                simp only [Act.put, List.setIfInBounds_toArray, List.set_cons_succ, List.set_cons_zero] at hK
                rw [hx8] at hK ⊢
                refine (if_pos (by rfl)).mpr ?_
                clear hS
                go_simp
                exact hK.out _ _ ⟨Below.refl _ _, fun h => h, Nat.le_refl _⟩ (.inr fun h => h) rfl
            case behind =>
              intro xv W hW hx a ha
              skip
              simp only [fillA] at ha
              simp only [List.setIfInBounds_toArray, List.set_cons_succ, List.set_cons_zero, Nat.zero_add, Nat.reduceAdd] at ha
              subst ha
              have h10 : xv 10 = Value.bool (holds k) := hx 10 (by decide)
              have h11 : xv 11 = Value.int .i64 ((d : Int) + (dn : Int)) := hx 11 (by decide)
              have h9 : Boxed W w.heap.size k1 x1 y1 (.slice A1 c1.len C1) := hx 9 (by decide)
              rw [h10, h11]
              have HBX1 := Lib.hid h9
              have HW : Hid (Below w.heap.size wr W) := ⟨hW.1.os, hW.1.tape, hW.1.output, hW.1.size, hW.1.block⟩
              clear hx h10 h11 h9 hW HDP0 HK1 HBOX HBLK
              go_wp2
              go_roundg (c1.size + 1)
              case measure => simp only [F.size] at hsz; omega
              case rel =>
                refine ⟨k1, x1, y1, A1, c1.len, C1, c1, holds k, d + dn, by omega, ?_, rfl, by rw [Int.natCast_add], by omega, ?_⟩
                · simp only [F.size] at hN; omega
                · have hs := HM.out.sm
                  simp only [Small] at hs
                  exact ⟨HBW.out.trans HW.out, HBX1.out, HKW.out.below HW.out (Nat.le_refl _), hs.1, hs.2.1, hs.2.2.1, HQ.out⟩
end Go.Proofs.YtoecimgmghlfpaaDoor.Tree
