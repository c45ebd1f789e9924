/-
  Layer 7 (doc): the law DocPieces.
-/
import Derived.Test.YtllpdccpenghgaaDocWrapsLaw
import Derived.Test.YtllpdccpenghgaaDocSame
import Derived.Test.YtllpdccpenghgaaDocRefFlat
import Derived.Test.YtllpdccpenghgaaDocBulk
namespace Go.Proofs.Ytllpdccpenghgaa.Doc
open Go.ChangeShapes Go.WideShapes Go.ChangeAt Go.RowKit Mem
set_option linter.unusedVariables false

/-- What the reference's Pieces leaves, as it is read. -/
theorem rp_of {l : List Pc} {n : Nat} {w : World} {f : Nat} {args : Array Value} (hn : l.length = n) (h : Calls Try.prog f args w (RpPost l w)) : Calls Try.prog f args w (PlPost l n w) := by
  refine h.mono ?_
  rintro e w' ⟨A, C, rfl, ho, hb⟩
  obtain ⟨h1, h2⟩ := own_caps ho
  have h3 := RdP.of_own ho
  rw [hn] at h1 ⊢
  exact ⟨⟨A, C, rfl, h1, h2, h3⟩, hb⟩
set_option maxHeartbeats 16000000 in
set_option maxRecDepth 100000 in
theorem docPieces_any (k : Int) (x : ByteArray) (A : Option Addr) (n C : Nat) (c : G) (w : World) (hs : Gs w (Lo w.heap.size) (.slice A n C) c) (htx : x.size + txt c ≤ 1048576) :
    Calls Try.prog 3 #[.agg #[.int .i64 k, .string x, .slice A n C]] w fun e w' => e = .returned (.bool true) ∧ Below w.heap.size w w' := by
  have b1' := (Below.refl w.heap.size w).alloc (Nat.le_refl _) (.cells #[.int .i64 k, .string x, .slice A n C] 24)
  have hx1 := heap_alloc_new w (.cells #[.int .i64 k, .string x, .slice A n C] 24)
  obtain ⟨p0, p1, p2⟩ := cl3 hx1
  have HF := Lib.hid (few_any k x A n C c _ (lo_later hs b1'))
  have HB1 := Lib.hid b1'
  have HX1 := Lib.hid hx1
  have HS := Lib.hid hs
  have HTX := Lib.hid htx
  clear b1' hx1 hs htx
  go_enter Try.func3, Try.ntmps3
  go_wp2_with fail
  refine HF.out.mono ?_
  rintro e w2 ⟨⟨fb, rfl, hfb⟩, hb2⟩
  have HB2 := Lib.hid (HB1.out.trans (hb2.mono HB1.out.size))
  have hx2 := (hb2.block w.heap.size (lt_of HX1.out)).trans HX1.out
  have HX2 := Lib.hid hx2
  clear hb2 p0 p1 p2 HX1 HF
  cases fb with
  | false =>
    go_wp2_with fail
    refine (known_any w2).mono ?_
    rintro e w3 ⟨rfl, hb3⟩
    have HB3 := Lib.hid (HB2.out.trans (hb3.mono HB2.out.size))
    clear hb3
    go_wp2
    go_ret
    exact ⟨rfl, HB3.out⟩
  | true =>
    have hsz := hfb rfl
    have HBT := Lib.hid (built_any c.size (by omega) XF k x A n C c w2 (Nat.le_refl _) (xf w2) (lo_later HS.out HB2.out))
    obtain ⟨p0, p1, p2⟩ := cl3 hx2
    have hnd := b1_size k x c
    have hok := okN_b1 k x c
    have hpl : plOne k x (plP c) = pcs1 (b1 k x c) := (pcs_b1 k x c).symm
    have hfl : (flB (pcs1 (b1 k x c))).length ≤ 140737488355328 := by
      have h1 := flB_plOne k x (plP c)
      have h2 := flB_plP c
      have h3 := HTX.out
      rw [← hpl]
      omega
    have hrp : rp1 k x c 1000 = pcs1 (b1 k x c) := by rw [rp1_full k x c 1000 (by omega), hpl]
    obtain ⟨dn, hdn⟩ : ∃ dn, b1 k x c = dn := ⟨_, rfl⟩
    rw [hdn] at HBT hnd hok hfl hrp
    clear hx2 hdn hfb hpl
    go_wp2_with fail
    refine HBT.out.mono ?_
    rintro e w3 ⟨sd, rfl, hg3, hb3⟩
    obtain ⟨kd, xd, cd⟩ := dn
    dsimp only at hg3 hnd hok hfl hrp ⊢
    obtain ⟨Ad, Ce, rfl, _, _⟩ := hg3.slice
    obtain ⟨nd, hnd2⟩ : ∃ nd, cd.len = nd := ⟨_, rfl⟩
    rw [hnd2] at hg3 ⊢
    have hb4 := (Below.refl w3.heap.size w3).alloc (Nat.le_refl _) (.cells #[.int .i64 kd, .string xd, .slice Ad nd Ce] 29)
    have hx4 := heap_alloc_new w3 (.cells #[.int .i64 kd, .string xd, .slice Ad nd Ce] 29)
    have hx4p := (hb4.block w.heap.size (Nat.lt_of_lt_of_le (lt_of HX2.out) hb3.size)).trans ((hb3.block w.heap.size (lt_of HX2.out)).trans HX2.out)
    have HG4 := Lib.hid (hg3.dxB hb4)
    have HB4 := Lib.hid (HB2.out.trans ((hb3.trans (hb4.mono hb3.size)).mono HB2.out.size))
    obtain ⟨wd, hwd⟩ : ∃ wd, w3.alloc (.cells #[.int .i64 kd, .string xd, .slice Ad nd Ce] 29) = wd := ⟨_, rfl⟩
    have HWD := Lib.hid hwd
    rw [hwd] at HG4 HB4 hx4 hx4p
    have HXD := Lib.hid hx4
    have HXP := Lib.hid hx4p
    obtain ⟨gd, hgde⟩ : ∃ gd, w3.heap.size = gd := ⟨_, rfl⟩
    rw [hgde] at HXD
    obtain ⟨l, hl⟩ : ∃ l, pcs1 (⟨kd, xd, cd⟩ : Nd) = l := ⟨_, rfl⟩
    have hll : l.length ≤ 100000 := by
      have h1 := one_len kd xd cd.len (pcs cd)
      have h2 := pcs_len cd
      have h3 : l.length ≤ (pcs cd).length + 2 := by rw [← hl]; exact h1
      simp only [nsize] at hnd
      omega
    obtain ⟨m, hm⟩ : ∃ m, l.length = m := ⟨_, rfl⟩
    rw [hl] at hfl hrp
    have HFL : Hid (∀ W, Below wd.heap.size wd W → Calls Try.prog 12 #[.agg #[.int .i64 kd, .string xd, .slice Ad nd Ce]] W (FlatPost l W)) := fun W hW => hl ▸ flat_any ⟨kd, xd, cd⟩ (.slice Ad nd Ce) W (by omega) (HG4.out.dxB hW).toDb hok (by rw [hl]; exact hfl)
    have HPL : Hid (∀ W, Below wd.heap.size wd W → Calls Try.prog 15 #[.agg #[.int .i64 kd, .string xd, .slice Ad nd Ce]] W (PlPost l m W)) := fun W hW => pl_of hm (hl ▸ plain_any ⟨kd, xd, cd⟩ (.slice Ad nd Ce) W (by omega) (HG4.out.dxB hW).toDb hok)
    have HPC : Hid (Calls Try.prog 11 #[.agg #[.int .i64 k, .string x, .slice A n C], .int .i64 1000] wd (PlPost l m wd)) := rp_of hm (hrp ▸ pieces_any c.size k x A n C c 1000 1000 wd (Nat.le_refl _) rfl (by omega) (by omega) (lo_later HS.out HB4.out))
    have HM := Lib.hid hm
    have HFB := Lib.hid hfl
    rw [hm] at hll
    clear hm hfl hrp
    clear hg3 hnd hok hb3 hb4 hx4 hwd hnd2 hl HBT p0 p1 p2 hsz HX2 HG4
    obtain ⟨p0, p1, p2⟩ := cl3 hx4p
    clear hx4p
    go_wp2_with (rw [HWD.out])
    refine HPC.out.mono ?_
    rintro e w5 ⟨⟨A5, C5, rfl, hc5, hm5, hr5⟩, hb5⟩
    have HR5 := Lib.hid hr5
    have HT5 := Lib.hid hb5
    have HB5 := Lib.hid (HB4.out.trans (hb5.mono HB4.out.size))
    have HF5 := Lib.hid (HFL.out w5 hb5)
    obtain ⟨q0, q1, q2⟩ := cl3 ((hb5.block gd (lt_of HXD.out)).trans HXD.out)
    clear hr5 hb5 p0 p1 p2
    unfold maxLen at hm5
    go_wp2_with fail
    refine HF5.out.mono ?_
    rintro e w6 ⟨rfl, hb6⟩
    have HB6 := Lib.hid (HB5.out.trans (hb6.mono HB5.out.size))
    have HT6 := Lib.hid (HT5.out.trans (hb6.mono HT5.out.size))
    have HR6 := Lib.hid (HR5.out.below hb6)
    have HF6 := Lib.hid (refFlat_any A5 m C5 l w6 HM.out (by omega) hc5 HR6.out HFB.out)
    clear hb6 q0 q1 q2 HF5 HFL
    go_wp2_with fail
    refine HF6.out.mono ?_
    rintro e w7 ⟨rfl, hb7⟩
    have HB7 := Lib.hid (HB6.out.trans (hb7.mono HB6.out.size))
    have HT7 := Lib.hid (HT6.out.trans (hb7.mono HT6.out.size))
    have HR7 := Lib.hid (HR6.out.below hb7)
    have HK := Lib.hid (known_any w7)
    clear hb7 HF6
    go_wp2_with fail
    refine HK.out.mono ?_
    rintro e w8 ⟨rfl, hb8⟩
    have HB8 := Lib.hid (HB7.out.trans (hb8.mono HB7.out.size))
    have HT8 := Lib.hid (HT7.out.trans (hb8.mono HT7.out.size))
    have HR8 := Lib.hid (HR7.out.below hb8)
    have HP8 := Lib.hid (HPL.out w8 HT8.out)
    obtain ⟨q0, q1, q2⟩ := cl3 ((HT8.out.block gd (lt_of HXD.out)).trans HXD.out)
    clear hb8 HK
    go_wp2_with fail
    refine HP8.out.mono ?_
    rintro e w9 ⟨⟨A9, C9, rfl, hc9, hm9, hr9⟩, hb9⟩
    have HB9 := Lib.hid (HB8.out.trans (hb9.mono HB8.out.size))
    have HS9 := Lib.hid (same_any A9 A5 m C9 C5 l w9 HM.out (by omega) hc9 hc5 hr9 (HR8.out.below hb9))
    unfold maxLen at hm9
    clear hb9 hr9 q0 q1 q2 HP8
    go_wp2_with fail
    refine HS9.out.mono ?_
    rintro e w10 ⟨rfl, hb10⟩
    have HB10 := Lib.hid (HB9.out.trans (hb10.mono HB9.out.size))
    clear hb10
    obtain ⟨fs, hfs⟩ : ∃ fs, flS l = fs := ⟨_, rfl⟩
    obtain ⟨nh, hnh⟩ : ∃ nh, noHard l = nh := ⟨_, rfl⟩
    rw [hfs, hnh]
    go_wp2
    go_ret
    exact ⟨rfl, HB10.out⟩
end Go.Proofs.Ytllpdccpenghgaa.Doc
