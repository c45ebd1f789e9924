/-
  Layer 8 (layout): the law LayoutPages.
-/
import Derived.Test.YtpankfbdlakmcaaLayRef
namespace Go.Proofs.Ytpankfbdlakmcaa.Doc
open Go.ChangeShapes Go.WideShapes Go.ChangeAt Go.RowKit Mem
set_option linter.unusedVariables false

theorem rp_of {l : List Pc} {n : Nat} {w : World} {f : Nat} {args : Array Value} (hn : l.length = n) (h : Calls Try.prog f args w (RpPost l w)) : Calls Try.prog f args w (PlPost l n w) := by
  refine h.mono ?_
  rintro e w' ⟨A, C, rfl, ho, hb⟩
  obtain ⟨h1, h2⟩ := own_caps ho
  have h3 := RdP.of_own ho
  rw [hn] at h1 ⊢
  exact ⟨⟨A, C, rfl, h1, h2, h3⟩, hb⟩
set_option maxHeartbeats 16000000 in
set_option maxRecDepth 100000 in
theorem layoutPages_walk (k : Int) (x : ByteArray) (A : Option Addr) (n C : Nat) (c : G) (Wd : Int) (w : World) (hs : Gs w (Lo w.heap.size) (.slice A n C) c) (htx : x.size + txt c ≤ 1048576) :
    Calls Try.prog 3 #[.agg #[.int .i64 k, .string x, .slice A n C], .int .i64 Wd] w fun e w' => e = .returned (.bool true) ∧ Below w.heap.size w w' := by
  have b1' := (Below.refl w.heap.size w).alloc (Nat.le_refl _) (.cells #[.int .i64 k, .string x, .slice A n C] 24)
  have hx1 := heap_alloc_new w (.cells #[.int .i64 k, .string x, .slice A n C] 24)
  obtain ⟨p0, p1, p2⟩ := cl3 hx1
  have HF := Lib.hid (few_any k x A n C c _ (lo_later hs b1'))
  have HB1 := Lib.hid b1'
  have HX1 := Lib.hid hx1
  have HS := Lib.hid hs
  have HTX := Lib.hid htx
  clear b1' hx1 hs htx
  go_enter Try.func3, Try.ntmps3
  go_wp2_with fail
  refine HF.out.mono ?_
  rintro e w2 ⟨⟨fb, rfl, hfb⟩, hb2⟩
  have HB2 := Lib.hid (HB1.out.trans (hb2.mono HB1.out.size))
  have hx2 := (hb2.block w.heap.size (lt_of HX1.out)).trans HX1.out
  have HX2 := Lib.hid hx2
  clear hb2 p0 p1 p2 HX1 HF
  cases fb with
  | false =>
    go_wp2_with fail
    refine (known_any w2).mono ?_
    rintro e w3 ⟨rfl, hb3⟩
    have HB3 := Lib.hid (HB2.out.trans (hb3.mono HB2.out.size))
    clear hb3
    go_wp2
    go_ret
    exact ⟨rfl, HB3.out⟩
  | true =>
    have hsz := hfb rfl
    have HBT := Lib.hid (built_is (xf w2) hsz (lo_later HS.out HB2.out) (k := k) (x := x))
    obtain ⟨p0, p1, p2⟩ := cl3 hx2
    have hrp : rp1 k x c 1000 = plOne k x (plP c) := rp1_full k x c 1000 (by omega)
    have HLL := Lib.hid (plan_len (k := k) (x := x) hsz)
    have HTL := Lib.hid (plan_txt HTX.out : txL (plOne k x (plP c)) ≤ 1048576)
    have HBAL := Lib.hid (plan_bal k x c)
    have HNEM := Lib.hid (plan_ne k x c)
    have HPC : Hid (∀ W, Below w.heap.size w W → Calls Try.prog 14 #[.agg #[.int .i64 k, .string x, .slice A n C], .int .i64 1000] W (RpPost (plOne k x (plP c)) W)) := fun W hW => hrp ▸ pieces_any c.size k x A n C c 1000 1000 W (Nat.le_refl _) rfl (by omega) (by omega) (lo_later HS.out hW)
    obtain ⟨l, hl⟩ : ∃ l, plOne k x (plP c) = l := ⟨_, rfl⟩
    rw [hl] at HBT HLL HTL HBAL HNEM HPC
    clear hx2 hfb hrp hl hsz
    go_wp2_with fail
    refine HBT.out.mono ?_
    rintro e w3 ⟨⟨kd, xd, Ad, nd, Cd, rfl, hd⟩, hb3⟩
    have HO := Lib.hid (of_any Wd hd (by omega) HBAL.out (Nat.le_trans HLL.out (by omega)) (Nat.le_trans HTL.out (by omega)))
    have HB3 := Lib.hid (HB2.out.trans (hb3.mono HB2.out.size))
    have HX3 := Lib.hid ((hb3.block w.heap.size (lt_of HX2.out)).trans HX2.out)
    clear hd hb3 HBT HX2 p0 p1 p2
    go_wp2_with fail
    refine HO.out.mono ?_
    rintro e w4 ⟨rfl, hb4⟩
    have HB4 := Lib.hid (HB3.out.trans (hb4.mono HB3.out.size))
    have hx4 := (hb4.block w.heap.size (lt_of HX3.out)).trans HX3.out
    obtain ⟨p0, p1, p2⟩ := cl3 hx4
    have HPC4 := Lib.hid (rp_of rfl (HPC.out w4 HB4.out))
    clear hb4 hx4 HO HX3 HPC
    go_wp2_with fail
    refine HPC4.out.mono ?_
    rintro e w5 ⟨⟨A5, C5, rfl, hc5, hm5, hr5⟩, hb5⟩
    have HRO := Lib.hid (refOf_any A5 l.length C5 l Wd w5 rfl (Nat.le_trans HLL.out (by omega)) hc5 hr5 HBAL.out HNEM.out (Nat.le_trans HTL.out (by omega)))
    have HB5 := Lib.hid (HB4.out.trans (hb5.mono HB4.out.size))
    obtain ⟨y, hy⟩ : ∃ y, ofS Wd l = y := ⟨_, rfl⟩
    obtain ⟨e0, he0⟩ : ∃ e0, ofE Wd = e0 := ⟨_, rfl⟩
    rw [hy, he0] at HRO
    rw [hy, he0]
    clear hb5 hr5 HPC4 p0 p1 p2 hy he0
    go_wp2_with fail
    refine HRO.out.mono ?_
    rintro e w6 ⟨rfl, rfl⟩
    go_wp2_with fail
    refine (known_any w5).mono ?_
    rintro e w7 ⟨rfl, hb7⟩
    have HB7 := Lib.hid (HB5.out.trans (hb7.mono HB5.out.size))
    clear hb7
    go_wp2
    go_ret
    exact ⟨rfl, HB7.out⟩
end Go.Proofs.Ytpankfbdlakmcaa.Doc
