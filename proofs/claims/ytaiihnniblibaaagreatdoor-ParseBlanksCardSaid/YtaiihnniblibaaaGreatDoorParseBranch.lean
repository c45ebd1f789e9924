/-
 Layer 6 (parse): branches.
-/
import Derived.Test.YtaiihnniblibaaaGreatDoorParseBlock
namespace Go.Proofs.YtaiihnniblibaaaGreatDoor.Parse
open Go.ChangeShapes Go.WideShapes Go.ChangeAt Go.RowKit Tree MemT Mem
set_option linter.unusedVariables false

def othR (z : Nat) (st br : Nat → List Tk → Rd Nd) (d : Nat) (l : List Tk) : Rd Nd := if isT (Parse.hd z l) [105, 102] = true then br (d + 1) l else blockR z st d l
def br1 (z : Nat) (st br : Nat → List Tk → Rd Nd) (d : Nat) (l : List Tk) : Rd Nd :=
 (beg z (isT (Parse.hd z l) [105, 102]) d l).bind fun _ l => (exR z d l).bind fun c l => (blockR z st d l).bind fun b l =>
  (if isT (Parse.hd z l) [101, 108, 115, 101] = true then othR z st br d l.tail else .ok noneN l).bind fun o l =>
  .ok (node 18 e0 (oneF c (oneF b (one o)))) l
set_option maxHeartbeats 4000000 in
set_option maxRecDepth 100000 in
theorem oth_any (P z N : Nat) (st : Nat → List Tk → Rd Nd) (hst : RdOk 104 P z N st) (hdec : Dec st) (br : Nat → List Tk → Rd Nd) (l : List Tk) (M : Nat) (hbr : RdOk 114 P z M br) (d : Nat) (w : World) (h : PS w P z l d) (hl : l.length ≤ N) (hlM : l.length < M) (hd : d + 1 ≤ 300) :
  Calls Tryz.prog 126 #[.pointer (some ⟨P, 0, none⟩)] w (RPost NV w P z d (othR z st br d l)) := by
 have HST := Lib.hid (Stt.start h)
 have HU : Hid ((⟨#[105, 102]⟩ : ByteArray).toList = [105, 102]) := by show _ = _; rw [ByteArray.toList_eq]
 have hsp : othR z st br d l = othR z st br d l := rfl
 conv at hsp => rhs; unfold othR
 have HBL : Hid (∀ W, PS W P z l d → Calls Tryz.prog 95 #[.pointer (some ⟨P, 0, none⟩)] W (RPost NV W P z d (blockR z st d l))) := fun W hW => block_any P z N st hst hdec l d W hW hl (by omega)
 have HDP : Hid (∀ W, PS W P z l d → Calls Tryz.prog 89 #[.pointer (some ⟨P, 0, none⟩), .int .i64 ((1 : Nat) : Int), .func (.func 114) #[.pointer (some ⟨P, 0, none⟩)] #[]] W (RPost NV W P z d (br (d + 1) l))) :=
   fun W hW => deeper_any P z M _ br 1 l d W hW (reads_of W ent_branch hbr) hlM hd
 clear h hst hdec hbr
 cases he : isT (Parse.hd z l) [105, 102] with
 | true =>
  rw [he, if_pos rfl] at hsp
  have HSP := Lib.hid hsp
  have HE := Lib.hid he
  clear hsp he
  generalize hbq : br (d + 1) l = Rq at *
  clear hbq
  go_enter Tryz.func126, Tryz.ntmps126
  go_wp2_with fail
  refine (is_at HST.out.ps HU.out HE.out).mono ?_
  rintro e w1 ⟨rfl, hb⟩
  replace HST := Lib.hid (HST.out.quiet hb)
  clear hb
  go_wp2_with fail
  refine (HDP.out _ HST.out.ps).mono ?_
  intro e W hp
  rcases pass_ok HST.out hp with ⟨p, er, hR, rfl, hbe⟩ | ⟨k, x, y, c, l2, A, C, hR, rfl, hf, hst⟩
  ·have HE9 := Lib.hid hbe
   have HR := Lib.hid hR
   clear hp hbe hR HST
   go_wp2
   exact ⟨rfl, rpost_bad (HSP.out.trans HR.out) HE9.out⟩
  ·have HS := Lib.hid hst
   have HF := Lib.hid hf
   have HR := Lib.hid hR
   obtain ⟨⟨r0, r1, r2, r3, y0, y1, y2, y3⟩, g0, g1, g2, g3⟩ := hst.frz
   generalize hm : c.len = m at *
   have Hm := Lib.hid hm
   clear hp hf hst hR HST hm
   go_wp2
   have hfin := HS.out.ret (HSP.out.trans HR.out) Hm.out.symm HF.out
   refine bodyPost_ret (results_cell_row rfl _ _ w.heap.size 24 _ (0, 0) _ rfl hfin.1 Tryz.underlying24 rfl hi_nd) rfl ?_
   exact hfin.2
 | false =>
  rw [he, if_neg (by decide)] at hsp
  have HSP := Lib.hid hsp
  have HE := Lib.hid he
  clear hsp he
  generalize hbq : blockR z st d l = Rq at *
  clear hbq
  go_enter Tryz.func126, Tryz.ntmps126
  go_wp2_with fail
  refine (is_at HST.out.ps HU.out HE.out).mono ?_
  rintro e w1 ⟨rfl, hb⟩
  replace HST := Lib.hid (HST.out.quiet hb)
  clear hb
  go_wp2_with fail
  refine (HBL.out _ HST.out.ps).mono ?_
  intro e W hp
  rcases pass_ok HST.out hp with ⟨p, er, hR, rfl, hbe⟩ | ⟨k, x, y, c, l2, A, C, hR, rfl, hf, hst⟩
  ·have HE9 := Lib.hid hbe
   have HR := Lib.hid hR
   clear hp hbe hR HST
   go_wp2
   exact ⟨rfl, rpost_bad (HSP.out.trans HR.out) HE9.out⟩
  ·have HS := Lib.hid hst
   have HF := Lib.hid hf
   have HR := Lib.hid hR
   obtain ⟨⟨r0, r1, r2, r3, y0, y1, y2, y3⟩, g0, g1, g2, g3⟩ := hst.frz
   generalize hm : c.len = m at *
   have Hm := Lib.hid hm
   clear hp hf hst hR HST hm
   go_wp2
   have hfin := HS.out.ret (HSP.out.trans HR.out) Hm.out.symm HF.out
   refine bodyPost_ret (results_cell_row rfl _ _ w.heap.size 24 _ (0, 0) _ rfl hfin.1 Tryz.underlying24 rfl hi_nd) rfl ?_
   exact hfin.2

set_option maxHeartbeats 16000000 in
set_option maxRecDepth 100000 in
theorem branch_step (P z N : Nat) (st : Nat → List Tk → Rd Nd) (hst : RdOk 104 P z N st) (hdec : Dec st) (M : Nat) (hM : M ≤ N) (br : Nat → List Tk → Rd Nd) (hbr : RdOk 114 P z M br) (l : List Tk) (d : Nat) (w : World) (h : PS w P z l d) (hl : l.length ≤ M) (hd : d ≤ 300) :
  Calls Tryz.prog 114 #[.pointer (some ⟨P, 0, none⟩)] w (RPost NV w P z d (br1 z st br d l)) := by
 have hlt := h.lt
 have HST := Lib.hid (StX.start h)
 have HU : Hid ((⟨#[105, 102]⟩ : ByteArray).toList = [105, 102]) := by show _ = _; rw [ByteArray.toList_eq]
 have HU2 : Hid ((⟨#[101, 108, 115, 101]⟩ : ByteArray).toList = [101, 108, 115, 101]) := by show _ = _; rw [ByteArray.toList_eq]
 have hsp : br1 z st br d l = br1 z st br d l := rfl
 conv at hsp => rhs; unfold br1
 have hP0 : P < w.heap.size + 1 := by omega
 obtain ⟨bb, hbb⟩ : ∃ bb, isT (Parse.hd z l) [105, 102] = bb := ⟨_, rfl⟩
 rw [hbb] at hsp
 have HBB := Lib.hid hbb
 have HBG : Hid (∀ W, PS W P z l d → Calls Tryz.prog 66 #[.pointer (some ⟨P, 0, none⟩), .bool bb] W (RPost TV W P z d (beg z bb d l))) :=
  fun W hW => begin_any _ P z l d (fun e => isT_ne (by decide) (hbb.trans e)) (by omega) W hW
 have hfb : bb = true → l ≠ [] := fun e => isT_ne (by decide) (hbb.trans e)
 have HX : Hid (∀ W l', PS W P z l' d → Calls Tryz.prog 71 #[.pointer (some ⟨P, 0, none⟩)] W (RPost NV W P z d (exR z d l'))) := fun W l' hW => ex_rd P z (l'.length + 1) W d l' (Nat.lt_succ_self _) hd hW
 have HBL : Hid (∀ W l', PS W P z l' d → l'.length ≤ N → Calls Tryz.prog 95 #[.pointer (some ⟨P, 0, none⟩)] W (RPost NV W P z d (blockR z st d l'))) := fun W l' hW hl' => block_any P z N st hst hdec l' d W hW hl' hd
 have HOT : Hid (∀ W l', PS W P z l' d → l'.length < M → d + 1 ≤ 300 → Calls Tryz.prog 126 #[.pointer (some ⟨P, 0, none⟩)] W (RPost NV W P z d (othR z st br d l'))) := fun W l' hW hl' hd' => oth_any P z N st hst hdec br l' M hbr d W hW (by omega) hl' hd'
 have HDB := Lib.hid (fun l' n r (e : blockR z st d l' = .ok n r) => (block_dec (z := z) hdec) d l' n r e)
 clear h hbb hst hdec hbr
 cases hr : beg z bb d l with
 | bad p er =>
  rw [hr, Rd.bind_bad] at hsp
  rw [hr] at HBG
  have HSP := Lib.hid hsp
  clear hsp hr hfb
  go_enter Tryz.func114, Tryz.ntmps114
  go_wp2_with fail
  refine (is_at HST.out.ps HU.out HBB.out).mono ?_
  rintro e w1 ⟨rfl, hb⟩
  replace HST := Lib.hid (HST.out.quiet hb)
  clear hb
  go_wp2_with fail
  refine (calls_bad (HBG.out _ HST.out.ps) rfl).mono ?_
  rintro e w2 ⟨rfl, hbe⟩
  have HE := Lib.hid (HST.out.bes.trans hbe)
  clear hbe
  go_wp2
  exact ⟨rfl, rpost_bad HSP.out HE.out⟩
 | ok t l1 =>
  have hl1 : l1.length < l.length := lt_beg hfb _ _ hr
  have hd256 := (beg_ok hfb hr).2.1
  rw [hr, Rd.bind_ok] at hsp
  rw [hr] at HBG
  clear hr hfb
  have HBG2 : Hid (∀ W, PS W P z l d → Calls Tryz.prog 66 #[.pointer (some ⟨P, 0, none⟩), .bool bb] W fun e w' => ∃ v, e = .returned v ∧ TV W w' v t ∧ PS w' P z l1 d ∧ Bes P W w') := fun W hW => calls_ok (HBG.out W hW) rfl
  clear HBG
  cases hx : exR z d l1 with
  | bad p er =>
   rw [hx, Rd.bind_bad] at hsp
   have HSP := Lib.hid hsp
   have HX2 := Lib.hid hx
   clear hsp hx
   go_enter Tryz.func114, Tryz.ntmps114
   go_wp2_with fail
   refine (is_at HST.out.ps HU.out HBB.out).mono ?_
   rintro e w1 ⟨rfl, hb⟩
   replace HST := Lib.hid (HST.out.quiet hb)
   clear hb
   go_wp2_with fail
   refine (HBG2.out _ HST.out.ps).mono ?_
   rintro e w2 ⟨v, rfl, rfl, hps, hbe⟩
   replace HST := Lib.hid (HST.out.read hbe hps)
   clear hps hbe
   unfold tkV
   go_wp2_with fail
   refine (calls_bad (HX.out _ _ HST.out.ps) HX2.out).mono ?_
   rintro e w3 ⟨rfl, hbe⟩
   have HE := Lib.hid (HST.out.bes.trans hbe)
   clear hbe
   go_wp2
   exact ⟨rfl, rpost_bad HSP.out HE.out⟩
  | ok n l2 =>
   obtain ⟨ck, cx, cy, cc⟩ := n
   have hl2 : l2.length < l1.length := exR_dec z _ _ _ _ hx
   rw [hx, Rd.bind_ok] at hsp
   have HX2 := Lib.hid hx
   clear hx
   cases hb : blockR z st d l2 with
   | bad p er =>
    rw [hb, Rd.bind_bad] at hsp
    have HSP := Lib.hid hsp
    have HB := Lib.hid hb
    clear hsp hb
    go_enter Tryz.func114, Tryz.ntmps114
    go_wp2_with fail
    refine (is_at HST.out.ps HU.out HBB.out).mono ?_
    rintro e w1 ⟨rfl, hb⟩
    replace HST := Lib.hid (HST.out.quiet hb)
    clear hb
    go_wp2_with fail
    refine (HBG2.out _ HST.out.ps).mono ?_
    rintro e w2 ⟨v, rfl, rfl, hps, hbe⟩
    replace HST := Lib.hid (HST.out.read hbe hps)
    clear hps hbe
    unfold tkV
    go_wp2_with fail
    refine (calls_ok (HX.out _ _ HST.out.ps) HX2.out).mono ?_
    rintro e wx ⟨v, rfl, ⟨Ac, Cc, rfl, hf⟩, hps, hbe⟩
    have hf' := mi_more (B0' := w.heap.size + 1) hf HST.out.size (Nat.le_refl _)
    replace HST := Lib.hid (HST.out.read hbe hps)
    simp only at hf' ⊢
    generalize hm : cc.len = mc at hf' ⊢
    have Hmc := Lib.hid hm
    have HFc := Lib.hid hf'
    clear hps hbe hf hf' hm
    have HX3 := Lib.hid (box4_new wx 24 (.int .i64 ck) (.string cx) (.string cy) (.slice Ac mc Cc))
    have hNPHX3 : wx.heap.size ≠ P := by have := HST.out.size; omega
    have h3R := HST.out.size
    have hb := (Below.refl (wx).heap.size (wx)).alloc (Nat.le_refl _) (.cells #[.int .i64 ck, .string cx, .string cy, .slice Ac mc Cc] 24)
    replace HST := Lib.hid (HST.out.quiet hb)
    replace HFc := Lib.hid (fsq HFc.out hb)
    clear hb
    go_wp2_with fail
    refine (calls_bad (HBL.out _ _ HST.out.ps (by omega)) HB.out).mono ?_
    rintro e w3 ⟨rfl, hbe⟩
    have HE := Lib.hid (HST.out.bes.trans hbe)
    clear hbe
    go_wp2
    exact ⟨rfl, rpost_bad HSP.out HE.out⟩
   | ok b l3 =>
    obtain ⟨bk, bx, by', bc⟩ := b
    have hl3 : l3.length < l2.length := HDB.out _ _ _ hb
    rw [hb, Rd.bind_ok] at hsp
    have HB := Lib.hid hb
    clear hb
    cases he : isT (Parse.hd z l3) [101, 108, 115, 101] with
    | false =>
     rw [he, if_neg (by decide), Rd.bind_ok] at hsp
     have HSP := Lib.hid hsp
     have HE := Lib.hid he
     clear hsp he
     go_enter Tryz.func114, Tryz.ntmps114
     go_wp2_with fail
     refine (is_at HST.out.ps HU.out HBB.out).mono ?_
     rintro e w1 ⟨rfl, hb⟩
     replace HST := Lib.hid (HST.out.quiet hb)
     clear hb
     go_wp2_with fail
     refine (HBG2.out _ HST.out.ps).mono ?_
     rintro e w2 ⟨v, rfl, rfl, hps, hbe⟩
     replace HST := Lib.hid (HST.out.read hbe hps)
     clear hps hbe
     unfold tkV
     go_wp2_with fail
     refine (calls_ok (HX.out _ _ HST.out.ps) HX2.out).mono ?_
     rintro e wx ⟨v, rfl, ⟨Ac, Cc, rfl, hf⟩, hps, hbe⟩
     have hf' := mi_more (B0' := w.heap.size + 1) hf HST.out.size (Nat.le_refl _)
     replace HST := Lib.hid (HST.out.read hbe hps)
     simp only at hf' ⊢
     generalize hm : cc.len = mc at hf' ⊢
     have Hmc := Lib.hid hm
     have HFc := Lib.hid hf'
     clear hps hbe hf hf' hm
     have HX3 := Lib.hid (box4_new wx 24 (.int .i64 ck) (.string cx) (.string cy) (.slice Ac mc Cc))
     have hNPHX3 : wx.heap.size ≠ P := by have := HST.out.size; omega
     have h3R := HST.out.size
     have hb := (Below.refl (wx).heap.size (wx)).alloc (Nat.le_refl _) (.cells #[.int .i64 ck, .string cx, .string cy, .slice Ac mc Cc] 24)
     replace HST := Lib.hid (HST.out.quiet hb)
     replace HFc := Lib.hid (fsq HFc.out hb)
     clear hb
     go_wp2_with fail
     refine (calls_ok (HBL.out _ _ HST.out.ps (by omega)) HB.out).mono ?_
     rintro e wb ⟨v, rfl, ⟨Ab, Cb, rfl, hf⟩, hps, hbe⟩
     have hf' := mi_more (B0' := w.heap.size + 1) hf HST.out.size (Nat.le_refl _)
     replace HST := Lib.hid (HST.out.read hbe hps)
     replace HFc := Lib.hid (fsr HFc.out hbe hP0)
     replace HX3 := Lib.hid (HX3.out.bes hbe hNPHX3)
     simp only at hf' ⊢
     generalize hm : bc.len = mb at hf' ⊢
     have Hmb := Lib.hid hm
     have HFb := Lib.hid hf'
     clear hps hbe hf hf' hm
     go_wp2_with fail
     refine (none_any _).mono ?_
     rintro e wq ⟨rfl, hb⟩
     replace HST := Lib.hid (HST.out.quiet hb)
     replace HFc := Lib.hid (fsq HFc.out hb)
     replace HFb := Lib.hid (fsq HFb.out hb)
     replace HX3 := Lib.hid (HX3.out.later hb)
     clear hb
     unfold e0
     have hq3 := HX3.out.lt
     have hqR := HST.out.size
     have hsa : (wq.alloc (.cells #[.int .i64 bk, .string bx, .string by', .slice Ab mb Cb] 24)).heap.size = wq.heap.size + 1 := by simp
     have hba := (Below.refl wq.heap.size wq).alloc (Nat.le_refl _) (.cells #[.int .i64 bk, .string bx, .string by', .slice Ab mb Cb] 24)
     have hbb2 := (Below.refl (wq.alloc (.cells #[.int .i64 bk, .string bx, .string by', .slice Ab mb Cb] 24)).heap.size (wq.alloc (.cells #[.int .i64 bk, .string bx, .string by', .slice Ab mb Cb] 24))).alloc (Nat.le_refl _) (.cells #[.int .i64 33, .string ⟨#[]⟩, .string ⟨#[]⟩, .slice none 0 0] 24)
     have HX4 : Hid (Box4 ((wq.alloc (.cells #[.int .i64 bk, .string bx, .string by', .slice Ab mb Cb] 24)).alloc (.cells #[.int .i64 33, .string ⟨#[]⟩, .string ⟨#[]⟩, .slice none 0 0] 24)) wq.heap.size 24 (.int .i64 bk) (.string bx) (.string by') (.slice Ab mb Cb)) := (box4_new wq _ _ _ _ _).later hbb2
     have HX5 : Hid (Box4 ((wq.alloc (.cells #[.int .i64 bk, .string bx, .string by', .slice Ab mb Cb] 24)).alloc (.cells #[.int .i64 33, .string ⟨#[]⟩, .string ⟨#[]⟩, .slice none 0 0] 24)) (wq.heap.size + 1) 24 (.int .i64 33) (.string ⟨#[]⟩) (.string ⟨#[]⟩) (.slice none 0 0)) := by
      have := box4_new (wq.alloc (.cells #[.int .i64 bk, .string bx, .string by', .slice Ab mb Cb] 24)) 24 (.int .i64 33) (.string ⟨#[]⟩) (.string ⟨#[]⟩) (.slice none 0 0)
      rwa [hsa] at this
     replace HX3 := Lib.hid ((HX3.out.later hba).later hbb2)
     replace HST := Lib.hid ((HST.out.quiet hba).quiet hbb2)
     have hgb := hbb2.size
     have hga := hba.size
     replace HFc := Lib.hid (mx_of (B0 := w.heap.size + 1) (g := wq.heap.size + 1) (g' := wq.heap.size + 1) (mi_later (mi_later HFc.out hba (Nat.le_refl _)) hbb2 hga) (Nat.le_refl _) (.inr (Nat.le_succ _)) (.inr (Nat.le_succ _)) (Nat.le_trans hga hgb))
     replace HFb := Lib.hid (mx_of (B0 := w.heap.size + 1) (g := wq.heap.size + 1) (g' := wq.heap.size + 1) (mi_later (mi_later HFb.out hba (Nat.le_refl _)) hbb2 hga) (Nat.le_refl _) (.inr (Nat.le_succ _)) (.inr (Nat.le_succ _)) (Nat.le_trans hga hgb))
     have hNPHX4 : wq.heap.size ≠ P := by omega
     have hNPHX5 : wq.heap.size + 1 ≠ P := by omega
     have hg5 := HX5.out.lt
     clear hba hbb2 hsa
     go_wp2_with fail
     refine (is_at HST.out.ps HU2.out HE.out).mono ?_
     rintro e we ⟨rfl, hb⟩
     replace HST := Lib.hid (HST.out.quiet hb)
     replace HFc := Lib.hid (mx_later HFc.out hb hP0)
     replace HFb := Lib.hid (mx_later HFb.out hb hP0)
     replace HX3 := Lib.hid (HX3.out.later hb)
     replace HX4 := Lib.hid (HX4.out.later hb)
     replace HX5 := Lib.hid (HX5.out.later hb)
     clear hb
     obtain ⟨a0, a1, a2, a3⟩ := HX3.out.cells
     obtain ⟨b0, b1, b2, b3⟩ := HX4.out.cells
     obtain ⟨c0, c1, c2, c3⟩ := HX5.out.cells
     have hsz5 := HX5.out.lt
     obtain ⟨A9, C9, he9, hf9⟩ := rowX3 we (w.heap.size + 1) (wq.heap.size + 1) (wq.heap.size + 1) P HST.out.size (by omega) (by omega) hP0 ck cx cy cc _ HFc.out bk bx by' bc _ HFb.out 33 ⟨#[]⟩ ⟨#[]⟩ .nil _ mx_nil
     simp only [oneF, one, F.len, Nat.zero_add, Nat.reduceAdd, Value.slice.injEq, true_and] at he9
     obtain ⟨rfl, rfl⟩ := he9
     try simp only [size_set4] at hf9
     have HROW := Lib.hid hf9
     clear hf9
     have hb := (Below.refl (we).heap.size (we)).alloc (Nat.le_refl _) (.cells #[.int .i64 ck, .string cx, .string cy, .slice Ac mc Cc, .int .i64 bk, .string bx, .string by', .slice Ab mb Cb, .int .i64 33, .string ⟨#[]⟩, .string ⟨#[]⟩, .slice none 0 0] 24)
     replace HST := Lib.hid (HST.out.quiet hb)
     clear hb
     go_wp2_with fail
     refine (node_any 18 ⟨#[]⟩ _ _ _ _).mono ?_
     rintro e w5 ⟨rfl, hb⟩
     replace HST := Lib.hid (HST.out.quiet hb)
     replace HROW := Lib.hid (mx_later HROW.out hb hP0)
     clear hb
     obtain ⟨⟨r0, r1, r2, r3, y0, y1, y2, y3⟩, g0, g1, g2, g3⟩ := HST.out.frz
     try unfold e0
     go_wp2
     have hfin := HST.out.ret (B0 := w.heap.size + 1) HSP.out rfl (mx_mi HROW.out) (fun _ _ _ _ => mi_set4 (mx_mi HROW.out) (.inl (Nat.lt_succ_self _)) _ _ _ _)
     refine bodyPost_ret (results_cell_row rfl _ _ w.heap.size 24 _ (0, 0) _ rfl hfin.1 Tryz.underlying24 rfl hi_nd) rfl ?_
     exact nb_nv hfin.2 (Nat.le_succ _)
    | true =>
     rw [he, if_pos rfl] at hsp
     have HE := Lib.hid he
     obtain ⟨t', r, rfl⟩ := isT_cons he (by decide)
     rw [List.tail_cons] at hsp
     simp only [List.length_cons] at hl3
     clear he
     cases ho : othR z st br d r with
     | bad p er =>
      rw [ho, Rd.bind_bad] at hsp
      have HSP := Lib.hid hsp
      have HO := Lib.hid ho
      clear hsp ho
      go_enter Tryz.func114, Tryz.ntmps114
      go_wp2_with fail
      refine (is_at HST.out.ps HU.out HBB.out).mono ?_
      rintro e w1 ⟨rfl, hb⟩
      replace HST := Lib.hid (HST.out.quiet hb)
      clear hb
      go_wp2_with fail
      refine (HBG2.out _ HST.out.ps).mono ?_
      rintro e w2 ⟨v, rfl, rfl, hps, hbe⟩
      replace HST := Lib.hid (HST.out.read hbe hps)
      clear hps hbe
      unfold tkV
      go_wp2_with fail
      refine (calls_ok (HX.out _ _ HST.out.ps) HX2.out).mono ?_
      rintro e wx ⟨v, rfl, ⟨Ac, Cc, rfl, hf⟩, hps, hbe⟩
      have hf' := mi_more (B0' := w.heap.size + 1) hf HST.out.size (Nat.le_refl _)
      replace HST := Lib.hid (HST.out.read hbe hps)
      simp only at hf' ⊢
      generalize hm : cc.len = mc at hf' ⊢
      have Hmc := Lib.hid hm
      have HFc := Lib.hid hf'
      clear hps hbe hf hf' hm
      have HX3 := Lib.hid (box4_new wx 24 (.int .i64 ck) (.string cx) (.string cy) (.slice Ac mc Cc))
      have hNPHX3 : wx.heap.size ≠ P := by have := HST.out.size; omega
      have h3R := HST.out.size
      have hb := (Below.refl (wx).heap.size (wx)).alloc (Nat.le_refl _) (.cells #[.int .i64 ck, .string cx, .string cy, .slice Ac mc Cc] 24)
      replace HST := Lib.hid (HST.out.quiet hb)
      replace HFc := Lib.hid (fsq HFc.out hb)
      clear hb
      go_wp2_with fail
      refine (calls_ok (HBL.out _ _ HST.out.ps (by omega)) HB.out).mono ?_
      rintro e wb ⟨v, rfl, ⟨Ab, Cb, rfl, hf⟩, hps, hbe⟩
      have hf' := mi_more (B0' := w.heap.size + 1) hf HST.out.size (Nat.le_refl _)
      replace HST := Lib.hid (HST.out.read hbe hps)
      replace HFc := Lib.hid (fsr HFc.out hbe hP0)
      replace HX3 := Lib.hid (HX3.out.bes hbe hNPHX3)
      simp only at hf' ⊢
      generalize hm : bc.len = mb at hf' ⊢
      have Hmb := Lib.hid hm
      have HFb := Lib.hid hf'
      clear hps hbe hf hf' hm
      go_wp2_with fail
      refine (none_any _).mono ?_
      rintro e wq ⟨rfl, hb⟩
      replace HST := Lib.hid (HST.out.quiet hb)
      replace HFc := Lib.hid (fsq HFc.out hb)
      replace HFb := Lib.hid (fsq HFb.out hb)
      replace HX3 := Lib.hid (HX3.out.later hb)
      clear hb
      unfold e0
      have hq3 := HX3.out.lt
      have hqR := HST.out.size
      have hsa : (wq.alloc (.cells #[.int .i64 bk, .string bx, .string by', .slice Ab mb Cb] 24)).heap.size = wq.heap.size + 1 := by simp
      have hba := (Below.refl wq.heap.size wq).alloc (Nat.le_refl _) (.cells #[.int .i64 bk, .string bx, .string by', .slice Ab mb Cb] 24)
      have hbb2 := (Below.refl (wq.alloc (.cells #[.int .i64 bk, .string bx, .string by', .slice Ab mb Cb] 24)).heap.size (wq.alloc (.cells #[.int .i64 bk, .string bx, .string by', .slice Ab mb Cb] 24))).alloc (Nat.le_refl _) (.cells #[.int .i64 33, .string ⟨#[]⟩, .string ⟨#[]⟩, .slice none 0 0] 24)
      have HX4 : Hid (Box4 ((wq.alloc (.cells #[.int .i64 bk, .string bx, .string by', .slice Ab mb Cb] 24)).alloc (.cells #[.int .i64 33, .string ⟨#[]⟩, .string ⟨#[]⟩, .slice none 0 0] 24)) wq.heap.size 24 (.int .i64 bk) (.string bx) (.string by') (.slice Ab mb Cb)) := (box4_new wq _ _ _ _ _).later hbb2
      have HX5 : Hid (Box4 ((wq.alloc (.cells #[.int .i64 bk, .string bx, .string by', .slice Ab mb Cb] 24)).alloc (.cells #[.int .i64 33, .string ⟨#[]⟩, .string ⟨#[]⟩, .slice none 0 0] 24)) (wq.heap.size + 1) 24 (.int .i64 33) (.string ⟨#[]⟩) (.string ⟨#[]⟩) (.slice none 0 0)) := by
       have := box4_new (wq.alloc (.cells #[.int .i64 bk, .string bx, .string by', .slice Ab mb Cb] 24)) 24 (.int .i64 33) (.string ⟨#[]⟩) (.string ⟨#[]⟩) (.slice none 0 0)
       rwa [hsa] at this
      replace HX3 := Lib.hid ((HX3.out.later hba).later hbb2)
      replace HST := Lib.hid ((HST.out.quiet hba).quiet hbb2)
      have hgb := hbb2.size
      have hga := hba.size
      replace HFc := Lib.hid (mx_of (B0 := w.heap.size + 1) (g := wq.heap.size + 1) (g' := wq.heap.size + 1) (mi_later (mi_later HFc.out hba (Nat.le_refl _)) hbb2 hga) (Nat.le_refl _) (.inr (Nat.le_succ _)) (.inr (Nat.le_succ _)) (Nat.le_trans hga hgb))
      replace HFb := Lib.hid (mx_of (B0 := w.heap.size + 1) (g := wq.heap.size + 1) (g' := wq.heap.size + 1) (mi_later (mi_later HFb.out hba (Nat.le_refl _)) hbb2 hga) (Nat.le_refl _) (.inr (Nat.le_succ _)) (.inr (Nat.le_succ _)) (Nat.le_trans hga hgb))
      have hNPHX4 : wq.heap.size ≠ P := by omega
      have hNPHX5 : wq.heap.size + 1 ≠ P := by omega
      have hg5 := HX5.out.lt
      clear hba hbb2 hsa
      go_wp2_with fail
      refine (is_at HST.out.ps HU2.out HE.out).mono ?_
      rintro e w4 ⟨rfl, hb⟩
      replace HST := Lib.hid (HST.out.quiet hb)
      replace HFc := Lib.hid (mx_later HFc.out hb hP0)
      replace HFb := Lib.hid (mx_later HFb.out hb hP0)
      replace HX3 := Lib.hid (HX3.out.later hb)
      replace HX4 := Lib.hid (HX4.out.later hb)
      replace HX5 := Lib.hid (HX5.out.later hb)
      clear hb
      go_wp2_with fail
      refine (take_any P z _ _ d _ HST.out.ps).mono ?_
      rintro e w5 ⟨v, rfl, rfl, hps, hbe⟩
      replace HST := Lib.hid (HST.out.read hbe hps)
      replace HFc := Lib.hid (mx_bes HFc.out hbe hP0)
      replace HFb := Lib.hid (mx_bes HFb.out hbe hP0)
      replace HX3 := Lib.hid (HX3.out.bes hbe hNPHX3)
      replace HX4 := Lib.hid (HX4.out.bes hbe hNPHX4)
      replace HX5 := Lib.hid (HX5.out.bes hbe hNPHX5)
      clear hps hbe
      unfold tkV
      go_wp2_with fail
      refine (calls_bad (HOT.out _ _ HST.out.ps (by omega) (by omega)) HO.out).mono ?_
      rintro e w6 ⟨rfl, hbe⟩
      have HE := Lib.hid (HST.out.bes.trans hbe)
      clear hbe
      go_wp2
      exact ⟨rfl, rpost_bad HSP.out HE.out⟩
     | ok n l4 =>
      obtain ⟨ok', ox, oy, oc⟩ := n
      rw [ho, Rd.bind_ok] at hsp
      have HSP := Lib.hid hsp
      have HO := Lib.hid ho
      clear hsp ho
      go_enter Tryz.func114, Tryz.ntmps114
      go_wp2_with fail
      refine (is_at HST.out.ps HU.out HBB.out).mono ?_
      rintro e w1 ⟨rfl, hb⟩
      replace HST := Lib.hid (HST.out.quiet hb)
      clear hb
      go_wp2_with fail
      refine (HBG2.out _ HST.out.ps).mono ?_
      rintro e w2 ⟨v, rfl, rfl, hps, hbe⟩
      replace HST := Lib.hid (HST.out.read hbe hps)
      clear hps hbe
      unfold tkV
      go_wp2_with fail
      refine (calls_ok (HX.out _ _ HST.out.ps) HX2.out).mono ?_
      rintro e wx ⟨v, rfl, ⟨Ac, Cc, rfl, hf⟩, hps, hbe⟩
      have hf' := mi_more (B0' := w.heap.size + 1) hf HST.out.size (Nat.le_refl _)
      replace HST := Lib.hid (HST.out.read hbe hps)
      simp only at hf' ⊢
      generalize hm : cc.len = mc at hf' ⊢
      have Hmc := Lib.hid hm
      have HFc := Lib.hid hf'
      clear hps hbe hf hf' hm
      have HX3 := Lib.hid (box4_new wx 24 (.int .i64 ck) (.string cx) (.string cy) (.slice Ac mc Cc))
      have hNPHX3 : wx.heap.size ≠ P := by have := HST.out.size; omega
      have h3R := HST.out.size
      have hb := (Below.refl (wx).heap.size (wx)).alloc (Nat.le_refl _) (.cells #[.int .i64 ck, .string cx, .string cy, .slice Ac mc Cc] 24)
      replace HST := Lib.hid (HST.out.quiet hb)
      replace HFc := Lib.hid (fsq HFc.out hb)
      clear hb
      go_wp2_with fail
      refine (calls_ok (HBL.out _ _ HST.out.ps (by omega)) HB.out).mono ?_
      rintro e wb ⟨v, rfl, ⟨Ab, Cb, rfl, hf⟩, hps, hbe⟩
      have hf' := mi_more (B0' := w.heap.size + 1) hf HST.out.size (Nat.le_refl _)
      replace HST := Lib.hid (HST.out.read hbe hps)
      replace HFc := Lib.hid (fsr HFc.out hbe hP0)
      replace HX3 := Lib.hid (HX3.out.bes hbe hNPHX3)
      simp only at hf' ⊢
      generalize hm : bc.len = mb at hf' ⊢
      have Hmb := Lib.hid hm
      have HFb := Lib.hid hf'
      clear hps hbe hf hf' hm
      go_wp2_with fail
      refine (none_any _).mono ?_
      rintro e wq ⟨rfl, hb⟩
      replace HST := Lib.hid (HST.out.quiet hb)
      replace HFc := Lib.hid (fsq HFc.out hb)
      replace HFb := Lib.hid (fsq HFb.out hb)
      replace HX3 := Lib.hid (HX3.out.later hb)
      clear hb
      unfold e0
      have hq3 := HX3.out.lt
      have hqR := HST.out.size
      have hsa : (wq.alloc (.cells #[.int .i64 bk, .string bx, .string by', .slice Ab mb Cb] 24)).heap.size = wq.heap.size + 1 := by simp
      have hba := (Below.refl wq.heap.size wq).alloc (Nat.le_refl _) (.cells #[.int .i64 bk, .string bx, .string by', .slice Ab mb Cb] 24)
      have hbb2 := (Below.refl (wq.alloc (.cells #[.int .i64 bk, .string bx, .string by', .slice Ab mb Cb] 24)).heap.size (wq.alloc (.cells #[.int .i64 bk, .string bx, .string by', .slice Ab mb Cb] 24))).alloc (Nat.le_refl _) (.cells #[.int .i64 33, .string ⟨#[]⟩, .string ⟨#[]⟩, .slice none 0 0] 24)
      have HX4 : Hid (Box4 ((wq.alloc (.cells #[.int .i64 bk, .string bx, .string by', .slice Ab mb Cb] 24)).alloc (.cells #[.int .i64 33, .string ⟨#[]⟩, .string ⟨#[]⟩, .slice none 0 0] 24)) wq.heap.size 24 (.int .i64 bk) (.string bx) (.string by') (.slice Ab mb Cb)) := (box4_new wq _ _ _ _ _).later hbb2
      have HX5 : Hid (Box4 ((wq.alloc (.cells #[.int .i64 bk, .string bx, .string by', .slice Ab mb Cb] 24)).alloc (.cells #[.int .i64 33, .string ⟨#[]⟩, .string ⟨#[]⟩, .slice none 0 0] 24)) (wq.heap.size + 1) 24 (.int .i64 33) (.string ⟨#[]⟩) (.string ⟨#[]⟩) (.slice none 0 0)) := by
       have := box4_new (wq.alloc (.cells #[.int .i64 bk, .string bx, .string by', .slice Ab mb Cb] 24)) 24 (.int .i64 33) (.string ⟨#[]⟩) (.string ⟨#[]⟩) (.slice none 0 0)
       rwa [hsa] at this
      replace HX3 := Lib.hid ((HX3.out.later hba).later hbb2)
      replace HST := Lib.hid ((HST.out.quiet hba).quiet hbb2)
      have hgb := hbb2.size
      have hga := hba.size
      replace HFc := Lib.hid (mx_of (B0 := w.heap.size + 1) (g := wq.heap.size + 1) (g' := wq.heap.size + 1) (mi_later (mi_later HFc.out hba (Nat.le_refl _)) hbb2 hga) (Nat.le_refl _) (.inr (Nat.le_succ _)) (.inr (Nat.le_succ _)) (Nat.le_trans hga hgb))
      replace HFb := Lib.hid (mx_of (B0 := w.heap.size + 1) (g := wq.heap.size + 1) (g' := wq.heap.size + 1) (mi_later (mi_later HFb.out hba (Nat.le_refl _)) hbb2 hga) (Nat.le_refl _) (.inr (Nat.le_succ _)) (.inr (Nat.le_succ _)) (Nat.le_trans hga hgb))
      have hNPHX4 : wq.heap.size ≠ P := by omega
      have hNPHX5 : wq.heap.size + 1 ≠ P := by omega
      have hg5 := HX5.out.lt
      clear hba hbb2 hsa
      go_wp2_with fail
      refine (is_at HST.out.ps HU2.out HE.out).mono ?_
      rintro e w4 ⟨rfl, hb⟩
      replace HST := Lib.hid (HST.out.quiet hb)
      replace HFc := Lib.hid (mx_later HFc.out hb hP0)
      replace HFb := Lib.hid (mx_later HFb.out hb hP0)
      replace HX3 := Lib.hid (HX3.out.later hb)
      replace HX4 := Lib.hid (HX4.out.later hb)
      replace HX5 := Lib.hid (HX5.out.later hb)
      clear hb
      go_wp2_with fail
      refine (take_any P z _ _ d _ HST.out.ps).mono ?_
      rintro e w5 ⟨v, rfl, rfl, hps, hbe⟩
      replace HST := Lib.hid (HST.out.read hbe hps)
      replace HFc := Lib.hid (mx_bes HFc.out hbe hP0)
      replace HFb := Lib.hid (mx_bes HFb.out hbe hP0)
      replace HX3 := Lib.hid (HX3.out.bes hbe hNPHX3)
      replace HX4 := Lib.hid (HX4.out.bes hbe hNPHX4)
      replace HX5 := Lib.hid (HX5.out.bes hbe hNPHX5)
      clear hps hbe
      unfold tkV
      have hgs := HST.out.size
      skip
      go_wp2_with fail
      refine (calls_ok (HOT.out _ _ HST.out.ps (by omega) (by omega)) HO.out).mono ?_
      rintro e wo ⟨v, rfl, hv, hps, hbe⟩
      obtain ⟨Ao, Co, rfl, hf⟩ := mx_new (B0 := w.heap.size + 1) (g := (wq.heap.size + 1)) (g' := (wq.heap.size + 1)) hv HST.out.size (by have hh5 := HX5.out.lt; omega) (by have hh5 := HX5.out.lt; omega)
      replace HST := Lib.hid (HST.out.read hbe hps)
      replace HFc := Lib.hid (mx_bes HFc.out hbe hP0)
      replace HFb := Lib.hid (mx_bes HFb.out hbe hP0)
      replace HX3 := Lib.hid (HX3.out.bes hbe hNPHX3)
      replace HX4 := Lib.hid (HX4.out.bes hbe hNPHX4)
      replace HX5 := Lib.hid (HX5.out.bes hbe hNPHX5)
      simp only at hf ⊢
      generalize hm : oc.len = mo at hf ⊢
      have Hmo := Lib.hid hm
      have HFo := Lib.hid hf
      clear hv hps hbe hf hm hgs
      obtain ⟨p0, p1, p2, p3⟩ := HX5.out.frz
      obtain ⟨c0, c1, c2, c3⟩ := HX5.out.cells
      obtain ⟨a0, a1, a2, a3⟩ := HX3.out.cells
      obtain ⟨b0, b1, b2, b3⟩ := HX4.out.cells
      have hsz3 := HX3.out.lt
      have hsz4 := HX4.out.lt
      have hsz5 := HX5.out.lt
      replace HST := Lib.hid (HST.out.setg (y := (wq.heap.size + 1)) (by omega) (.int .i64 ok') (.string ox) (.string oy) (.slice Ao mo Co))
      replace HFc := Lib.hid (mx_setg HFc.out (x := (wq.heap.size + 1)) (by omega) (.int .i64 ok') (.string ox) (.string oy) (.slice Ao mo Co))
      replace HFb := Lib.hid (mx_setg HFb.out (x := (wq.heap.size + 1)) (by omega) (.int .i64 ok') (.string ox) (.string oy) (.slice Ao mo Co))
      replace HFo := Lib.hid (mx_setg HFo.out (x := (wq.heap.size + 1)) (by omega) (.int .i64 ok') (.string ox) (.string oy) (.slice Ao mo Co))
      replace HX3 := Lib.hid (HX3.out.setg (y := (wq.heap.size + 1)) (by omega) (.int .i64 ok') (.string ox) (.string oy) (.slice Ao mo Co))
      replace HX4 := Lib.hid (HX4.out.setg (y := (wq.heap.size + 1)) (by omega) (.int .i64 ok') (.string ox) (.string oy) (.slice Ao mo Co))
      replace HX5 := Lib.hid (HX5.out.set4 (.int .i64 ok') (.string ox) (.string oy) (.slice Ao mo Co))
      have hsz6 := HX5.out.lt
      obtain ⟨A9, C9, he9, hf9⟩ := rowX3 ((((wo.setCell ⟨wq.heap.size + 1, 0, none⟩ (.int .i64 ok')).setCell ⟨wq.heap.size + 1, 1, none⟩ (.string ox)).setCell ⟨wq.heap.size + 1, 2, none⟩ (.string oy)).setCell ⟨wq.heap.size + 1, 3, none⟩ (.slice Ao mo Co)) (w.heap.size + 1) (wq.heap.size + 1) (wq.heap.size + 1) P HST.out.size (by omega) (by omega) hP0 ck cx cy cc _ HFc.out bk bx by' bc _ HFb.out ok' ox oy oc _ HFo.out
      simp only [oneF, one, F.len, Nat.zero_add, Nat.reduceAdd, Value.slice.injEq, true_and] at he9
      obtain ⟨rfl, rfl⟩ := he9
      try simp only [size_set4] at hf9
      have HROW := Lib.hid hf9
      clear hf9
      have hb := (Below.refl (((((wo.setCell ⟨wq.heap.size + 1, 0, none⟩ (.int .i64 ok')).setCell ⟨wq.heap.size + 1, 1, none⟩ (.string ox)).setCell ⟨wq.heap.size + 1, 2, none⟩ (.string oy)).setCell ⟨wq.heap.size + 1, 3, none⟩ (.slice Ao mo Co))).heap.size (((((wo.setCell ⟨wq.heap.size + 1, 0, none⟩ (.int .i64 ok')).setCell ⟨wq.heap.size + 1, 1, none⟩ (.string ox)).setCell ⟨wq.heap.size + 1, 2, none⟩ (.string oy)).setCell ⟨wq.heap.size + 1, 3, none⟩ (.slice Ao mo Co)))).alloc (Nat.le_refl _) (.cells #[.int .i64 ck, .string cx, .string cy, .slice Ac mc Cc, .int .i64 bk, .string bx, .string by', .slice Ab mb Cb, .int .i64 ok', .string ox, .string oy, .slice Ao mo Co] 24)
      replace HST := Lib.hid (HST.out.quiet hb)
      clear hb
      go_wp2_with fail
      refine (node_any 18 ⟨#[]⟩ _ _ _ _).mono ?_
      rintro e w7 ⟨rfl, hb⟩
      replace HST := Lib.hid (HST.out.quiet hb)
      replace HROW := Lib.hid (mx_later HROW.out hb hP0)
      clear hb
      obtain ⟨⟨r0, r1, r2, r3, y0, y1, y2, y3⟩, g0, g1, g2, g3⟩ := HST.out.frz
      try unfold e0
      go_wp2
      have hfin := HST.out.ret (B0 := w.heap.size + 1) HSP.out rfl (mx_mi HROW.out) (fun _ _ _ _ => mi_set4 (mx_mi HROW.out) (.inl (Nat.lt_succ_self _)) _ _ _ _)
      refine bodyPost_ret (results_cell_row rfl _ _ w.heap.size 24 _ (0, 0) _ rfl hfin.1 Tryz.underlying24 rfl hi_nd) rfl ?_
      exact nb_nv hfin.2 (Nat.le_succ _)

theorem branch_rd (P z N : Nat) (st : Nat → List Tk → Rd Nd) (hst : RdOk 104 P z N st) (hdec : Dec st) : ∀ M F, M ≤ N + 1 → M ≤ F → RdOk 114 P z M (branchR z st F)
 | 0, F, _, _ => fun W d l hl => absurd hl (Nat.not_lt_zero _)
 | M + 1, 0, _, h => absurd h (by omega)
 | M + 1, F + 1, h1, h2 => fun W d l hl hd hps => branch_step P z N st hst hdec M (by omega) (branchR z st F) (branch_rd P z N st hst hdec M F (by omega) (by omega)) l d W hps (by omega) hd
end Go.Proofs.YtaiihnniblibaaaGreatDoor.Parse
