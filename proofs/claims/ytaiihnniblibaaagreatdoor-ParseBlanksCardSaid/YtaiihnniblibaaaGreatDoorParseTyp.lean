/-
 Layer 6 (parse): types.
-/
import Derived.Test.YtaiihnniblibaaaGreatDoorJpF
namespace Go.Proofs.YtaiihnniblibaaaGreatDoor.Parse
open Go.ChangeShapes Go.WideShapes Go.ChangeAt Go.RowKit Tree MemT Mem
set_option linter.unusedVariables false

theorem ent_typ : EnteredP 72 := by intro args w; simp [go_sem]
theorem ent_field : EnteredP 91 := by intro args w; simp [go_sem]
theorem ent_param : EnteredP 93 := by intro args w; simp [go_sem]
theorem beg_len {z d : Nat} {f : Bool} {l r : List Tk} {t : Tk} (hf : f = true → l ≠ []) (h : beg z f d l = .ok t r) : r.length < l.length := by
 obtain ⟨_, _, rfl⟩ := beg_ok hf h; simp
theorem begT_ne {z : Nat} {l : List Tk} (h : begT (Parse.hd z l) = true) : l ≠ [] := fun e => by
 subst e
 simp [begT, Parse.hd, isT, isNm, e0] at h
theorem nm_ne {z : Nat} {l : List Tk} (h : isNm (Parse.hd z l) = true) : l ≠ [] := fun e => by
 subst e; simp [Parse.hd, isNm] at h
theorem typed_dec {z : Nat} {k : Int} {ty : Nat → List Tk → Rd Nd} (h : Dec ty) : Dec (typed z k ty) := by
 intro d l n r hr
 unfold typed at hr
 cases h1 : beg z (isNm (Parse.hd z l)) d l with
 | bad p e => rw [h1] at hr; cases hr
 | ok t l1 =>
  rw [h1, Rd.bind_ok] at hr
  have a := beg_len nm_ne h1
  cases h2 : ty d l1 with
  | bad p e => rw [h2] at hr; cases hr
  | ok m l2 =>
   rw [h2, Rd.bind_ok] at hr
   have b := h d l1 m l2 h2
   simp only [Rd.ok.injEq] at hr
   rw [← hr.2]; omega

/-- One type, its parts read by ty. -/
def typ1 (z : Nat) (ty : Nat → List Tk → Rd Nd) (d : Nat) (l : List Tk) : Rd Nd := (beg z (begT (Parse.hd z l)) d l).bind fun t l => typRest z ty d t l
set_option maxHeartbeats 8000000 in
set_option maxRecDepth 100000 in
theorem typ_step (P z N : Nat) (ty : Nat → List Tk → Rd Nd) (hty : RdOk 72 P z N ty) (hdec : Dec ty) (l : List Tk) (d : Nat) (w : World) (h : PS w P z l d) (hl : l.length ≤ N) (hd : d ≤ 300) :
  Calls Tryz.prog 72 #[.pointer (some ⟨P, 0, none⟩)] w (RPost NV w P z d (typ1 z ty d l)) := by
 have hlt := h.lt
 have HST := Lib.hid (Stt.start h)
 have HN := Lib.hid (next_any P z l d _ (h.alloc ndZ))
 have HI := Lib.hid (fun W => begT_any (Parse.hd z l) W)
 have HBG : Hid (∀ W, PS W P z l d → Calls Tryz.prog 66 #[.pointer (some ⟨P, 0, none⟩), .bool (begT (Parse.hd z l))] W (RPost TV W P z d (beg z (begT (Parse.hd z l)) d l))) :=
  fun W hW => begin_any _ P z l d begT_ne (by omega) W hW
 have hsp : typ1 z ty d l = typ1 z ty d l := rfl
 conv at hsp => rhs; unfold typ1
 have hPB : P < w.heap.size + 1 := by omega
 cases hr : beg z (begT (Parse.hd z l)) d l with
 | bad p er =>
  rw [hr, Rd.bind_bad] at hsp
  rw [hr] at HBG
  have HSP := Lib.hid hsp
  clear h hsp hr hty hdec
  generalize Parse.hd z l = t at *
  generalize begT t = bb at *
  go_enter Tryz.func72, Tryz.ntmps72
  go_wp2_with fail
  refine (HN.out).mono ?_
  rintro e w1 ⟨rfl, hb⟩
  replace HST := Lib.hid (HST.out.quiet hb)
  clear hb
  go_wp2_with fail
  refine (HI.out _).mono ?_
  rintro e w2 ⟨rfl, hb⟩
  replace HST := Lib.hid (HST.out.quiet hb)
  clear hb
  go_wp2_with fail
  refine (calls_bad (HBG.out _ HST.out.ps) rfl).mono ?_
  rintro e w3 ⟨rfl, hbe⟩
  have HE := Lib.hid (HST.out.bes.trans hbe)
  clear hbe
  go_wp2
  exact ⟨rfl, rpost_bad HSP.out HE.out⟩
 | ok t r =>
  obtain ⟨-, hd256, rfl⟩ := beg_ok begT_ne hr
  rw [hr, Rd.bind_ok] at hsp
  rw [hr] at HBG
  have hrl : r.length < N := by simp only [List.length_cons] at hl; omega
  have HDP : Hid (∀ W l', PS W P z l' d → l'.length < N → Calls Tryz.prog 89 #[.pointer (some ⟨P, 0, none⟩), .int .i64 ((1 : Nat) : Int), .func (.func 72) #[.pointer (some ⟨P, 0, none⟩)] #[]] W (RPost NV W P z d (ty (d + 1) l'))) :=
   fun W l' hW hl' => deeper_any P z N _ ty 1 l' d W hW (reads_of W ent_typ hty) hl' (by omega)
  have HBR : Hid (∀ W, PS W P z r d → Calls Tryz.prog 90 #[.pointer (some ⟨P, 0, none⟩), .func (.func 91) #[.pointer (some ⟨P, 0, none⟩)] #[]] W (RPost FV W P z d (braces z (typed z 14 ty) d r))) :=
   fun W hW => braces_any P z N _ (typed z 14 ty) (typed_dec hdec) r d W hW (reads_of W ent_field (fun W' d' l' hl' hd' hps => field_any P z N ty hty l' d' W' hps (by omega) hd')) (by omega) hd
  have HDT := Lib.hid hdec
  clear h hr hty hl hdec
  simp only [Parse.hd] at HN HI HBG
  generalize begT t = bb at *
  obtain ⟨tk, tx, tp, tf⟩ := t
  have HBG2 : Hid (∀ W, PS W P z (⟨tk, tx, tp, tf⟩ :: r) d → Calls Tryz.prog 66 #[.pointer (some ⟨P, 0, none⟩), .bool bb] W fun e w' => ∃ v, e = .returned v ∧ TV W w' v ⟨tk, tx, tp, tf⟩ ∧ PS w' P z r d ∧ Bes P W w') := fun W hW => calls_ok (HBG.out W hW) rfl
  clear HBG
  have hU1 : (⟨#[93]⟩ : ByteArray).toList = [93] := by rw [ByteArray.toList_eq]
  have hU2 : (⟨#[91]⟩ : ByteArray).toList = [91] := by rw [ByteArray.toList_eq]
  have HU1 := Lib.hid hU1
  have HU2 := Lib.hid hU2
  clear hU1 hU2
  have hrest : typ1 z ty d (⟨tk, tx, tp, tf⟩ :: r) = typRest z ty d ⟨tk, tx, tp, tf⟩ r := hsp
  clear hsp
  unfold typRest at hrest
  cases b0 : (tx.toList == [42]) with
  | true =>
   rw [if_pos (isT_yes b0)] at hrest
   cases hr2 : ty (d + 1) r with
   | bad p er =>
    rw [hr2, Rd.bind_bad] at hrest
    have HSP := Lib.hid hrest
    have HR2 := Lib.hid hr2
    clear hrest hr2
    go_enter Tryz.func72, Tryz.ntmps72
    go_wp2_with fail
    refine (HN.out).mono ?_
    rintro e w1 ⟨rfl, hb⟩
    replace HST := Lib.hid (HST.out.quiet hb)
    clear hb
    go_wp2_with fail
    refine (HI.out _).mono ?_
    rintro e w2 ⟨rfl, hb⟩
    replace HST := Lib.hid (HST.out.quiet hb)
    clear hb
    go_wp2_with fail
    refine (HBG2.out _ HST.out.ps).mono ?_
    rintro e wt ⟨v, rfl, rfl, hps, hbe⟩
    replace HST := Lib.hid (HST.out.read hbe hps)
    clear hps hbe
    have HTB := Lib.hid (box4_new wt 75 (.int .i64 tk) (.string tx) (.int .i64 (tp : Int)) (.bool tf))
    have hgP : wt.heap.size ≠ P := by have := HST.out.size; omega
    have hb := (Below.refl (wt).heap.size (wt)).alloc (Nat.le_refl _) (.cells #[.int .i64 tk, .string tx, .int .i64 (tp : Int), .bool tf] 75)
    replace HST := Lib.hid (HST.out.quiet hb)
    clear hb
    unfold tkV
    go_wp2_with fail
    refine (calls_bad (HDP.out _ _ HST.out.ps hrl) HR2.out).mono ?_
    rintro e w4 ⟨rfl, hbe⟩
    have HE := Lib.hid (HST.out.bes.trans hbe)
    clear hbe
    go_wp2
    exact ⟨rfl, rpost_bad HSP.out HE.out⟩
   | ok n l2 =>
    obtain ⟨nk, nx, ny, nc⟩ := n
    rw [hr2, Rd.bind_ok] at hrest
    have HSP := Lib.hid hrest
    have HR2 := Lib.hid hr2
    clear hrest hr2
    go_enter Tryz.func72, Tryz.ntmps72
    go_wp2_with fail
    refine (HN.out).mono ?_
    rintro e w1 ⟨rfl, hb⟩
    replace HST := Lib.hid (HST.out.quiet hb)
    clear hb
    go_wp2_with fail
    refine (HI.out _).mono ?_
    rintro e w2 ⟨rfl, hb⟩
    replace HST := Lib.hid (HST.out.quiet hb)
    clear hb
    go_wp2_with fail
    refine (HBG2.out _ HST.out.ps).mono ?_
    rintro e wt ⟨v, rfl, rfl, hps, hbe⟩
    replace HST := Lib.hid (HST.out.read hbe hps)
    clear hps hbe
    have HTB := Lib.hid (box4_new wt 75 (.int .i64 tk) (.string tx) (.int .i64 (tp : Int)) (.bool tf))
    have hgP : wt.heap.size ≠ P := by have := HST.out.size; omega
    have hb := (Below.refl (wt).heap.size (wt)).alloc (Nat.le_refl _) (.cells #[.int .i64 tk, .string tx, .int .i64 (tp : Int), .bool tf] 75)
    replace HST := Lib.hid (HST.out.quiet hb)
    clear hb
    unfold tkV
    go_wp2_with fail
    refine (calls_ok (HDP.out _ _ HST.out.ps hrl) HR2.out).mono ?_
    rintro e wn ⟨v, rfl, hv, hps, hbe⟩
    obtain ⟨An, Cn, rfl, hf, hst⟩ := nv_at HST.out hv hps hbe
    replace HST := Lib.hid hst
    simp only at hf ⊢
    generalize hm : nc.len = mn at hf ⊢
    have Hmn := Lib.hid hm
    have HFn := Lib.hid hf
    clear hv hps hbe hst hf hm
    have HROW := Lib.hid (rowF1 wn (w.heap.size + 1) HST.out.size nk nx ny nc _ HFn.out)
    have hb := (Below.refl (wn).heap.size (wn)).alloc (Nat.le_refl _) (.cells #[.int .i64 nk, .string nx, .string ny, .slice An mn Cn] 24)
    replace HST := Lib.hid (HST.out.quiet hb)
    clear hb
    go_wp2_with fail
    refine (node_any 10 ⟨#[]⟩ _ _ _ _).mono ?_
    rintro e w5 ⟨rfl, hb⟩
    replace HST := Lib.hid (HST.out.quiet hb)
    replace HROW := Lib.hid (fsq HROW.out hb)
    clear hb
    obtain ⟨⟨r0, r1, r2, r3, y0, y1, y2, y3⟩, g0, g1, g2, g3⟩ := HST.out.frz
    unfold e0
    go_wp2
    have hfin := HST.out.ret HSP.out rfl HROW.out
    refine bodyPost_ret (results_cell_row rfl _ _ w.heap.size 24 _ (0, 0) _ rfl hfin.1 Tryz.underlying24 rfl hi_nd) rfl ?_
    exact hfin.2
  | false =>
  rw [if_neg (isT_no b0)] at hrest
  cases b1 : (tx.toList == [91]) with
  | true =>
   rw [if_pos (isT_yes b1)] at hrest
   cases hw : Parse.want z [93] r with
   | bad p er =>
    rw [hw, Rd.bind_bad] at hrest
    have HSP := Lib.hid hrest
    have HW := Lib.hid hw
    clear hrest hw
    go_enter Tryz.func72, Tryz.ntmps72
    go_wp2_with fail
    refine (HN.out).mono ?_
    rintro e w1 ⟨rfl, hb⟩
    replace HST := Lib.hid (HST.out.quiet hb)
    clear hb
    go_wp2_with fail
    refine (HI.out _).mono ?_
    rintro e w2 ⟨rfl, hb⟩
    replace HST := Lib.hid (HST.out.quiet hb)
    clear hb
    go_wp2_with fail
    refine (HBG2.out _ HST.out.ps).mono ?_
    rintro e wt ⟨v, rfl, rfl, hps, hbe⟩
    replace HST := Lib.hid (HST.out.read hbe hps)
    clear hps hbe
    have HTB := Lib.hid (box4_new wt 75 (.int .i64 tk) (.string tx) (.int .i64 (tp : Int)) (.bool tf))
    have hgP : wt.heap.size ≠ P := by have := HST.out.size; omega
    have hb := (Below.refl (wt).heap.size (wt)).alloc (Nat.le_refl _) (.cells #[.int .i64 tk, .string tx, .int .i64 (tp : Int), .bool tf] 75)
    replace HST := Lib.hid (HST.out.quiet hb)
    clear hb
    unfold tkV
    go_wp2_with fail
    refine (calls_bad (want_at HST.out.ps HU1.out (by decide)) HW.out).mono ?_
    rintro e w4 ⟨rfl, hbe⟩
    have HE := Lib.hid (HST.out.bes.trans hbe)
    clear hbe
    go_wp2
    exact ⟨rfl, rpost_bad HSP.out HE.out⟩
   | ok x r2 =>
    rw [hw, Rd.bind_ok] at hrest
    have hrl2 : r2.length < N := by rw [want_ok hw, List.length_tail]; omega
    have HW := Lib.hid hw
    clear hw
    cases hr2 : ty (d + 1) r2 with
    | bad p er =>
     rw [hr2, Rd.bind_bad] at hrest
     have HSP := Lib.hid hrest
     have HR2 := Lib.hid hr2
     clear hrest hr2
     go_enter Tryz.func72, Tryz.ntmps72
     go_wp2_with fail
     refine (HN.out).mono ?_
     rintro e w1 ⟨rfl, hb⟩
     replace HST := Lib.hid (HST.out.quiet hb)
     clear hb
     go_wp2_with fail
     refine (HI.out _).mono ?_
     rintro e w2 ⟨rfl, hb⟩
     replace HST := Lib.hid (HST.out.quiet hb)
     clear hb
     go_wp2_with fail
     refine (HBG2.out _ HST.out.ps).mono ?_
     rintro e wt ⟨v, rfl, rfl, hps, hbe⟩
     replace HST := Lib.hid (HST.out.read hbe hps)
     clear hps hbe
     have HTB := Lib.hid (box4_new wt 75 (.int .i64 tk) (.string tx) (.int .i64 (tp : Int)) (.bool tf))
     have hgP : wt.heap.size ≠ P := by have := HST.out.size; omega
     have hb := (Below.refl (wt).heap.size (wt)).alloc (Nat.le_refl _) (.cells #[.int .i64 tk, .string tx, .int .i64 (tp : Int), .bool tf] 75)
     replace HST := Lib.hid (HST.out.quiet hb)
     clear hb
     unfold tkV
     go_wp2_with fail
     refine (calls_ok (want_at HST.out.ps HU1.out (by decide)) HW.out).mono ?_
     rintro e w4 ⟨v, rfl, rfl, hps, hbe⟩
     replace HST := Lib.hid (HST.out.read hbe hps)
     clear hps hbe
     go_wp2_with fail
     refine (calls_bad (HDP.out _ _ HST.out.ps hrl2) HR2.out).mono ?_
     rintro e w5 ⟨rfl, hbe⟩
     have HE := Lib.hid (HST.out.bes.trans hbe)
     clear hbe
     go_wp2
     exact ⟨rfl, rpost_bad HSP.out HE.out⟩
    | ok n l2 =>
     obtain ⟨nk, nx, ny, nc⟩ := n
     rw [hr2, Rd.bind_ok] at hrest
     have HSP := Lib.hid hrest
     have HR2 := Lib.hid hr2
     clear hrest hr2
     go_enter Tryz.func72, Tryz.ntmps72
     go_wp2_with fail
     refine (HN.out).mono ?_
     rintro e w1 ⟨rfl, hb⟩
     replace HST := Lib.hid (HST.out.quiet hb)
     clear hb
     go_wp2_with fail
     refine (HI.out _).mono ?_
     rintro e w2 ⟨rfl, hb⟩
     replace HST := Lib.hid (HST.out.quiet hb)
     clear hb
     go_wp2_with fail
     refine (HBG2.out _ HST.out.ps).mono ?_
     rintro e wt ⟨v, rfl, rfl, hps, hbe⟩
     replace HST := Lib.hid (HST.out.read hbe hps)
     clear hps hbe
     have HTB := Lib.hid (box4_new wt 75 (.int .i64 tk) (.string tx) (.int .i64 (tp : Int)) (.bool tf))
     have hgP : wt.heap.size ≠ P := by have := HST.out.size; omega
     have hb := (Below.refl (wt).heap.size (wt)).alloc (Nat.le_refl _) (.cells #[.int .i64 tk, .string tx, .int .i64 (tp : Int), .bool tf] 75)
     replace HST := Lib.hid (HST.out.quiet hb)
     clear hb
     unfold tkV
     go_wp2_with fail
     refine (calls_ok (want_at HST.out.ps HU1.out (by decide)) HW.out).mono ?_
     rintro e w4 ⟨v, rfl, rfl, hps, hbe⟩
     replace HST := Lib.hid (HST.out.read hbe hps)
     clear hps hbe
     go_wp2_with fail
     refine (calls_ok (HDP.out _ _ HST.out.ps hrl2) HR2.out).mono ?_
     rintro e wn ⟨v, rfl, hv, hps, hbe⟩
     obtain ⟨An, Cn, rfl, hf, hst⟩ := nv_at HST.out hv hps hbe
     replace HST := Lib.hid hst
     simp only at hf ⊢
     generalize hm : nc.len = mn at hf ⊢
     have Hmn := Lib.hid hm
     have HFn := Lib.hid hf
     clear hv hps hbe hst hf hm
     have HROW := Lib.hid (rowF1 wn (w.heap.size + 1) HST.out.size nk nx ny nc _ HFn.out)
     have hb := (Below.refl (wn).heap.size (wn)).alloc (Nat.le_refl _) (.cells #[.int .i64 nk, .string nx, .string ny, .slice An mn Cn] 24)
     replace HST := Lib.hid (HST.out.quiet hb)
     clear hb
     go_wp2_with fail
     refine (node_any 11 ⟨#[]⟩ _ _ _ _).mono ?_
     rintro e w6 ⟨rfl, hb⟩
     replace HST := Lib.hid (HST.out.quiet hb)
     replace HROW := Lib.hid (fsq HROW.out hb)
     clear hb
     obtain ⟨⟨r0, r1, r2, r3, y0, y1, y2, y3⟩, g0, g1, g2, g3⟩ := HST.out.frz
     unfold e0
     go_wp2
     have hfin := HST.out.ret HSP.out rfl HROW.out
     refine bodyPost_ret (results_cell_row rfl _ _ w.heap.size 24 _ (0, 0) _ rfl hfin.1 Tryz.underlying24 rfl hi_nd) rfl ?_
     exact hfin.2
  | false =>
  rw [if_neg (isT_no b1)] at hrest
  cases b2 : (tx.toList == [109, 97, 112]) with
  | true =>
   rw [if_pos (isT_yes b2)] at hrest
   cases hw : Parse.want z [91] r with
   | bad p er =>
    rw [hw, Rd.bind_bad] at hrest
    have HSP := Lib.hid hrest
    have HW := Lib.hid hw
    clear hrest hw
    go_enter Tryz.func72, Tryz.ntmps72
    go_wp2_with fail
    refine (HN.out).mono ?_
    rintro e w1 ⟨rfl, hb⟩
    replace HST := Lib.hid (HST.out.quiet hb)
    clear hb
    go_wp2_with fail
    refine (HI.out _).mono ?_
    rintro e w2 ⟨rfl, hb⟩
    replace HST := Lib.hid (HST.out.quiet hb)
    clear hb
    go_wp2_with fail
    refine (HBG2.out _ HST.out.ps).mono ?_
    rintro e wt ⟨v, rfl, rfl, hps, hbe⟩
    replace HST := Lib.hid (HST.out.read hbe hps)
    clear hps hbe
    have HTB := Lib.hid (box4_new wt 75 (.int .i64 tk) (.string tx) (.int .i64 (tp : Int)) (.bool tf))
    have hgP : wt.heap.size ≠ P := by have := HST.out.size; omega
    have hb := (Below.refl (wt).heap.size (wt)).alloc (Nat.le_refl _) (.cells #[.int .i64 tk, .string tx, .int .i64 (tp : Int), .bool tf] 75)
    replace HST := Lib.hid (HST.out.quiet hb)
    clear hb
    unfold tkV
    go_wp2_with fail
    refine (calls_bad (want_at HST.out.ps HU2.out (by decide)) HW.out).mono ?_
    rintro e w4 ⟨rfl, hbe⟩
    have HE := Lib.hid (HST.out.bes.trans hbe)
    clear hbe
    go_wp2
    exact ⟨rfl, rpost_bad HSP.out HE.out⟩
   | ok x r2 =>
    rw [hw, Rd.bind_ok] at hrest
    have hrl2 : r2.length < N := by rw [want_ok hw, List.length_tail]; omega
    have HW := Lib.hid hw
    clear hw
    cases hr2 : ty (d + 1) r2 with
    | bad p er =>
     rw [hr2, Rd.bind_bad] at hrest
     have HSP := Lib.hid hrest
     have HR2 := Lib.hid hr2
     clear hrest hr2
     go_enter Tryz.func72, Tryz.ntmps72
     go_wp2_with fail
     refine (HN.out).mono ?_
     rintro e w1 ⟨rfl, hb⟩
     replace HST := Lib.hid (HST.out.quiet hb)
     clear hb
     go_wp2_with fail
     refine (HI.out _).mono ?_
     rintro e w2 ⟨rfl, hb⟩
     replace HST := Lib.hid (HST.out.quiet hb)
     clear hb
     go_wp2_with fail
     refine (HBG2.out _ HST.out.ps).mono ?_
     rintro e wt ⟨v, rfl, rfl, hps, hbe⟩
     replace HST := Lib.hid (HST.out.read hbe hps)
     clear hps hbe
     have HTB := Lib.hid (box4_new wt 75 (.int .i64 tk) (.string tx) (.int .i64 (tp : Int)) (.bool tf))
     have hgP : wt.heap.size ≠ P := by have := HST.out.size; omega
     have hb := (Below.refl (wt).heap.size (wt)).alloc (Nat.le_refl _) (.cells #[.int .i64 tk, .string tx, .int .i64 (tp : Int), .bool tf] 75)
     replace HST := Lib.hid (HST.out.quiet hb)
     clear hb
     unfold tkV
     go_wp2_with fail
     refine (calls_ok (want_at HST.out.ps HU2.out (by decide)) HW.out).mono ?_
     rintro e w4 ⟨v, rfl, rfl, hps, hbe⟩
     replace HST := Lib.hid (HST.out.read hbe hps)
     clear hps hbe
     go_wp2_with fail
     refine (calls_bad (HDP.out _ _ HST.out.ps hrl2) HR2.out).mono ?_
     rintro e w5 ⟨rfl, hbe⟩
     have HE := Lib.hid (HST.out.bes.trans hbe)
     clear hbe
     go_wp2
     exact ⟨rfl, rpost_bad HSP.out HE.out⟩
    | ok n r3 =>
     obtain ⟨kk, kx, ky, kc⟩ := n
     rw [hr2, Rd.bind_ok] at hrest
     have hrl3 : r3.length < N := by have := HDT.out (d + 1) r2 _ r3 hr2; omega
     have HR2 := Lib.hid hr2
     clear hr2
     cases hw3 : Parse.want z [93] r3 with
     | bad p er =>
      rw [hw3, Rd.bind_bad] at hrest
      have HSP := Lib.hid hrest
      have HW3 := Lib.hid hw3
      clear hrest hw3
      go_enter Tryz.func72, Tryz.ntmps72
      go_wp2_with fail
      refine (HN.out).mono ?_
      rintro e w1 ⟨rfl, hb⟩
      replace HST := Lib.hid (HST.out.quiet hb)
      clear hb
      go_wp2_with fail
      refine (HI.out _).mono ?_
      rintro e w2 ⟨rfl, hb⟩
      replace HST := Lib.hid (HST.out.quiet hb)
      clear hb
      go_wp2_with fail
      refine (HBG2.out _ HST.out.ps).mono ?_
      rintro e wt ⟨v, rfl, rfl, hps, hbe⟩
      replace HST := Lib.hid (HST.out.read hbe hps)
      clear hps hbe
      have HTB := Lib.hid (box4_new wt 75 (.int .i64 tk) (.string tx) (.int .i64 (tp : Int)) (.bool tf))
      have hgP : wt.heap.size ≠ P := by have := HST.out.size; omega
      have hb := (Below.refl (wt).heap.size (wt)).alloc (Nat.le_refl _) (.cells #[.int .i64 tk, .string tx, .int .i64 (tp : Int), .bool tf] 75)
      replace HST := Lib.hid (HST.out.quiet hb)
      clear hb
      unfold tkV
      go_wp2_with fail
      refine (calls_ok (want_at HST.out.ps HU2.out (by decide)) HW.out).mono ?_
      rintro e w4 ⟨v, rfl, rfl, hps, hbe⟩
      replace HST := Lib.hid (HST.out.read hbe hps)
      clear hps hbe
      go_wp2_with fail
      refine (calls_ok (HDP.out _ _ HST.out.ps hrl2) HR2.out).mono ?_
      rintro e wk ⟨v, rfl, hv, hps, hbe⟩
      obtain ⟨Ak, Ck, rfl, hf, hst⟩ := nv_at HST.out hv hps hbe
      replace HST := Lib.hid hst
      simp only at hf ⊢
      generalize hm : kc.len = mk at hf ⊢
      have Hmk := Lib.hid hm
      have HFk := Lib.hid hf
      clear hv hps hbe hst hf hm
      have HKB := Lib.hid (box4_new wk 24 (.int .i64 kk) (.string kx) (.string ky) (.slice Ak mk Ck))
      have hkP : wk.heap.size ≠ P := by have := HST.out.size; omega
      have hkR : wk.heap.size ≠ w.heap.size := by have := HST.out.size; omega
      have hNPHKB := hkP
      have hb := (Below.refl (wk).heap.size (wk)).alloc (Nat.le_refl _) (.cells #[.int .i64 kk, .string kx, .string ky, .slice Ak mk Ck] 24)
      replace HST := Lib.hid (HST.out.quiet hb)
      replace HFk := Lib.hid (fsq HFk.out hb)
      clear hb
      go_wp2_with fail
      refine (calls_bad (want_at HST.out.ps HU1.out (by decide)) HW3.out).mono ?_
      rintro e w6 ⟨rfl, hbe⟩
      have HE := Lib.hid (HST.out.bes.trans hbe)
      clear hbe
      go_wp2
      exact ⟨rfl, rpost_bad HSP.out HE.out⟩
     | ok x3 r4 =>
      rw [hw3, Rd.bind_ok] at hrest
      have hrl4 : r4.length < N := by rw [want_ok hw3, List.length_tail]; omega
      have HW3 := Lib.hid hw3
      clear hw3
      cases hr4 : ty (d + 1) r4 with
      | bad p er =>
       rw [hr4, Rd.bind_bad] at hrest
       have HSP := Lib.hid hrest
       have HR4 := Lib.hid hr4
       clear hrest hr4
       go_enter Tryz.func72, Tryz.ntmps72
       go_wp2_with fail
       refine (HN.out).mono ?_
       rintro e w1 ⟨rfl, hb⟩
       replace HST := Lib.hid (HST.out.quiet hb)
       clear hb
       go_wp2_with fail
       refine (HI.out _).mono ?_
       rintro e w2 ⟨rfl, hb⟩
       replace HST := Lib.hid (HST.out.quiet hb)
       clear hb
       go_wp2_with fail
       refine (HBG2.out _ HST.out.ps).mono ?_
       rintro e wt ⟨v, rfl, rfl, hps, hbe⟩
       replace HST := Lib.hid (HST.out.read hbe hps)
       clear hps hbe
       have HTB := Lib.hid (box4_new wt 75 (.int .i64 tk) (.string tx) (.int .i64 (tp : Int)) (.bool tf))
       have hgP : wt.heap.size ≠ P := by have := HST.out.size; omega
       have hb := (Below.refl (wt).heap.size (wt)).alloc (Nat.le_refl _) (.cells #[.int .i64 tk, .string tx, .int .i64 (tp : Int), .bool tf] 75)
       replace HST := Lib.hid (HST.out.quiet hb)
       clear hb
       unfold tkV
       go_wp2_with fail
       refine (calls_ok (want_at HST.out.ps HU2.out (by decide)) HW.out).mono ?_
       rintro e w4 ⟨v, rfl, rfl, hps, hbe⟩
       replace HST := Lib.hid (HST.out.read hbe hps)
       clear hps hbe
       go_wp2_with fail
       refine (calls_ok (HDP.out _ _ HST.out.ps hrl2) HR2.out).mono ?_
       rintro e wk ⟨v, rfl, hv, hps, hbe⟩
       obtain ⟨Ak, Ck, rfl, hf, hst⟩ := nv_at HST.out hv hps hbe
       replace HST := Lib.hid hst
       simp only at hf ⊢
       generalize hm : kc.len = mk at hf ⊢
       have Hmk := Lib.hid hm
       have HFk := Lib.hid hf
       clear hv hps hbe hst hf hm
       have HKB := Lib.hid (box4_new wk 24 (.int .i64 kk) (.string kx) (.string ky) (.slice Ak mk Ck))
       have hkP : wk.heap.size ≠ P := by have := HST.out.size; omega
       have hkR : wk.heap.size ≠ w.heap.size := by have := HST.out.size; omega
       have hNPHKB := hkP
       have hb := (Below.refl (wk).heap.size (wk)).alloc (Nat.le_refl _) (.cells #[.int .i64 kk, .string kx, .string ky, .slice Ak mk Ck] 24)
       replace HST := Lib.hid (HST.out.quiet hb)
       replace HFk := Lib.hid (fsq HFk.out hb)
       clear hb
       go_wp2_with fail
       refine (calls_ok (want_at HST.out.ps HU1.out (by decide)) HW3.out).mono ?_
       rintro e wd ⟨v, rfl, rfl, hps, hbe⟩
       replace HST := Lib.hid (HST.out.read hbe hps)
       replace HFk := Lib.hid (fsr HFk.out hbe hPB)
       replace HKB := Lib.hid (HKB.out.bes hbe hNPHKB)
       clear hps hbe
       have hRP : w.heap.size ≠ P := by omega
       go_wp2
       generalize wk.heap.size = gk at *
       have hP0 : P < (w.heap.size + 1) := (by omega)
       have hR0 : w.heap.size < (w.heap.size + 1) := (by omega)
       refine region_ph [4, 7] (GN 4 7 P z d r4 r4 (FinN (w.heap.size + 1) w.heap.size noneN) (BxA w.heap.size)) (Bes2 P (w.heap.size)) [Cd.is (.agg #[.int .i64 kk, .string kx, .string ky, .slice Ak mk Ck]), Cd.is (.pointer (some ⟨P, 0, none⟩)), Cd.is (.pointer (some ⟨P, 0, none⟩)), Cd.is (.func (.func 72) #[.pointer (some ⟨P, 0, none⟩)] #[]), cNo, cNo, cNo, cNo] (by kernel_rfl) (by decide) (by kernel_rfl) (Bes2.refl _ _ _) (fun _ _ _ h k => h.trans k) (fun _ _ h => Bes2.of h) (GN.keep FinN.later BxA.later) ?start ?steps ?behind
       case start =>
        intro x
        exact ⟨fun h => (by cases h), fun _ => HST.out.bx, fun h => (by cases h), fun _ => HST.out.ps.drewN 1⟩
       case steps =>
        intro xv W hW a ha
        replace hW := hW.undrew
        simp only [fillA] at ha
        simp only [List.setIfInBounds_toArray, List.set_cons_succ, List.set_cons_zero, Nat.zero_add, Nat.reduceAdd] at ha
        subst ha
        refine ⟨?s0, ?s1, ?s2, ?s3, ?s4, ?s5, ?s6, ?s7, trivial⟩
        all_goals intro dn hdi hdw hcl hphi hg K hK
        all_goals (try simp only [Act.put, List.setIfInBounds_toArray, List.set_cons_succ, List.set_cons_zero] at hK)
        case s0 =>
         clear hphi hdw
         refine (if_pos (by rfl)).mpr ?_
         obtain ⟨q0, q1, q2, q3⟩ := (HKB.out.bes2 hW hkP hkR).cells
         go_simp
         exact hK.out _ _ (Below.refl _ _) rfl
        case s1 =>
         clear hphi hdw
         refine (if_pos (by rfl)).mpr ?_
         go_simp
         exact hK.out _ _ (Below.refl _ _) rfl
        case s2 =>
         clear hphi hdw
         refine (if_pos (by rfl)).mpr ?_
         go_simp
         exact hK.out _ _ (Below.refl _ _) rfl
        case s3 =>
         have hx2 : xv 2 = .pointer (some ⟨P, 0, none⟩) := hphi 2 (hdw 2 (by kernel_rfl))
         clear hphi hdw
         rw [hx2] at hK ⊢
         refine (if_pos (by rfl)).mpr ?_
         go_simp
         exact hK.out _ _ (Below.refl _ _) rfl
        case s4 =>
         have hx1 : xv 1 = .pointer (some ⟨P, 0, none⟩) := hphi 1 (hdw 1 (by kernel_rfl))
         have hx3 : xv 3 = .func (.func 72) #[.pointer (some ⟨P, 0, none⟩)] #[] := hphi 3 (hdw 3 (by kernel_rfl))
         clear hphi hdw
         rw [hx1] at hK ⊢
         rw [hx3] at hK ⊢
         refine (if_pos (by rfl)).mpr ?_
         go_simp
         refine (calls_bad (HDP.out W _ (hg.2.2.2 hdi) hrl4) HR4.out).mono ?_
         rintro e W' ⟨rfl, hbe⟩
         exact ⟨rfl, rpost_bad HSP.out (Bes2.back HST.out.bes (hW.trans (Bes2.bes hbe)) (Nat.le_refl _))⟩
        case s5 =>
         have hx0 : xv 0 = .agg #[.int .i64 kk, .string kx, .string ky, .slice Ak mk Ck] := hphi 0 (hdw 0 (by kernel_rfl))
         have hno : False := hphi 4 (hdw 4 (by kernel_rfl))
         exact hno.elim
        case s6 =>
         have hno : False := hphi 5 (hdw 5 (by kernel_rfl))
         exact hno.elim
        case s7 =>
         have hno : False := hphi 6 (hdw 6 (by kernel_rfl))
         exact hno.elim
       case behind =>
        intro dn xv W hW hall hx hg a ha
        replace hW := hW.undrew
        simp only [fillA] at ha
        simp only [List.setIfInBounds_toArray, List.set_cons_succ, List.set_cons_zero, Nat.zero_add, Nat.reduceAdd] at ha
        subst ha
        exact (hx 4 (by decide) : False).elim
      | ok n l2 =>
       obtain ⟨nk, nx, ny, nc⟩ := n
       rw [hr4, Rd.bind_ok] at hrest
       have HSP := Lib.hid hrest
       have HR4 := Lib.hid hr4
       clear hrest hr4
       go_enter Tryz.func72, Tryz.ntmps72
       go_wp2_with fail
       refine (HN.out).mono ?_
       rintro e w1 ⟨rfl, hb⟩
       replace HST := Lib.hid (HST.out.quiet hb)
       clear hb
       go_wp2_with fail
       refine (HI.out _).mono ?_
       rintro e w2 ⟨rfl, hb⟩
       replace HST := Lib.hid (HST.out.quiet hb)
       clear hb
       go_wp2_with fail
       refine (HBG2.out _ HST.out.ps).mono ?_
       rintro e wt ⟨v, rfl, rfl, hps, hbe⟩
       replace HST := Lib.hid (HST.out.read hbe hps)
       clear hps hbe
       have HTB := Lib.hid (box4_new wt 75 (.int .i64 tk) (.string tx) (.int .i64 (tp : Int)) (.bool tf))
       have hgP : wt.heap.size ≠ P := by have := HST.out.size; omega
       have hb := (Below.refl (wt).heap.size (wt)).alloc (Nat.le_refl _) (.cells #[.int .i64 tk, .string tx, .int .i64 (tp : Int), .bool tf] 75)
       replace HST := Lib.hid (HST.out.quiet hb)
       clear hb
       unfold tkV
       go_wp2_with fail
       refine (calls_ok (want_at HST.out.ps HU2.out (by decide)) HW.out).mono ?_
       rintro e w4 ⟨v, rfl, rfl, hps, hbe⟩
       replace HST := Lib.hid (HST.out.read hbe hps)
       clear hps hbe
       go_wp2_with fail
       refine (calls_ok (HDP.out _ _ HST.out.ps hrl2) HR2.out).mono ?_
       rintro e wk ⟨v, rfl, hv, hps, hbe⟩
       obtain ⟨Ak, Ck, rfl, hf, hst⟩ := nv_at HST.out hv hps hbe
       replace HST := Lib.hid hst
       simp only at hf ⊢
       generalize hm : kc.len = mk at hf ⊢
       have Hmk := Lib.hid hm
       have HFk := Lib.hid hf
       clear hv hps hbe hst hf hm
       have HKB := Lib.hid (box4_new wk 24 (.int .i64 kk) (.string kx) (.string ky) (.slice Ak mk Ck))
       have hkP : wk.heap.size ≠ P := by have := HST.out.size; omega
       have hkR : wk.heap.size ≠ w.heap.size := by have := HST.out.size; omega
       have hNPHKB := hkP
       have hb := (Below.refl (wk).heap.size (wk)).alloc (Nat.le_refl _) (.cells #[.int .i64 kk, .string kx, .string ky, .slice Ak mk Ck] 24)
       replace HST := Lib.hid (HST.out.quiet hb)
       replace HFk := Lib.hid (fsq HFk.out hb)
       clear hb
       go_wp2_with fail
       refine (calls_ok (want_at HST.out.ps HU1.out (by decide)) HW3.out).mono ?_
       rintro e wd ⟨v, rfl, rfl, hps, hbe⟩
       replace HST := Lib.hid (HST.out.read hbe hps)
       replace HFk := Lib.hid (fsr HFk.out hbe hPB)
       replace HKB := Lib.hid (HKB.out.bes hbe hNPHKB)
       clear hps hbe
       have hRP : w.heap.size ≠ P := by omega
       go_wp2
       generalize wk.heap.size = gk at *
       have hP0 : P < (w.heap.size + 1) := (by omega)
       have hR0 : w.heap.size < (w.heap.size + 1) := (by omega)
       refine region_ph [4, 7] (GN 4 7 P z d r4 l2 (FinN (w.heap.size + 1) w.heap.size (Parse.node 12 e0 (oneF ⟨kk, kx, ky, kc⟩ (one ⟨nk, nx, ny, nc⟩)))) (BxA w.heap.size)) (Bes2 P (w.heap.size)) [Cd.is (.agg #[.int .i64 kk, .string kx, .string ky, .slice Ak mk Ck]), Cd.is (.pointer (some ⟨P, 0, none⟩)), Cd.is (.pointer (some ⟨P, 0, none⟩)), Cd.is (.func (.func 72) #[.pointer (some ⟨P, 0, none⟩)] #[]), cNd (w.heap.size + 1) hP0 hR0 ⟨nk, nx, ny, nc⟩, cRow (w.heap.size + 1) hP0 hR0 (oneF ⟨kk, kx, ky, kc⟩ (one ⟨nk, nx, ny, nc⟩)), cNd (w.heap.size + 1) hP0 hR0 (Parse.node 12 e0 (oneF ⟨kk, kx, ky, kc⟩ (one ⟨nk, nx, ny, nc⟩))), Cd.any] (by kernel_rfl) (by decide) (by kernel_rfl) (Bes2.refl _ _ _) (fun _ _ _ h k => h.trans k) (fun _ _ h => Bes2.of h) (GN.keep FinN.later BxA.later) ?start ?steps ?behind
       case start =>
        intro x
        exact ⟨fun h => (by cases h), fun _ => HST.out.bx, fun h => (by cases h), fun _ => HST.out.ps.drewN 1⟩
       case steps =>
        intro xv W hW a ha
        replace hW := hW.undrew
        simp only [fillA] at ha
        simp only [List.setIfInBounds_toArray, List.set_cons_succ, List.set_cons_zero, Nat.zero_add, Nat.reduceAdd] at ha
        subst ha
        refine ⟨?s0, ?s1, ?s2, ?s3, ?s4, ?s5, ?s6, ?s7, trivial⟩
        all_goals intro dn hdi hdw hcl hphi hg K hK
        all_goals (try simp only [Act.put, List.setIfInBounds_toArray, List.set_cons_succ, List.set_cons_zero] at hK)
        case s0 =>
         clear hphi hdw
         refine (if_pos (by rfl)).mpr ?_
         obtain ⟨q0, q1, q2, q3⟩ := (HKB.out.bes2 hW hkP hkR).cells
         go_simp
         exact hK.out _ _ (Below.refl _ _) rfl
        case s1 =>
         clear hphi hdw
         refine (if_pos (by rfl)).mpr ?_
         go_simp
         exact hK.out _ _ (Below.refl _ _) rfl
        case s2 =>
         clear hphi hdw
         refine (if_pos (by rfl)).mpr ?_
         go_simp
         exact hK.out _ _ (Below.refl _ _) rfl
        case s3 =>
         have hx2 : xv 2 = .pointer (some ⟨P, 0, none⟩) := hphi 2 (hdw 2 (by kernel_rfl))
         clear hphi hdw
         rw [hx2] at hK ⊢
         refine (if_pos (by rfl)).mpr ?_
         go_simp
         exact hK.out _ _ (Below.refl _ _) rfl
        case s4 =>
         have hx1 : xv 1 = .pointer (some ⟨P, 0, none⟩) := hphi 1 (hdw 1 (by kernel_rfl))
         have hx3 : xv 3 = .func (.func 72) #[.pointer (some ⟨P, 0, none⟩)] #[] := hphi 3 (hdw 3 (by kernel_rfl))
         clear hphi hdw
         rw [hx1] at hK ⊢
         rw [hx3] at hK ⊢
         refine (if_pos (by rfl)).mpr ?_
         go_simp
         refine (calls_ok (HDP.out W _ (hg.2.2.2 hdi) hrl4) HR4.out).mono ?_
         rintro e W' ⟨v, rfl, ⟨A, C, rfl, hf⟩, hps, hbe⟩
         have hWs : (w.heap.size + 1) ≤ W.heap.size := Nat.le_trans HST.out.size hW.size
         exact hK.out _ _ ⟨Bes2.bes hbe, GN.call (by decide) hg (notYet hcl hdi (by kernel_rfl)) (fun h => h.bes hbe hRP) hps⟩ ⟨A, C, rfl, mi_more hf hWs (Nat.le_refl _)⟩
        case s5 =>
         have hx0 : xv 0 = .agg #[.int .i64 kk, .string kx, .string ky, .slice Ak mk Ck] := hphi 0 (hdw 0 (by kernel_rfl))
         obtain ⟨A4, C4, hx4, hf4⟩ : NdAt (w.heap.size + 1) ⟨nk, nx, ny, nc⟩ (xv 4) W := hphi 4 (hdw 4 (by kernel_rfl))
         clear hphi hdw
         rw [hx0] at hK ⊢
         rw [hx4] at hK ⊢
         refine (if_pos (by rfl)).mpr ?_
         go_simp
         exact hK.out _ _ ((Below.refl _ _).alloc (Nat.le_refl _) _) (row2 W _ (Nat.le_trans HST.out.size hW.size) kk kx ky kc _ (mi_bes2' HFk.out hW hP0 hR0) nk nx ny nc _ hf4)
        case s6 =>
         obtain ⟨A5, C5, hx5, hf5⟩ : RowAt (w.heap.size + 1) (oneF ⟨kk, kx, ky, kc⟩ (one ⟨nk, nx, ny, nc⟩)) (xv 5) W := hphi 5 (hdw 5 (by kernel_rfl))
         clear hphi hdw
         rw [hx5] at hK ⊢
         refine (if_pos (by rfl)).mpr ?_
         go_simp
         refine (node_any _ _ _ _ _ W).mono ?_
         rintro e W' ⟨rfl, hb⟩
         exact hK.out _ _ hb ⟨A5, C5, rfl, mi_more (mi_later hf5 hb (Nat.le_refl _)) (Nat.le_refl _) hb.size⟩
        case s7 =>
         obtain ⟨A6, C6, hx6, hf6⟩ : NdAt (w.heap.size + 1) (Parse.node 12 e0 (oneF ⟨kk, kx, ky, kc⟩ (one ⟨nk, nx, ny, nc⟩))) (xv 6) W := hphi 6 (hdw 6 (by kernel_rfl))
         rw [hx6] at hK ⊢
         refine (if_pos (by rfl)).mpr ?_
         have hds : dn 4 = true := hdw 4 (by kernel_rfl)
         have hbx := hg.2.1 hdi
         obtain ⟨b0, b1, b2, b3, hbx4⟩ := id hbx
         obtain ⟨g0, g1, g2, g3⟩ := hbx4.frz
         obtain ⟨y0, y1, y2, y3⟩ := hbx4.cells
         simp only [Parse.node] at hf6 hK ⊢
         go_simp
         exact hK.out undef _ ⟨Bes2.set4 _ _ _ _ _, GN.store (by decide) (hds) (finN_set hbx rfl hf6 hR0) (ps_set4 (hg.2.2.1 hds) (by omega) _ _ _ _)⟩ trivial
       case behind =>
        intro dn xv W hW hall hx hg a ha
        replace hW := hW.undrew
        simp only [fillA] at ha
        simp only [List.setIfInBounds_toArray, List.set_cons_succ, List.set_cons_zero, Nat.zero_add, Nat.reduceAdd] at ha
        subst ha
        have hF := hg.1 (hall 7 (by decide))
        have hps := hg.2.2.1 (hall 4 (by decide))
        have hbw := Bes2.back HST.out.bes hW (Nat.le_refl _)
        obtain ⟨A, C, hbx, hpost⟩ := finRet (w := w) HSP.out hF (by omega) hps hbw
        have HPO := Lib.hid hpost
        have HBX2 := Lib.hid hbx
        clear hx hF hps hbw hpost hg hall hW hbx
        go_wp2
        refine bodyPost_ret (results_cell_row rfl _ _ w.heap.size 24 _ (0, 0) _ rfl HBX2.out Tryz.underlying24 rfl hi_nd) rfl ?_
        exact HPO.out
  | false =>
  rw [if_neg (isT_no b2)] at hrest
  cases b3 : (tx.toList == [115, 116, 114, 117, 99, 116]) with
  | true =>
   rw [if_pos (isT_yes b3)] at hrest
   cases hr2 : braces z (typed z 14 ty) d r with
   | bad p er =>
    rw [hr2, Rd.bind_bad] at hrest
    have HSP := Lib.hid hrest
    have HR2 := Lib.hid hr2
    clear hrest hr2
    go_enter Tryz.func72, Tryz.ntmps72
    go_wp2_with fail
    refine (HN.out).mono ?_
    rintro e w1 ⟨rfl, hb⟩
    replace HST := Lib.hid (HST.out.quiet hb)
    clear hb
    go_wp2_with fail
    refine (HI.out _).mono ?_
    rintro e w2 ⟨rfl, hb⟩
    replace HST := Lib.hid (HST.out.quiet hb)
    clear hb
    go_wp2_with fail
    refine (HBG2.out _ HST.out.ps).mono ?_
    rintro e wt ⟨v, rfl, rfl, hps, hbe⟩
    replace HST := Lib.hid (HST.out.read hbe hps)
    clear hps hbe
    have HTB := Lib.hid (box4_new wt 75 (.int .i64 tk) (.string tx) (.int .i64 (tp : Int)) (.bool tf))
    have hgP : wt.heap.size ≠ P := by have := HST.out.size; omega
    have hb := (Below.refl (wt).heap.size (wt)).alloc (Nat.le_refl _) (.cells #[.int .i64 tk, .string tx, .int .i64 (tp : Int), .bool tf] 75)
    replace HST := Lib.hid (HST.out.quiet hb)
    clear hb
    unfold tkV
    go_wp2_with fail
    refine (calls_bad (HBR.out _ HST.out.ps) HR2.out).mono ?_
    rintro e w4 ⟨rfl, hbe⟩
    have HE := Lib.hid (HST.out.bes.trans hbe)
    clear hbe
    go_wp2
    exact ⟨rfl, rpost_bad HSP.out HE.out⟩
   | ok c l2 =>
    rw [hr2, Rd.bind_ok] at hrest
    have HSP := Lib.hid hrest
    have HR2 := Lib.hid hr2
    clear hrest hr2
    go_enter Tryz.func72, Tryz.ntmps72
    go_wp2_with fail
    refine (HN.out).mono ?_
    rintro e w1 ⟨rfl, hb⟩
    replace HST := Lib.hid (HST.out.quiet hb)
    clear hb
    go_wp2_with fail
    refine (HI.out _).mono ?_
    rintro e w2 ⟨rfl, hb⟩
    replace HST := Lib.hid (HST.out.quiet hb)
    clear hb
    go_wp2_with fail
    refine (HBG2.out _ HST.out.ps).mono ?_
    rintro e wt ⟨v, rfl, rfl, hps, hbe⟩
    replace HST := Lib.hid (HST.out.read hbe hps)
    clear hps hbe
    have HTB := Lib.hid (box4_new wt 75 (.int .i64 tk) (.string tx) (.int .i64 (tp : Int)) (.bool tf))
    have hgP : wt.heap.size ≠ P := by have := HST.out.size; omega
    have hb := (Below.refl (wt).heap.size (wt)).alloc (Nat.le_refl _) (.cells #[.int .i64 tk, .string tx, .int .i64 (tp : Int), .bool tf] 75)
    replace HST := Lib.hid (HST.out.quiet hb)
    clear hb
    unfold tkV
    go_wp2_with fail
    refine (calls_ok (HBR.out _ HST.out.ps) HR2.out).mono ?_
    rintro e wn ⟨v, rfl, hv, hps, hbe⟩
    obtain ⟨Ac, Cc, rfl, hf, hst⟩ := fv_at HST.out hv hps hbe
    replace HST := Lib.hid hst
    generalize hm : F.len c = mc at hf ⊢
    have Hmc := Lib.hid hm
    have HFc := Lib.hid hf
    clear hv hps hbe hst hf hm
    go_wp2_with fail
    refine (node_any 13 ⟨#[]⟩ _ _ _ _).mono ?_
    rintro e w5 ⟨rfl, hb⟩
    replace HST := Lib.hid (HST.out.quiet hb)
    replace HFc := Lib.hid (fsq HFc.out hb)
    clear hb
    obtain ⟨⟨r0, r1, r2, r3, y0, y1, y2, y3⟩, g0, g1, g2, g3⟩ := HST.out.frz
    unfold e0
    go_wp2
    have hfin := HST.out.ret HSP.out Hmc.out.symm HFc.out
    refine bodyPost_ret (results_cell_row rfl _ _ w.heap.size 24 _ (0, 0) _ rfl hfin.1 Tryz.underlying24 rfl hi_nd) rfl ?_
    exact hfin.2
  | false =>
   rw [if_neg (isT_no b3)] at hrest
   have HSP := Lib.hid hrest
   clear hrest
   go_enter Tryz.func72, Tryz.ntmps72
   go_wp2_with fail
   refine (HN.out).mono ?_
   rintro e w1 ⟨rfl, hb⟩
   replace HST := Lib.hid (HST.out.quiet hb)
   clear hb
   go_wp2_with fail
   refine (HI.out _).mono ?_
   rintro e w2 ⟨rfl, hb⟩
   replace HST := Lib.hid (HST.out.quiet hb)
   clear hb
   go_wp2_with fail
   refine (HBG2.out _ HST.out.ps).mono ?_
   rintro e wt ⟨v, rfl, rfl, hps, hbe⟩
   replace HST := Lib.hid (HST.out.read hbe hps)
   clear hps hbe
   have HTB := Lib.hid (box4_new wt 75 (.int .i64 tk) (.string tx) (.int .i64 (tp : Int)) (.bool tf))
   have hgP : wt.heap.size ≠ P := by have := HST.out.size; omega
   have hb := (Below.refl (wt).heap.size (wt)).alloc (Nat.le_refl _) (.cells #[.int .i64 tk, .string tx, .int .i64 (tp : Int), .bool tf] 75)
   replace HST := Lib.hid (HST.out.quiet hb)
   clear hb
   unfold tkV
   obtain ⟨t0, t1, t2, t3⟩ := HTB.out.cells
   go_wp2_with fail
   refine (node_any 9 tx none 0 0 _).mono ?_
   rintro e w4 ⟨rfl, hb⟩
   replace HST := Lib.hid (HST.out.quiet hb)
   clear hb
   obtain ⟨⟨r0, r1, r2, r3, y0, y1, y2, y3⟩, g0, g1, g2, g3⟩ := HST.out.frz
   unfold e0
   go_wp2
   have hfin := HST.out.ret HSP.out rfl nil_fs
   refine bodyPost_ret (results_cell_row rfl _ _ w.heap.size 24 _ (0, 0) _ rfl hfin.1 Tryz.underlying24 rfl hi_nd) rfl ?_
   exact hfin.2
end Go.Proofs.YtaiihnniblibaaaGreatDoor.Parse
