/-
 Layer 6 (parse): variables.
-/
import Derived.Test.YtaiihnniblibaaaGreatDoorParseY
namespace Go.Proofs.YtaiihnniblibaaaGreatDoor.Parse
open Go.ChangeShapes Go.WideShapes Go.ChangeAt Go.RowKit Tree MemT Mem
set_option linter.unusedVariables false

set_option maxHeartbeats 16000000 in
set_option maxRecDepth 100000 in
theorem var_any (P z : Nat) (l : List Tk) (d : Nat) (w : World) (h : PS w P z l d) (hd : d ≤ 300) :
  Calls Tryz.prog 73 #[.pointer (some ⟨P, 0, none⟩)] w (RPost NV w P z d (varR z d l)) := by
 have hlt := h.lt
 have HST := Lib.hid (StX.start h)
 have HU : Hid ((⟨#[118, 97, 114]⟩ : ByteArray).toList = [118, 97, 114]) := by show _ = _; rw [ByteArray.toList_eq]
 have HU2 : Hid ((⟨#[61]⟩ : ByteArray).toList = [61]) := by show _ = _; rw [ByteArray.toList_eq]
 have hsp : varR z d l = varR z d l := rfl
 conv at hsp => rhs; unfold varR
 have hP0 : P < w.heap.size + 1 := by omega
 obtain ⟨bb, hbb⟩ : ∃ bb, isT (Parse.hd z l) [118, 97, 114] = bb := ⟨_, rfl⟩
 rw [hbb] at hsp
 have HBB := Lib.hid hbb
 have HBG : Hid (∀ W, PS W P z l d → Calls Tryz.prog 66 #[.pointer (some ⟨P, 0, none⟩), .bool bb] W (RPost TV W P z d (beg z bb d l))) :=
  fun W hW => begin_any _ P z l d (fun e => isT_ne (by decide) (hbb.trans e)) (by omega) W hW
 have hfb : bb = true → l ≠ [] := fun e => isT_ne (by decide) (hbb.trans e)
 have HX : Hid (∀ W l', PS W P z l' d → Calls Tryz.prog 71 #[.pointer (some ⟨P, 0, none⟩)] W (RPost NV W P z d (exR z d l'))) := fun W l' hW => ex_rd P z (l'.length + 1) W d l' (Nat.lt_succ_self _) hd hW
 have HT : Hid (∀ W l', PS W P z l' d → Calls Tryz.prog 72 #[.pointer (some ⟨P, 0, none⟩)] W (RPost NV W P z d (tyR z d l'))) := fun W l' hW => ty_rd P z (l'.length + 1) W d l' (Nat.lt_succ_self _) hd hW
 clear h hbb
 cases hr : beg z bb d l with
 | bad p er =>
  rw [hr, Rd.bind_bad] at hsp
  rw [hr] at HBG
  have HSP := Lib.hid hsp
  clear hsp hr hfb
  go_enter Tryz.func73, Tryz.ntmps73
  go_wp2_with fail
  refine (is_at HST.out.ps HU.out HBB.out).mono ?_
  rintro e w1 ⟨rfl, hb⟩
  replace HST := Lib.hid (HST.out.quiet hb)
  clear hb
  go_wp2_with fail
  refine (calls_bad (HBG.out _ HST.out.ps) rfl).mono ?_
  rintro e w2 ⟨rfl, hbe⟩
  have HE := Lib.hid (HST.out.bes.trans hbe)
  clear hbe
  go_wp2
  exact ⟨rfl, rpost_bad HSP.out HE.out⟩
 | ok t l1 =>
  rw [hr, Rd.bind_ok] at hsp
  rw [hr] at HBG
  clear hr hfb
  have HBG2 : Hid (∀ W, PS W P z l d → Calls Tryz.prog 66 #[.pointer (some ⟨P, 0, none⟩), .bool bb] W fun e w' => ∃ v, e = .returned v ∧ TV W w' v t ∧ PS w' P z l1 d ∧ Bes P W w') := fun W hW => calls_ok (HBG.out W hW) rfl
  clear HBG
  cases hn : name z l1 with
  | bad p er =>
   rw [hn, Rd.bind_bad] at hsp
   have HSP := Lib.hid hsp
   have HN := Lib.hid hn
   clear hsp hn
   go_enter Tryz.func73, Tryz.ntmps73
   go_wp2_with fail
   refine (is_at HST.out.ps HU.out HBB.out).mono ?_
   rintro e w1 ⟨rfl, hb⟩
   replace HST := Lib.hid (HST.out.quiet hb)
   clear hb
   go_wp2_with fail
   refine (HBG2.out _ HST.out.ps).mono ?_
   rintro e w2 ⟨v, rfl, rfl, hps, hbe⟩
   replace HST := Lib.hid (HST.out.read hbe hps)
   clear hps hbe
   unfold tkV
   go_wp2_with fail
   refine (calls_bad (name_any P z l1 d _ HST.out.ps) HN.out).mono ?_
   rintro e w3 ⟨rfl, hbe⟩
   have HE := Lib.hid (HST.out.bes.trans hbe)
   clear hbe
   go_wp2
   exact ⟨rfl, rpost_bad HSP.out HE.out⟩
  | ok s l2 =>
   rw [hn, Rd.bind_ok] at hsp
   have HN := Lib.hid hn
   clear hn
   cases he : isT (Parse.hd z l2) [61] with
   | true =>
    rw [he, if_pos rfl, Rd.bind_ok, he, if_pos rfl] at hsp
    have HE2 := Lib.hid he
    obtain ⟨t', r, rfl⟩ := isT_cons he (by decide)
    rw [List.tail_cons] at hsp
    clear he
    cases hx : exR z d r with
    | bad p er =>
     rw [hx, Rd.bind_bad] at hsp
     have HSP := Lib.hid hsp
     have HX2 := Lib.hid hx
     clear hsp hx
     go_enter Tryz.func73, Tryz.ntmps73
     go_wp2_with fail
     refine (is_at HST.out.ps HU.out HBB.out).mono ?_
     rintro e w1 ⟨rfl, hb⟩
     replace HST := Lib.hid (HST.out.quiet hb)
     clear hb
     go_wp2_with fail
     refine (HBG2.out _ HST.out.ps).mono ?_
     rintro e w2 ⟨v, rfl, rfl, hps, hbe⟩
     replace HST := Lib.hid (HST.out.read hbe hps)
     clear hps hbe
     unfold tkV
     go_wp2_with fail
     refine (calls_ok (name_any P z l1 d _ HST.out.ps) HN.out).mono ?_
     rintro e wn ⟨v, rfl, rfl, hps, hbe⟩
     replace HST := Lib.hid (HST.out.read hbe hps)
     clear hps hbe
     go_wp2_with fail
     refine (none_any _).mono ?_
     rintro e wo ⟨rfl, hb⟩
     replace HST := Lib.hid (HST.out.quiet hb)
     clear hb
     go_wp2_with fail
     refine (none_any _).mono ?_
     rintro e wp ⟨rfl, hb⟩
     replace HST := Lib.hid (HST.out.quiet hb)
     clear hb
     unfold e0
     have hps0 := HST.out.size
     have hba := (Below.refl wp.heap.size wp).alloc (Nat.le_refl _) (.cells #[.int .i64 33, .string ⟨#[]⟩, .string ⟨#[]⟩, .slice none 0 0] 24)
     have hsa : (wp.alloc (.cells #[.int .i64 33, .string ⟨#[]⟩, .string ⟨#[]⟩, .slice none 0 0] 24)).heap.size = wp.heap.size + 1 := by simp
     have HX4 : Hid (Box4 ((wp.alloc (.cells #[.int .i64 33, .string ⟨#[]⟩, .string ⟨#[]⟩, .slice none 0 0] 24)).alloc (.cells #[.int .i64 33, .string ⟨#[]⟩, .string ⟨#[]⟩, .slice none 0 0] 24)) wp.heap.size 24 (.int .i64 33) (.string ⟨#[]⟩) (.string ⟨#[]⟩) (.slice none 0 0)) := (box4_new wp _ _ _ _ _).later ((Below.refl _ _).alloc (Nat.le_refl _) _)
     have HX5 : Hid (Box4 ((wp.alloc (.cells #[.int .i64 33, .string ⟨#[]⟩, .string ⟨#[]⟩, .slice none 0 0] 24)).alloc (.cells #[.int .i64 33, .string ⟨#[]⟩, .string ⟨#[]⟩, .slice none 0 0] 24)) (wp.heap.size + 1) 24 (.int .i64 33) (.string ⟨#[]⟩) (.string ⟨#[]⟩) (.slice none 0 0)) := by
      have := box4_new (wp.alloc (.cells #[.int .i64 33, .string ⟨#[]⟩, .string ⟨#[]⟩, .slice none 0 0] 24)) 24 (.int .i64 33) (.string ⟨#[]⟩) (.string ⟨#[]⟩) (.slice none 0 0)
      rwa [hsa] at this
     replace HST := Lib.hid ((HST.out.quiet hba).quiet ((Below.refl _ _).alloc (Nat.le_refl _) (.cells #[.int .i64 33, .string ⟨#[]⟩, .string ⟨#[]⟩, .slice none 0 0] 24)))
     have hg4 : wp.heap.size < ((wp.alloc (.cells #[.int .i64 33, .string ⟨#[]⟩, .string ⟨#[]⟩, .slice none 0 0] 24)).alloc (.cells #[.int .i64 33, .string ⟨#[]⟩, .string ⟨#[]⟩, .slice none 0 0] 24)).heap.size := HX4.out.lt
     have hg5 : wp.heap.size + 1 < ((wp.alloc (.cells #[.int .i64 33, .string ⟨#[]⟩, .string ⟨#[]⟩, .slice none 0 0] 24)).alloc (.cells #[.int .i64 33, .string ⟨#[]⟩, .string ⟨#[]⟩, .slice none 0 0] 24)).heap.size := HX5.out.lt
     have hNPHX4 : wp.heap.size ≠ P := by omega
     have hNPHX5 : wp.heap.size + 1 ≠ P := by omega
     clear hba hsa
     go_wp2_with fail
     refine (is_at HST.out.ps HU2.out HE2.out).mono ?_
     rintro e w6 ⟨rfl, hb⟩
     replace HST := Lib.hid (HST.out.quiet hb)
     replace HX4 := Lib.hid (HX4.out.later hb)
     replace HX5 := Lib.hid (HX5.out.later hb)
     clear hb
     go_wp2_with fail
     refine (is_at HST.out.ps HU2.out HE2.out).mono ?_
     rintro e w7 ⟨rfl, hb⟩
     replace HST := Lib.hid (HST.out.quiet hb)
     replace HX4 := Lib.hid (HX4.out.later hb)
     replace HX5 := Lib.hid (HX5.out.later hb)
     clear hb
     go_wp2_with fail
     refine (take_any P z _ _ d _ HST.out.ps).mono ?_
     rintro e w8 ⟨v, rfl, rfl, hps, hbe⟩
     replace HST := Lib.hid (HST.out.read hbe hps)
     replace HX4 := Lib.hid (HX4.out.bes hbe hNPHX4)
     replace HX5 := Lib.hid (HX5.out.bes hbe hNPHX5)
     clear hps hbe
     unfold tkV
     go_wp2_with fail
     refine (calls_bad (HX.out _ _ HST.out.ps) HX2.out).mono ?_
     rintro e w9 ⟨rfl, hbe⟩
     have HE := Lib.hid (HST.out.bes.trans hbe)
     clear hbe
     go_wp2
     exact ⟨rfl, rpost_bad HSP.out HE.out⟩
    | ok n l3 =>
     obtain ⟨nk, nx, ny, nc⟩ := n
     rw [hx, Rd.bind_ok] at hsp
     have HSP := Lib.hid hsp
     have HX2 := Lib.hid hx
     clear hsp hx
     go_enter Tryz.func73, Tryz.ntmps73
     go_wp2_with fail
     refine (is_at HST.out.ps HU.out HBB.out).mono ?_
     rintro e w1 ⟨rfl, hb⟩
     replace HST := Lib.hid (HST.out.quiet hb)
     clear hb
     go_wp2_with fail
     refine (HBG2.out _ HST.out.ps).mono ?_
     rintro e w2 ⟨v, rfl, rfl, hps, hbe⟩
     replace HST := Lib.hid (HST.out.read hbe hps)
     clear hps hbe
     unfold tkV
     go_wp2_with fail
     refine (calls_ok (name_any P z l1 d _ HST.out.ps) HN.out).mono ?_
     rintro e wn ⟨v, rfl, rfl, hps, hbe⟩
     replace HST := Lib.hid (HST.out.read hbe hps)
     clear hps hbe
     go_wp2_with fail
     refine (none_any _).mono ?_
     rintro e wo ⟨rfl, hb⟩
     replace HST := Lib.hid (HST.out.quiet hb)
     clear hb
     go_wp2_with fail
     refine (none_any _).mono ?_
     rintro e wp ⟨rfl, hb⟩
     replace HST := Lib.hid (HST.out.quiet hb)
     clear hb
     unfold e0
     have hps0 := HST.out.size
     have hba := (Below.refl wp.heap.size wp).alloc (Nat.le_refl _) (.cells #[.int .i64 33, .string ⟨#[]⟩, .string ⟨#[]⟩, .slice none 0 0] 24)
     have hsa : (wp.alloc (.cells #[.int .i64 33, .string ⟨#[]⟩, .string ⟨#[]⟩, .slice none 0 0] 24)).heap.size = wp.heap.size + 1 := by simp
     have HX4 : Hid (Box4 ((wp.alloc (.cells #[.int .i64 33, .string ⟨#[]⟩, .string ⟨#[]⟩, .slice none 0 0] 24)).alloc (.cells #[.int .i64 33, .string ⟨#[]⟩, .string ⟨#[]⟩, .slice none 0 0] 24)) wp.heap.size 24 (.int .i64 33) (.string ⟨#[]⟩) (.string ⟨#[]⟩) (.slice none 0 0)) := (box4_new wp _ _ _ _ _).later ((Below.refl _ _).alloc (Nat.le_refl _) _)
     have HX5 : Hid (Box4 ((wp.alloc (.cells #[.int .i64 33, .string ⟨#[]⟩, .string ⟨#[]⟩, .slice none 0 0] 24)).alloc (.cells #[.int .i64 33, .string ⟨#[]⟩, .string ⟨#[]⟩, .slice none 0 0] 24)) (wp.heap.size + 1) 24 (.int .i64 33) (.string ⟨#[]⟩) (.string ⟨#[]⟩) (.slice none 0 0)) := by
      have := box4_new (wp.alloc (.cells #[.int .i64 33, .string ⟨#[]⟩, .string ⟨#[]⟩, .slice none 0 0] 24)) 24 (.int .i64 33) (.string ⟨#[]⟩) (.string ⟨#[]⟩) (.slice none 0 0)
      rwa [hsa] at this
     replace HST := Lib.hid ((HST.out.quiet hba).quiet ((Below.refl _ _).alloc (Nat.le_refl _) (.cells #[.int .i64 33, .string ⟨#[]⟩, .string ⟨#[]⟩, .slice none 0 0] 24)))
     have hg4 : wp.heap.size < ((wp.alloc (.cells #[.int .i64 33, .string ⟨#[]⟩, .string ⟨#[]⟩, .slice none 0 0] 24)).alloc (.cells #[.int .i64 33, .string ⟨#[]⟩, .string ⟨#[]⟩, .slice none 0 0] 24)).heap.size := HX4.out.lt
     have hg5 : wp.heap.size + 1 < ((wp.alloc (.cells #[.int .i64 33, .string ⟨#[]⟩, .string ⟨#[]⟩, .slice none 0 0] 24)).alloc (.cells #[.int .i64 33, .string ⟨#[]⟩, .string ⟨#[]⟩, .slice none 0 0] 24)).heap.size := HX5.out.lt
     have hNPHX4 : wp.heap.size ≠ P := by omega
     have hNPHX5 : wp.heap.size + 1 ≠ P := by omega
     clear hba hsa
     go_wp2_with fail
     refine (is_at HST.out.ps HU2.out HE2.out).mono ?_
     rintro e w6 ⟨rfl, hb⟩
     replace HST := Lib.hid (HST.out.quiet hb)
     replace HX4 := Lib.hid (HX4.out.later hb)
     replace HX5 := Lib.hid (HX5.out.later hb)
     clear hb
     go_wp2_with fail
     refine (is_at HST.out.ps HU2.out HE2.out).mono ?_
     rintro e w7 ⟨rfl, hb⟩
     replace HST := Lib.hid (HST.out.quiet hb)
     replace HX4 := Lib.hid (HX4.out.later hb)
     replace HX5 := Lib.hid (HX5.out.later hb)
     clear hb
     go_wp2_with fail
     refine (take_any P z _ _ d _ HST.out.ps).mono ?_
     rintro e w8 ⟨v, rfl, rfl, hps, hbe⟩
     replace HST := Lib.hid (HST.out.read hbe hps)
     replace HX4 := Lib.hid (HX4.out.bes hbe hNPHX4)
     replace HX5 := Lib.hid (HX5.out.bes hbe hNPHX5)
     clear hps hbe
     unfold tkV
     have hgs := HST.out.size
     skip
     go_wp2_with fail
     refine (calls_ok (HX.out _ _ HST.out.ps) HX2.out).mono ?_
     rintro e wx ⟨v, rfl, hv, hps, hbe⟩
     obtain ⟨An, Cn, rfl, hf⟩ := mx_new (B0 := w.heap.size + 1) (g := wp.heap.size) (g' := (wp.heap.size + 1)) hv HST.out.size (by have hh4 := HX4.out.lt; have hh5 := HX5.out.lt; omega) (by have hh4 := HX4.out.lt; have hh5 := HX5.out.lt; omega)
     replace HST := Lib.hid (HST.out.read hbe hps)
     replace HX4 := Lib.hid (HX4.out.bes hbe hNPHX4)
     replace HX5 := Lib.hid (HX5.out.bes hbe hNPHX5)
     simp only at hf ⊢
     generalize hm : nc.len = mn at hf ⊢
     have Hmn := Lib.hid hm
     have HFn := Lib.hid hf
     clear hv hps hbe hf hm hgs
     obtain ⟨p0, p1, p2, p3⟩ := HX5.out.frz
     obtain ⟨c0, c1, c2, c3⟩ := HX5.out.cells
     obtain ⟨a0, a1, a2, a3⟩ := HX4.out.cells
     replace HST := Lib.hid (HST.out.setg (y := (wp.heap.size + 1)) (by omega) (.int .i64 nk) (.string nx) (.string ny) (.slice An mn Cn))
     replace HFn := Lib.hid (mx_setg HFn.out (x := (wp.heap.size + 1)) (by omega) (.int .i64 nk) (.string nx) (.string ny) (.slice An mn Cn))
     replace HX4 := Lib.hid (HX4.out.setg (y := (wp.heap.size + 1)) (by omega) (.int .i64 nk) (.string nx) (.string ny) (.slice An mn Cn))
     replace HX5 := Lib.hid (HX5.out.set4 (.int .i64 nk) (.string nx) (.string ny) (.slice An mn Cn))
     have hsz4 := HX4.out.lt
     have hsz5 := HX5.out.lt
     have hgx : wp.heap.size + 1 < wx.heap.size := by rw [size_set4] at hsz5; exact hsz5
     obtain ⟨A9, C9, he9, hf9⟩ := rowX2 ((((wx.setCell ⟨(wp.heap.size + 1), 0, none⟩ (.int .i64 nk)).setCell ⟨(wp.heap.size + 1), 1, none⟩ (.string nx)).setCell ⟨(wp.heap.size + 1), 2, none⟩ (.string ny)).setCell ⟨(wp.heap.size + 1), 3, none⟩ (.slice An mn Cn)) (w.heap.size + 1) wp.heap.size (wp.heap.size + 1) P HST.out.size (by omega) (by omega) hP0 33 ⟨#[]⟩ ⟨#[]⟩ .nil _ mx_nil nk nx ny nc _ HFn.out
     simp only [oneF, one, F.len, Nat.zero_add, Nat.reduceAdd, Value.slice.injEq, true_and] at he9
     obtain ⟨rfl, rfl⟩ := he9
     try simp only [size_set4] at hf9
     have HROW := Lib.hid hf9
     clear hf9
     have hb := (Below.refl (((((wx.setCell ⟨(wp.heap.size + 1), 0, none⟩ (.int .i64 nk)).setCell ⟨(wp.heap.size + 1), 1, none⟩ (.string nx)).setCell ⟨(wp.heap.size + 1), 2, none⟩ (.string ny)).setCell ⟨(wp.heap.size + 1), 3, none⟩ (.slice An mn Cn))).heap.size (((((wx.setCell ⟨(wp.heap.size + 1), 0, none⟩ (.int .i64 nk)).setCell ⟨(wp.heap.size + 1), 1, none⟩ (.string nx)).setCell ⟨(wp.heap.size + 1), 2, none⟩ (.string ny)).setCell ⟨(wp.heap.size + 1), 3, none⟩ (.slice An mn Cn)))).alloc (Nat.le_refl _) (.cells #[.int .i64 33, .string ⟨#[]⟩, .string ⟨#[]⟩, .slice none 0 0, .int .i64 nk, .string nx, .string ny, .slice An mn Cn] 24)
     replace HST := Lib.hid (HST.out.quiet hb)
     clear hb
     go_wp2_with fail
     refine (node_any 5 s _ _ _ _).mono ?_
     rintro e w10 ⟨rfl, hb⟩
     replace HST := Lib.hid (HST.out.quiet hb)
     replace HROW := Lib.hid (mx_later HROW.out hb hP0)
     clear hb
     obtain ⟨⟨r0, r1, r2, r3, y0, y1, y2, y3⟩, g0, g1, g2, g3⟩ := HST.out.frz
     try unfold e0
     go_wp2
     have hfin := HST.out.ret (B0 := w.heap.size + 1) HSP.out rfl (mx_mi HROW.out) (fun _ _ _ _ => mi_set4 (mx_mi HROW.out) (.inl (Nat.lt_succ_self _)) _ _ _ _)
     refine bodyPost_ret (results_cell_row rfl _ _ w.heap.size 24 _ (0, 0) _ rfl hfin.1 Tryz.underlying24 rfl hi_nd) rfl ?_
     exact nb_nv hfin.2 (Nat.le_succ _)
   | false =>
    rw [he, if_neg (by decide)] at hsp
    have HE2 := Lib.hid he
    clear he
    cases ht : tyR z d l2 with
    | bad p er =>
     rw [ht, Rd.bind_bad] at hsp
     have HSP := Lib.hid hsp
     have HT2 := Lib.hid ht
     clear hsp ht
     go_enter Tryz.func73, Tryz.ntmps73
     go_wp2_with fail
     refine (is_at HST.out.ps HU.out HBB.out).mono ?_
     rintro e w1 ⟨rfl, hb⟩
     replace HST := Lib.hid (HST.out.quiet hb)
     clear hb
     go_wp2_with fail
     refine (HBG2.out _ HST.out.ps).mono ?_
     rintro e w2 ⟨v, rfl, rfl, hps, hbe⟩
     replace HST := Lib.hid (HST.out.read hbe hps)
     clear hps hbe
     unfold tkV
     go_wp2_with fail
     refine (calls_ok (name_any P z l1 d _ HST.out.ps) HN.out).mono ?_
     rintro e wn ⟨v, rfl, rfl, hps, hbe⟩
     replace HST := Lib.hid (HST.out.read hbe hps)
     clear hps hbe
     go_wp2_with fail
     refine (none_any _).mono ?_
     rintro e wo ⟨rfl, hb⟩
     replace HST := Lib.hid (HST.out.quiet hb)
     clear hb
     go_wp2_with fail
     refine (none_any _).mono ?_
     rintro e wp ⟨rfl, hb⟩
     replace HST := Lib.hid (HST.out.quiet hb)
     clear hb
     unfold e0
     have hps0 := HST.out.size
     have hba := (Below.refl wp.heap.size wp).alloc (Nat.le_refl _) (.cells #[.int .i64 33, .string ⟨#[]⟩, .string ⟨#[]⟩, .slice none 0 0] 24)
     have hsa : (wp.alloc (.cells #[.int .i64 33, .string ⟨#[]⟩, .string ⟨#[]⟩, .slice none 0 0] 24)).heap.size = wp.heap.size + 1 := by simp
     have HX4 : Hid (Box4 ((wp.alloc (.cells #[.int .i64 33, .string ⟨#[]⟩, .string ⟨#[]⟩, .slice none 0 0] 24)).alloc (.cells #[.int .i64 33, .string ⟨#[]⟩, .string ⟨#[]⟩, .slice none 0 0] 24)) wp.heap.size 24 (.int .i64 33) (.string ⟨#[]⟩) (.string ⟨#[]⟩) (.slice none 0 0)) := (box4_new wp _ _ _ _ _).later ((Below.refl _ _).alloc (Nat.le_refl _) _)
     have HX5 : Hid (Box4 ((wp.alloc (.cells #[.int .i64 33, .string ⟨#[]⟩, .string ⟨#[]⟩, .slice none 0 0] 24)).alloc (.cells #[.int .i64 33, .string ⟨#[]⟩, .string ⟨#[]⟩, .slice none 0 0] 24)) (wp.heap.size + 1) 24 (.int .i64 33) (.string ⟨#[]⟩) (.string ⟨#[]⟩) (.slice none 0 0)) := by
      have := box4_new (wp.alloc (.cells #[.int .i64 33, .string ⟨#[]⟩, .string ⟨#[]⟩, .slice none 0 0] 24)) 24 (.int .i64 33) (.string ⟨#[]⟩) (.string ⟨#[]⟩) (.slice none 0 0)
      rwa [hsa] at this
     replace HST := Lib.hid ((HST.out.quiet hba).quiet ((Below.refl _ _).alloc (Nat.le_refl _) (.cells #[.int .i64 33, .string ⟨#[]⟩, .string ⟨#[]⟩, .slice none 0 0] 24)))
     have hg4 : wp.heap.size < ((wp.alloc (.cells #[.int .i64 33, .string ⟨#[]⟩, .string ⟨#[]⟩, .slice none 0 0] 24)).alloc (.cells #[.int .i64 33, .string ⟨#[]⟩, .string ⟨#[]⟩, .slice none 0 0] 24)).heap.size := HX4.out.lt
     have hg5 : wp.heap.size + 1 < ((wp.alloc (.cells #[.int .i64 33, .string ⟨#[]⟩, .string ⟨#[]⟩, .slice none 0 0] 24)).alloc (.cells #[.int .i64 33, .string ⟨#[]⟩, .string ⟨#[]⟩, .slice none 0 0] 24)).heap.size := HX5.out.lt
     have hNPHX4 : wp.heap.size ≠ P := by omega
     have hNPHX5 : wp.heap.size + 1 ≠ P := by omega
     clear hba hsa
     go_wp2_with fail
     refine (is_at HST.out.ps HU2.out HE2.out).mono ?_
     rintro e w6 ⟨rfl, hb⟩
     replace HST := Lib.hid (HST.out.quiet hb)
     replace HX4 := Lib.hid (HX4.out.later hb)
     replace HX5 := Lib.hid (HX5.out.later hb)
     clear hb
     go_wp2_with fail
     refine (calls_bad (HT.out _ _ HST.out.ps) HT2.out).mono ?_
     rintro e w7 ⟨rfl, hbe⟩
     have HE := Lib.hid (HST.out.bes.trans hbe)
     clear hbe
     go_wp2
     exact ⟨rfl, rpost_bad HSP.out HE.out⟩
    | ok n l3 =>
     obtain ⟨mk, mx, my, mc⟩ := n
     rw [ht, Rd.bind_ok] at hsp
     have HT2 := Lib.hid ht
     clear ht
     cases he3 : isT (Parse.hd z l3) [61] with
     | true =>
      rw [he3, if_pos rfl] at hsp
      have HE3 := Lib.hid he3
      obtain ⟨t', r, rfl⟩ := isT_cons he3 (by decide)
      rw [List.tail_cons] at hsp
      clear he3
      cases hx : exR z d r with
      | bad p er =>
       rw [hx, Rd.bind_bad] at hsp
       have HSP := Lib.hid hsp
       have HX2 := Lib.hid hx
       clear hsp hx
       go_enter Tryz.func73, Tryz.ntmps73
       go_wp2_with fail
       refine (is_at HST.out.ps HU.out HBB.out).mono ?_
       rintro e w1 ⟨rfl, hb⟩
       replace HST := Lib.hid (HST.out.quiet hb)
       clear hb
       go_wp2_with fail
       refine (HBG2.out _ HST.out.ps).mono ?_
       rintro e w2 ⟨v, rfl, rfl, hps, hbe⟩
       replace HST := Lib.hid (HST.out.read hbe hps)
       clear hps hbe
       unfold tkV
       go_wp2_with fail
       refine (calls_ok (name_any P z l1 d _ HST.out.ps) HN.out).mono ?_
       rintro e wn ⟨v, rfl, rfl, hps, hbe⟩
       replace HST := Lib.hid (HST.out.read hbe hps)
       clear hps hbe
       go_wp2_with fail
       refine (none_any _).mono ?_
       rintro e wo ⟨rfl, hb⟩
       replace HST := Lib.hid (HST.out.quiet hb)
       clear hb
       go_wp2_with fail
       refine (none_any _).mono ?_
       rintro e wp ⟨rfl, hb⟩
       replace HST := Lib.hid (HST.out.quiet hb)
       clear hb
       unfold e0
       have hps0 := HST.out.size
       have hba := (Below.refl wp.heap.size wp).alloc (Nat.le_refl _) (.cells #[.int .i64 33, .string ⟨#[]⟩, .string ⟨#[]⟩, .slice none 0 0] 24)
       have hsa : (wp.alloc (.cells #[.int .i64 33, .string ⟨#[]⟩, .string ⟨#[]⟩, .slice none 0 0] 24)).heap.size = wp.heap.size + 1 := by simp
       have HX4 : Hid (Box4 ((wp.alloc (.cells #[.int .i64 33, .string ⟨#[]⟩, .string ⟨#[]⟩, .slice none 0 0] 24)).alloc (.cells #[.int .i64 33, .string ⟨#[]⟩, .string ⟨#[]⟩, .slice none 0 0] 24)) wp.heap.size 24 (.int .i64 33) (.string ⟨#[]⟩) (.string ⟨#[]⟩) (.slice none 0 0)) := (box4_new wp _ _ _ _ _).later ((Below.refl _ _).alloc (Nat.le_refl _) _)
       have HX5 : Hid (Box4 ((wp.alloc (.cells #[.int .i64 33, .string ⟨#[]⟩, .string ⟨#[]⟩, .slice none 0 0] 24)).alloc (.cells #[.int .i64 33, .string ⟨#[]⟩, .string ⟨#[]⟩, .slice none 0 0] 24)) (wp.heap.size + 1) 24 (.int .i64 33) (.string ⟨#[]⟩) (.string ⟨#[]⟩) (.slice none 0 0)) := by
        have := box4_new (wp.alloc (.cells #[.int .i64 33, .string ⟨#[]⟩, .string ⟨#[]⟩, .slice none 0 0] 24)) 24 (.int .i64 33) (.string ⟨#[]⟩) (.string ⟨#[]⟩) (.slice none 0 0)
        rwa [hsa] at this
       replace HST := Lib.hid ((HST.out.quiet hba).quiet ((Below.refl _ _).alloc (Nat.le_refl _) (.cells #[.int .i64 33, .string ⟨#[]⟩, .string ⟨#[]⟩, .slice none 0 0] 24)))
       have hg4 : wp.heap.size < ((wp.alloc (.cells #[.int .i64 33, .string ⟨#[]⟩, .string ⟨#[]⟩, .slice none 0 0] 24)).alloc (.cells #[.int .i64 33, .string ⟨#[]⟩, .string ⟨#[]⟩, .slice none 0 0] 24)).heap.size := HX4.out.lt
       have hg5 : wp.heap.size + 1 < ((wp.alloc (.cells #[.int .i64 33, .string ⟨#[]⟩, .string ⟨#[]⟩, .slice none 0 0] 24)).alloc (.cells #[.int .i64 33, .string ⟨#[]⟩, .string ⟨#[]⟩, .slice none 0 0] 24)).heap.size := HX5.out.lt
       have hNPHX4 : wp.heap.size ≠ P := by omega
       have hNPHX5 : wp.heap.size + 1 ≠ P := by omega
       clear hba hsa
       go_wp2_with fail
       refine (is_at HST.out.ps HU2.out HE2.out).mono ?_
       rintro e w6 ⟨rfl, hb⟩
       replace HST := Lib.hid (HST.out.quiet hb)
       replace HX4 := Lib.hid (HX4.out.later hb)
       replace HX5 := Lib.hid (HX5.out.later hb)
       clear hb
       have hgs := HST.out.size
       skip
       go_wp2_with fail
       refine (calls_ok (HT.out _ _ HST.out.ps) HT2.out).mono ?_
       rintro e wt ⟨v, rfl, hv, hps, hbe⟩
       obtain ⟨Am, Cm, rfl, hf⟩ := mx_new (B0 := w.heap.size + 1) (g := wp.heap.size) (g' := (wp.heap.size + 1)) hv HST.out.size (by have hh4 := HX4.out.lt; have hh5 := HX5.out.lt; omega) (by have hh4 := HX4.out.lt; have hh5 := HX5.out.lt; omega)
       replace HST := Lib.hid (HST.out.read hbe hps)
       replace HX4 := Lib.hid (HX4.out.bes hbe hNPHX4)
       replace HX5 := Lib.hid (HX5.out.bes hbe hNPHX5)
       simp only at hf ⊢
       generalize hm : mc.len = mm at hf ⊢
       have Hmm := Lib.hid hm
       have HFm := Lib.hid hf
       clear hv hps hbe hf hm hgs
       obtain ⟨p0, p1, p2, p3⟩ := HX4.out.frz
       obtain ⟨c0, c1, c2, c3⟩ := HX4.out.cells
       obtain ⟨b0, b1, b2, b3⟩ := HX5.out.cells
       replace HST := Lib.hid (HST.out.setg (y := wp.heap.size) (by omega) (.int .i64 mk) (.string mx) (.string my) (.slice Am mm Cm))
       replace HFm := Lib.hid (mx_setg HFm.out (x := wp.heap.size) (by omega) (.int .i64 mk) (.string mx) (.string my) (.slice Am mm Cm))
       replace HX4 := Lib.hid (HX4.out.set4 (.int .i64 mk) (.string mx) (.string my) (.slice Am mm Cm))
       replace HX5 := Lib.hid (HX5.out.setg (y := wp.heap.size) (by omega) (.int .i64 mk) (.string mx) (.string my) (.slice Am mm Cm))
       have hsz4 := HX4.out.lt
       have hsz5 := HX5.out.lt
       have hgx : wp.heap.size + 1 < wt.heap.size := by rw [size_set4] at hsz5; exact hsz5
       have hgx4 : wp.heap.size < wt.heap.size := by omega
       go_wp2_with fail
       refine (is_at HST.out.ps HU2.out HE3.out).mono ?_
       rintro e w8 ⟨rfl, hb⟩
       replace HST := Lib.hid (HST.out.quiet hb)
       replace HFm := Lib.hid (mx_later HFm.out hb hP0)
       replace HX4 := Lib.hid (HX4.out.later hb)
       replace HX5 := Lib.hid (HX5.out.later hb)
       clear hb
       go_wp2_with fail
       refine (take_any P z _ _ d _ HST.out.ps).mono ?_
       rintro e w9 ⟨v, rfl, rfl, hps, hbe⟩
       replace HST := Lib.hid (HST.out.read hbe hps)
       replace HFm := Lib.hid (mx_bes HFm.out hbe hP0)
       replace HX4 := Lib.hid (HX4.out.bes hbe hNPHX4)
       replace HX5 := Lib.hid (HX5.out.bes hbe hNPHX5)
       clear hps hbe
       unfold tkV
       clear p0 p1 p2 p3 c0 c1 c2 c3 b0 b1 b2 b3
       go_wp2_with fail
       refine (calls_bad (HX.out _ _ HST.out.ps) HX2.out).mono ?_
       rintro e w10 ⟨rfl, hbe⟩
       have HE := Lib.hid (HST.out.bes.trans hbe)
       clear hbe
       go_wp2
       exact ⟨rfl, rpost_bad HSP.out HE.out⟩
      | ok n l4 =>
       obtain ⟨nk, nx, ny, nc⟩ := n
       rw [hx, Rd.bind_ok] at hsp
       have HSP := Lib.hid hsp
       have HX2 := Lib.hid hx
       clear hsp hx
       go_enter Tryz.func73, Tryz.ntmps73
       go_wp2_with fail
       refine (is_at HST.out.ps HU.out HBB.out).mono ?_
       rintro e w1 ⟨rfl, hb⟩
       replace HST := Lib.hid (HST.out.quiet hb)
       clear hb
       go_wp2_with fail
       refine (HBG2.out _ HST.out.ps).mono ?_
       rintro e w2 ⟨v, rfl, rfl, hps, hbe⟩
       replace HST := Lib.hid (HST.out.read hbe hps)
       clear hps hbe
       unfold tkV
       go_wp2_with fail
       refine (calls_ok (name_any P z l1 d _ HST.out.ps) HN.out).mono ?_
       rintro e wn ⟨v, rfl, rfl, hps, hbe⟩
       replace HST := Lib.hid (HST.out.read hbe hps)
       clear hps hbe
       go_wp2_with fail
       refine (none_any _).mono ?_
       rintro e wo ⟨rfl, hb⟩
       replace HST := Lib.hid (HST.out.quiet hb)
       clear hb
       go_wp2_with fail
       refine (none_any _).mono ?_
       rintro e wp ⟨rfl, hb⟩
       replace HST := Lib.hid (HST.out.quiet hb)
       clear hb
       unfold e0
       have hps0 := HST.out.size
       have hba := (Below.refl wp.heap.size wp).alloc (Nat.le_refl _) (.cells #[.int .i64 33, .string ⟨#[]⟩, .string ⟨#[]⟩, .slice none 0 0] 24)
       have hsa : (wp.alloc (.cells #[.int .i64 33, .string ⟨#[]⟩, .string ⟨#[]⟩, .slice none 0 0] 24)).heap.size = wp.heap.size + 1 := by simp
       have HX4 : Hid (Box4 ((wp.alloc (.cells #[.int .i64 33, .string ⟨#[]⟩, .string ⟨#[]⟩, .slice none 0 0] 24)).alloc (.cells #[.int .i64 33, .string ⟨#[]⟩, .string ⟨#[]⟩, .slice none 0 0] 24)) wp.heap.size 24 (.int .i64 33) (.string ⟨#[]⟩) (.string ⟨#[]⟩) (.slice none 0 0)) := (box4_new wp _ _ _ _ _).later ((Below.refl _ _).alloc (Nat.le_refl _) _)
       have HX5 : Hid (Box4 ((wp.alloc (.cells #[.int .i64 33, .string ⟨#[]⟩, .string ⟨#[]⟩, .slice none 0 0] 24)).alloc (.cells #[.int .i64 33, .string ⟨#[]⟩, .string ⟨#[]⟩, .slice none 0 0] 24)) (wp.heap.size + 1) 24 (.int .i64 33) (.string ⟨#[]⟩) (.string ⟨#[]⟩) (.slice none 0 0)) := by
        have := box4_new (wp.alloc (.cells #[.int .i64 33, .string ⟨#[]⟩, .string ⟨#[]⟩, .slice none 0 0] 24)) 24 (.int .i64 33) (.string ⟨#[]⟩) (.string ⟨#[]⟩) (.slice none 0 0)
        rwa [hsa] at this
       replace HST := Lib.hid ((HST.out.quiet hba).quiet ((Below.refl _ _).alloc (Nat.le_refl _) (.cells #[.int .i64 33, .string ⟨#[]⟩, .string ⟨#[]⟩, .slice none 0 0] 24)))
       have hg4 : wp.heap.size < ((wp.alloc (.cells #[.int .i64 33, .string ⟨#[]⟩, .string ⟨#[]⟩, .slice none 0 0] 24)).alloc (.cells #[.int .i64 33, .string ⟨#[]⟩, .string ⟨#[]⟩, .slice none 0 0] 24)).heap.size := HX4.out.lt
       have hg5 : wp.heap.size + 1 < ((wp.alloc (.cells #[.int .i64 33, .string ⟨#[]⟩, .string ⟨#[]⟩, .slice none 0 0] 24)).alloc (.cells #[.int .i64 33, .string ⟨#[]⟩, .string ⟨#[]⟩, .slice none 0 0] 24)).heap.size := HX5.out.lt
       have hNPHX4 : wp.heap.size ≠ P := by omega
       have hNPHX5 : wp.heap.size + 1 ≠ P := by omega
       clear hba hsa
       go_wp2_with fail
       refine (is_at HST.out.ps HU2.out HE2.out).mono ?_
       rintro e w6 ⟨rfl, hb⟩
       replace HST := Lib.hid (HST.out.quiet hb)
       replace HX4 := Lib.hid (HX4.out.later hb)
       replace HX5 := Lib.hid (HX5.out.later hb)
       clear hb
       have hgs := HST.out.size
       skip
       go_wp2_with fail
       refine (calls_ok (HT.out _ _ HST.out.ps) HT2.out).mono ?_
       rintro e wt ⟨v, rfl, hv, hps, hbe⟩
       obtain ⟨Am, Cm, rfl, hf⟩ := mx_new (B0 := w.heap.size + 1) (g := wp.heap.size) (g' := (wp.heap.size + 1)) hv HST.out.size (by have hh4 := HX4.out.lt; have hh5 := HX5.out.lt; omega) (by have hh4 := HX4.out.lt; have hh5 := HX5.out.lt; omega)
       replace HST := Lib.hid (HST.out.read hbe hps)
       replace HX4 := Lib.hid (HX4.out.bes hbe hNPHX4)
       replace HX5 := Lib.hid (HX5.out.bes hbe hNPHX5)
       simp only at hf ⊢
       generalize hm : mc.len = mm at hf ⊢
       have Hmm := Lib.hid hm
       have HFm := Lib.hid hf
       clear hv hps hbe hf hm hgs
       obtain ⟨p0, p1, p2, p3⟩ := HX4.out.frz
       obtain ⟨c0, c1, c2, c3⟩ := HX4.out.cells
       obtain ⟨b0, b1, b2, b3⟩ := HX5.out.cells
       replace HST := Lib.hid (HST.out.setg (y := wp.heap.size) (by omega) (.int .i64 mk) (.string mx) (.string my) (.slice Am mm Cm))
       replace HFm := Lib.hid (mx_setg HFm.out (x := wp.heap.size) (by omega) (.int .i64 mk) (.string mx) (.string my) (.slice Am mm Cm))
       replace HX4 := Lib.hid (HX4.out.set4 (.int .i64 mk) (.string mx) (.string my) (.slice Am mm Cm))
       replace HX5 := Lib.hid (HX5.out.setg (y := wp.heap.size) (by omega) (.int .i64 mk) (.string mx) (.string my) (.slice Am mm Cm))
       have hsz4 := HX4.out.lt
       have hsz5 := HX5.out.lt
       have hgx : wp.heap.size + 1 < wt.heap.size := by rw [size_set4] at hsz5; exact hsz5
       have hgx4 : wp.heap.size < wt.heap.size := by omega
       go_wp2_with fail
       refine (is_at HST.out.ps HU2.out HE3.out).mono ?_
       rintro e w8 ⟨rfl, hb⟩
       replace HST := Lib.hid (HST.out.quiet hb)
       replace HFm := Lib.hid (mx_later HFm.out hb hP0)
       replace HX4 := Lib.hid (HX4.out.later hb)
       replace HX5 := Lib.hid (HX5.out.later hb)
       clear hb
       go_wp2_with fail
       refine (take_any P z _ _ d _ HST.out.ps).mono ?_
       rintro e w9 ⟨v, rfl, rfl, hps, hbe⟩
       replace HST := Lib.hid (HST.out.read hbe hps)
       replace HFm := Lib.hid (mx_bes HFm.out hbe hP0)
       replace HX4 := Lib.hid (HX4.out.bes hbe hNPHX4)
       replace HX5 := Lib.hid (HX5.out.bes hbe hNPHX5)
       clear hps hbe
       unfold tkV
       clear p0 p1 p2 p3 c0 c1 c2 c3 b0 b1 b2 b3
       have hgs := HST.out.size
       skip
       go_wp2_with fail
       refine (calls_ok (HX.out _ _ HST.out.ps) HX2.out).mono ?_
       rintro e wx ⟨v, rfl, hv, hps, hbe⟩
       obtain ⟨An, Cn, rfl, hf⟩ := mx_new (B0 := w.heap.size + 1) (g := wp.heap.size) (g' := (wp.heap.size + 1)) hv HST.out.size (by have hh4 := HX4.out.lt; have hh5 := HX5.out.lt; omega) (by have hh4 := HX4.out.lt; have hh5 := HX5.out.lt; omega)
       replace HST := Lib.hid (HST.out.read hbe hps)
       replace HFm := Lib.hid (mx_bes HFm.out hbe hP0)
       replace HX4 := Lib.hid (HX4.out.bes hbe hNPHX4)
       replace HX5 := Lib.hid (HX5.out.bes hbe hNPHX5)
       simp only at hf ⊢
       generalize hm : nc.len = mn at hf ⊢
       have Hmn := Lib.hid hm
       have HFn := Lib.hid hf
       clear hv hps hbe hf hm hgs
       obtain ⟨p0, p1, p2, p3⟩ := HX5.out.frz
       obtain ⟨c0, c1, c2, c3⟩ := HX5.out.cells
       obtain ⟨a0, a1, a2, a3⟩ := HX4.out.cells
       replace HST := Lib.hid (HST.out.setg (y := (wp.heap.size + 1)) (by omega) (.int .i64 nk) (.string nx) (.string ny) (.slice An mn Cn))
       replace HFm := Lib.hid (mx_setg HFm.out (x := (wp.heap.size + 1)) (by omega) (.int .i64 nk) (.string nx) (.string ny) (.slice An mn Cn))
       replace HFn := Lib.hid (mx_setg HFn.out (x := (wp.heap.size + 1)) (by omega) (.int .i64 nk) (.string nx) (.string ny) (.slice An mn Cn))
       replace HX4 := Lib.hid (HX4.out.setg (y := (wp.heap.size + 1)) (by omega) (.int .i64 nk) (.string nx) (.string ny) (.slice An mn Cn))
       replace HX5 := Lib.hid (HX5.out.set4 (.int .i64 nk) (.string nx) (.string ny) (.slice An mn Cn))
       have hsz6 := HX5.out.lt
       have hgx6 : wp.heap.size + 1 < wx.heap.size := by rw [size_set4] at hsz6; exact hsz6
       obtain ⟨A9, C9, he9, hf9⟩ := rowX2 ((((wx.setCell ⟨(wp.heap.size + 1), 0, none⟩ (.int .i64 nk)).setCell ⟨(wp.heap.size + 1), 1, none⟩ (.string nx)).setCell ⟨(wp.heap.size + 1), 2, none⟩ (.string ny)).setCell ⟨(wp.heap.size + 1), 3, none⟩ (.slice An mn Cn)) (w.heap.size + 1) wp.heap.size (wp.heap.size + 1) P HST.out.size (by omega) (by omega) hP0 mk mx my mc _ HFm.out nk nx ny nc _ HFn.out
       simp only [oneF, one, F.len, Nat.zero_add, Nat.reduceAdd, Value.slice.injEq, true_and] at he9
       obtain ⟨rfl, rfl⟩ := he9
       try simp only [size_set4] at hf9
       have HROW := Lib.hid hf9
       clear hf9
       have hb := (Below.refl (((((wx.setCell ⟨(wp.heap.size + 1), 0, none⟩ (.int .i64 nk)).setCell ⟨(wp.heap.size + 1), 1, none⟩ (.string nx)).setCell ⟨(wp.heap.size + 1), 2, none⟩ (.string ny)).setCell ⟨(wp.heap.size + 1), 3, none⟩ (.slice An mn Cn))).heap.size (((((wx.setCell ⟨(wp.heap.size + 1), 0, none⟩ (.int .i64 nk)).setCell ⟨(wp.heap.size + 1), 1, none⟩ (.string nx)).setCell ⟨(wp.heap.size + 1), 2, none⟩ (.string ny)).setCell ⟨(wp.heap.size + 1), 3, none⟩ (.slice An mn Cn)))).alloc (Nat.le_refl _) (.cells #[.int .i64 mk, .string mx, .string my, .slice Am mm Cm, .int .i64 nk, .string nx, .string ny, .slice An mn Cn] 24)
       replace HST := Lib.hid (HST.out.quiet hb)
       clear hb
       go_wp2_with fail
       refine (node_any 5 s _ _ _ _).mono ?_
       rintro e w11 ⟨rfl, hb⟩
       replace HST := Lib.hid (HST.out.quiet hb)
       replace HROW := Lib.hid (mx_later HROW.out hb hP0)
       clear hb
       obtain ⟨⟨r0, r1, r2, r3, y0, y1, y2, y3⟩, g0, g1, g2, g3⟩ := HST.out.frz
       try unfold e0
       go_wp2
       have hfin := HST.out.ret (B0 := w.heap.size + 1) HSP.out rfl (mx_mi HROW.out) (fun _ _ _ _ => mi_set4 (mx_mi HROW.out) (.inl (Nat.lt_succ_self _)) _ _ _ _)
       refine bodyPost_ret (results_cell_row rfl _ _ w.heap.size 24 _ (0, 0) _ rfl hfin.1 Tryz.underlying24 rfl hi_nd) rfl ?_
       exact nb_nv hfin.2 (Nat.le_succ _)
     | false =>
      rw [he3, if_neg (by decide), Rd.bind_ok] at hsp
      have HSP := Lib.hid hsp
      have HE3 := Lib.hid he3
      clear hsp he3
      go_enter Tryz.func73, Tryz.ntmps73
      go_wp2_with fail
      refine (is_at HST.out.ps HU.out HBB.out).mono ?_
      rintro e w1 ⟨rfl, hb⟩
      replace HST := Lib.hid (HST.out.quiet hb)
      clear hb
      go_wp2_with fail
      refine (HBG2.out _ HST.out.ps).mono ?_
      rintro e w2 ⟨v, rfl, rfl, hps, hbe⟩
      replace HST := Lib.hid (HST.out.read hbe hps)
      clear hps hbe
      unfold tkV
      go_wp2_with fail
      refine (calls_ok (name_any P z l1 d _ HST.out.ps) HN.out).mono ?_
      rintro e wn ⟨v, rfl, rfl, hps, hbe⟩
      replace HST := Lib.hid (HST.out.read hbe hps)
      clear hps hbe
      go_wp2_with fail
      refine (none_any _).mono ?_
      rintro e wo ⟨rfl, hb⟩
      replace HST := Lib.hid (HST.out.quiet hb)
      clear hb
      go_wp2_with fail
      refine (none_any _).mono ?_
      rintro e wp ⟨rfl, hb⟩
      replace HST := Lib.hid (HST.out.quiet hb)
      clear hb
      unfold e0
      have hps0 := HST.out.size
      have hba := (Below.refl wp.heap.size wp).alloc (Nat.le_refl _) (.cells #[.int .i64 33, .string ⟨#[]⟩, .string ⟨#[]⟩, .slice none 0 0] 24)
      have hsa : (wp.alloc (.cells #[.int .i64 33, .string ⟨#[]⟩, .string ⟨#[]⟩, .slice none 0 0] 24)).heap.size = wp.heap.size + 1 := by simp
      have HX4 : Hid (Box4 ((wp.alloc (.cells #[.int .i64 33, .string ⟨#[]⟩, .string ⟨#[]⟩, .slice none 0 0] 24)).alloc (.cells #[.int .i64 33, .string ⟨#[]⟩, .string ⟨#[]⟩, .slice none 0 0] 24)) wp.heap.size 24 (.int .i64 33) (.string ⟨#[]⟩) (.string ⟨#[]⟩) (.slice none 0 0)) := (box4_new wp _ _ _ _ _).later ((Below.refl _ _).alloc (Nat.le_refl _) _)
      have HX5 : Hid (Box4 ((wp.alloc (.cells #[.int .i64 33, .string ⟨#[]⟩, .string ⟨#[]⟩, .slice none 0 0] 24)).alloc (.cells #[.int .i64 33, .string ⟨#[]⟩, .string ⟨#[]⟩, .slice none 0 0] 24)) (wp.heap.size + 1) 24 (.int .i64 33) (.string ⟨#[]⟩) (.string ⟨#[]⟩) (.slice none 0 0)) := by
       have := box4_new (wp.alloc (.cells #[.int .i64 33, .string ⟨#[]⟩, .string ⟨#[]⟩, .slice none 0 0] 24)) 24 (.int .i64 33) (.string ⟨#[]⟩) (.string ⟨#[]⟩) (.slice none 0 0)
       rwa [hsa] at this
      replace HST := Lib.hid ((HST.out.quiet hba).quiet ((Below.refl _ _).alloc (Nat.le_refl _) (.cells #[.int .i64 33, .string ⟨#[]⟩, .string ⟨#[]⟩, .slice none 0 0] 24)))
      have hg4 : wp.heap.size < ((wp.alloc (.cells #[.int .i64 33, .string ⟨#[]⟩, .string ⟨#[]⟩, .slice none 0 0] 24)).alloc (.cells #[.int .i64 33, .string ⟨#[]⟩, .string ⟨#[]⟩, .slice none 0 0] 24)).heap.size := HX4.out.lt
      have hg5 : wp.heap.size + 1 < ((wp.alloc (.cells #[.int .i64 33, .string ⟨#[]⟩, .string ⟨#[]⟩, .slice none 0 0] 24)).alloc (.cells #[.int .i64 33, .string ⟨#[]⟩, .string ⟨#[]⟩, .slice none 0 0] 24)).heap.size := HX5.out.lt
      have hNPHX4 : wp.heap.size ≠ P := by omega
      have hNPHX5 : wp.heap.size + 1 ≠ P := by omega
      clear hba hsa
      go_wp2_with fail
      refine (is_at HST.out.ps HU2.out HE2.out).mono ?_
      rintro e w6 ⟨rfl, hb⟩
      replace HST := Lib.hid (HST.out.quiet hb)
      replace HX4 := Lib.hid (HX4.out.later hb)
      replace HX5 := Lib.hid (HX5.out.later hb)
      clear hb
      have hgs := HST.out.size
      skip
      go_wp2_with fail
      refine (calls_ok (HT.out _ _ HST.out.ps) HT2.out).mono ?_
      rintro e wt ⟨v, rfl, hv, hps, hbe⟩
      obtain ⟨Am, Cm, rfl, hf⟩ := mx_new (B0 := w.heap.size + 1) (g := wp.heap.size) (g' := (wp.heap.size + 1)) hv HST.out.size (by have hh4 := HX4.out.lt; have hh5 := HX5.out.lt; omega) (by have hh4 := HX4.out.lt; have hh5 := HX5.out.lt; omega)
      replace HST := Lib.hid (HST.out.read hbe hps)
      replace HX4 := Lib.hid (HX4.out.bes hbe hNPHX4)
      replace HX5 := Lib.hid (HX5.out.bes hbe hNPHX5)
      simp only at hf ⊢
      generalize hm : mc.len = mm at hf ⊢
      have Hmm := Lib.hid hm
      have HFm := Lib.hid hf
      clear hv hps hbe hf hm hgs
      obtain ⟨p0, p1, p2, p3⟩ := HX4.out.frz
      obtain ⟨c0, c1, c2, c3⟩ := HX4.out.cells
      obtain ⟨b0, b1, b2, b3⟩ := HX5.out.cells
      replace HST := Lib.hid (HST.out.setg (y := wp.heap.size) (by omega) (.int .i64 mk) (.string mx) (.string my) (.slice Am mm Cm))
      replace HFm := Lib.hid (mx_setg HFm.out (x := wp.heap.size) (by omega) (.int .i64 mk) (.string mx) (.string my) (.slice Am mm Cm))
      replace HX4 := Lib.hid (HX4.out.set4 (.int .i64 mk) (.string mx) (.string my) (.slice Am mm Cm))
      replace HX5 := Lib.hid (HX5.out.setg (y := wp.heap.size) (by omega) (.int .i64 mk) (.string mx) (.string my) (.slice Am mm Cm))
      have hsz4 := HX4.out.lt
      have hsz5 := HX5.out.lt
      have hgx : wp.heap.size + 1 < wt.heap.size := by rw [size_set4] at hsz5; exact hsz5
      have hgx4 : wp.heap.size < wt.heap.size := by omega
      go_wp2_with fail
      refine (is_at HST.out.ps HU2.out HE3.out).mono ?_
      rintro e wi ⟨rfl, hb⟩
      replace HST := Lib.hid (HST.out.quiet hb)
      replace HFm := Lib.hid (mx_later HFm.out hb hP0)
      replace HX4 := Lib.hid (HX4.out.later hb)
      replace HX5 := Lib.hid (HX5.out.later hb)
      clear hb
      obtain ⟨a0, a1, a2, a3⟩ := HX4.out.cells
      obtain ⟨bb0, bb1, bb2, bb3⟩ := HX5.out.cells
      have hsz7 := HX5.out.lt
      have hsz8 := HX4.out.lt
      obtain ⟨A9, C9, he9, hf9⟩ := rowX2 wi (w.heap.size + 1) wp.heap.size (wp.heap.size + 1) P HST.out.size (by omega) (by omega) hP0 mk mx my mc _ HFm.out 33 ⟨#[]⟩ ⟨#[]⟩ .nil _ mx_nil
      simp only [oneF, one, F.len, Nat.zero_add, Nat.reduceAdd, Value.slice.injEq, true_and] at he9
      obtain ⟨rfl, rfl⟩ := he9
      try simp only [size_set4] at hf9
      have HROW := Lib.hid hf9
      clear hf9
      have hb := (Below.refl (wi).heap.size (wi)).alloc (Nat.le_refl _) (.cells #[.int .i64 mk, .string mx, .string my, .slice Am mm Cm, .int .i64 33, .string ⟨#[]⟩, .string ⟨#[]⟩, .slice none 0 0] 24)
      replace HST := Lib.hid (HST.out.quiet hb)
      clear hb
      go_wp2_with fail
      refine (node_any 5 s _ _ _ _).mono ?_
      rintro e w9 ⟨rfl, hb⟩
      replace HST := Lib.hid (HST.out.quiet hb)
      replace HROW := Lib.hid (mx_later HROW.out hb hP0)
      clear hb
      obtain ⟨⟨r0, r1, r2, r3, y0, y1, y2, y3⟩, g0, g1, g2, g3⟩ := HST.out.frz
      try unfold e0
      go_wp2
      have hfin := HST.out.ret (B0 := w.heap.size + 1) HSP.out rfl (mx_mi HROW.out) (fun _ _ _ _ => mi_set4 (mx_mi HROW.out) (.inl (Nat.lt_succ_self _)) _ _ _ _)
      refine bodyPost_ret (results_cell_row rfl _ _ w.heap.size 24 _ (0, 0) _ rfl hfin.1 Tryz.underlying24 rfl hi_nd) rfl ?_
      exact nb_nv hfin.2 (Nat.le_succ _)
end Go.Proofs.YtaiihnniblibaaaGreatDoor.Parse
