/-
 Layer 6 (parse): return.
-/
import Derived.Test.YtaiihnniblibaaaGreatDoorParseBranch
namespace Go.Proofs.YtaiihnniblibaaaGreatDoor.Parse
open Go.ChangeShapes Go.WideShapes Go.ChangeAt Go.RowKit Tree MemT Mem
set_option linter.unusedVariables false

theorem Stt.bel {w W W' : World} {P z d B0 : Nat} {l : List Tk} (h : Stt w W P z d l) (hb : Below B0 W W') (hB : w.heap.size + 1 ≤ B0) : Stt w W' P z d l := by
 obtain ⟨a, b, c, d', hx⟩ := h.bx
 have h1 := h.hlt
 exact ⟨h.bes.bel (hb.mono (by omega)), h.ps.below hb (by omega), ⟨a, b, c, d', (hb.block _ (by omega)).trans hx⟩, h.hlt⟩
set_option maxHeartbeats 16000000 in
set_option maxRecDepth 100000 in
theorem ret_any (P z : Nat) (l : List Tk) (d : Nat) (w : World) (h : PS w P z l d) (hd : d ≤ 300) :
  Calls Tryz.prog 116 #[.pointer (some ⟨P, 0, none⟩)] w (RPost NV w P z d (retR z d l)) := by
 have hlt := h.lt
 have hlen := h.len
 have HST := Lib.hid (Stt.start h)
 have HU : Hid ((⟨#[114, 101, 116, 117, 114, 110]⟩ : ByteArray).toList = [114, 101, 116, 117, 114, 110]) := by show _ = _; rw [ByteArray.toList_eq]
 have HU2 : Hid ((⟨#[125]⟩ : ByteArray).toList = [125]) := by show _ = _; rw [ByteArray.toList_eq]
 have HU3 : Hid ((⟨#[44]⟩ : ByteArray).toList = [44]) := by show _ = _; rw [ByteArray.toList_eq]
 have hsp : retR z d l = retR z d l := rfl
 conv at hsp => rhs; unfold retR
 have hPB : P < w.heap.size + 1 := by omega
 obtain ⟨bb, hbb⟩ : ∃ bb, isT (Parse.hd z l) [114, 101, 116, 117, 114, 110] = bb := ⟨_, rfl⟩
 rw [hbb] at hsp
 have HBB := Lib.hid hbb
 have HBG : Hid (∀ W, PS W P z l d → Calls Tryz.prog 66 #[.pointer (some ⟨P, 0, none⟩), .bool bb] W (RPost TV W P z d (beg z bb d l))) :=
  fun W hW => begin_any _ P z l d (fun e => isT_ne (by decide) (hbb.trans e)) (by omega) W hW
 have hfb : bb = true → l ≠ [] := fun e => isT_ne (by decide) (hbb.trans e)
 have HX : Hid (∀ W l', PS W P z l' d → Calls Tryz.prog 71 #[.pointer (some ⟨P, 0, none⟩)] W (RPost NV W P z d (exR z d l'))) := fun W l' hW => ex_rd P z (l'.length + 1) W d l' (Nat.lt_succ_self _) hd hW
 clear h hbb
 cases hr : beg z bb d l with
 | bad p er =>
  rw [hr, Rd.bind_bad] at hsp
  rw [hr] at HBG
  have HSP := Lib.hid hsp
  clear hsp hr hfb
  go_enter Tryz.func116, Tryz.ntmps116
  go_wp2_with fail
  refine (is_at HST.out.ps HU.out HBB.out).mono ?_
  rintro e w1 ⟨rfl, hb⟩
  replace HST := Lib.hid (HST.out.quiet hb)
  clear hb
  go_wp2_with fail
  refine (calls_bad (HBG.out _ HST.out.ps) rfl).mono ?_
  rintro e w2 ⟨rfl, hbe⟩
  have HE := Lib.hid (HST.out.bes.trans hbe)
  clear hbe
  go_wp2
  exact ⟨rfl, rpost_bad HSP.out HE.out⟩
 | ok t l1 =>
  have hl1 : l1.length < l.length := lt_beg hfb _ _ hr
  rw [hr, Rd.bind_ok] at hsp
  rw [hr] at HBG
  clear hr hfb
  have HBG2 : Hid (∀ W, PS W P z l d → Calls Tryz.prog 66 #[.pointer (some ⟨P, 0, none⟩), .bool bb] W fun e w' => ∃ v, e = .returned v ∧ TV W w' v t ∧ PS w' P z l1 d ∧ Bes P W w') := fun W hW => calls_ok (HBG.out W hW) rfl
  clear HBG
  obtain ⟨u, hu⟩ : ∃ u, Parse.hd z l1 = u := ⟨_, rfl⟩
  obtain ⟨uk, ux, up, uf⟩ := u
  have hf0 := fld0 uk ux up uf
  have Hu := Lib.hid hu
  by_cases h6 : uk = 6
  ·subst h6
   rw [hu, if_pos (.inl rfl)] at hsp
   have HSP := Lib.hid hsp
   clear hsp hu
   go_enter Tryz.func116, Tryz.ntmps116
   go_wp2_with fail
   refine (is_at HST.out.ps HU.out HBB.out).mono ?_
   rintro e w1 ⟨rfl, hb⟩
   replace HST := Lib.hid (HST.out.quiet hb)
   clear hb
   go_wp2_with fail
   refine (HBG2.out _ HST.out.ps).mono ?_
   rintro e wb ⟨v, rfl, rfl, hps, hbe⟩
   replace HST := Lib.hid (HST.out.read hbe hps)
   clear hps hbe
   unfold tkV
   go_wp2_with fail
   refine (next_is HST.out.ps Hu.out).mono ?_
   rintro e w3 ⟨rfl, hb⟩
   replace HST := Lib.hid (HST.out.quiet hb)
   clear hb
   go_wp2
   go_loopg [3] 1 (fun p s3 wr => 0 < p ∧ s3 = .slice none 0 0 ∧ Hid (Stt w wr P z d l1))
   case atStart => exact ⟨Nat.one_pos, rfl, HST⟩
   case round =>
    clear HST
    obtain ⟨hp, rfl, HST⟩ := hrel
    have hlp : ¬ (0 : Int) < ((0 : Nat) : Int) := by omega
    go_wp2_with fail
    refine (node_any 20 ⟨#[]⟩ none 0 0 _).mono ?_
    rintro e w4 ⟨rfl, hb⟩
    replace HST := Lib.hid (HST.out.quiet hb)
    clear hb
    obtain ⟨⟨r0, r1, r2, r3, y0, y1, y2, y3⟩, g0, g1, g2, g3⟩ := HST.out.frz
    try unfold e0
    go_wp2
    have hfin := HST.out.ret HSP.out rfl nil_fs
    refine bodyPost_ret (results_cell_row rfl _ _ w.heap.size 24 _ (0, 0) _ rfl hfin.1 Tryz.underlying24 rfl hi_nd) rfl ?_
    exact hfin.2
  ·have b6 : (uk == 6) = false := beq_eq_false_iff_ne.2 h6
   have b6' : (uk != 6) = true := by simp [bne, b6]
   cases he : isT (Parse.hd z l1) [125] with
   | true =>
    rw [if_pos (.inr he)] at hsp
    have HSP := Lib.hid hsp
    have HE := Lib.hid he
    clear hsp hu he h6
    go_enter Tryz.func116, Tryz.ntmps116
    go_wp2_with fail
    refine (is_at HST.out.ps HU.out HBB.out).mono ?_
    rintro e w1 ⟨rfl, hb⟩
    replace HST := Lib.hid (HST.out.quiet hb)
    clear hb
    go_wp2_with fail
    refine (HBG2.out _ HST.out.ps).mono ?_
    rintro e wb ⟨v, rfl, rfl, hps, hbe⟩
    replace HST := Lib.hid (HST.out.read hbe hps)
    clear hps hbe
    unfold tkV
    go_wp2_with fail
    refine (next_is HST.out.ps Hu.out).mono ?_
    rintro e w3 ⟨rfl, hb⟩
    replace HST := Lib.hid (HST.out.quiet hb)
    clear hb
    go_wp2_with fail
    refine (is_at HST.out.ps HU2.out HE.out).mono ?_
    rintro e w4 ⟨rfl, hb⟩
    replace HST := Lib.hid (HST.out.quiet hb)
    clear hb
    go_wp2
    go_loopg [3] 1 (fun p s3 wr => 0 < p ∧ s3 = .slice none 0 0 ∧ Hid (Stt w wr P z d l1))
    case atStart => exact ⟨Nat.one_pos, rfl, HST⟩
    case round =>
     clear HST
     obtain ⟨hp, rfl, HST⟩ := hrel
     have hlp : ¬ (0 : Int) < ((0 : Nat) : Int) := by omega
     go_wp2_with fail
     refine (node_any 20 ⟨#[]⟩ none 0 0 _).mono ?_
     rintro e w5 ⟨rfl, hb⟩
     replace HST := Lib.hid (HST.out.quiet hb)
     clear hb
     obtain ⟨⟨r0, r1, r2, r3, y0, y1, y2, y3⟩, g0, g1, g2, g3⟩ := HST.out.frz
     try unfold e0
     go_wp2
     have hfin := HST.out.ret HSP.out rfl nil_fs
     refine bodyPost_ret (results_cell_row rfl _ _ w.heap.size 24 _ (0, 0) _ rfl hfin.1 Tryz.underlying24 rfl hi_nd) rfl ?_
     exact hfin.2
   | false =>
    rw [hu, if_neg (by rintro (h | h); exact h6 h; rw [← hu, he] at h; cases h)] at hsp
    have HE := Lib.hid he
    clear hu he h6
    cases hx : exR z d l1 with
    | bad p er =>
     rw [hx, Rd.bind_bad] at hsp
     have HSP := Lib.hid hsp
     have HX2 := Lib.hid hx
     clear hsp hx
     go_enter Tryz.func116, Tryz.ntmps116
     go_wp2_with fail
     refine (is_at HST.out.ps HU.out HBB.out).mono ?_
     rintro e w1 ⟨rfl, hb⟩
     replace HST := Lib.hid (HST.out.quiet hb)
     clear hb
     go_wp2_with fail
     refine (HBG2.out _ HST.out.ps).mono ?_
     rintro e wb ⟨v, rfl, rfl, hps, hbe⟩
     replace HST := Lib.hid (HST.out.read hbe hps)
     clear hps hbe
     unfold tkV
     have hbR := HST.out.size
     have HON : Hid (OwnK wb wb.heap.size (.slice none 0 0) []) := OwnK.nil _ _
     have hPW : P < wb.heap.size := by omega
     go_wp2_with fail
     refine (next_is HST.out.ps Hu.out).mono ?_
     rintro e wc ⟨rfl, hb⟩
     replace HST := Lib.hid (HST.out.quiet hb)
     clear hb
     replace HON := Lib.hid (OwnK.nil wc wb.heap.size)
     skip
     go_wp2_with fail
     refine (is_at HST.out.ps HU2.out HE.out).mono ?_
     rintro e wd ⟨rfl, hb⟩
     replace HST := Lib.hid (HST.out.quiet hb)
     clear hb
     go_wp2_with fail
     refine (calls_bad (HX.out _ _ HST.out.ps) HX2.out).mono ?_
     rintro e w5 ⟨rfl, hbe⟩
     have HE := Lib.hid (HST.out.bes.trans hbe)
     clear hbe
     go_wp2
     exact ⟨rfl, rpost_bad HSP.out HE.out⟩
    | ok n l2 =>
     obtain ⟨nk, nx, ny, nc⟩ := n
     have hl2 : l2.length < l1.length := exR_dec z _ _ _ _ hx
     rw [hx, Rd.bind_ok] at hsp
     have HSPL := Lib.hid hsp
     have HX2 := Lib.hid hx
     clear hsp hx
     go_enter Tryz.func116, Tryz.ntmps116
     go_wp2_with fail
     refine (is_at HST.out.ps HU.out HBB.out).mono ?_
     rintro e w1 ⟨rfl, hb⟩
     replace HST := Lib.hid (HST.out.quiet hb)
     clear hb
     go_wp2_with fail
     refine (HBG2.out _ HST.out.ps).mono ?_
     rintro e wb ⟨v, rfl, rfl, hps, hbe⟩
     replace HST := Lib.hid (HST.out.read hbe hps)
     clear hps hbe
     unfold tkV
     have hB0' := HST.out.size
     obtain ⟨B0, hBe⟩ : ∃ B0, wb.heap.size = B0 := ⟨_, rfl⟩
     have hB0 : w.heap.size + 1 ≤ B0 := by omega
     have hPW : P < B0 := by omega
     have HWB : Hid (B0 ≤ wb.heap.size) := Nat.le_of_eq hBe.symm
     clear hBe hB0'
     go_wp2_with fail
     refine (next_is HST.out.ps Hu.out).mono ?_
     rintro e wc ⟨rfl, hb⟩
     replace HST := Lib.hid (HST.out.quiet hb)
     have HWC := Lib.hid (Nat.le_trans HWB.out hb.size)
     clear hb
     go_wp2_with fail
     refine (is_at HST.out.ps HU2.out HE.out).mono ?_
     rintro e wd ⟨rfl, hb⟩
     replace HST := Lib.hid (HST.out.quiet hb)
     have HWD := Lib.hid (Nat.le_trans HWC.out hb.size)
     clear hb
     go_wp2_with fail
     refine (calls_ok (HX.out _ _ HST.out.ps) HX2.out).mono ?_
     rintro e wx ⟨v, rfl, ⟨An, Cn, rfl, hf⟩, hps, hbe⟩
     replace HST := Lib.hid (HST.out.read hbe hps)
     have hszB : B0 ≤ wx.heap.size := Nat.le_trans HWD.out hbe.size
     have HO2 : Hid (OwnK wx B0 (.slice none 0 0) []) := OwnK.nil _ _
     have HF2 := Lib.hid (nd_row (w' := wx) (OwnK.nil wd B0) hf HWD.out)
     clear hps hbe hf
     simp only at HF2 ⊢
     generalize hm : nc.len = mn at *
     clear hm
     go_wp2_with (at_builtin; refine app_nd _ rfl _ _ rfl P B0 hPW (.slice none 0 0) [] rfl HO2.out nk nx ny nc An mn Cn HF2.out wx.heap.size rfl rfl (by decide) hszB ?_)
     intro v' w3 hO3 hb3
     have HO3 := Lib.hid hO3
     replace HST := Lib.hid (HST.out.bel hb3 hB0)
     have hsz3 : B0 ≤ w3.heap.size := Nat.le_trans hszB hb3.size
     clear hO3 hb3 HO2 HF2 HWB HWC HWD
     go_wp2
     go_loopg [3] (l2.length + 1) (fun p s3 wr => ∃ (L : List Nd) (l' : List Tk), l'.length < p ∧ 0 < L.length ∧ L.length + l'.length ≤ l1.length ∧ Hid (OwnK wr B0 s3 L) ∧ Hid (Stt w wr P z d l') ∧ Hid (B0 ≤ wr.heap.size) ∧ Hid (∃ f, l'.length < f ∧ retR z d l = (commas z d f l').bind fun c l => .ok (Parse.node 20 e0 (appF (ofL' L) c)) l))
     case atStart => exact ⟨[⟨nk, nx, ny, nc⟩], l2, by omega, by simp, by simp; omega, HO3, HST, hsz3, _, Nat.lt_succ_self _, HSPL.out⟩
     case round =>
      clear HST HO3 HSPL
      obtain ⟨L, l', hp, hL0, hl', HO, HST, HSZ, HSI⟩ := hrel
      obtain ⟨f, hf, hsi⟩ := HSI.out
      obtain ⟨f, rfl⟩ : ∃ f', f = f' + 1 := ⟨f - 1, by omega⟩
      have hit : commas z d (f + 1) l' = commas z d (f + 1) l' := rfl
      conv at hit => rhs; unfold commas
      obtain ⟨a, c, rfl, hlc, hcm⟩ := HO.out.slice
      unfold maxLen at hcm
      have hL0' : (0 : Int) < (L.length : Int) := by omega
      clear HSI HX2 HE
      cases hc : isT (Parse.hd z l') [44] with
      | false =>
       rw [hc, if_neg (by decide)] at hit
       rw [hit, Rd.bind_ok, appF_nil] at hsi
       have HSP := Lib.hid hsi
       have HC := Lib.hid hc
       clear hit hsi hc hf
       go_wp2_with fail
       refine (is_at HST.out.ps HU3.out HC.out).mono ?_
       rintro e w4 ⟨rfl, hb⟩
       replace HST := Lib.hid (HST.out.quiet hb)
       have HO4 := Lib.hid (HO.out.later hb hPW)
       clear hb
       obtain ⟨A9, C9, he9, hf9⟩ := HO4.out.row
       rw [ofL'_len] at he9 hf9
       simp only [Value.slice.injEq, true_and] at he9
       obtain ⟨rfl, rfl⟩ := he9
       have HROW := Lib.hid (mi_more hf9 (B0' := w.heap.size + 1) hB0 (Nat.le_refl _))
       have HLN : Hid (L.length = (ofL' L).len) := (ofL'_len L).symm
       clear hf9 HO HO4 hL0 hL0' hl'
       generalize L.length = ln at *
       go_wp2_with fail
       refine (node_any 20 ⟨#[]⟩ _ _ _ _).mono ?_
       rintro e w1 ⟨rfl, hb⟩
       replace HST := Lib.hid (HST.out.quiet hb)
       replace HROW := Lib.hid (fsq HROW.out hb)
       clear hb
       obtain ⟨⟨r0, r1, r2, r3, y0, y1, y2, y3⟩, g0, g1, g2, g3⟩ := HST.out.frz
       try unfold e0
       go_wp2
       have hfin := HST.out.ret HSP.out HLN.out HROW.out
       refine bodyPost_ret (results_cell_row rfl _ _ w.heap.size 24 _ (0, 0) _ rfl hfin.1 Tryz.underlying24 rfl hi_nd) rfl ?_
       exact hfin.2
      | true =>
       rw [hc, if_pos rfl] at hit
       have HC := Lib.hid hc
       obtain ⟨t', r, rfl⟩ := isT_cons hc (by decide)
       rw [List.tail_cons] at hit
       simp only [List.length_cons] at hp hl' hf
       clear hc
       cases hx : exR z d r with
       | bad p2 er =>
        rw [hx, Rd.bind_bad] at hit
        rw [hit, Rd.bind_bad] at hsi
        have HSP := Lib.hid hsi
        have HX2 := Lib.hid hx
        clear hit hsi hx hf
        go_wp2_with fail
        refine (is_at HST.out.ps HU3.out HC.out).mono ?_
        rintro e w4 ⟨rfl, hb⟩
        replace HST := Lib.hid (HST.out.quiet hb)
        have HO4 := Lib.hid (HO.out.later hb hPW)
        have HS4 := Lib.hid (Nat.le_trans HSZ.out hb.size)
        clear hb
        go_wp2_with fail
        refine (take_any P z _ _ d _ HST.out.ps).mono ?_
        rintro e w5 ⟨v, rfl, rfl, hps, hbe⟩
        replace HST := Lib.hid (HST.out.read hbe hps)
        have HO5 := Lib.hid (HO4.out.bes hbe hPW)
        have HS5 := Lib.hid (Nat.le_trans HS4.out hbe.size)
        clear hps hbe
        unfold tkV
        go_wp2_with fail
        refine (calls_bad (HX.out _ _ HST.out.ps) HX2.out).mono ?_
        rintro e w1 ⟨rfl, hbe⟩
        have HE := Lib.hid (HST.out.bes.trans hbe)
        clear hbe
        go_wp2
        exact ⟨rfl, rpost_bad HSP.out HE.out⟩
       | ok n2 l3 =>
        obtain ⟨mk, mx, my, mc⟩ := n2
        have hl3 : l3.length < r.length := exR_dec z _ _ _ _ hx
        rw [hx, Rd.bind_ok] at hit
        rw [hit, Rd.bind_bind] at hsi
        have HSI2 : Hid (∃ f, l3.length < f ∧ retR z d l = (commas z d f l3).bind fun c l => .ok (Parse.node 20 e0 (appF (ofL' (L ++ [⟨mk, mx, my, mc⟩])) c)) l) := ⟨f, by omega, by
         rw [hsi]
         congr 1
         funext c l
         rw [Rd.bind_ok, appF_snoc]⟩
        have HX2 := Lib.hid hx
        clear hit hsi hx hf
        go_wp2_with fail
        refine (is_at HST.out.ps HU3.out HC.out).mono ?_
        rintro e w4 ⟨rfl, hb⟩
        replace HST := Lib.hid (HST.out.quiet hb)
        have HO4 := Lib.hid (HO.out.later hb hPW)
        have HS4 := Lib.hid (Nat.le_trans HSZ.out hb.size)
        clear hb
        go_wp2_with fail
        refine (take_any P z _ _ d _ HST.out.ps).mono ?_
        rintro e w5 ⟨v, rfl, rfl, hps, hbe⟩
        replace HST := Lib.hid (HST.out.read hbe hps)
        have HO5 := Lib.hid (HO4.out.bes hbe hPW)
        have HS5 := Lib.hid (Nat.le_trans HS4.out hbe.size)
        clear hps hbe
        unfold tkV
        go_wp2_with fail
        refine (calls_ok (HX.out _ _ HST.out.ps) HX2.out).mono ?_
        rintro e wx ⟨v, rfl, ⟨Am, Cm, rfl, hf⟩, hps, hbe⟩
        replace HST := Lib.hid (HST.out.read hbe hps)
        have hszB : B0 ≤ wx.heap.size := Nat.le_trans HS5.out hbe.size
        have HO6 := Lib.hid (HO5.out.bes hbe hPW)
        have HF2 := Lib.hid (nd_row (w' := wx) HO5.out hf HS5.out)
        clear hps hbe hf
        simp only at HF2 ⊢
        generalize hm : mc.len = mm at *
        clear hm
        go_wp2_with (at_builtin; refine app_nd _ rfl _ _ rfl P B0 hPW (.slice a L.length c) L rfl HO6.out mk mx my mc Am mm Cm HF2.out wx.heap.size rfl rfl (by omega) hszB ?_)
        intro v' w3 hO3 hb3
        have HO3 := Lib.hid hO3
        replace HST := Lib.hid (HST.out.bel hb3 hB0)
        have HS6 : Hid (B0 ≤ w3.heap.size) := Nat.le_trans hszB hb3.size
        clear hO3 hb3
        go_wp2
        go_roundg (l3.length + 1)
        case rel => exact ⟨L ++ [⟨mk, mx, my, mc⟩], l3, by omega, by simp, by simp; omega, HO3, HST, HS6, HSI2⟩
        case measure => omega
end Go.Proofs.YtaiihnniblibaaaGreatDoor.Parse
