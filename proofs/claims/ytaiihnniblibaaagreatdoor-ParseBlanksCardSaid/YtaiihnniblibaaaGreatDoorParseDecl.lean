/-
 Layer 6 (parse): declarations.
-/
import Derived.Test.YtaiihnniblibaaaGreatDoorParseFunc
namespace Go.Proofs.YtaiihnniblibaaaGreatDoor.Parse
open Go.ChangeShapes Go.WideShapes Go.ChangeAt Go.RowKit Tree MemT Mem
set_option linter.unusedVariables false

set_option maxHeartbeats 16000000 in
set_option maxRecDepth 100000 in
theorem decl_any (P z : Nat) (l : List Tk) (d : Nat) (w : World) (h : PS w P z l d) (hd : d ≤ 300) :
  Calls Tryz.prog 48 #[.pointer (some ⟨P, 0, none⟩)] w (RPost NV w P z d (declR z d l)) := by
 have hlt := h.lt
 have HST := Lib.hid (Stt.start h)
 have hPB : P < w.heap.size + 1 := by omega
 have HU : Hid ((⟨#[61]⟩ : ByteArray).toList = [61]) := by show _ = _; rw [ByteArray.toList_eq]
 have HX : Hid (∀ W l', PS W P z l' d → Calls Tryz.prog 71 #[.pointer (some ⟨P, 0, none⟩)] W (RPost NV W P z d (exR z d l'))) := fun W l' hW => ex_rd P z (l'.length + 1) W d l' (Nat.lt_succ_self _) (by omega) hW
 have HT : Hid (∀ W l', PS W P z l' d → Calls Tryz.prog 72 #[.pointer (some ⟨P, 0, none⟩)] W (RPost NV W P z d (tyR z d l'))) := fun W l' hW => ty_rd P z (l'.length + 1) W d l' (Nat.lt_succ_self _) (by omega) hW
 have HV : Hid (∀ W, PS W P z l d → Calls Tryz.prog 73 #[.pointer (some ⟨P, 0, none⟩)] W (RPost NV W P z d (varR z d l))) := fun W hW => var_any P z l d W hW (by omega)
 have HF : Hid (∀ W, PS W P z l d → Calls Tryz.prog 74 #[.pointer (some ⟨P, 0, none⟩)] W (RPost NV W P z d (funcR z d l))) := fun W hW => func_any P z l d W hW hd
 obtain ⟨t, ht⟩ : ∃ t, Parse.hd z l = t := ⟨_, rfl⟩
 obtain ⟨tk, tx, tp, tf⟩ := t
 have hf1 := fld1 tk tx tp tf
 have Ht := Lib.hid ht
 have hsp : declR z d l = declR z d l := rfl
 conv at hsp => rhs; unfold declR
 rw [ht] at hsp
 clear h ht
 cases b0 : (tx.toList == [112, 97, 99, 107, 97, 103, 101]) with
 | true =>
  rw [if_pos (isT_yes b0)] at hsp
  obtain ⟨t', r, rfl⟩ := isT_cons (z := z) (l := l) (u := [112, 97, 99, 107, 97, 103, 101]) (by rw [Ht.out]; exact b0) (by decide)
  obtain rfl : t' = ⟨tk, tx, tp, tf⟩ := Ht.out
  rw [List.tail_cons] at hsp
  clear HV HF
  cases hn : name z r with
  | bad p er =>
   rw [hn, Rd.bind_bad] at hsp
   have HSP := Lib.hid hsp
   have HN := Lib.hid hn
   clear hsp hn
   go_enter Tryz.func48, Tryz.ntmps48
   go_wp2_with fail
   refine (next_is HST.out.ps Ht.out).mono ?_
   rintro e w1 ⟨rfl, hb⟩
   replace HST := Lib.hid (HST.out.quiet hb)
   clear hb
   go_wp2_with fail
   refine (take_any P z _ _ d _ HST.out.ps).mono ?_
   rintro e w2 ⟨v, rfl, rfl, hps, hbe⟩
   replace HST := Lib.hid (HST.out.read hbe hps)
   clear hps hbe
   unfold tkV
   go_wp2_with fail
   refine (calls_bad (name_any P z r d _ HST.out.ps) HN.out).mono ?_
   rintro e w3 ⟨rfl, hbe⟩
   have HE := Lib.hid (HST.out.bes.trans hbe)
   clear hbe
   go_wp2
   exact ⟨rfl, rpost_bad HSP.out HE.out⟩
  | ok s l2 =>
   rw [hn, Rd.bind_ok] at hsp
   have HN := Lib.hid hn
   clear hn
   have HSP := Lib.hid hsp
   clear hsp
   go_enter Tryz.func48, Tryz.ntmps48
   go_wp2_with fail
   refine (next_is HST.out.ps Ht.out).mono ?_
   rintro e w1 ⟨rfl, hb⟩
   replace HST := Lib.hid (HST.out.quiet hb)
   clear hb
   go_wp2_with fail
   refine (take_any P z _ _ d _ HST.out.ps).mono ?_
   rintro e w2 ⟨v, rfl, rfl, hps, hbe⟩
   replace HST := Lib.hid (HST.out.read hbe hps)
   clear hps hbe
   unfold tkV
   go_wp2_with fail
   refine (calls_ok (name_any P z r d _ HST.out.ps) HN.out).mono ?_
   rintro e w3 ⟨v, rfl, rfl, hps, hbe⟩
   replace HST := Lib.hid (HST.out.read hbe hps)
   clear hps hbe
   go_wp2_with fail
   refine (node_any 2 s none 0 0 _).mono ?_
   rintro e w4 ⟨rfl, hb⟩
   replace HST := Lib.hid (HST.out.quiet hb)
   clear hb
   obtain ⟨⟨r0, r1, r2, r3, y0, y1, y2, y3⟩, g0, g1, g2, g3⟩ := HST.out.frz
   try unfold e0
   go_wp2
   have hfin := HST.out.ret HSP.out rfl nil_fs
   refine bodyPost_ret (results_cell_row rfl _ _ w.heap.size 24 _ (0, 0) _ rfl hfin.1 Tryz.underlying24 rfl hi_nd) rfl ?_
   exact hfin.2
 | false =>
 rw [if_neg (isT_no b0)] at hsp
 cases b1 : (tx.toList == [105, 109, 112, 111, 114, 116]) with
 | true =>
  rw [if_pos (isT_yes b1)] at hsp
  obtain ⟨t', r, rfl⟩ := isT_cons (z := z) (l := l) (u := [105, 109, 112, 111, 114, 116]) (by rw [Ht.out]; exact b1) (by decide)
  obtain rfl : t' = ⟨tk, tx, tp, tf⟩ := Ht.out
  rw [List.tail_cons] at hsp
  clear HV HF
  obtain ⟨u, hu⟩ : ∃ u, Parse.hd z r = u := ⟨_, rfl⟩
  obtain ⟨uk, ux, up, uf⟩ := u
  rw [hu] at hsp
  have Hu := Lib.hid hu
  clear hu
  obtain ⟨kb, hkb⟩ : ∃ kb, (uk == 3) = kb := ⟨_, rfl⟩
  have hsp2 : declR z d (⟨tk, tx, tp, tf⟩ :: r) = (must z kb r).bind fun _ l => .ok (node 3 (Parse.hd z l).x .nil) l.tail := by rw [← hkb]; exact hsp
  clear hsp
  have HK9 := Lib.hid hkb
  clear hkb
  cases kb with
  | false =>
   rw [must_bad rfl, Rd.bind_bad, Hu.out] at hsp2
   have HSP := Lib.hid hsp2
   clear hsp2
   go_enter Tryz.func48, Tryz.ntmps48
   go_wp2_with fail
   refine (next_is HST.out.ps Ht.out).mono ?_
   rintro e w1 ⟨rfl, hb⟩
   replace HST := Lib.hid (HST.out.quiet hb)
   clear hb
   go_wp2_with fail
   refine (take_any P z _ _ d _ HST.out.ps).mono ?_
   rintro e w2 ⟨v, rfl, rfl, hps, hbe⟩
   replace HST := Lib.hid (HST.out.read hbe hps)
   clear hps hbe
   unfold tkV
   go_wp2
   have HPS := Lib.hid HST.out.ps
   refine region_rel (fun W W' => Below W.heap.size W W') [Cd.is (.pointer (some ⟨P, 0, none⟩)), Cd.is (.pointer (some ⟨P, 0, none⟩)), Cd.is (.pointer (some ⟨P, 0, none⟩)), Cd.is (.pointer (some ⟨P, 0, none⟩)), Cd.is (.pointer (some ⟨P, 0, none⟩)), Cd.is (.pointer (some ⟨P, 0, none⟩)), Cd.is (tkV ⟨uk, ux, up, uf⟩), Cd.is (.int .i64 uk), Cd.is (.bool false), ⟨fun _ _ => False, fun _ _ _ _ h => h⟩] (by kernel_rfl) (by decide) (by kernel_rfl) (Below.refl _ _) (fun _ _ _ h k => h.trans (k.mono h.size)) ?steps ?behind
   case steps =>
    intro xv W hW a ha
    replace hW := undrew hW
    simp only [fillA] at ha
    simp only [List.setIfInBounds_toArray, List.set_cons_succ, List.set_cons_zero, Nat.zero_add, Nat.reduceAdd] at ha
    subst ha
    refine ⟨?s0, ?s1, ?s2, ?s3, ?s4, ?s5, ?s6, ?s7, ?s8, ?s9, trivial⟩
    all_goals intro hd K hK
    all_goals (try simp only [Act.put, List.setIfInBounds_toArray, List.set_cons_succ, List.set_cons_zero] at hK)
    case s0 =>
     clear hd
     refine (if_pos (by rfl)).mpr ?_
     go_simp
     exact hK.out _ _ (Below.refl _ _) rfl
    case s1 =>
     have hx0 : xv 0 = .pointer (some ⟨P, 0, none⟩) := hd 0 (by kernel_rfl)
     clear hd
     rw [hx0] at hK ⊢
     refine (if_pos (by rfl)).mpr ?_
     go_simp
     exact hK.out _ _ (Below.refl _ _) rfl
    case s2 =>
     have hx1 : xv 1 = .pointer (some ⟨P, 0, none⟩) := hd 1 (by kernel_rfl)
     clear hd
     rw [hx1] at hK ⊢
     refine (if_pos (by rfl)).mpr ?_
     go_simp
     exact hK.out _ _ (Below.refl _ _) rfl
    case s3 =>
     clear hd
     refine (if_pos (by rfl)).mpr ?_
     go_simp
     exact hK.out _ _ (Below.refl _ _) rfl
    case s4 =>
     have hx3 : xv 3 = .pointer (some ⟨P, 0, none⟩) := hd 3 (by kernel_rfl)
     clear hd
     rw [hx3] at hK ⊢
     refine (if_pos (by rfl)).mpr ?_
     go_simp
     exact hK.out _ _ (Below.refl _ _) rfl
    case s5 =>
     have hx4 : xv 4 = .pointer (some ⟨P, 0, none⟩) := hd 4 (by kernel_rfl)
     clear hd
     rw [hx4] at hK ⊢
     refine (if_pos (by rfl)).mpr ?_
     go_simp
     exact hK.out _ _ (Below.refl _ _) rfl
    case s6 =>
     have hx5 : xv 5 = .pointer (some ⟨P, 0, none⟩) := hd 5 (by kernel_rfl)
     clear hd
     rw [hx5] at hK ⊢
     refine (if_pos (by rfl)).mpr ?_
     go_simp
     refine (next_any P z _ d W (HPS.out.later hW)).mono ?_
     rw [Hu.out]
     rintro e W' ⟨rfl, hb⟩
     exact hK.out _ _ hb rfl
    case s7 =>
     have hx6 : xv 6 = tkV ⟨uk, ux, up, uf⟩ := hd 6 (by kernel_rfl)
     clear hd
     rw [hx6] at hK ⊢
     refine (if_pos (by rfl)).mpr ?_
     have hf := fld0 uk ux up uf
     unfold tkV
     go_simp
     exact hK.out _ _ (Below.refl _ _) rfl
    case s8 =>
     have hx7 : xv 7 = .int .i64 uk := hd 7 (by kernel_rfl)
     clear hd
     rw [hx7] at hK ⊢
     refine (if_pos (by rfl)).mpr ?_
     have b6' : (uk == 3) = false := HK9.out
     go_simp
     exact hK.out _ _ (Below.refl _ _) rfl
    case s9 =>
     have hx2 : xv 2 = .pointer (some ⟨P, 0, none⟩) := hd 2 (by kernel_rfl)
     have hx8 : xv 8 = .bool false := hd 8 (by kernel_rfl)
     clear hd
     rw [hx2] at hK ⊢
     rw [hx8] at hK ⊢
     refine (if_pos (by rfl)).mpr ?_
     go_simp
     refine (must_no P z _ d W (HPS.out.later hW)).mono ?_
     rintro e W' ⟨rfl, hb⟩
     have HE := Lib.hid (HST.out.bes.then_ (hW.trans (hb.mono hW.size)))
     rw [Hu.out]
     exact ⟨rfl, rpost_bad HSP.out HE.out⟩
   case behind =>
    intro xv W hW hx a ha
    replace hW := undrew hW
    simp only [fillA] at ha
    simp only [List.setIfInBounds_toArray, List.set_cons_succ, List.set_cons_zero, Nat.zero_add, Nat.reduceAdd] at ha
    subst ha
    exact (hx 9 (by decide) : False).elim
  | true =>
   obtain ⟨r2, rfl⟩ : ∃ r2, r = ⟨uk, ux, up, uf⟩ :: r2 := by
    have := Hu.out
    cases r with
    | nil =>
     exfalso
     simp only [Parse.hd, Tk.mk.injEq] at this
     have hk := HK9.out
     rw [← this.1] at hk
     cases hk
    | cons u r2 => exact ⟨r2, by rw [← this]; rfl⟩
   rw [must_ok rfl, Rd.bind_ok, List.tail_cons] at hsp2
   have HSP := Lib.hid hsp2
   clear hsp2
   go_enter Tryz.func48, Tryz.ntmps48
   go_wp2_with fail
   refine (next_is HST.out.ps Ht.out).mono ?_
   rintro e w1 ⟨rfl, hb⟩
   replace HST := Lib.hid (HST.out.quiet hb)
   clear hb
   go_wp2_with fail
   refine (take_any P z _ _ d _ HST.out.ps).mono ?_
   rintro e w2 ⟨v, rfl, rfl, hps, hbe⟩
   replace HST := Lib.hid (HST.out.read hbe hps)
   clear hps hbe
   unfold tkV
   go_wp2
   have HPS := Lib.hid HST.out.ps
   refine region_rel (fun W W' => Below W.heap.size W W') [Cd.is (.pointer (some ⟨P, 0, none⟩)), Cd.is (.pointer (some ⟨P, 0, none⟩)), Cd.is (.pointer (some ⟨P, 0, none⟩)), Cd.is (.pointer (some ⟨P, 0, none⟩)), Cd.is (.pointer (some ⟨P, 0, none⟩)), Cd.is (.pointer (some ⟨P, 0, none⟩)), Cd.is (tkV ⟨uk, ux, up, uf⟩), Cd.is (.int .i64 uk), Cd.is (.bool true), Cd.any] (by kernel_rfl) (by decide) (by kernel_rfl) (Below.refl _ _) (fun _ _ _ h k => h.trans (k.mono h.size)) ?steps ?behind
   case steps =>
    intro xv W hW a ha
    replace hW := undrew hW
    simp only [fillA] at ha
    simp only [List.setIfInBounds_toArray, List.set_cons_succ, List.set_cons_zero, Nat.zero_add, Nat.reduceAdd] at ha
    subst ha
    refine ⟨?s0, ?s1, ?s2, ?s3, ?s4, ?s5, ?s6, ?s7, ?s8, ?s9, trivial⟩
    all_goals intro hd K hK
    all_goals (try simp only [Act.put, List.setIfInBounds_toArray, List.set_cons_succ, List.set_cons_zero] at hK)
    case s0 =>
     clear hd
     refine (if_pos (by rfl)).mpr ?_
     go_simp
     exact hK.out _ _ (Below.refl _ _) rfl
    case s1 =>
     have hx0 : xv 0 = .pointer (some ⟨P, 0, none⟩) := hd 0 (by kernel_rfl)
     clear hd
     rw [hx0] at hK ⊢
     refine (if_pos (by rfl)).mpr ?_
     go_simp
     exact hK.out _ _ (Below.refl _ _) rfl
    case s2 =>
     have hx1 : xv 1 = .pointer (some ⟨P, 0, none⟩) := hd 1 (by kernel_rfl)
     clear hd
     rw [hx1] at hK ⊢
     refine (if_pos (by rfl)).mpr ?_
     go_simp
     exact hK.out _ _ (Below.refl _ _) rfl
    case s3 =>
     clear hd
     refine (if_pos (by rfl)).mpr ?_
     go_simp
     exact hK.out _ _ (Below.refl _ _) rfl
    case s4 =>
     have hx3 : xv 3 = .pointer (some ⟨P, 0, none⟩) := hd 3 (by kernel_rfl)
     clear hd
     rw [hx3] at hK ⊢
     refine (if_pos (by rfl)).mpr ?_
     go_simp
     exact hK.out _ _ (Below.refl _ _) rfl
    case s5 =>
     have hx4 : xv 4 = .pointer (some ⟨P, 0, none⟩) := hd 4 (by kernel_rfl)
     clear hd
     rw [hx4] at hK ⊢
     refine (if_pos (by rfl)).mpr ?_
     go_simp
     exact hK.out _ _ (Below.refl _ _) rfl
    case s6 =>
     have hx5 : xv 5 = .pointer (some ⟨P, 0, none⟩) := hd 5 (by kernel_rfl)
     clear hd
     rw [hx5] at hK ⊢
     refine (if_pos (by rfl)).mpr ?_
     go_simp
     refine (next_any P z _ d W (HPS.out.later hW)).mono ?_
     rw [Hu.out]
     rintro e W' ⟨rfl, hb⟩
     exact hK.out _ _ hb rfl
    case s7 =>
     have hx6 : xv 6 = tkV ⟨uk, ux, up, uf⟩ := hd 6 (by kernel_rfl)
     clear hd
     rw [hx6] at hK ⊢
     refine (if_pos (by rfl)).mpr ?_
     have hf := fld0 uk ux up uf
     unfold tkV
     go_simp
     exact hK.out _ _ (Below.refl _ _) rfl
    case s8 =>
     have hx7 : xv 7 = .int .i64 uk := hd 7 (by kernel_rfl)
     clear hd
     rw [hx7] at hK ⊢
     refine (if_pos (by rfl)).mpr ?_
     have b6' : (uk == 3) = true := HK9.out
     go_simp
     exact hK.out _ _ (Below.refl _ _) rfl
    case s9 =>
     have hx2 : xv 2 = .pointer (some ⟨P, 0, none⟩) := hd 2 (by kernel_rfl)
     have hx8 : xv 8 = .bool true := hd 8 (by kernel_rfl)
     clear hd
     rw [hx2] at hK ⊢
     rw [hx8] at hK ⊢
     refine (if_pos (by rfl)).mpr ?_
     go_simp
     refine (must_yes P W).mono ?_
     rintro e W' ⟨rfl, rfl⟩
     exact hK.out _ _ (Below.refl _ _) trivial
   case behind =>
    intro xv W hW hx a ha
    replace hW := undrew hW
    simp only [fillA] at ha
    simp only [List.setIfInBounds_toArray, List.set_cons_succ, List.set_cons_zero, Nat.zero_add, Nat.reduceAdd] at ha
    subst ha
    replace HST := Lib.hid (HST.out.quiet hW)
    clear hx hW HPS
    go_wp2_with fail
    refine (take_any P z _ _ d _ HST.out.ps).mono ?_
    rintro e w1 ⟨v, rfl, rfl, hps, hbe⟩
    replace HST := Lib.hid (HST.out.read hbe hps)
    clear hps hbe
    unfold tkV
    have hf5 := fld1 uk ux up uf
    go_wp2_with fail
    refine (node_any 3 ux none 0 0 _).mono ?_
    rintro e w2 ⟨rfl, hb⟩
    replace HST := Lib.hid (HST.out.quiet hb)
    clear hb
    obtain ⟨⟨r0, r1, r2, r3, y0, y1, y2, y3⟩, g0, g1, g2, g3⟩ := HST.out.frz
    try unfold e0
    go_wp2
    have hfin := HST.out.ret HSP.out rfl nil_fs
    refine bodyPost_ret (results_cell_row rfl _ _ w.heap.size 24 _ (0, 0) _ rfl hfin.1 Tryz.underlying24 rfl hi_nd) rfl ?_
    exact hfin.2
 | false =>
 rw [if_neg (isT_no b1)] at hsp
 cases b2 : (tx.toList == [99, 111, 110, 115, 116]) with
 | true =>
  rw [if_pos (isT_yes b2)] at hsp
  obtain ⟨t', r, rfl⟩ := isT_cons (z := z) (l := l) (u := [99, 111, 110, 115, 116]) (by rw [Ht.out]; exact b2) (by decide)
  obtain rfl : t' = ⟨tk, tx, tp, tf⟩ := Ht.out
  rw [List.tail_cons] at hsp
  clear HV HF
  cases hn : name z r with
  | bad p er =>
   rw [hn, Rd.bind_bad] at hsp
   have HSP := Lib.hid hsp
   have HN := Lib.hid hn
   clear hsp hn
   go_enter Tryz.func48, Tryz.ntmps48
   go_wp2_with fail
   refine (next_is HST.out.ps Ht.out).mono ?_
   rintro e w1 ⟨rfl, hb⟩
   replace HST := Lib.hid (HST.out.quiet hb)
   clear hb
   go_wp2_with fail
   refine (take_any P z _ _ d _ HST.out.ps).mono ?_
   rintro e w2 ⟨v, rfl, rfl, hps, hbe⟩
   replace HST := Lib.hid (HST.out.read hbe hps)
   clear hps hbe
   unfold tkV
   go_wp2_with fail
   refine (calls_bad (name_any P z r d _ HST.out.ps) HN.out).mono ?_
   rintro e w3 ⟨rfl, hbe⟩
   have HE := Lib.hid (HST.out.bes.trans hbe)
   clear hbe
   go_wp2
   exact ⟨rfl, rpost_bad HSP.out HE.out⟩
  | ok s l2 =>
   rw [hn, Rd.bind_ok] at hsp
   have HN := Lib.hid hn
   clear hn
   cases hw : Parse.want z [61] l2 with
   | bad p er =>
    rw [hw, Rd.bind_bad] at hsp
    have HSP := Lib.hid hsp
    have HW := Lib.hid hw
    clear hsp hw
    go_enter Tryz.func48, Tryz.ntmps48
    go_wp2_with fail
    refine (next_is HST.out.ps Ht.out).mono ?_
    rintro e w1 ⟨rfl, hb⟩
    replace HST := Lib.hid (HST.out.quiet hb)
    clear hb
    go_wp2_with fail
    refine (take_any P z _ _ d _ HST.out.ps).mono ?_
    rintro e w2 ⟨v, rfl, rfl, hps, hbe⟩
    replace HST := Lib.hid (HST.out.read hbe hps)
    clear hps hbe
    unfold tkV
    go_wp2_with fail
    refine (calls_ok (name_any P z r d _ HST.out.ps) HN.out).mono ?_
    rintro e w3 ⟨v, rfl, rfl, hps, hbe⟩
    replace HST := Lib.hid (HST.out.read hbe hps)
    clear hps hbe
    go_wp2_with fail
    refine (calls_bad (want_at HST.out.ps HU.out (by decide)) HW.out).mono ?_
    rintro e w4 ⟨rfl, hbe⟩
    have HE := Lib.hid (HST.out.bes.trans hbe)
    clear hbe
    go_wp2
    exact ⟨rfl, rpost_bad HSP.out HE.out⟩
   | ok u l3 =>
    rw [hw, Rd.bind_ok] at hsp
    have HW := Lib.hid hw
    clear hw
    cases hx : exR z d l3 with
    | bad p er =>
     rw [hx, Rd.bind_bad] at hsp
     have HSP := Lib.hid hsp
     have HX2 := Lib.hid hx
     clear hsp hx
     go_enter Tryz.func48, Tryz.ntmps48
     go_wp2_with fail
     refine (next_is HST.out.ps Ht.out).mono ?_
     rintro e w1 ⟨rfl, hb⟩
     replace HST := Lib.hid (HST.out.quiet hb)
     clear hb
     go_wp2_with fail
     refine (take_any P z _ _ d _ HST.out.ps).mono ?_
     rintro e w2 ⟨v, rfl, rfl, hps, hbe⟩
     replace HST := Lib.hid (HST.out.read hbe hps)
     clear hps hbe
     unfold tkV
     go_wp2_with fail
     refine (calls_ok (name_any P z r d _ HST.out.ps) HN.out).mono ?_
     rintro e w3 ⟨v, rfl, rfl, hps, hbe⟩
     replace HST := Lib.hid (HST.out.read hbe hps)
     clear hps hbe
     go_wp2_with fail
     refine (calls_ok (want_at HST.out.ps HU.out (by decide)) HW.out).mono ?_
     rintro e w4 ⟨v, rfl, rfl, hps, hbe⟩
     replace HST := Lib.hid (HST.out.read hbe hps)
     clear hps hbe
     go_wp2_with fail
     refine (calls_bad (HX.out _ _ HST.out.ps) HX2.out).mono ?_
     rintro e w5 ⟨rfl, hbe⟩
     have HE := Lib.hid (HST.out.bes.trans hbe)
     clear hbe
     go_wp2
     exact ⟨rfl, rpost_bad HSP.out HE.out⟩
    | ok n l4 =>
     obtain ⟨nk, nx, ny, nc⟩ := n
     rw [hx, Rd.bind_ok] at hsp
     have HX2 := Lib.hid hx
     clear hx
     have HSP := Lib.hid hsp
     clear hsp
     go_enter Tryz.func48, Tryz.ntmps48
     go_wp2_with fail
     refine (next_is HST.out.ps Ht.out).mono ?_
     rintro e w1 ⟨rfl, hb⟩
     replace HST := Lib.hid (HST.out.quiet hb)
     clear hb
     go_wp2_with fail
     refine (take_any P z _ _ d _ HST.out.ps).mono ?_
     rintro e w2 ⟨v, rfl, rfl, hps, hbe⟩
     replace HST := Lib.hid (HST.out.read hbe hps)
     clear hps hbe
     unfold tkV
     go_wp2_with fail
     refine (calls_ok (name_any P z r d _ HST.out.ps) HN.out).mono ?_
     rintro e w3 ⟨v, rfl, rfl, hps, hbe⟩
     replace HST := Lib.hid (HST.out.read hbe hps)
     clear hps hbe
     go_wp2_with fail
     refine (calls_ok (want_at HST.out.ps HU.out (by decide)) HW.out).mono ?_
     rintro e w4 ⟨v, rfl, rfl, hps, hbe⟩
     replace HST := Lib.hid (HST.out.read hbe hps)
     clear hps hbe
     go_wp2_with fail
     refine (calls_ok (HX.out _ _ HST.out.ps) HX2.out).mono ?_
     rintro e wn ⟨v, rfl, hv, hps, hbe⟩
     obtain ⟨An, Cn, rfl, hf, hst⟩ := nv_at HST.out hv hps hbe
     replace HST := Lib.hid hst
     simp only at hf ⊢
     generalize hm : nc.len = mn at hf ⊢
     have Hmn := Lib.hid hm
     have HFn := Lib.hid hf
     clear hv hps hbe hst hf hm
     have HROW := Lib.hid (rowF1 wn (w.heap.size + 1) HST.out.size nk nx ny nc _ HFn.out)
     have hb := (Below.refl (wn).heap.size (wn)).alloc (Nat.le_refl _) (.cells #[.int .i64 nk, .string nx, .string ny, .slice An mn Cn] 24)
     replace HST := Lib.hid (HST.out.quiet hb)
     clear hb
     go_wp2_with fail
     refine (node_any 4 s _ _ _ _).mono ?_
     rintro e w6 ⟨rfl, hb⟩
     replace HST := Lib.hid (HST.out.quiet hb)
     replace HROW := Lib.hid (fsq HROW.out hb)
     clear hb
     obtain ⟨⟨r0, r1, r2, r3, y0, y1, y2, y3⟩, g0, g1, g2, g3⟩ := HST.out.frz
     try unfold e0
     go_wp2
     have hfin := HST.out.ret HSP.out rfl HROW.out
     refine bodyPost_ret (results_cell_row rfl _ _ w.heap.size 24 _ (0, 0) _ rfl hfin.1 Tryz.underlying24 rfl hi_nd) rfl ?_
     exact hfin.2
 | false =>
 rw [if_neg (isT_no b2)] at hsp
 cases b3 : (tx.toList == [116, 121, 112, 101]) with
 | true =>
  rw [if_pos (isT_yes b3)] at hsp
  obtain ⟨t', r, rfl⟩ := isT_cons (z := z) (l := l) (u := [116, 121, 112, 101]) (by rw [Ht.out]; exact b3) (by decide)
  obtain rfl : t' = ⟨tk, tx, tp, tf⟩ := Ht.out
  rw [List.tail_cons] at hsp
  clear HV HF
  cases hn : name z r with
  | bad p er =>
   rw [hn, Rd.bind_bad] at hsp
   have HSP := Lib.hid hsp
   have HN := Lib.hid hn
   clear hsp hn
   go_enter Tryz.func48, Tryz.ntmps48
   go_wp2_with fail
   refine (next_is HST.out.ps Ht.out).mono ?_
   rintro e w1 ⟨rfl, hb⟩
   replace HST := Lib.hid (HST.out.quiet hb)
   clear hb
   go_wp2_with fail
   refine (take_any P z _ _ d _ HST.out.ps).mono ?_
   rintro e w2 ⟨v, rfl, rfl, hps, hbe⟩
   replace HST := Lib.hid (HST.out.read hbe hps)
   clear hps hbe
   unfold tkV
   go_wp2_with fail
   refine (calls_bad (name_any P z r d _ HST.out.ps) HN.out).mono ?_
   rintro e w3 ⟨rfl, hbe⟩
   have HE := Lib.hid (HST.out.bes.trans hbe)
   clear hbe
   go_wp2
   exact ⟨rfl, rpost_bad HSP.out HE.out⟩
  | ok s l2 =>
   rw [hn, Rd.bind_ok] at hsp
   have HN := Lib.hid hn
   clear hn
   cases hx : tyR z d l2 with
   | bad p er =>
    rw [hx, Rd.bind_bad] at hsp
    have HSP := Lib.hid hsp
    have HX2 := Lib.hid hx
    clear hsp hx
    go_enter Tryz.func48, Tryz.ntmps48
    go_wp2_with fail
    refine (next_is HST.out.ps Ht.out).mono ?_
    rintro e w1 ⟨rfl, hb⟩
    replace HST := Lib.hid (HST.out.quiet hb)
    clear hb
    go_wp2_with fail
    refine (take_any P z _ _ d _ HST.out.ps).mono ?_
    rintro e w2 ⟨v, rfl, rfl, hps, hbe⟩
    replace HST := Lib.hid (HST.out.read hbe hps)
    clear hps hbe
    unfold tkV
    go_wp2_with fail
    refine (calls_ok (name_any P z r d _ HST.out.ps) HN.out).mono ?_
    rintro e w3 ⟨v, rfl, rfl, hps, hbe⟩
    replace HST := Lib.hid (HST.out.read hbe hps)
    clear hps hbe
    go_wp2_with fail
    refine (calls_bad (HT.out _ _ HST.out.ps) HX2.out).mono ?_
    rintro e w4 ⟨rfl, hbe⟩
    have HE := Lib.hid (HST.out.bes.trans hbe)
    clear hbe
    go_wp2
    exact ⟨rfl, rpost_bad HSP.out HE.out⟩
   | ok n l4 =>
    obtain ⟨nk, nx, ny, nc⟩ := n
    rw [hx, Rd.bind_ok] at hsp
    have HX2 := Lib.hid hx
    clear hx
    have HSP := Lib.hid hsp
    clear hsp
    go_enter Tryz.func48, Tryz.ntmps48
    go_wp2_with fail
    refine (next_is HST.out.ps Ht.out).mono ?_
    rintro e w1 ⟨rfl, hb⟩
    replace HST := Lib.hid (HST.out.quiet hb)
    clear hb
    go_wp2_with fail
    refine (take_any P z _ _ d _ HST.out.ps).mono ?_
    rintro e w2 ⟨v, rfl, rfl, hps, hbe⟩
    replace HST := Lib.hid (HST.out.read hbe hps)
    clear hps hbe
    unfold tkV
    go_wp2_with fail
    refine (calls_ok (name_any P z r d _ HST.out.ps) HN.out).mono ?_
    rintro e w3 ⟨v, rfl, rfl, hps, hbe⟩
    replace HST := Lib.hid (HST.out.read hbe hps)
    clear hps hbe
    go_wp2_with fail
    refine (calls_ok (HT.out _ _ HST.out.ps) HX2.out).mono ?_
    rintro e wn ⟨v, rfl, hv, hps, hbe⟩
    obtain ⟨An, Cn, rfl, hf, hst⟩ := nv_at HST.out hv hps hbe
    replace HST := Lib.hid hst
    simp only at hf ⊢
    generalize hm : nc.len = mn at hf ⊢
    have Hmn := Lib.hid hm
    have HFn := Lib.hid hf
    clear hv hps hbe hst hf hm
    have HROW := Lib.hid (rowF1 wn (w.heap.size + 1) HST.out.size nk nx ny nc _ HFn.out)
    have hb := (Below.refl (wn).heap.size (wn)).alloc (Nat.le_refl _) (.cells #[.int .i64 nk, .string nx, .string ny, .slice An mn Cn] 24)
    replace HST := Lib.hid (HST.out.quiet hb)
    clear hb
    go_wp2_with fail
    refine (node_any 6 s _ _ _ _).mono ?_
    rintro e w5 ⟨rfl, hb⟩
    replace HST := Lib.hid (HST.out.quiet hb)
    replace HROW := Lib.hid (fsq HROW.out hb)
    clear hb
    obtain ⟨⟨r0, r1, r2, r3, y0, y1, y2, y3⟩, g0, g1, g2, g3⟩ := HST.out.frz
    try unfold e0
    go_wp2
    have hfin := HST.out.ret HSP.out rfl HROW.out
    refine bodyPost_ret (results_cell_row rfl _ _ w.heap.size 24 _ (0, 0) _ rfl hfin.1 Tryz.underlying24 rfl hi_nd) rfl ?_
    exact hfin.2
 | false =>
 rw [if_neg (isT_no b3)] at hsp
 cases b4 : (tx.toList == [118, 97, 114]) with
 | true =>
  rw [if_pos (isT_yes b4)] at hsp
  have HSP := Lib.hid hsp
  clear hsp
  generalize hq : varR z d l = Rq at HV HSP
  clear hq
  go_enter Tryz.func48, Tryz.ntmps48
  go_wp2_with fail
  refine (next_is HST.out.ps Ht.out).mono ?_
  rintro e w1 ⟨rfl, hb⟩
  replace HST := Lib.hid (HST.out.quiet hb)
  clear hb
  go_wp2_with fail
  refine (HV.out _ HST.out.ps).mono ?_
  intro e W hp
  rcases pass_ok HST.out hp with ⟨p, er, hR, rfl, hbe⟩ | ⟨k, x, y, c, l2, A, C, hR, rfl, hf, hst⟩
  ·have HE9 := Lib.hid hbe
   have HR := Lib.hid hR
   clear hp hbe hR HST
   go_wp2
   exact ⟨rfl, rpost_bad (HSP.out.trans HR.out) HE9.out⟩
  ·have HS := Lib.hid hst
   have HFq := Lib.hid hf
   have HR := Lib.hid hR
   obtain ⟨⟨r0, r1, r2, r3, y0, y1, y2, y3⟩, g0, g1, g2, g3⟩ := hst.frz
   generalize hm : c.len = m at *
   have Hm := Lib.hid hm
   clear hp hf hst hR HST hm
   go_wp2
   have hfin := HS.out.ret (HSP.out.trans HR.out) Hm.out.symm HFq.out
   refine bodyPost_ret (results_cell_row rfl _ _ w.heap.size 24 _ (0, 0) _ rfl hfin.1 Tryz.underlying24 rfl hi_nd) rfl ?_
   exact hfin.2
 | false =>
 rw [if_neg (isT_no b4)] at hsp
 have HSP := Lib.hid hsp
 clear hsp
 generalize hq : funcR z d l = Rq at HF HSP
 clear hq
 go_enter Tryz.func48, Tryz.ntmps48
 go_wp2_with fail
 refine (next_is HST.out.ps Ht.out).mono ?_
 rintro e w1 ⟨rfl, hb⟩
 replace HST := Lib.hid (HST.out.quiet hb)
 clear hb
 go_wp2_with fail
 refine (HF.out _ HST.out.ps).mono ?_
 intro e W hp
 rcases pass_ok HST.out hp with ⟨p, er, hR, rfl, hbe⟩ | ⟨k, x, y, c, l2, A, C, hR, rfl, hf, hst⟩
 ·have HE9 := Lib.hid hbe
  have HR := Lib.hid hR
  clear hp hbe hR HST
  go_wp2
  exact ⟨rfl, rpost_bad (HSP.out.trans HR.out) HE9.out⟩
 ·have HS := Lib.hid hst
  have HFq := Lib.hid hf
  have HR := Lib.hid hR
  obtain ⟨⟨r0, r1, r2, r3, y0, y1, y2, y3⟩, g0, g1, g2, g3⟩ := hst.frz
  generalize hm : c.len = m at *
  have Hm := Lib.hid hm
  clear hp hf hst hR HST hm
  go_wp2
  have hfin := HS.out.ret (HSP.out.trans HR.out) Hm.out.symm HFq.out
  refine bodyPost_ret (results_cell_row rfl _ _ w.heap.size 24 _ (0, 0) _ rfl hfin.1 Tryz.underlying24 rfl hi_nd) rfl ?_
  exact hfin.2

theorem ent_decl : EnteredP 48 := by intro args w; simp [go_sem]
theorem decl_rd (P z N : Nat) : RdOk 48 P z N (declR z) := fun W d l _ hd hps => decl_any P z l d W hps hd
end Go.Proofs.YtaiihnniblibaaaGreatDoor.Parse
