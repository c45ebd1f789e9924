/-
 Layer 6 (parse): statements that begin with an expression.
-/
import Derived.Test.YtaiihnniblibaaaGreatDoorParseRet
namespace Go.Proofs.YtaiihnniblibaaaGreatDoor.Parse
open Go.ChangeShapes Go.WideShapes Go.ChangeAt Go.RowKit Tree MemT Mem
set_option linter.unusedVariables false

theorem must_bad {z : Nat} {f : Bool} {l : List Tk} (h : f = false) : must z f l = .bad (Parse.hd z l).place 5 := by unfold must; rw [h]; rfl
theorem must_ok {z : Nat} {f : Bool} {l : List Tk} (h : f = true) : must z f l = .ok () l := by unfold must; rw [h]; rfl

set_option maxHeartbeats 32000000 in
set_option maxRecDepth 100000 in
theorem simple_bad (P z : Nat) (l : List Tk) (d : Nat) (w : World) (h : PS w P z l d) (hd : d ≤ 300) (p : Nat) (er : Int) (hx : exR z d l = .bad p er) :
  Calls Tryz.prog 118 #[.pointer (some ⟨P, 0, none⟩)] w (RPost NV w P z d (simpleR z d l)) := by
 have hlt := h.lt
 have HST := Lib.hid (StX.start h)
 have hsp : simpleR z d l = simpleR z d l := rfl
 conv at hsp => rhs; unfold simpleR
 have hP0 : P < w.heap.size + 1 := by omega
 have hRP : w.heap.size ≠ P := by omega
 have HX : Hid (∀ W l', PS W P z l' d → Calls Tryz.prog 71 #[.pointer (some ⟨P, 0, none⟩)] W (RPost NV W P z d (exR z d l'))) := fun W l' hW => ex_rd P z (l'.length + 1) W d l' (Nat.lt_succ_self _) hd hW
 clear h
 rw [hx, Rd.bind_bad] at hsp
 have HSP := Lib.hid hsp
 have HX2 := Lib.hid hx
 clear hsp hx
 go_enter Tryz.func118, Tryz.ntmps118
 go_wp2_with fail
 refine (calls_bad (HX.out _ _ HST.out.ps) HX2.out).mono ?_
 rintro e w1 ⟨rfl, hbe⟩
 have HE := Lib.hid (HST.out.bes.trans hbe)
 clear hbe
 go_wp2
 exact ⟨rfl, rpost_bad HSP.out HE.out⟩

set_option maxHeartbeats 32000000 in
set_option maxRecDepth 100000 in
theorem simple_def (P z : Nat) (l : List Tk) (d : Nat) (w : World) (h : PS w P z l d) (hd : d ≤ 300) (nk : Int) (nx ny : ByteArray) (nc : F) (l1 : List Tk) (hx : exR z d l = .ok ⟨nk, nx, ny, nc⟩ l1) (tk : Int) (tx : ByteArray) (tp : Nat) (tf : Bool) (ht : Parse.hd z l1 = ⟨tk, tx, tp, tf⟩) (hb : (tx.toList == [58, 61]) = true) :
  Calls Tryz.prog 118 #[.pointer (some ⟨P, 0, none⟩)] w (RPost NV w P z d (simpleR z d l)) := by
 have hlt := h.lt
 have HST := Lib.hid (StX.start h)
 have hsp : simpleR z d l = simpleR z d l := rfl
 conv at hsp => rhs; unfold simpleR
 have hP0 : P < w.heap.size + 1 := by omega
 have hRP : w.heap.size ≠ P := by omega
 have HX : Hid (∀ W l', PS W P z l' d → Calls Tryz.prog 71 #[.pointer (some ⟨P, 0, none⟩)] W (RPost NV W P z d (exR z d l'))) := fun W l' hW => ex_rd P z (l'.length + 1) W d l' (Nat.lt_succ_self _) hd hW
 clear h
 rw [hx, Rd.bind_ok, ht] at hsp
 have hf1 := fld1 tk tx tp tf
 have HX2 := Lib.hid hx
 have Ht := Lib.hid ht
 clear hx ht
 rw [if_pos (isT_yes hb)] at hsp
 have HB := Lib.hid hb
 obtain ⟨t', r, rfl⟩ := isT_cons (z := z) (l := l1) (u := [58, 61]) (by rw [Ht.out]; exact HB.out) (by decide)
 obtain rfl : t' = ⟨tk, tx, tp, tf⟩ := Ht.out
 obtain ⟨kb, hkb⟩ : ∃ kb, (nk == 9) = kb := ⟨_, rfl⟩
 rw [hkb] at hsp
 have HK9 := Lib.hid hkb
 clear hkb
 cases kb with
 | false =>
  rw [must_bad rfl, Rd.bind_bad] at hsp
  have HSP := Lib.hid hsp
  clear hsp
  go_enter Tryz.func118, Tryz.ntmps118
  go_wp2_with fail
  refine (calls_ok (HX.out _ _ HST.out.ps) HX2.out).mono ?_
  rintro e wx ⟨v, rfl, ⟨An, Cn, rfl, hf⟩, hps, hbe⟩
  have hf' := mi_more (B0' := w.heap.size + 1) hf HST.out.size (Nat.le_refl _)
  replace HST := Lib.hid (HST.out.read hbe hps)
  simp only at hf' ⊢
  generalize hm : nc.len = mn at hf' ⊢
  have Hmn := Lib.hid hm
  have hba := (Below.refl wx.heap.size wx).alloc (Nat.le_refl _) (.cells #[.int .i64 nk, .string nx, .string ny, .slice An mn Cn] 24)
  have HX3 := Lib.hid (box4_new wx 24 (.int .i64 nk) (.string nx) (.string ny) (.slice An mn Cn))
  have hNPHX3 : wx.heap.size ≠ P := by have := HST.out.size; omega
  have h3R := HST.out.size
  have HFn := Lib.hid (mx_of (B0 := w.heap.size + 1) (g := wx.heap.size) (g' := wx.heap.size) (mi_later hf' hba (Nat.le_refl _)) (Nat.le_refl _) (.inr (Nat.le_refl _)) (.inr (Nat.le_refl _)) hba.size)
  replace HST := Lib.hid (HST.out.quiet hba)
  clear hf hf' hps hbe hm hba HX2
  go_wp2_with fail
  refine (next_is HST.out.ps Ht.out).mono ?_
  rintro e wt ⟨rfl, hb⟩
  replace HST := Lib.hid (HST.out.quiet hb)
  replace HFn := Lib.hid (mx_later HFn.out hb hP0)
  replace HX3 := Lib.hid (HX3.out.later hb)
  clear hb
  go_wp2
  clear hf1
  generalize wx.heap.size = gx at *
  refine region_rel (fun W W' => Below W.heap.size W W') [Cd.is (.pointer (some ⟨P, 0, none⟩)), Cd.is (.pointer (some ⟨P, 0, none⟩)), Cd.is (.pointer (some ⟨P, 0, none⟩)), Cd.is (.pointer (some ⟨gx, 0, none⟩)), Cd.is (.int .i64 nk), Cd.is (.bool false), ⟨fun _ _ => False, fun _ _ _ _ h => h⟩] (by kernel_rfl) (by decide) (by kernel_rfl) (Below.refl _ _) (fun _ _ _ h k => h.trans (k.mono h.size)) ?steps ?behind
  case steps =>
   intro xv W hW a ha
   replace hW := undrew hW
   simp only [fillA] at ha
   simp only [List.setIfInBounds_toArray, List.set_cons_succ, List.set_cons_zero, Nat.zero_add, Nat.reduceAdd] at ha
   subst ha
   refine ⟨?s0, ?s1, ?s2, ?s3, ?s4, ?s5, ?s6, trivial⟩
   all_goals intro hd K hK
   all_goals (try simp only [Act.put, List.setIfInBounds_toArray, List.set_cons_succ, List.set_cons_zero] at hK)
   case s0 =>
    clear hd
    refine (if_pos (by rfl)).mpr ?_
    go_simp
    exact hK.out _ _ (Below.refl _ _) rfl
   case s1 =>
    have hx0 : xv 0 = .pointer (some ⟨P, 0, none⟩) := hd 0 (by kernel_rfl)
    clear hd
    rw [hx0] at hK ⊢
    refine (if_pos (by rfl)).mpr ?_
    go_simp
    exact hK.out _ _ (Below.refl _ _) rfl
   case s2 =>
    have hx1 : xv 1 = .pointer (some ⟨P, 0, none⟩) := hd 1 (by kernel_rfl)
    clear hd
    rw [hx1] at hK ⊢
    refine (if_pos (by rfl)).mpr ?_
    go_simp
    exact hK.out _ _ (Below.refl _ _) rfl
   case s3 =>
    clear hd
    refine (if_pos (by rfl)).mpr ?_
    go_simp
    exact hK.out _ _ (Below.refl _ _) rfl
   case s4 =>
    have hx3 : xv 3 = .pointer (some ⟨gx, 0, none⟩) := hd 3 (by kernel_rfl)
    clear hd
    rw [hx3] at hK ⊢
    refine (if_pos (by rfl)).mpr ?_
    obtain ⟨q0, q1, q2, q3⟩ := (HX3.out.later hW).cells
    go_simp
    exact hK.out _ _ (Below.refl _ _) rfl
   case s5 =>
    have hx4 : xv 4 = .int .i64 nk := hd 4 (by kernel_rfl)
    clear hd
    rw [hx4] at hK ⊢
    refine (if_pos (by rfl)).mpr ?_
    have hkk : (nk == 9) = false := HK9.out
    go_simp
    exact hK.out _ _ (Below.refl _ _) rfl
   case s6 =>
    have hx2 : xv 2 = .pointer (some ⟨P, 0, none⟩) := hd 2 (by kernel_rfl)
    have hx5 : xv 5 = .bool false := hd 5 (by kernel_rfl)
    clear hd
    rw [hx2] at hK ⊢
    rw [hx5] at hK ⊢
    refine (if_pos (by rfl)).mpr ?_
    go_simp
    refine (must_no P z _ d W (HST.out.ps.later hW)).mono ?_
    rintro e W' ⟨rfl, hb⟩
    have HE9 := Lib.hid (HST.out.bes.then_ (hW.trans (hb.mono hW.size)))
    rw [Ht.out]
    exact ⟨rfl, rpost_bad HSP.out HE9.out⟩
  case behind =>
   intro xv W hW hx a ha
   replace hW := undrew hW
   simp only [fillA] at ha
   simp only [List.setIfInBounds_toArray, List.set_cons_succ, List.set_cons_zero, Nat.zero_add, Nat.reduceAdd] at ha
   subst ha
   exact (hx 6 (by decide) : False).elim
 | true =>
  rw [must_ok rfl, Rd.bind_ok, List.tail_cons] at hsp
  cases hx2 : exR z d r with
  | bad p er =>
   rw [hx2, Rd.bind_bad] at hsp
   have HSP := Lib.hid hsp
   have HB2 := Lib.hid hx2
   clear hsp hx2
   go_enter Tryz.func118, Tryz.ntmps118
   go_wp2_with fail
   refine (calls_ok (HX.out _ _ HST.out.ps) HX2.out).mono ?_
   rintro e wx ⟨v, rfl, ⟨An, Cn, rfl, hf⟩, hps, hbe⟩
   have hf' := mi_more (B0' := w.heap.size + 1) hf HST.out.size (Nat.le_refl _)
   replace HST := Lib.hid (HST.out.read hbe hps)
   simp only at hf' ⊢
   generalize hm : nc.len = mn at hf' ⊢
   have Hmn := Lib.hid hm
   have hba := (Below.refl wx.heap.size wx).alloc (Nat.le_refl _) (.cells #[.int .i64 nk, .string nx, .string ny, .slice An mn Cn] 24)
   have HX3 := Lib.hid (box4_new wx 24 (.int .i64 nk) (.string nx) (.string ny) (.slice An mn Cn))
   have hNPHX3 : wx.heap.size ≠ P := by have := HST.out.size; omega
   have h3R := HST.out.size
   have HFn := Lib.hid (mx_of (B0 := w.heap.size + 1) (g := wx.heap.size) (g' := wx.heap.size) (mi_later hf' hba (Nat.le_refl _)) (Nat.le_refl _) (.inr (Nat.le_refl _)) (.inr (Nat.le_refl _)) hba.size)
   replace HST := Lib.hid (HST.out.quiet hba)
   clear hf hf' hps hbe hm hba HX2
   go_wp2_with fail
   refine (next_is HST.out.ps Ht.out).mono ?_
   rintro e wt ⟨rfl, hb⟩
   replace HST := Lib.hid (HST.out.quiet hb)
   replace HFn := Lib.hid (mx_later HFn.out hb hP0)
   replace HX3 := Lib.hid (HX3.out.later hb)
   clear hb
   go_wp2
   clear hf1
   generalize wx.heap.size = gx at *
   refine region_rel (fun W W' => Below W.heap.size W W') [Cd.is (.pointer (some ⟨P, 0, none⟩)), Cd.is (.pointer (some ⟨P, 0, none⟩)), Cd.is (.pointer (some ⟨P, 0, none⟩)), Cd.is (.pointer (some ⟨gx, 0, none⟩)), Cd.is (.int .i64 nk), Cd.is (.bool true), Cd.any] (by kernel_rfl) (by decide) (by kernel_rfl) (Below.refl _ _) (fun _ _ _ h k => h.trans (k.mono h.size)) ?steps ?behind
   case steps =>
    intro xv W hW a ha
    replace hW := undrew hW
    simp only [fillA] at ha
    simp only [List.setIfInBounds_toArray, List.set_cons_succ, List.set_cons_zero, Nat.zero_add, Nat.reduceAdd] at ha
    subst ha
    refine ⟨?s0, ?s1, ?s2, ?s3, ?s4, ?s5, ?s6, trivial⟩
    all_goals intro hd K hK
    all_goals (try simp only [Act.put, List.setIfInBounds_toArray, List.set_cons_succ, List.set_cons_zero] at hK)
    case s0 =>
     clear hd
     refine (if_pos (by rfl)).mpr ?_
     go_simp
     exact hK.out _ _ (Below.refl _ _) rfl
    case s1 =>
     have hx0 : xv 0 = .pointer (some ⟨P, 0, none⟩) := hd 0 (by kernel_rfl)
     clear hd
     rw [hx0] at hK ⊢
     refine (if_pos (by rfl)).mpr ?_
     go_simp
     exact hK.out _ _ (Below.refl _ _) rfl
    case s2 =>
     have hx1 : xv 1 = .pointer (some ⟨P, 0, none⟩) := hd 1 (by kernel_rfl)
     clear hd
     rw [hx1] at hK ⊢
     refine (if_pos (by rfl)).mpr ?_
     go_simp
     exact hK.out _ _ (Below.refl _ _) rfl
    case s3 =>
     clear hd
     refine (if_pos (by rfl)).mpr ?_
     go_simp
     exact hK.out _ _ (Below.refl _ _) rfl
    case s4 =>
     have hx3 : xv 3 = .pointer (some ⟨gx, 0, none⟩) := hd 3 (by kernel_rfl)
     clear hd
     rw [hx3] at hK ⊢
     refine (if_pos (by rfl)).mpr ?_
     obtain ⟨q0, q1, q2, q3⟩ := (HX3.out.later hW).cells
     go_simp
     exact hK.out _ _ (Below.refl _ _) rfl
    case s5 =>
     have hx4 : xv 4 = .int .i64 nk := hd 4 (by kernel_rfl)
     clear hd
     rw [hx4] at hK ⊢
     refine (if_pos (by rfl)).mpr ?_
     have hkk : (nk == 9) = true := HK9.out
     go_simp
     exact hK.out _ _ (Below.refl _ _) rfl
    case s6 =>
     have hx2 : xv 2 = .pointer (some ⟨P, 0, none⟩) := hd 2 (by kernel_rfl)
     have hx5 : xv 5 = .bool true := hd 5 (by kernel_rfl)
     clear hd
     rw [hx2] at hK ⊢
     rw [hx5] at hK ⊢
     refine (if_pos (by rfl)).mpr ?_
     go_simp
     refine (must_yes P W).mono ?_
     rintro e W' ⟨rfl, rfl⟩
     exact hK.out _ _ (Below.refl _ _) trivial
   case behind =>
    intro xv W hW hx a ha
    replace hW := undrew hW
    simp only [fillA] at ha
    simp only [List.setIfInBounds_toArray, List.set_cons_succ, List.set_cons_zero, Nat.zero_add, Nat.reduceAdd] at ha
    subst ha
    replace HX3 := Lib.hid (HX3.out.later hW)
    replace HFn := Lib.hid (mx_later HFn.out hW hP0)
    replace HST := Lib.hid (HST.out.quiet hW)
    clear hx hW
    go_wp2_with fail
    refine (take_any P z _ _ d _ HST.out.ps).mono ?_
    rintro e wd ⟨v, rfl, rfl, hps, hbe⟩
    replace HST := Lib.hid (HST.out.read hbe hps)
    replace HFn := Lib.hid (mx_bes HFn.out hbe hP0)
    replace HX3 := Lib.hid (HX3.out.bes hbe hNPHX3)
    clear hps hbe
    unfold tkV
    have hx3l := HX3.out.lt
    go_wp2
    refine region_ph [3, 6] (GN 3 6 P z d r r (FinYy w.heap.size gx gx noneN) (BxA w.heap.size)) (Bes2 P (w.heap.size)) [Cd.is (.string tx), Cd.is (.agg #[.int .i64 nk, .string nx, .string ny, .slice An mn Cn]), Cd.is (.pointer (some ⟨P, 0, none⟩)), cNo, cNo, cNo, cNo] (by kernel_rfl) (by decide) (by kernel_rfl) (Bes2.refl _ _ _) (fun _ _ _ h k => h.trans k) (fun _ _ h => Bes2.of h) (GN.keep (FinYy.later hP0) BxA.later) ?start ?steps ?behind
    case start =>
     intro x
     exact ⟨fun h => (by cases h), fun _ => HST.out.bx, fun h => (by cases h), fun _ => HST.out.ps.drewN 1⟩
    case steps =>
     intro xv W hW a ha
     replace hW := hW.undrew
     simp only [fillA] at ha
     simp only [List.setIfInBounds_toArray, List.set_cons_succ, List.set_cons_zero, Nat.zero_add, Nat.reduceAdd] at ha
     subst ha
     refine ⟨?s0, ?s1, ?s2, ?s3, ?s4, ?s5, ?s6, trivial⟩
     all_goals intro dn hdi hdw hcl hphi hg K hK
     all_goals (try simp only [Act.put, List.setIfInBounds_toArray, List.set_cons_succ, List.set_cons_zero] at hK)
     case s0 =>
      clear hphi hdw
      refine (if_pos (by rfl)).mpr ?_
      go_simp
      exact hK.out _ _ (Below.refl _ _) rfl
     case s1 =>
      clear hphi hdw
      refine (if_pos (by rfl)).mpr ?_
      obtain ⟨q0, q1, q2, q3⟩ := (HX3.out.bes2 hW hNPHX3 (by omega)).cells
      go_simp
      exact hK.out _ _ (Below.refl _ _) rfl
     case s2 =>
      clear hphi hdw
      refine (if_pos (by rfl)).mpr ?_
      go_simp
      exact hK.out _ _ (Below.refl _ _) rfl
     case s3 =>
      have hx2 : xv 2 = .pointer (some ⟨P, 0, none⟩) := hphi 2 (hdw 2 (by kernel_rfl))
      clear hphi hdw
      rw [hx2] at hK ⊢
      refine (if_pos (by rfl)).mpr ?_
      go_simp
      refine (calls_bad (HX.out W _ (hg.2.2.2 hdi)) HB2.out).mono ?_
      rintro e W' ⟨rfl, hbe⟩
      exact ⟨rfl, rpost_bad HSP.out (Bes2.back HST.out.bes (hW.trans (Bes2.bes hbe)) (Nat.le_refl _))⟩
     case s4 =>
      have hx1 : xv 1 = .agg #[.int .i64 nk, .string nx, .string ny, .slice An mn Cn] := hphi 1 (hdw 1 (by kernel_rfl))
      have hno : False := hphi 3 (hdw 3 (by kernel_rfl))
      exact hno.elim
     case s5 =>
      have hno : False := hphi 4 (hdw 4 (by kernel_rfl))
      exact hno.elim
     case s6 =>
      have hno : False := hphi 5 (hdw 5 (by kernel_rfl))
      exact hno.elim
    case behind =>
     intro dn xv W hW hall hx hg a ha
     replace hW := hW.undrew
     simp only [fillA] at ha
     simp only [List.setIfInBounds_toArray, List.set_cons_succ, List.set_cons_zero, Nat.zero_add, Nat.reduceAdd] at ha
     subst ha
     exact (hx 3 (by decide) : False).elim
  | ok b l3 =>
   obtain ⟨bk, bx, by', bc⟩ := b
   rw [hx2, Rd.bind_ok] at hsp
   have HSP := Lib.hid hsp
   have HB2 := Lib.hid hx2
   clear hsp hx2
   go_enter Tryz.func118, Tryz.ntmps118
   go_wp2_with fail
   refine (calls_ok (HX.out _ _ HST.out.ps) HX2.out).mono ?_
   rintro e wx ⟨v, rfl, ⟨An, Cn, rfl, hf⟩, hps, hbe⟩
   have hf' := mi_more (B0' := w.heap.size + 1) hf HST.out.size (Nat.le_refl _)
   replace HST := Lib.hid (HST.out.read hbe hps)
   simp only at hf' ⊢
   generalize hm : nc.len = mn at hf' ⊢
   have Hmn := Lib.hid hm
   have hba := (Below.refl wx.heap.size wx).alloc (Nat.le_refl _) (.cells #[.int .i64 nk, .string nx, .string ny, .slice An mn Cn] 24)
   have HX3 := Lib.hid (box4_new wx 24 (.int .i64 nk) (.string nx) (.string ny) (.slice An mn Cn))
   have hNPHX3 : wx.heap.size ≠ P := by have := HST.out.size; omega
   have h3R := HST.out.size
   have HFn := Lib.hid (mx_of (B0 := w.heap.size + 1) (g := wx.heap.size) (g' := wx.heap.size) (mi_later hf' hba (Nat.le_refl _)) (Nat.le_refl _) (.inr (Nat.le_refl _)) (.inr (Nat.le_refl _)) hba.size)
   replace HST := Lib.hid (HST.out.quiet hba)
   clear hf hf' hps hbe hm hba HX2
   go_wp2_with fail
   refine (next_is HST.out.ps Ht.out).mono ?_
   rintro e wt ⟨rfl, hb⟩
   replace HST := Lib.hid (HST.out.quiet hb)
   replace HFn := Lib.hid (mx_later HFn.out hb hP0)
   replace HX3 := Lib.hid (HX3.out.later hb)
   clear hb
   go_wp2
   clear hf1
   generalize wx.heap.size = gx at *
   refine region_rel (fun W W' => Below W.heap.size W W') [Cd.is (.pointer (some ⟨P, 0, none⟩)), Cd.is (.pointer (some ⟨P, 0, none⟩)), Cd.is (.pointer (some ⟨P, 0, none⟩)), Cd.is (.pointer (some ⟨gx, 0, none⟩)), Cd.is (.int .i64 nk), Cd.is (.bool true), Cd.any] (by kernel_rfl) (by decide) (by kernel_rfl) (Below.refl _ _) (fun _ _ _ h k => h.trans (k.mono h.size)) ?steps ?behind
   case steps =>
    intro xv W hW a ha
    replace hW := undrew hW
    simp only [fillA] at ha
    simp only [List.setIfInBounds_toArray, List.set_cons_succ, List.set_cons_zero, Nat.zero_add, Nat.reduceAdd] at ha
    subst ha
    refine ⟨?s0, ?s1, ?s2, ?s3, ?s4, ?s5, ?s6, trivial⟩
    all_goals intro hd K hK
    all_goals (try simp only [Act.put, List.setIfInBounds_toArray, List.set_cons_succ, List.set_cons_zero] at hK)
    case s0 =>
     clear hd
     refine (if_pos (by rfl)).mpr ?_
     go_simp
     exact hK.out _ _ (Below.refl _ _) rfl
    case s1 =>
     have hx0 : xv 0 = .pointer (some ⟨P, 0, none⟩) := hd 0 (by kernel_rfl)
     clear hd
     rw [hx0] at hK ⊢
     refine (if_pos (by rfl)).mpr ?_
     go_simp
     exact hK.out _ _ (Below.refl _ _) rfl
    case s2 =>
     have hx1 : xv 1 = .pointer (some ⟨P, 0, none⟩) := hd 1 (by kernel_rfl)
     clear hd
     rw [hx1] at hK ⊢
     refine (if_pos (by rfl)).mpr ?_
     go_simp
     exact hK.out _ _ (Below.refl _ _) rfl
    case s3 =>
     clear hd
     refine (if_pos (by rfl)).mpr ?_
     go_simp
     exact hK.out _ _ (Below.refl _ _) rfl
    case s4 =>
     have hx3 : xv 3 = .pointer (some ⟨gx, 0, none⟩) := hd 3 (by kernel_rfl)
     clear hd
     rw [hx3] at hK ⊢
     refine (if_pos (by rfl)).mpr ?_
     obtain ⟨q0, q1, q2, q3⟩ := (HX3.out.later hW).cells
     go_simp
     exact hK.out _ _ (Below.refl _ _) rfl
    case s5 =>
     have hx4 : xv 4 = .int .i64 nk := hd 4 (by kernel_rfl)
     clear hd
     rw [hx4] at hK ⊢
     refine (if_pos (by rfl)).mpr ?_
     have hkk : (nk == 9) = true := HK9.out
     go_simp
     exact hK.out _ _ (Below.refl _ _) rfl
    case s6 =>
     have hx2 : xv 2 = .pointer (some ⟨P, 0, none⟩) := hd 2 (by kernel_rfl)
     have hx5 : xv 5 = .bool true := hd 5 (by kernel_rfl)
     clear hd
     rw [hx2] at hK ⊢
     rw [hx5] at hK ⊢
     refine (if_pos (by rfl)).mpr ?_
     go_simp
     refine (must_yes P W).mono ?_
     rintro e W' ⟨rfl, rfl⟩
     exact hK.out _ _ (Below.refl _ _) trivial
   case behind =>
    intro xv W hW hx a ha
    replace hW := undrew hW
    simp only [fillA] at ha
    simp only [List.setIfInBounds_toArray, List.set_cons_succ, List.set_cons_zero, Nat.zero_add, Nat.reduceAdd] at ha
    subst ha
    replace HX3 := Lib.hid (HX3.out.later hW)
    replace HFn := Lib.hid (mx_later HFn.out hW hP0)
    replace HST := Lib.hid (HST.out.quiet hW)
    clear hx hW
    go_wp2_with fail
    refine (take_any P z _ _ d _ HST.out.ps).mono ?_
    rintro e wd ⟨v, rfl, rfl, hps, hbe⟩
    replace HST := Lib.hid (HST.out.read hbe hps)
    replace HFn := Lib.hid (mx_bes HFn.out hbe hP0)
    replace HX3 := Lib.hid (HX3.out.bes hbe hNPHX3)
    clear hps hbe
    unfold tkV
    have hx3l := HX3.out.lt
    go_wp2
    refine region_ph [3, 6] (GN 3 6 P z d r l3 (FinYy w.heap.size gx gx (Parse.node 21 tx (oneF ⟨nk, nx, ny, nc⟩ (one ⟨bk, bx, by', bc⟩)))) (BxA w.heap.size)) (Bes2 P (w.heap.size)) [Cd.is (.string tx), Cd.is (.agg #[.int .i64 nk, .string nx, .string ny, .slice An mn Cn]), Cd.is (.pointer (some ⟨P, 0, none⟩)), cNdY gx gx hP0 ⟨bk, bx, by', bc⟩, cRowY gx gx hP0 (oneF ⟨nk, nx, ny, nc⟩ (one ⟨bk, bx, by', bc⟩)), cNdY gx gx hP0 (Parse.node 21 tx (oneF ⟨nk, nx, ny, nc⟩ (one ⟨bk, bx, by', bc⟩))), Cd.any] (by kernel_rfl) (by decide) (by kernel_rfl) (Bes2.refl _ _ _) (fun _ _ _ h k => h.trans k) (fun _ _ h => Bes2.of h) (GN.keep (FinYy.later hP0) BxA.later) ?start ?steps ?behind
    case start =>
     intro x
     exact ⟨fun h => (by cases h), fun _ => HST.out.bx, fun h => (by cases h), fun _ => HST.out.ps.drewN 1⟩
    case steps =>
     intro xv W hW a ha
     replace hW := hW.undrew
     simp only [fillA] at ha
     simp only [List.setIfInBounds_toArray, List.set_cons_succ, List.set_cons_zero, Nat.zero_add, Nat.reduceAdd] at ha
     subst ha
     refine ⟨?s0, ?s1, ?s2, ?s3, ?s4, ?s5, ?s6, trivial⟩
     all_goals intro dn hdi hdw hcl hphi hg K hK
     all_goals (try simp only [Act.put, List.setIfInBounds_toArray, List.set_cons_succ, List.set_cons_zero] at hK)
     case s0 =>
      clear hphi hdw
      refine (if_pos (by rfl)).mpr ?_
      go_simp
      exact hK.out _ _ (Below.refl _ _) rfl
     case s1 =>
      clear hphi hdw
      refine (if_pos (by rfl)).mpr ?_
      obtain ⟨q0, q1, q2, q3⟩ := (HX3.out.bes2 hW hNPHX3 (by omega)).cells
      go_simp
      exact hK.out _ _ (Below.refl _ _) rfl
     case s2 =>
      clear hphi hdw
      refine (if_pos (by rfl)).mpr ?_
      go_simp
      exact hK.out _ _ (Below.refl _ _) rfl
     case s3 =>
      have hx2 : xv 2 = .pointer (some ⟨P, 0, none⟩) := hphi 2 (hdw 2 (by kernel_rfl))
      clear hphi hdw
      rw [hx2] at hK ⊢
      refine (if_pos (by rfl)).mpr ?_
      go_simp
      refine (calls_ok (HX.out W _ (hg.2.2.2 hdi)) HB2.out).mono ?_
      rintro e W' ⟨v, rfl, hv, hps, hbe⟩
      exact hK.out _ _ ⟨Bes2.bes hbe, GN.call (by decide) hg (notYet hcl hdi (by kernel_rfl)) (fun h => h.bes hbe hRP) hps⟩ (mx_new hv (by have hh := HST.out.size; have hw := hW.size; have hq0 := HX3.out.lt; omega) (by have hh := HST.out.size; have hw := hW.size; have hq0 := HX3.out.lt; omega) (by have hh := HST.out.size; have hw := hW.size; have hq0 := HX3.out.lt; omega))
     case s4 =>
      have hx1 : xv 1 = .agg #[.int .i64 nk, .string nx, .string ny, .slice An mn Cn] := hphi 1 (hdw 1 (by kernel_rfl))
      obtain ⟨A3, C3, hx3, hf3⟩ : NdX (w.heap.size + 1) gx gx ⟨bk, bx, by', bc⟩ (xv 3) W := hphi 3 (hdw 3 (by kernel_rfl))
      clear hphi hdw
      rw [hx3] at hK ⊢
      rw [hx1] at hK ⊢
      refine (if_pos (by rfl)).mpr ?_
      go_simp
      exact hK.out _ _ ((Below.refl _ _).alloc (Nat.le_refl _) _) (rowX2 W (w.heap.size + 1) gx gx P (by have hh := HST.out.size; have hw := hW.size; have hq0 := HX3.out.lt; omega) (by have hh := HST.out.size; have hw := hW.size; have hq0 := HX3.out.lt; omega) (by have hh := HST.out.size; have hw := hW.size; have hq0 := HX3.out.lt; omega) hP0 nk nx ny nc _ (mxR HFn.out hW hP0) bk bx by' bc _ hf3)
     case s5 =>
      have hx0 : xv 0 = .string tx := hphi 0 (hdw 0 (by kernel_rfl))
      obtain ⟨A4, C4, hx4, hf4⟩ : RowX (w.heap.size + 1) gx gx (oneF ⟨nk, nx, ny, nc⟩ (one ⟨bk, bx, by', bc⟩)) (xv 4) W := hphi 4 (hdw 4 (by kernel_rfl))
      clear hphi hdw
      rw [hx4] at hK ⊢
      rw [hx0] at hK ⊢
      refine (if_pos (by rfl)).mpr ?_
      go_simp
      refine (node_any _ _ _ _ _ W).mono ?_
      rintro e W' ⟨rfl, hb⟩
      exact hK.out _ _ hb ⟨A4, C4, rfl, mx_later hf4 hb hP0⟩
     case s6 =>
      obtain ⟨A5, C5, hx5, hf5⟩ : NdX (w.heap.size + 1) gx gx (Parse.node 21 tx (oneF ⟨nk, nx, ny, nc⟩ (one ⟨bk, bx, by', bc⟩))) (xv 5) W := hphi 5 (hdw 5 (by kernel_rfl))
      rw [hx5] at hK ⊢
      refine (if_pos (by rfl)).mpr ?_
      have hds : dn 3 = true := hdw 3 (by kernel_rfl)
      have hbx := hg.2.1 hdi
      obtain ⟨b0, b1, b2, b3, hbx4⟩ := id hbx
      obtain ⟨g0, g1, g2, g3⟩ := hbx4.frz
      obtain ⟨y0, y1, y2, y3⟩ := hbx4.cells
      simp only [Parse.node] at hf5 hK ⊢
      go_simp
      exact hK.out undef _ ⟨Bes2.set4 _ _ _ _ _, GN.store (by decide) (hds) (finY_set hbx4 rfl hf5) (ps_set4 (hg.2.2.1 hds) (by omega) _ _ _ _)⟩ trivial
    case behind =>
     intro dn xv W hW hall hx hg a ha
     replace hW := hW.undrew
     simp only [fillA] at ha
     simp only [List.setIfInBounds_toArray, List.set_cons_succ, List.set_cons_zero, Nat.zero_add, Nat.reduceAdd] at ha
     subst ha
     have hF := hg.1 (hall 6 (by decide))
     have hps := hg.2.2.1 (hall 3 (by decide))
     have hbw := Bes2.back HST.out.bes hW (Nat.le_refl _)
     obtain ⟨A, C, hbx, hpost⟩ := finYRet (w := w) HSP.out hF hps hbw
     have HPO := Lib.hid hpost
     have HBX2 := Lib.hid hbx
     clear hx hF hps hbw hpost hg hall hW hbx
     go_wp2
     refine bodyPost_ret (results_cell_row rfl _ _ w.heap.size 24 _ (0, 0) _ rfl HBX2.out Tryz.underlying24 rfl hi_nd) rfl ?_
     exact HPO.out

theorem asg_cases {tk : Int} {tx : ByteArray} {tp : Nat} {tf : Bool} (h : asgT ⟨tk, tx, tp, tf⟩ = true) : ((tx.toList == [61]) = true) ∨ ((tx.toList == [61]) = false ∧ (tx.toList == [43, 61]) = true) ∨ ((tx.toList == [61]) = false ∧ (tx.toList == [43, 61]) = false ∧ (tx.toList == [45, 61]) = true) ∨ ((tx.toList == [61]) = false ∧ (tx.toList == [43, 61]) = false ∧ (tx.toList == [45, 61]) = false ∧ (tx.toList == [42, 61]) = true) ∨ ((tx.toList == [61]) = false ∧ (tx.toList == [43, 61]) = false ∧ (tx.toList == [45, 61]) = false ∧ (tx.toList == [42, 61]) = false ∧ (tx.toList == [47, 61]) = true) ∨ ((tx.toList == [61]) = false ∧ (tx.toList == [43, 61]) = false ∧ (tx.toList == [45, 61]) = false ∧ (tx.toList == [42, 61]) = false ∧ (tx.toList == [47, 61]) = false ∧ (tx.toList == [37, 61]) = true) := by
 unfold asgT isT at h
 simp only at h
 cases b1 : (tx.toList == [61]) <;> cases b2 : (tx.toList == [43, 61]) <;> cases b3 : (tx.toList == [45, 61]) <;> cases b4 : (tx.toList == [42, 61]) <;> cases b5 : (tx.toList == [47, 61]) <;> cases b6 : (tx.toList == [37, 61]) <;> simp [b1, b2, b3, b4, b5, b6] at h ⊢
theorem asg_no {tk : Int} {tx : ByteArray} {tp : Nat} {tf : Bool} (h : ¬ asgT ⟨tk, tx, tp, tf⟩ = true) : (tx.toList == [61]) = false ∧ (tx.toList == [43, 61]) = false ∧ (tx.toList == [45, 61]) = false ∧ (tx.toList == [42, 61]) = false ∧ (tx.toList == [47, 61]) = false ∧ (tx.toList == [37, 61]) = false := by
 unfold asgT isT at h
 simp only at h
 cases b1 : (tx.toList == [61]) <;> cases b2 : (tx.toList == [43, 61]) <;> cases b3 : (tx.toList == [45, 61]) <;> cases b4 : (tx.toList == [42, 61]) <;> cases b5 : (tx.toList == [47, 61]) <;> cases b6 : (tx.toList == [37, 61]) <;> simp [b1, b2, b3, b4, b5, b6] at h ⊢
theorem inc_cases {tk : Int} {tx : ByteArray} {tp : Nat} {tf : Bool} (h : incT ⟨tk, tx, tp, tf⟩ = true) : ((tx.toList == [43, 43]) = true) ∨ ((tx.toList == [43, 43]) = false ∧ (tx.toList == [45, 45]) = true) := by
 unfold incT isT at h
 simp only at h
 cases b1 : (tx.toList == [43, 43]) <;> cases b2 : (tx.toList == [45, 45]) <;> simp [b1, b2] at h ⊢
theorem inc_no {tk : Int} {tx : ByteArray} {tp : Nat} {tf : Bool} (h : ¬ incT ⟨tk, tx, tp, tf⟩ = true) : (tx.toList == [43, 43]) = false ∧ (tx.toList == [45, 45]) = false := by
 unfold incT isT at h
 simp only at h
 cases b1 : (tx.toList == [43, 43]) <;> cases b2 : (tx.toList == [45, 45]) <;> simp [b1, b2] at h ⊢
theorem asg_cons {z : Nat} {l : List Tk} {t : Tk} (h : Parse.hd z l = t) (ha : asgT t = true ∨ incT t = true) : ∃ t' r, l = t' :: r := by
 cases l with
 | nil =>
  subst h
  exfalso
  revert ha
  simp [Parse.hd, asgT, incT, isT, e0]
 | cons t r => exact ⟨t, r, rfl⟩

set_option maxHeartbeats 32000000 in
set_option maxRecDepth 100000 in
theorem simple_asg (P z : Nat) (l : List Tk) (d : Nat) (w : World) (h : PS w P z l d) (hd : d ≤ 300) (nk : Int) (nx ny : ByteArray) (nc : F) (l1 : List Tk) (hx : exR z d l = .ok ⟨nk, nx, ny, nc⟩ l1) (tk : Int) (tx : ByteArray) (tp : Nat) (tf : Bool) (ht : Parse.hd z l1 = ⟨tk, tx, tp, tf⟩) (hb0 : (tx.toList == [58, 61]) = false) (hb : asgT ⟨tk, tx, tp, tf⟩ = true) :
  Calls Tryz.prog 118 #[.pointer (some ⟨P, 0, none⟩)] w (RPost NV w P z d (simpleR z d l)) := by
 have hlt := h.lt
 have HST := Lib.hid (StX.start h)
 have hsp : simpleR z d l = simpleR z d l := rfl
 conv at hsp => rhs; unfold simpleR
 have hP0 : P < w.heap.size + 1 := by omega
 have hRP : w.heap.size ≠ P := by omega
 have HX : Hid (∀ W l', PS W P z l' d → Calls Tryz.prog 71 #[.pointer (some ⟨P, 0, none⟩)] W (RPost NV W P z d (exR z d l'))) := fun W l' hW => ex_rd P z (l'.length + 1) W d l' (Nat.lt_succ_self _) hd hW
 clear h
 rw [hx, Rd.bind_ok, ht] at hsp
 have hf1 := fld1 tk tx tp tf
 have HX2 := Lib.hid hx
 have Ht := Lib.hid ht
 clear hx ht
 rw [if_neg (isT_no hb0), if_pos hb] at hsp
 have HB := Lib.hid hb
 rcases asg_cases hb with b1 | ⟨b1, b2⟩ | ⟨b1, b2, b3⟩ | ⟨b1, b2, b3, b4⟩ | ⟨b1, b2, b3, b4, b5⟩ | ⟨b1, b2, b3, b4, b5, b6⟩
 all_goals
  obtain ⟨t', r, rfl⟩ := asg_cons Ht.out (.inl HB.out)
  obtain rfl : t' = ⟨tk, tx, tp, tf⟩ := Ht.out
  clear hb
  obtain ⟨kb, hkb⟩ : ∃ kb, plc ⟨nk, nx, ny, nc⟩ = kb := ⟨_, rfl⟩
  rw [hkb] at hsp
  have HK9 := Lib.hid hkb
  clear hkb
  cases kb with
  | false =>
   rw [must_bad rfl, Rd.bind_bad] at hsp
   have HSP := Lib.hid hsp
   clear hsp
   go_enter Tryz.func118, Tryz.ntmps118
   go_wp2_with fail
   refine (calls_ok (HX.out _ _ HST.out.ps) HX2.out).mono ?_
   rintro e wx ⟨v, rfl, ⟨An, Cn, rfl, hf⟩, hps, hbe⟩
   have hf' := mi_more (B0' := w.heap.size + 1) hf HST.out.size (Nat.le_refl _)
   replace HST := Lib.hid (HST.out.read hbe hps)
   simp only at hf' ⊢
   generalize hm : nc.len = mn at hf' ⊢
   have Hmn := Lib.hid hm
   have hba := (Below.refl wx.heap.size wx).alloc (Nat.le_refl _) (.cells #[.int .i64 nk, .string nx, .string ny, .slice An mn Cn] 24)
   have HX3 := Lib.hid (box4_new wx 24 (.int .i64 nk) (.string nx) (.string ny) (.slice An mn Cn))
   have hNPHX3 : wx.heap.size ≠ P := by have := HST.out.size; omega
   have h3R := HST.out.size
   have HFn := Lib.hid (mx_of (B0 := w.heap.size + 1) (g := wx.heap.size) (g' := wx.heap.size) (mi_later hf' hba (Nat.le_refl _)) (Nat.le_refl _) (.inr (Nat.le_refl _)) (.inr (Nat.le_refl _)) hba.size)
   replace HST := Lib.hid (HST.out.quiet hba)
   clear hf hf' hps hbe hm hba HX2
   go_wp2_with fail
   refine (next_is HST.out.ps Ht.out).mono ?_
   rintro e wt ⟨rfl, hb⟩
   replace HST := Lib.hid (HST.out.quiet hb)
   replace HFn := Lib.hid (mx_later HFn.out hb hP0)
   replace HX3 := Lib.hid (HX3.out.later hb)
   clear hb
   go_wp2
   clear hf1
   generalize wx.heap.size = gx at *
   refine region_rel (fun W W' => Below W.heap.size W W') [Cd.is (.pointer (some ⟨P, 0, none⟩)), Cd.is (.pointer (some ⟨P, 0, none⟩)), Cd.is (.pointer (some ⟨P, 0, none⟩)), Cd.is (.agg #[.int .i64 nk, .string nx, .string ny, .slice An mn Cn]), Cd.is (.bool false), ⟨fun _ _ => False, fun _ _ _ _ h => h⟩] (by kernel_rfl) (by decide) (by kernel_rfl) (Below.refl _ _) (fun _ _ _ h k => h.trans (k.mono h.size)) ?steps ?behind
   case steps =>
    intro xv W hW a ha
    replace hW := undrew hW
    simp only [fillA] at ha
    simp only [List.setIfInBounds_toArray, List.set_cons_succ, List.set_cons_zero, Nat.zero_add, Nat.reduceAdd] at ha
    subst ha
    refine ⟨?s0, ?s1, ?s2, ?s3, ?s4, ?s5, trivial⟩
    all_goals intro hd K hK
    all_goals (try simp only [Act.put, List.setIfInBounds_toArray, List.set_cons_succ, List.set_cons_zero] at hK)
    case s0 =>
     clear hd
     refine (if_pos (by rfl)).mpr ?_
     go_simp
     exact hK.out _ _ (Below.refl _ _) rfl
    case s1 =>
     have hx0 : xv 0 = .pointer (some ⟨P, 0, none⟩) := hd 0 (by kernel_rfl)
     clear hd
     rw [hx0] at hK ⊢
     refine (if_pos (by rfl)).mpr ?_
     go_simp
     exact hK.out _ _ (Below.refl _ _) rfl
    case s2 =>
     have hx1 : xv 1 = .pointer (some ⟨P, 0, none⟩) := hd 1 (by kernel_rfl)
     clear hd
     rw [hx1] at hK ⊢
     refine (if_pos (by rfl)).mpr ?_
     go_simp
     exact hK.out _ _ (Below.refl _ _) rfl
    case s3 =>
     clear hd
     refine (if_pos (by rfl)).mpr ?_
     obtain ⟨q0, q1, q2, q3⟩ := (HX3.out.later hW).cells
     go_simp
     exact hK.out _ _ (Below.refl _ _) rfl
    case s4 =>
     have hx3 : xv 3 = .agg #[.int .i64 nk, .string nx, .string ny, .slice An mn Cn] := hd 3 (by kernel_rfl)
     clear hd
     rw [hx3] at hK ⊢
     refine (if_pos (by rfl)).mpr ?_
     go_simp
     refine (plc_any nk nx ny nc An mn Cn W).mono ?_
     rintro e W' ⟨rfl, hb⟩
     exact hK.out _ _ hb (by rw [HK9.out]; rfl)
    case s5 =>
     have hx2 : xv 2 = .pointer (some ⟨P, 0, none⟩) := hd 2 (by kernel_rfl)
     have hx4 : xv 4 = .bool false := hd 4 (by kernel_rfl)
     clear hd
     rw [hx2] at hK ⊢
     rw [hx4] at hK ⊢
     refine (if_pos (by rfl)).mpr ?_
     go_simp
     refine (must_no P z _ d W (HST.out.ps.later hW)).mono ?_
     rintro e W' ⟨rfl, hb⟩
     have HE9 := Lib.hid (HST.out.bes.then_ (hW.trans (hb.mono hW.size)))
     rw [Ht.out]
     exact ⟨rfl, rpost_bad HSP.out HE9.out⟩
   case behind =>
    intro xv W hW hx a ha
    replace hW := undrew hW
    simp only [fillA] at ha
    simp only [List.setIfInBounds_toArray, List.set_cons_succ, List.set_cons_zero, Nat.zero_add, Nat.reduceAdd] at ha
    subst ha
    exact (hx 5 (by decide) : False).elim
  | true =>
   rw [must_ok rfl, Rd.bind_ok, List.tail_cons] at hsp
   cases hx2 : exR z d r with
   | bad p er =>
    rw [hx2, Rd.bind_bad] at hsp
    have HSP := Lib.hid hsp
    have HB2 := Lib.hid hx2
    clear hsp hx2
    go_enter Tryz.func118, Tryz.ntmps118
    go_wp2_with fail
    refine (calls_ok (HX.out _ _ HST.out.ps) HX2.out).mono ?_
    rintro e wx ⟨v, rfl, ⟨An, Cn, rfl, hf⟩, hps, hbe⟩
    have hf' := mi_more (B0' := w.heap.size + 1) hf HST.out.size (Nat.le_refl _)
    replace HST := Lib.hid (HST.out.read hbe hps)
    simp only at hf' ⊢
    generalize hm : nc.len = mn at hf' ⊢
    have Hmn := Lib.hid hm
    have hba := (Below.refl wx.heap.size wx).alloc (Nat.le_refl _) (.cells #[.int .i64 nk, .string nx, .string ny, .slice An mn Cn] 24)
    have HX3 := Lib.hid (box4_new wx 24 (.int .i64 nk) (.string nx) (.string ny) (.slice An mn Cn))
    have hNPHX3 : wx.heap.size ≠ P := by have := HST.out.size; omega
    have h3R := HST.out.size
    have HFn := Lib.hid (mx_of (B0 := w.heap.size + 1) (g := wx.heap.size) (g' := wx.heap.size) (mi_later hf' hba (Nat.le_refl _)) (Nat.le_refl _) (.inr (Nat.le_refl _)) (.inr (Nat.le_refl _)) hba.size)
    replace HST := Lib.hid (HST.out.quiet hba)
    clear hf hf' hps hbe hm hba HX2
    go_wp2_with fail
    refine (next_is HST.out.ps Ht.out).mono ?_
    rintro e wt ⟨rfl, hb⟩
    replace HST := Lib.hid (HST.out.quiet hb)
    replace HFn := Lib.hid (mx_later HFn.out hb hP0)
    replace HX3 := Lib.hid (HX3.out.later hb)
    clear hb
    go_wp2
    clear hf1
    generalize wx.heap.size = gx at *
    refine region_rel (fun W W' => Below W.heap.size W W') [Cd.is (.pointer (some ⟨P, 0, none⟩)), Cd.is (.pointer (some ⟨P, 0, none⟩)), Cd.is (.pointer (some ⟨P, 0, none⟩)), Cd.is (.agg #[.int .i64 nk, .string nx, .string ny, .slice An mn Cn]), Cd.is (.bool true), Cd.any] (by kernel_rfl) (by decide) (by kernel_rfl) (Below.refl _ _) (fun _ _ _ h k => h.trans (k.mono h.size)) ?steps ?behind
    case steps =>
     intro xv W hW a ha
     replace hW := undrew hW
     simp only [fillA] at ha
     simp only [List.setIfInBounds_toArray, List.set_cons_succ, List.set_cons_zero, Nat.zero_add, Nat.reduceAdd] at ha
     subst ha
     refine ⟨?s0, ?s1, ?s2, ?s3, ?s4, ?s5, trivial⟩
     all_goals intro hd K hK
     all_goals (try simp only [Act.put, List.setIfInBounds_toArray, List.set_cons_succ, List.set_cons_zero] at hK)
     case s0 =>
      clear hd
      refine (if_pos (by rfl)).mpr ?_
      go_simp
      exact hK.out _ _ (Below.refl _ _) rfl
     case s1 =>
      have hx0 : xv 0 = .pointer (some ⟨P, 0, none⟩) := hd 0 (by kernel_rfl)
      clear hd
      rw [hx0] at hK ⊢
      refine (if_pos (by rfl)).mpr ?_
      go_simp
      exact hK.out _ _ (Below.refl _ _) rfl
     case s2 =>
      have hx1 : xv 1 = .pointer (some ⟨P, 0, none⟩) := hd 1 (by kernel_rfl)
      clear hd
      rw [hx1] at hK ⊢
      refine (if_pos (by rfl)).mpr ?_
      go_simp
      exact hK.out _ _ (Below.refl _ _) rfl
     case s3 =>
      clear hd
      refine (if_pos (by rfl)).mpr ?_
      obtain ⟨q0, q1, q2, q3⟩ := (HX3.out.later hW).cells
      go_simp
      exact hK.out _ _ (Below.refl _ _) rfl
     case s4 =>
      have hx3 : xv 3 = .agg #[.int .i64 nk, .string nx, .string ny, .slice An mn Cn] := hd 3 (by kernel_rfl)
      clear hd
      rw [hx3] at hK ⊢
      refine (if_pos (by rfl)).mpr ?_
      go_simp
      refine (plc_any nk nx ny nc An mn Cn W).mono ?_
      rintro e W' ⟨rfl, hb⟩
      exact hK.out _ _ hb (by rw [HK9.out]; rfl)
     case s5 =>
      have hx2 : xv 2 = .pointer (some ⟨P, 0, none⟩) := hd 2 (by kernel_rfl)
      have hx4 : xv 4 = .bool true := hd 4 (by kernel_rfl)
      clear hd
      rw [hx2] at hK ⊢
      rw [hx4] at hK ⊢
      refine (if_pos (by rfl)).mpr ?_
      go_simp
      refine (must_yes P W).mono ?_
      rintro e W' ⟨rfl, rfl⟩
      exact hK.out _ _ (Below.refl _ _) trivial
    case behind =>
     intro xv W hW hx a ha
     replace hW := undrew hW
     simp only [fillA] at ha
     simp only [List.setIfInBounds_toArray, List.set_cons_succ, List.set_cons_zero, Nat.zero_add, Nat.reduceAdd] at ha
     subst ha
     replace HX3 := Lib.hid (HX3.out.later hW)
     replace HFn := Lib.hid (mx_later HFn.out hW hP0)
     replace HST := Lib.hid (HST.out.quiet hW)
     clear hx hW
     go_wp2_with fail
     refine (take_any P z _ _ d _ HST.out.ps).mono ?_
     rintro e wd ⟨v, rfl, rfl, hps, hbe⟩
     replace HST := Lib.hid (HST.out.read hbe hps)
     replace HFn := Lib.hid (mx_bes HFn.out hbe hP0)
     replace HX3 := Lib.hid (HX3.out.bes hbe hNPHX3)
     clear hps hbe
     unfold tkV
     have hx3l := HX3.out.lt
     go_wp2
     refine region_ph [3, 6] (GN 3 6 P z d r r (FinYy w.heap.size gx gx noneN) (BxA w.heap.size)) (Bes2 P (w.heap.size)) [Cd.is (.string tx), Cd.is (.agg #[.int .i64 nk, .string nx, .string ny, .slice An mn Cn]), Cd.is (.pointer (some ⟨P, 0, none⟩)), cNo, cNo, cNo, cNo] (by kernel_rfl) (by decide) (by kernel_rfl) (Bes2.refl _ _ _) (fun _ _ _ h k => h.trans k) (fun _ _ h => Bes2.of h) (GN.keep (FinYy.later hP0) BxA.later) ?start ?steps ?behind
     case start =>
      intro x
      exact ⟨fun h => (by cases h), fun _ => HST.out.bx, fun h => (by cases h), fun _ => HST.out.ps.drewN 1⟩
     case steps =>
      intro xv W hW a ha
      replace hW := hW.undrew
      simp only [fillA] at ha
      simp only [List.setIfInBounds_toArray, List.set_cons_succ, List.set_cons_zero, Nat.zero_add, Nat.reduceAdd] at ha
      subst ha
      refine ⟨?s0, ?s1, ?s2, ?s3, ?s4, ?s5, ?s6, trivial⟩
      all_goals intro dn hdi hdw hcl hphi hg K hK
      all_goals (try simp only [Act.put, List.setIfInBounds_toArray, List.set_cons_succ, List.set_cons_zero] at hK)
      case s0 =>
       clear hphi hdw
       refine (if_pos (by rfl)).mpr ?_
       go_simp
       exact hK.out _ _ (Below.refl _ _) rfl
      case s1 =>
       clear hphi hdw
       refine (if_pos (by rfl)).mpr ?_
       obtain ⟨q0, q1, q2, q3⟩ := (HX3.out.bes2 hW hNPHX3 (by omega)).cells
       go_simp
       exact hK.out _ _ (Below.refl _ _) rfl
      case s2 =>
       clear hphi hdw
       refine (if_pos (by rfl)).mpr ?_
       go_simp
       exact hK.out _ _ (Below.refl _ _) rfl
      case s3 =>
       have hx2 : xv 2 = .pointer (some ⟨P, 0, none⟩) := hphi 2 (hdw 2 (by kernel_rfl))
       clear hphi hdw
       rw [hx2] at hK ⊢
       refine (if_pos (by rfl)).mpr ?_
       go_simp
       refine (calls_bad (HX.out W _ (hg.2.2.2 hdi)) HB2.out).mono ?_
       rintro e W' ⟨rfl, hbe⟩
       exact ⟨rfl, rpost_bad HSP.out (Bes2.back HST.out.bes (hW.trans (Bes2.bes hbe)) (Nat.le_refl _))⟩
      case s4 =>
       have hx1 : xv 1 = .agg #[.int .i64 nk, .string nx, .string ny, .slice An mn Cn] := hphi 1 (hdw 1 (by kernel_rfl))
       have hno : False := hphi 3 (hdw 3 (by kernel_rfl))
       exact hno.elim
      case s5 =>
       have hno : False := hphi 4 (hdw 4 (by kernel_rfl))
       exact hno.elim
      case s6 =>
       have hno : False := hphi 5 (hdw 5 (by kernel_rfl))
       exact hno.elim
     case behind =>
      intro dn xv W hW hall hx hg a ha
      replace hW := hW.undrew
      simp only [fillA] at ha
      simp only [List.setIfInBounds_toArray, List.set_cons_succ, List.set_cons_zero, Nat.zero_add, Nat.reduceAdd] at ha
      subst ha
      exact (hx 3 (by decide) : False).elim
   | ok b l3 =>
    obtain ⟨bk, bx, by', bc⟩ := b
    rw [hx2, Rd.bind_ok] at hsp
    have HSP := Lib.hid hsp
    have HB2 := Lib.hid hx2
    clear hsp hx2
    go_enter Tryz.func118, Tryz.ntmps118
    go_wp2_with fail
    refine (calls_ok (HX.out _ _ HST.out.ps) HX2.out).mono ?_
    rintro e wx ⟨v, rfl, ⟨An, Cn, rfl, hf⟩, hps, hbe⟩
    have hf' := mi_more (B0' := w.heap.size + 1) hf HST.out.size (Nat.le_refl _)
    replace HST := Lib.hid (HST.out.read hbe hps)
    simp only at hf' ⊢
    generalize hm : nc.len = mn at hf' ⊢
    have Hmn := Lib.hid hm
    have hba := (Below.refl wx.heap.size wx).alloc (Nat.le_refl _) (.cells #[.int .i64 nk, .string nx, .string ny, .slice An mn Cn] 24)
    have HX3 := Lib.hid (box4_new wx 24 (.int .i64 nk) (.string nx) (.string ny) (.slice An mn Cn))
    have hNPHX3 : wx.heap.size ≠ P := by have := HST.out.size; omega
    have h3R := HST.out.size
    have HFn := Lib.hid (mx_of (B0 := w.heap.size + 1) (g := wx.heap.size) (g' := wx.heap.size) (mi_later hf' hba (Nat.le_refl _)) (Nat.le_refl _) (.inr (Nat.le_refl _)) (.inr (Nat.le_refl _)) hba.size)
    replace HST := Lib.hid (HST.out.quiet hba)
    clear hf hf' hps hbe hm hba HX2
    go_wp2_with fail
    refine (next_is HST.out.ps Ht.out).mono ?_
    rintro e wt ⟨rfl, hb⟩
    replace HST := Lib.hid (HST.out.quiet hb)
    replace HFn := Lib.hid (mx_later HFn.out hb hP0)
    replace HX3 := Lib.hid (HX3.out.later hb)
    clear hb
    go_wp2
    clear hf1
    generalize wx.heap.size = gx at *
    refine region_rel (fun W W' => Below W.heap.size W W') [Cd.is (.pointer (some ⟨P, 0, none⟩)), Cd.is (.pointer (some ⟨P, 0, none⟩)), Cd.is (.pointer (some ⟨P, 0, none⟩)), Cd.is (.agg #[.int .i64 nk, .string nx, .string ny, .slice An mn Cn]), Cd.is (.bool true), Cd.any] (by kernel_rfl) (by decide) (by kernel_rfl) (Below.refl _ _) (fun _ _ _ h k => h.trans (k.mono h.size)) ?steps ?behind
    case steps =>
     intro xv W hW a ha
     replace hW := undrew hW
     simp only [fillA] at ha
     simp only [List.setIfInBounds_toArray, List.set_cons_succ, List.set_cons_zero, Nat.zero_add, Nat.reduceAdd] at ha
     subst ha
     refine ⟨?s0, ?s1, ?s2, ?s3, ?s4, ?s5, trivial⟩
     all_goals intro hd K hK
     all_goals (try simp only [Act.put, List.setIfInBounds_toArray, List.set_cons_succ, List.set_cons_zero] at hK)
     case s0 =>
      clear hd
      refine (if_pos (by rfl)).mpr ?_
      go_simp
      exact hK.out _ _ (Below.refl _ _) rfl
     case s1 =>
      have hx0 : xv 0 = .pointer (some ⟨P, 0, none⟩) := hd 0 (by kernel_rfl)
      clear hd
      rw [hx0] at hK ⊢
      refine (if_pos (by rfl)).mpr ?_
      go_simp
      exact hK.out _ _ (Below.refl _ _) rfl
     case s2 =>
      have hx1 : xv 1 = .pointer (some ⟨P, 0, none⟩) := hd 1 (by kernel_rfl)
      clear hd
      rw [hx1] at hK ⊢
      refine (if_pos (by rfl)).mpr ?_
      go_simp
      exact hK.out _ _ (Below.refl _ _) rfl
     case s3 =>
      clear hd
      refine (if_pos (by rfl)).mpr ?_
      obtain ⟨q0, q1, q2, q3⟩ := (HX3.out.later hW).cells
      go_simp
      exact hK.out _ _ (Below.refl _ _) rfl
     case s4 =>
      have hx3 : xv 3 = .agg #[.int .i64 nk, .string nx, .string ny, .slice An mn Cn] := hd 3 (by kernel_rfl)
      clear hd
      rw [hx3] at hK ⊢
      refine (if_pos (by rfl)).mpr ?_
      go_simp
      refine (plc_any nk nx ny nc An mn Cn W).mono ?_
      rintro e W' ⟨rfl, hb⟩
      exact hK.out _ _ hb (by rw [HK9.out]; rfl)
     case s5 =>
      have hx2 : xv 2 = .pointer (some ⟨P, 0, none⟩) := hd 2 (by kernel_rfl)
      have hx4 : xv 4 = .bool true := hd 4 (by kernel_rfl)
      clear hd
      rw [hx2] at hK ⊢
      rw [hx4] at hK ⊢
      refine (if_pos (by rfl)).mpr ?_
      go_simp
      refine (must_yes P W).mono ?_
      rintro e W' ⟨rfl, rfl⟩
      exact hK.out _ _ (Below.refl _ _) trivial
    case behind =>
     intro xv W hW hx a ha
     replace hW := undrew hW
     simp only [fillA] at ha
     simp only [List.setIfInBounds_toArray, List.set_cons_succ, List.set_cons_zero, Nat.zero_add, Nat.reduceAdd] at ha
     subst ha
     replace HX3 := Lib.hid (HX3.out.later hW)
     replace HFn := Lib.hid (mx_later HFn.out hW hP0)
     replace HST := Lib.hid (HST.out.quiet hW)
     clear hx hW
     go_wp2_with fail
     refine (take_any P z _ _ d _ HST.out.ps).mono ?_
     rintro e wd ⟨v, rfl, rfl, hps, hbe⟩
     replace HST := Lib.hid (HST.out.read hbe hps)
     replace HFn := Lib.hid (mx_bes HFn.out hbe hP0)
     replace HX3 := Lib.hid (HX3.out.bes hbe hNPHX3)
     clear hps hbe
     unfold tkV
     have hx3l := HX3.out.lt
     go_wp2
     refine region_ph [3, 6] (GN 3 6 P z d r l3 (FinYy w.heap.size gx gx (Parse.node 21 tx (oneF ⟨nk, nx, ny, nc⟩ (one ⟨bk, bx, by', bc⟩)))) (BxA w.heap.size)) (Bes2 P (w.heap.size)) [Cd.is (.string tx), Cd.is (.agg #[.int .i64 nk, .string nx, .string ny, .slice An mn Cn]), Cd.is (.pointer (some ⟨P, 0, none⟩)), cNdY gx gx hP0 ⟨bk, bx, by', bc⟩, cRowY gx gx hP0 (oneF ⟨nk, nx, ny, nc⟩ (one ⟨bk, bx, by', bc⟩)), cNdY gx gx hP0 (Parse.node 21 tx (oneF ⟨nk, nx, ny, nc⟩ (one ⟨bk, bx, by', bc⟩))), Cd.any] (by kernel_rfl) (by decide) (by kernel_rfl) (Bes2.refl _ _ _) (fun _ _ _ h k => h.trans k) (fun _ _ h => Bes2.of h) (GN.keep (FinYy.later hP0) BxA.later) ?start ?steps ?behind
     case start =>
      intro x
      exact ⟨fun h => (by cases h), fun _ => HST.out.bx, fun h => (by cases h), fun _ => HST.out.ps.drewN 1⟩
     case steps =>
      intro xv W hW a ha
      replace hW := hW.undrew
      simp only [fillA] at ha
      simp only [List.setIfInBounds_toArray, List.set_cons_succ, List.set_cons_zero, Nat.zero_add, Nat.reduceAdd] at ha
      subst ha
      refine ⟨?s0, ?s1, ?s2, ?s3, ?s4, ?s5, ?s6, trivial⟩
      all_goals intro dn hdi hdw hcl hphi hg K hK
      all_goals (try simp only [Act.put, List.setIfInBounds_toArray, List.set_cons_succ, List.set_cons_zero] at hK)
      case s0 =>
       clear hphi hdw
       refine (if_pos (by rfl)).mpr ?_
       go_simp
       exact hK.out _ _ (Below.refl _ _) rfl
      case s1 =>
       clear hphi hdw
       refine (if_pos (by rfl)).mpr ?_
       obtain ⟨q0, q1, q2, q3⟩ := (HX3.out.bes2 hW hNPHX3 (by omega)).cells
       go_simp
       exact hK.out _ _ (Below.refl _ _) rfl
      case s2 =>
       clear hphi hdw
       refine (if_pos (by rfl)).mpr ?_
       go_simp
       exact hK.out _ _ (Below.refl _ _) rfl
      case s3 =>
       have hx2 : xv 2 = .pointer (some ⟨P, 0, none⟩) := hphi 2 (hdw 2 (by kernel_rfl))
       clear hphi hdw
       rw [hx2] at hK ⊢
       refine (if_pos (by rfl)).mpr ?_
       go_simp
       refine (calls_ok (HX.out W _ (hg.2.2.2 hdi)) HB2.out).mono ?_
       rintro e W' ⟨v, rfl, hv, hps, hbe⟩
       exact hK.out _ _ ⟨Bes2.bes hbe, GN.call (by decide) hg (notYet hcl hdi (by kernel_rfl)) (fun h => h.bes hbe hRP) hps⟩ (mx_new hv (by have hh := HST.out.size; have hw := hW.size; have hq0 := HX3.out.lt; omega) (by have hh := HST.out.size; have hw := hW.size; have hq0 := HX3.out.lt; omega) (by have hh := HST.out.size; have hw := hW.size; have hq0 := HX3.out.lt; omega))
      case s4 =>
       have hx1 : xv 1 = .agg #[.int .i64 nk, .string nx, .string ny, .slice An mn Cn] := hphi 1 (hdw 1 (by kernel_rfl))
       obtain ⟨A3, C3, hx3, hf3⟩ : NdX (w.heap.size + 1) gx gx ⟨bk, bx, by', bc⟩ (xv 3) W := hphi 3 (hdw 3 (by kernel_rfl))
       clear hphi hdw
       rw [hx3] at hK ⊢
       rw [hx1] at hK ⊢
       refine (if_pos (by rfl)).mpr ?_
       go_simp
       exact hK.out _ _ ((Below.refl _ _).alloc (Nat.le_refl _) _) (rowX2 W (w.heap.size + 1) gx gx P (by have hh := HST.out.size; have hw := hW.size; have hq0 := HX3.out.lt; omega) (by have hh := HST.out.size; have hw := hW.size; have hq0 := HX3.out.lt; omega) (by have hh := HST.out.size; have hw := hW.size; have hq0 := HX3.out.lt; omega) hP0 nk nx ny nc _ (mxR HFn.out hW hP0) bk bx by' bc _ hf3)
      case s5 =>
       have hx0 : xv 0 = .string tx := hphi 0 (hdw 0 (by kernel_rfl))
       obtain ⟨A4, C4, hx4, hf4⟩ : RowX (w.heap.size + 1) gx gx (oneF ⟨nk, nx, ny, nc⟩ (one ⟨bk, bx, by', bc⟩)) (xv 4) W := hphi 4 (hdw 4 (by kernel_rfl))
       clear hphi hdw
       rw [hx4] at hK ⊢
       rw [hx0] at hK ⊢
       refine (if_pos (by rfl)).mpr ?_
       go_simp
       refine (node_any _ _ _ _ _ W).mono ?_
       rintro e W' ⟨rfl, hb⟩
       exact hK.out _ _ hb ⟨A4, C4, rfl, mx_later hf4 hb hP0⟩
      case s6 =>
       obtain ⟨A5, C5, hx5, hf5⟩ : NdX (w.heap.size + 1) gx gx (Parse.node 21 tx (oneF ⟨nk, nx, ny, nc⟩ (one ⟨bk, bx, by', bc⟩))) (xv 5) W := hphi 5 (hdw 5 (by kernel_rfl))
       rw [hx5] at hK ⊢
       refine (if_pos (by rfl)).mpr ?_
       have hds : dn 3 = true := hdw 3 (by kernel_rfl)
       have hbx := hg.2.1 hdi
       obtain ⟨b0, b1, b2, b3, hbx4⟩ := id hbx
       obtain ⟨g0, g1, g2, g3⟩ := hbx4.frz
       obtain ⟨y0, y1, y2, y3⟩ := hbx4.cells
       simp only [Parse.node] at hf5 hK ⊢
       go_simp
       exact hK.out undef _ ⟨Bes2.set4 _ _ _ _ _, GN.store (by decide) (hds) (finY_set hbx4 rfl hf5) (ps_set4 (hg.2.2.1 hds) (by omega) _ _ _ _)⟩ trivial
     case behind =>
      intro dn xv W hW hall hx hg a ha
      replace hW := hW.undrew
      simp only [fillA] at ha
      simp only [List.setIfInBounds_toArray, List.set_cons_succ, List.set_cons_zero, Nat.zero_add, Nat.reduceAdd] at ha
      subst ha
      have hF := hg.1 (hall 6 (by decide))
      have hps := hg.2.2.1 (hall 3 (by decide))
      have hbw := Bes2.back HST.out.bes hW (Nat.le_refl _)
      obtain ⟨A, C, hbx, hpost⟩ := finYRet (w := w) HSP.out hF hps hbw
      have HPO := Lib.hid hpost
      have HBX2 := Lib.hid hbx
      clear hx hF hps hbw hpost hg hall hW hbx
      go_wp2
      refine bodyPost_ret (results_cell_row rfl _ _ w.heap.size 24 _ (0, 0) _ rfl HBX2.out Tryz.underlying24 rfl hi_nd) rfl ?_
      exact HPO.out

set_option maxHeartbeats 32000000 in
set_option maxRecDepth 100000 in
theorem simple_inc (P z : Nat) (l : List Tk) (d : Nat) (w : World) (h : PS w P z l d) (hd : d ≤ 300) (nk : Int) (nx ny : ByteArray) (nc : F) (l1 : List Tk) (hx : exR z d l = .ok ⟨nk, nx, ny, nc⟩ l1) (tk : Int) (tx : ByteArray) (tp : Nat) (tf : Bool) (ht : Parse.hd z l1 = ⟨tk, tx, tp, tf⟩) (hb0 : (tx.toList == [58, 61]) = false) (hb : ¬ asgT ⟨tk, tx, tp, tf⟩ = true) (hi : incT ⟨tk, tx, tp, tf⟩ = true) :
  Calls Tryz.prog 118 #[.pointer (some ⟨P, 0, none⟩)] w (RPost NV w P z d (simpleR z d l)) := by
 have hlt := h.lt
 have HST := Lib.hid (StX.start h)
 have hsp : simpleR z d l = simpleR z d l := rfl
 conv at hsp => rhs; unfold simpleR
 have hP0 : P < w.heap.size + 1 := by omega
 have hRP : w.heap.size ≠ P := by omega
 have HX : Hid (∀ W l', PS W P z l' d → Calls Tryz.prog 71 #[.pointer (some ⟨P, 0, none⟩)] W (RPost NV W P z d (exR z d l'))) := fun W l' hW => ex_rd P z (l'.length + 1) W d l' (Nat.lt_succ_self _) hd hW
 clear h
 rw [hx, Rd.bind_ok, ht] at hsp
 have hf1 := fld1 tk tx tp tf
 have HX2 := Lib.hid hx
 have Ht := Lib.hid ht
 clear hx ht
 rw [if_neg (isT_no hb0), if_neg hb, if_pos hi] at hsp
 obtain ⟨b1, b2, b3, b4, b5, b6⟩ := asg_no hb
 have HI := Lib.hid hi
 rcases inc_cases hi with b7 | ⟨b7, b8⟩
 all_goals
  obtain ⟨t', r, rfl⟩ := asg_cons Ht.out (.inr HI.out)
  obtain rfl : t' = ⟨tk, tx, tp, tf⟩ := Ht.out
  clear hb hi
  obtain ⟨kb, hkb⟩ : ∃ kb, plc ⟨nk, nx, ny, nc⟩ = kb := ⟨_, rfl⟩
  rw [hkb] at hsp
  have HK9 := Lib.hid hkb
  clear hkb
  cases kb with
  | false =>
   rw [must_bad rfl, Rd.bind_bad] at hsp
   have HSP := Lib.hid hsp
   clear hsp
   go_enter Tryz.func118, Tryz.ntmps118
   go_wp2_with fail
   refine (calls_ok (HX.out _ _ HST.out.ps) HX2.out).mono ?_
   rintro e wx ⟨v, rfl, ⟨An, Cn, rfl, hf⟩, hps, hbe⟩
   have hf' := mi_more (B0' := w.heap.size + 1) hf HST.out.size (Nat.le_refl _)
   replace HST := Lib.hid (HST.out.read hbe hps)
   simp only at hf' ⊢
   generalize hm : nc.len = mn at hf' ⊢
   have Hmn := Lib.hid hm
   have hba := (Below.refl wx.heap.size wx).alloc (Nat.le_refl _) (.cells #[.int .i64 nk, .string nx, .string ny, .slice An mn Cn] 24)
   have HX3 := Lib.hid (box4_new wx 24 (.int .i64 nk) (.string nx) (.string ny) (.slice An mn Cn))
   have hNPHX3 : wx.heap.size ≠ P := by have := HST.out.size; omega
   have h3R := HST.out.size
   have HFn := Lib.hid (mx_of (B0 := w.heap.size + 1) (g := wx.heap.size) (g' := wx.heap.size) (mi_later hf' hba (Nat.le_refl _)) (Nat.le_refl _) (.inr (Nat.le_refl _)) (.inr (Nat.le_refl _)) hba.size)
   replace HST := Lib.hid (HST.out.quiet hba)
   clear hf hf' hps hbe hm hba HX2
   go_wp2_with fail
   refine (next_is HST.out.ps Ht.out).mono ?_
   rintro e wt ⟨rfl, hb⟩
   replace HST := Lib.hid (HST.out.quiet hb)
   replace HFn := Lib.hid (mx_later HFn.out hb hP0)
   replace HX3 := Lib.hid (HX3.out.later hb)
   clear hb
   go_wp2
   clear hf1
   generalize wx.heap.size = gx at *
   refine region_rel (fun W W' => Below W.heap.size W W') [Cd.is (.pointer (some ⟨P, 0, none⟩)), Cd.is (.pointer (some ⟨P, 0, none⟩)), Cd.is (.pointer (some ⟨P, 0, none⟩)), Cd.is (.agg #[.int .i64 nk, .string nx, .string ny, .slice An mn Cn]), Cd.is (.bool false), ⟨fun _ _ => False, fun _ _ _ _ h => h⟩] (by kernel_rfl) (by decide) (by kernel_rfl) (Below.refl _ _) (fun _ _ _ h k => h.trans (k.mono h.size)) ?steps ?behind
   case steps =>
    intro xv W hW a ha
    replace hW := undrew hW
    simp only [fillA] at ha
    simp only [List.setIfInBounds_toArray, List.set_cons_succ, List.set_cons_zero, Nat.zero_add, Nat.reduceAdd] at ha
    subst ha
    refine ⟨?s0, ?s1, ?s2, ?s3, ?s4, ?s5, trivial⟩
    all_goals intro hd K hK
    all_goals (try simp only [Act.put, List.setIfInBounds_toArray, List.set_cons_succ, List.set_cons_zero] at hK)
    case s0 =>
     clear hd
     refine (if_pos (by rfl)).mpr ?_
     go_simp
     exact hK.out _ _ (Below.refl _ _) rfl
    case s1 =>
     have hx0 : xv 0 = .pointer (some ⟨P, 0, none⟩) := hd 0 (by kernel_rfl)
     clear hd
     rw [hx0] at hK ⊢
     refine (if_pos (by rfl)).mpr ?_
     go_simp
     exact hK.out _ _ (Below.refl _ _) rfl
    case s2 =>
     have hx1 : xv 1 = .pointer (some ⟨P, 0, none⟩) := hd 1 (by kernel_rfl)
     clear hd
     rw [hx1] at hK ⊢
     refine (if_pos (by rfl)).mpr ?_
     go_simp
     exact hK.out _ _ (Below.refl _ _) rfl
    case s3 =>
     clear hd
     refine (if_pos (by rfl)).mpr ?_
     obtain ⟨q0, q1, q2, q3⟩ := (HX3.out.later hW).cells
     go_simp
     exact hK.out _ _ (Below.refl _ _) rfl
    case s4 =>
     have hx3 : xv 3 = .agg #[.int .i64 nk, .string nx, .string ny, .slice An mn Cn] := hd 3 (by kernel_rfl)
     clear hd
     rw [hx3] at hK ⊢
     refine (if_pos (by rfl)).mpr ?_
     go_simp
     refine (plc_any nk nx ny nc An mn Cn W).mono ?_
     rintro e W' ⟨rfl, hb⟩
     exact hK.out _ _ hb (by rw [HK9.out]; rfl)
    case s5 =>
     have hx2 : xv 2 = .pointer (some ⟨P, 0, none⟩) := hd 2 (by kernel_rfl)
     have hx4 : xv 4 = .bool false := hd 4 (by kernel_rfl)
     clear hd
     rw [hx2] at hK ⊢
     rw [hx4] at hK ⊢
     refine (if_pos (by rfl)).mpr ?_
     go_simp
     refine (must_no P z _ d W (HST.out.ps.later hW)).mono ?_
     rintro e W' ⟨rfl, hb⟩
     have HE9 := Lib.hid (HST.out.bes.then_ (hW.trans (hb.mono hW.size)))
     rw [Ht.out]
     exact ⟨rfl, rpost_bad HSP.out HE9.out⟩
   case behind =>
    intro xv W hW hx a ha
    replace hW := undrew hW
    simp only [fillA] at ha
    simp only [List.setIfInBounds_toArray, List.set_cons_succ, List.set_cons_zero, Nat.zero_add, Nat.reduceAdd] at ha
    subst ha
    exact (hx 5 (by decide) : False).elim
  | true =>
   rw [must_ok rfl, Rd.bind_ok, List.tail_cons] at hsp
   have HSP := Lib.hid hsp
   clear hsp
   go_enter Tryz.func118, Tryz.ntmps118
   go_wp2_with fail
   refine (calls_ok (HX.out _ _ HST.out.ps) HX2.out).mono ?_
   rintro e wx ⟨v, rfl, ⟨An, Cn, rfl, hf⟩, hps, hbe⟩
   have hf' := mi_more (B0' := w.heap.size + 1) hf HST.out.size (Nat.le_refl _)
   replace HST := Lib.hid (HST.out.read hbe hps)
   simp only at hf' ⊢
   generalize hm : nc.len = mn at hf' ⊢
   have Hmn := Lib.hid hm
   have hba := (Below.refl wx.heap.size wx).alloc (Nat.le_refl _) (.cells #[.int .i64 nk, .string nx, .string ny, .slice An mn Cn] 24)
   have HX3 := Lib.hid (box4_new wx 24 (.int .i64 nk) (.string nx) (.string ny) (.slice An mn Cn))
   have hNPHX3 : wx.heap.size ≠ P := by have := HST.out.size; omega
   have h3R := HST.out.size
   have HFn := Lib.hid (mx_of (B0 := w.heap.size + 1) (g := wx.heap.size) (g' := wx.heap.size) (mi_later hf' hba (Nat.le_refl _)) (Nat.le_refl _) (.inr (Nat.le_refl _)) (.inr (Nat.le_refl _)) hba.size)
   replace HST := Lib.hid (HST.out.quiet hba)
   clear hf hf' hps hbe hm hba HX2
   go_wp2_with fail
   refine (next_is HST.out.ps Ht.out).mono ?_
   rintro e wt ⟨rfl, hb⟩
   replace HST := Lib.hid (HST.out.quiet hb)
   replace HFn := Lib.hid (mx_later HFn.out hb hP0)
   replace HX3 := Lib.hid (HX3.out.later hb)
   clear hb
   go_wp2
   clear hf1
   generalize wx.heap.size = gx at *
   refine region_rel (fun W W' => Below W.heap.size W W') [Cd.is (.pointer (some ⟨P, 0, none⟩)), Cd.is (.pointer (some ⟨P, 0, none⟩)), Cd.is (.pointer (some ⟨P, 0, none⟩)), Cd.is (.agg #[.int .i64 nk, .string nx, .string ny, .slice An mn Cn]), Cd.is (.bool true), Cd.any] (by kernel_rfl) (by decide) (by kernel_rfl) (Below.refl _ _) (fun _ _ _ h k => h.trans (k.mono h.size)) ?steps ?behind
   case steps =>
    intro xv W hW a ha
    replace hW := undrew hW
    simp only [fillA] at ha
    simp only [List.setIfInBounds_toArray, List.set_cons_succ, List.set_cons_zero, Nat.zero_add, Nat.reduceAdd] at ha
    subst ha
    refine ⟨?s0, ?s1, ?s2, ?s3, ?s4, ?s5, trivial⟩
    all_goals intro hd K hK
    all_goals (try simp only [Act.put, List.setIfInBounds_toArray, List.set_cons_succ, List.set_cons_zero] at hK)
    case s0 =>
     clear hd
     refine (if_pos (by rfl)).mpr ?_
     go_simp
     exact hK.out _ _ (Below.refl _ _) rfl
    case s1 =>
     have hx0 : xv 0 = .pointer (some ⟨P, 0, none⟩) := hd 0 (by kernel_rfl)
     clear hd
     rw [hx0] at hK ⊢
     refine (if_pos (by rfl)).mpr ?_
     go_simp
     exact hK.out _ _ (Below.refl _ _) rfl
    case s2 =>
     have hx1 : xv 1 = .pointer (some ⟨P, 0, none⟩) := hd 1 (by kernel_rfl)
     clear hd
     rw [hx1] at hK ⊢
     refine (if_pos (by rfl)).mpr ?_
     go_simp
     exact hK.out _ _ (Below.refl _ _) rfl
    case s3 =>
     clear hd
     refine (if_pos (by rfl)).mpr ?_
     obtain ⟨q0, q1, q2, q3⟩ := (HX3.out.later hW).cells
     go_simp
     exact hK.out _ _ (Below.refl _ _) rfl
    case s4 =>
     have hx3 : xv 3 = .agg #[.int .i64 nk, .string nx, .string ny, .slice An mn Cn] := hd 3 (by kernel_rfl)
     clear hd
     rw [hx3] at hK ⊢
     refine (if_pos (by rfl)).mpr ?_
     go_simp
     refine (plc_any nk nx ny nc An mn Cn W).mono ?_
     rintro e W' ⟨rfl, hb⟩
     exact hK.out _ _ hb (by rw [HK9.out]; rfl)
    case s5 =>
     have hx2 : xv 2 = .pointer (some ⟨P, 0, none⟩) := hd 2 (by kernel_rfl)
     have hx4 : xv 4 = .bool true := hd 4 (by kernel_rfl)
     clear hd
     rw [hx2] at hK ⊢
     rw [hx4] at hK ⊢
     refine (if_pos (by rfl)).mpr ?_
     go_simp
     refine (must_yes P W).mono ?_
     rintro e W' ⟨rfl, rfl⟩
     exact hK.out _ _ (Below.refl _ _) trivial
   case behind =>
    intro xv W hW hx a ha
    replace hW := undrew hW
    simp only [fillA] at ha
    simp only [List.setIfInBounds_toArray, List.set_cons_succ, List.set_cons_zero, Nat.zero_add, Nat.reduceAdd] at ha
    subst ha
    replace HX3 := Lib.hid (HX3.out.later hW)
    replace HFn := Lib.hid (mx_later HFn.out hW hP0)
    replace HST := Lib.hid (HST.out.quiet hW)
    clear hx hW
    go_wp2_with fail
    refine (take_any P z _ _ d _ HST.out.ps).mono ?_
    rintro e wd ⟨v, rfl, rfl, hps, hbe⟩
    replace HST := Lib.hid (HST.out.read hbe hps)
    replace HFn := Lib.hid (mx_bes HFn.out hbe hP0)
    replace HX3 := Lib.hid (HX3.out.bes hbe hNPHX3)
    clear hps hbe
    unfold tkV
    obtain ⟨a0, a1, a2, a3⟩ := HX3.out.cells
    have hx3l := HX3.out.lt
    obtain ⟨A9, C9, he9, hf9⟩ := rowX1 wd (w.heap.size + 1) gx gx P HST.out.size (by omega) (by omega) hP0 nk nx ny nc _ HFn.out
    simp only [oneF, one, F.len, Nat.zero_add, Value.slice.injEq, true_and] at he9
    obtain ⟨rfl, rfl⟩ := he9
    try simp only [size_set4] at hf9
    have HROW := Lib.hid hf9
    clear hf9
    have hb := (Below.refl (wd).heap.size (wd)).alloc (Nat.le_refl _) (.cells #[.int .i64 nk, .string nx, .string ny, .slice An mn Cn] 24)
    replace HST := Lib.hid (HST.out.quiet hb)
    clear hb
    go_wp2_with fail
    refine (node_any 22 tx _ _ _ _).mono ?_
    rintro e w2 ⟨rfl, hb⟩
    replace HST := Lib.hid (HST.out.quiet hb)
    replace HROW := Lib.hid (mx_later HROW.out hb hP0)
    clear hb
    obtain ⟨⟨r0, r1, r2, r3, y0, y1, y2, y3⟩, g0, g1, g2, g3⟩ := HST.out.frz
    try unfold e0
    go_wp2
    have hfin := HST.out.ret (B0 := w.heap.size + 1) HSP.out rfl (mx_mi HROW.out) (fun _ _ _ _ => mi_set4 (mx_mi HROW.out) (.inl (Nat.lt_succ_self _)) _ _ _ _)
    refine bodyPost_ret (results_cell_row rfl _ _ w.heap.size 24 _ (0, 0) _ rfl hfin.1 Tryz.underlying24 rfl hi_nd) rfl ?_
    exact nb_nv hfin.2 (Nat.le_succ _)

set_option maxHeartbeats 32000000 in
set_option maxRecDepth 100000 in
theorem simple_do (P z : Nat) (l : List Tk) (d : Nat) (w : World) (h : PS w P z l d) (hd : d ≤ 300) (nk : Int) (nx ny : ByteArray) (nc : F) (l1 : List Tk) (hx : exR z d l = .ok ⟨nk, nx, ny, nc⟩ l1) (tk : Int) (tx : ByteArray) (tp : Nat) (tf : Bool) (ht : Parse.hd z l1 = ⟨tk, tx, tp, tf⟩) (hb0 : (tx.toList == [58, 61]) = false) (hb : ¬ asgT ⟨tk, tx, tp, tf⟩ = true) (hi : ¬ incT ⟨tk, tx, tp, tf⟩ = true) :
  Calls Tryz.prog 118 #[.pointer (some ⟨P, 0, none⟩)] w (RPost NV w P z d (simpleR z d l)) := by
 have hlt := h.lt
 have HST := Lib.hid (StX.start h)
 have hsp : simpleR z d l = simpleR z d l := rfl
 conv at hsp => rhs; unfold simpleR
 have hP0 : P < w.heap.size + 1 := by omega
 have hRP : w.heap.size ≠ P := by omega
 have HX : Hid (∀ W l', PS W P z l' d → Calls Tryz.prog 71 #[.pointer (some ⟨P, 0, none⟩)] W (RPost NV W P z d (exR z d l'))) := fun W l' hW => ex_rd P z (l'.length + 1) W d l' (Nat.lt_succ_self _) hd hW
 clear h
 have ht0 := ht
 rw [hx, Rd.bind_ok, ht] at hsp
 have hf1 := fld1 tk tx tp tf
 have HX2 := Lib.hid hx
 have Ht := Lib.hid ht
 clear hx ht
 rw [if_neg (isT_no hb0), if_neg hb, if_neg hi] at hsp
 obtain ⟨b1, b2, b3, b4, b5, b6⟩ := asg_no hb
 obtain ⟨b7, b8⟩ := inc_no hi
 clear hb hi
 obtain ⟨kb, hkb⟩ : ∃ kb, (nk == 30) = kb := ⟨_, rfl⟩
 rw [hkb] at hsp
 have HK9 := Lib.hid hkb
 clear hkb
 cases kb with
 | false =>
  rw [must_bad rfl, Rd.bind_bad, ht0] at hsp
  have HSP := Lib.hid hsp
  clear hsp
  clear ht0
  go_enter Tryz.func118, Tryz.ntmps118
  go_wp2_with fail
  refine (calls_ok (HX.out _ _ HST.out.ps) HX2.out).mono ?_
  rintro e wx ⟨v, rfl, ⟨An, Cn, rfl, hf⟩, hps, hbe⟩
  have hf' := mi_more (B0' := w.heap.size + 1) hf HST.out.size (Nat.le_refl _)
  replace HST := Lib.hid (HST.out.read hbe hps)
  simp only at hf' ⊢
  generalize hm : nc.len = mn at hf' ⊢
  have Hmn := Lib.hid hm
  have hba := (Below.refl wx.heap.size wx).alloc (Nat.le_refl _) (.cells #[.int .i64 nk, .string nx, .string ny, .slice An mn Cn] 24)
  have HX3 := Lib.hid (box4_new wx 24 (.int .i64 nk) (.string nx) (.string ny) (.slice An mn Cn))
  have hNPHX3 : wx.heap.size ≠ P := by have := HST.out.size; omega
  have h3R := HST.out.size
  have HFn := Lib.hid (mx_of (B0 := w.heap.size + 1) (g := wx.heap.size) (g' := wx.heap.size) (mi_later hf' hba (Nat.le_refl _)) (Nat.le_refl _) (.inr (Nat.le_refl _)) (.inr (Nat.le_refl _)) hba.size)
  replace HST := Lib.hid (HST.out.quiet hba)
  clear hf hf' hps hbe hm hba HX2
  go_wp2_with fail
  refine (next_is HST.out.ps Ht.out).mono ?_
  rintro e wt ⟨rfl, hb⟩
  replace HST := Lib.hid (HST.out.quiet hb)
  replace HFn := Lib.hid (mx_later HFn.out hb hP0)
  replace HX3 := Lib.hid (HX3.out.later hb)
  clear hb
  go_wp2
  clear hf1
  generalize wx.heap.size = gx at *
  refine region_rel (fun W W' => Below W.heap.size W W') [Cd.is (.pointer (some ⟨P, 0, none⟩)), Cd.is (.pointer (some ⟨P, 0, none⟩)), Cd.is (.pointer (some ⟨P, 0, none⟩)), Cd.is (.pointer (some ⟨gx, 0, none⟩)), Cd.is (.int .i64 nk), Cd.is (.bool false), ⟨fun _ _ => False, fun _ _ _ _ h => h⟩] (by kernel_rfl) (by decide) (by kernel_rfl) (Below.refl _ _) (fun _ _ _ h k => h.trans (k.mono h.size)) ?steps ?behind
  case steps =>
   intro xv W hW a ha
   replace hW := undrew hW
   simp only [fillA] at ha
   simp only [List.setIfInBounds_toArray, List.set_cons_succ, List.set_cons_zero, Nat.zero_add, Nat.reduceAdd] at ha
   subst ha
   refine ⟨?s0, ?s1, ?s2, ?s3, ?s4, ?s5, ?s6, trivial⟩
   all_goals intro hd K hK
   all_goals (try simp only [Act.put, List.setIfInBounds_toArray, List.set_cons_succ, List.set_cons_zero] at hK)
   case s0 =>
    clear hd
    refine (if_pos (by rfl)).mpr ?_
    go_simp
    exact hK.out _ _ (Below.refl _ _) rfl
   case s1 =>
    have hx0 : xv 0 = .pointer (some ⟨P, 0, none⟩) := hd 0 (by kernel_rfl)
    clear hd
    rw [hx0] at hK ⊢
    refine (if_pos (by rfl)).mpr ?_
    go_simp
    exact hK.out _ _ (Below.refl _ _) rfl
   case s2 =>
    have hx1 : xv 1 = .pointer (some ⟨P, 0, none⟩) := hd 1 (by kernel_rfl)
    clear hd
    rw [hx1] at hK ⊢
    refine (if_pos (by rfl)).mpr ?_
    go_simp
    exact hK.out _ _ (Below.refl _ _) rfl
   case s3 =>
    clear hd
    refine (if_pos (by rfl)).mpr ?_
    go_simp
    exact hK.out _ _ (Below.refl _ _) rfl
   case s4 =>
    have hx3 : xv 3 = .pointer (some ⟨gx, 0, none⟩) := hd 3 (by kernel_rfl)
    clear hd
    rw [hx3] at hK ⊢
    refine (if_pos (by rfl)).mpr ?_
    obtain ⟨q0, q1, q2, q3⟩ := (HX3.out.later hW).cells
    go_simp
    exact hK.out _ _ (Below.refl _ _) rfl
   case s5 =>
    have hx4 : xv 4 = .int .i64 nk := hd 4 (by kernel_rfl)
    clear hd
    rw [hx4] at hK ⊢
    refine (if_pos (by rfl)).mpr ?_
    have hkk : (nk == 30) = false := HK9.out
    go_simp
    exact hK.out _ _ (Below.refl _ _) rfl
   case s6 =>
    have hx2 : xv 2 = .pointer (some ⟨P, 0, none⟩) := hd 2 (by kernel_rfl)
    have hx5 : xv 5 = .bool false := hd 5 (by kernel_rfl)
    clear hd
    rw [hx2] at hK ⊢
    rw [hx5] at hK ⊢
    refine (if_pos (by rfl)).mpr ?_
    go_simp
    refine (must_no P z _ d W (HST.out.ps.later hW)).mono ?_
    rintro e W' ⟨rfl, hb⟩
    have HE9 := Lib.hid (HST.out.bes.then_ (hW.trans (hb.mono hW.size)))
    rw [Ht.out]
    exact ⟨rfl, rpost_bad HSP.out HE9.out⟩
  case behind =>
   intro xv W hW hx a ha
   replace hW := undrew hW
   simp only [fillA] at ha
   simp only [List.setIfInBounds_toArray, List.set_cons_succ, List.set_cons_zero, Nat.zero_add, Nat.reduceAdd] at ha
   subst ha
   exact (hx 6 (by decide) : False).elim
 | true =>
  rw [must_ok rfl, Rd.bind_ok] at hsp
  have HSP := Lib.hid hsp
  clear hsp ht0
  go_enter Tryz.func118, Tryz.ntmps118
  go_wp2_with fail
  refine (calls_ok (HX.out _ _ HST.out.ps) HX2.out).mono ?_
  rintro e wx ⟨v, rfl, ⟨An, Cn, rfl, hf⟩, hps, hbe⟩
  have hf' := mi_more (B0' := w.heap.size + 1) hf HST.out.size (Nat.le_refl _)
  replace HST := Lib.hid (HST.out.read hbe hps)
  simp only at hf' ⊢
  generalize hm : nc.len = mn at hf' ⊢
  have Hmn := Lib.hid hm
  have hba := (Below.refl wx.heap.size wx).alloc (Nat.le_refl _) (.cells #[.int .i64 nk, .string nx, .string ny, .slice An mn Cn] 24)
  have HX3 := Lib.hid (box4_new wx 24 (.int .i64 nk) (.string nx) (.string ny) (.slice An mn Cn))
  have hNPHX3 : wx.heap.size ≠ P := by have := HST.out.size; omega
  have h3R := HST.out.size
  have HFn := Lib.hid (mx_of (B0 := w.heap.size + 1) (g := wx.heap.size) (g' := wx.heap.size) (mi_later hf' hba (Nat.le_refl _)) (Nat.le_refl _) (.inr (Nat.le_refl _)) (.inr (Nat.le_refl _)) hba.size)
  replace HST := Lib.hid (HST.out.quiet hba)
  clear hf hf' hps hbe hm hba HX2
  go_wp2_with fail
  refine (next_is HST.out.ps Ht.out).mono ?_
  rintro e wt ⟨rfl, hb⟩
  replace HST := Lib.hid (HST.out.quiet hb)
  replace HFn := Lib.hid (mx_later HFn.out hb hP0)
  replace HX3 := Lib.hid (HX3.out.later hb)
  clear hb
  go_wp2
  clear hf1
  generalize wx.heap.size = gx at *
  refine region_rel (fun W W' => Below W.heap.size W W') [Cd.is (.pointer (some ⟨P, 0, none⟩)), Cd.is (.pointer (some ⟨P, 0, none⟩)), Cd.is (.pointer (some ⟨P, 0, none⟩)), Cd.is (.pointer (some ⟨gx, 0, none⟩)), Cd.is (.int .i64 nk), Cd.is (.bool true), Cd.any] (by kernel_rfl) (by decide) (by kernel_rfl) (Below.refl _ _) (fun _ _ _ h k => h.trans (k.mono h.size)) ?steps ?behind
  case steps =>
   intro xv W hW a ha
   replace hW := undrew hW
   simp only [fillA] at ha
   simp only [List.setIfInBounds_toArray, List.set_cons_succ, List.set_cons_zero, Nat.zero_add, Nat.reduceAdd] at ha
   subst ha
   refine ⟨?s0, ?s1, ?s2, ?s3, ?s4, ?s5, ?s6, trivial⟩
   all_goals intro hd K hK
   all_goals (try simp only [Act.put, List.setIfInBounds_toArray, List.set_cons_succ, List.set_cons_zero] at hK)
   case s0 =>
    clear hd
    refine (if_pos (by rfl)).mpr ?_
    go_simp
    exact hK.out _ _ (Below.refl _ _) rfl
   case s1 =>
    have hx0 : xv 0 = .pointer (some ⟨P, 0, none⟩) := hd 0 (by kernel_rfl)
    clear hd
    rw [hx0] at hK ⊢
    refine (if_pos (by rfl)).mpr ?_
    go_simp
    exact hK.out _ _ (Below.refl _ _) rfl
   case s2 =>
    have hx1 : xv 1 = .pointer (some ⟨P, 0, none⟩) := hd 1 (by kernel_rfl)
    clear hd
    rw [hx1] at hK ⊢
    refine (if_pos (by rfl)).mpr ?_
    go_simp
    exact hK.out _ _ (Below.refl _ _) rfl
   case s3 =>
    clear hd
    refine (if_pos (by rfl)).mpr ?_
    go_simp
    exact hK.out _ _ (Below.refl _ _) rfl
   case s4 =>
    have hx3 : xv 3 = .pointer (some ⟨gx, 0, none⟩) := hd 3 (by kernel_rfl)
    clear hd
    rw [hx3] at hK ⊢
    refine (if_pos (by rfl)).mpr ?_
    obtain ⟨q0, q1, q2, q3⟩ := (HX3.out.later hW).cells
    go_simp
    exact hK.out _ _ (Below.refl _ _) rfl
   case s5 =>
    have hx4 : xv 4 = .int .i64 nk := hd 4 (by kernel_rfl)
    clear hd
    rw [hx4] at hK ⊢
    refine (if_pos (by rfl)).mpr ?_
    have hkk : (nk == 30) = true := HK9.out
    go_simp
    exact hK.out _ _ (Below.refl _ _) rfl
   case s6 =>
    have hx2 : xv 2 = .pointer (some ⟨P, 0, none⟩) := hd 2 (by kernel_rfl)
    have hx5 : xv 5 = .bool true := hd 5 (by kernel_rfl)
    clear hd
    rw [hx2] at hK ⊢
    rw [hx5] at hK ⊢
    refine (if_pos (by rfl)).mpr ?_
    go_simp
    refine (must_yes P W).mono ?_
    rintro e W' ⟨rfl, rfl⟩
    exact hK.out _ _ (Below.refl _ _) trivial
  case behind =>
   intro xv W hW hx a ha
   replace hW := undrew hW
   simp only [fillA] at ha
   simp only [List.setIfInBounds_toArray, List.set_cons_succ, List.set_cons_zero, Nat.zero_add, Nat.reduceAdd] at ha
   subst ha
   replace HX3 := Lib.hid (HX3.out.later hW)
   replace HFn := Lib.hid (mx_later HFn.out hW hP0)
   replace HST := Lib.hid (HST.out.quiet hW)
   clear hx hW
   obtain ⟨a0, a1, a2, a3⟩ := HX3.out.cells
   have hx3l := HX3.out.lt
   obtain ⟨A9, C9, he9, hf9⟩ := rowX1 W (w.heap.size + 1) gx gx P HST.out.size (by omega) (by omega) hP0 nk nx ny nc _ HFn.out
   simp only [oneF, one, F.len, Nat.zero_add, Value.slice.injEq, true_and] at he9
   obtain ⟨rfl, rfl⟩ := he9
   try simp only [size_set4] at hf9
   have HROW := Lib.hid hf9
   clear hf9
   have hb := (Below.refl (W).heap.size (W)).alloc (Nat.le_refl _) (.cells #[.int .i64 nk, .string nx, .string ny, .slice An mn Cn] 24)
   replace HST := Lib.hid (HST.out.quiet hb)
   clear hb
   go_wp2_with fail
   refine (node_any 23 ⟨#[]⟩ _ _ _ _).mono ?_
   rintro e w1 ⟨rfl, hb⟩
   replace HST := Lib.hid (HST.out.quiet hb)
   replace HROW := Lib.hid (mx_later HROW.out hb hP0)
   clear hb
   obtain ⟨⟨r0, r1, r2, r3, y0, y1, y2, y3⟩, g0, g1, g2, g3⟩ := HST.out.frz
   try unfold e0
   go_wp2
   have hfin := HST.out.ret (B0 := w.heap.size + 1) HSP.out rfl (mx_mi HROW.out) (fun _ _ _ _ => mi_set4 (mx_mi HROW.out) (.inl (Nat.lt_succ_self _)) _ _ _ _)
   refine bodyPost_ret (results_cell_row rfl _ _ w.heap.size 24 _ (0, 0) _ rfl hfin.1 Tryz.underlying24 rfl hi_nd) rfl ?_
   exact nb_nv hfin.2 (Nat.le_succ _)

theorem simple_any (P z : Nat) (l : List Tk) (d : Nat) (w : World) (h : PS w P z l d) (hd : d ≤ 300) :
  Calls Tryz.prog 118 #[.pointer (some ⟨P, 0, none⟩)] w (RPost NV w P z d (simpleR z d l)) := by
 cases hx : exR z d l with
 | bad p er => exact simple_bad P z l d w h hd p er hx
 | ok n l1 =>
  obtain ⟨nk, nx, ny, nc⟩ := n
  obtain ⟨t, ht⟩ : ∃ t, Parse.hd z l1 = t := ⟨_, rfl⟩
  obtain ⟨tk, tx, tp, tf⟩ := t
  cases hb0 : (tx.toList == [58, 61]) with
  | true => exact simple_def P z l d w h hd nk nx ny nc l1 hx tk tx tp tf ht hb0
  | false =>
   by_cases hb : asgT ⟨tk, tx, tp, tf⟩ = true
   ·exact simple_asg P z l d w h hd nk nx ny nc l1 hx tk tx tp tf ht hb0 hb
   ·by_cases hi : incT ⟨tk, tx, tp, tf⟩ = true
    ·exact simple_inc P z l d w h hd nk nx ny nc l1 hx tk tx tp tf ht hb0 hb hi
    ·exact simple_do P z l d w h hd nk nx ny nc l1 hx tk tx tp tf ht hb0 hb hi
end Go.Proofs.YtaiihnniblibaaaGreatDoor.Parse
