/-
 Layer 6 (parse): the rows of declarations.
-/
import Derived.Test.YtaiihnniblibaaaGreatDoorJpH
namespace Go.Proofs.YtaiihnniblibaaaGreatDoor.Parse
open Go.ChangeShapes Go.WideShapes Go.ChangeAt Go.RowKit Tree MemT Mem
set_option linter.unusedVariables false

theorem any_has (us : List ByteArray) (t : Tk) : ((us.map ByteArray.toList).any fun u => isT t u) = hasW us t.x := by
 rw [List.any_map]; rfl
theorem decl_item_dec (z : Nat) : ∀ d l n r, item z (declR z) d l = .ok n r → r.length < l.length := item_dec (declR_dec z)
set_option maxHeartbeats 8000000 in
set_option maxRecDepth 100000 in
theorem file1_any (P z V B0 X Bp : Nat) (us : List ByteArray) (wv v : Value) (l : List Tk) (L : List Nd) (w : World) (h : FAt P z 0 V B0 X l v L w) (hlen : L.length + l.length ≤ 10000000) (hw : WordsX X w wv us) (hX : X ≠ P ∧ X ≠ V)
  (hp : w.cell? ⟨Bp, 0, none⟩ = some (.pointer (some ⟨P, 0, none⟩))) (hBp : Bp < B0 ∧ Bp ≠ P ∧ Bp ≠ V ∧ Bp < w.heap.size) :
  Calls Tryz.prog 44 #[wv, .pointer (some ⟨Bp, 0, none⟩), .pointer (some ⟨V, 0, none⟩)] w (RowsPost P z V B0 X l L w (rows z (us.map ByteArray.toList) (l.length + 1) l)) := by
 have HF0 := Lib.hid h
 have HW0 := Lib.hid hw
 have HP0 := Lib.hid hp
 obtain ⟨Aw, Cw, rfl, hwn, -⟩ := hw
 have HWN := Lib.hid hwn
 clear h hp hwn
 go_enter Tryz.func44, Tryz.ntmps44
 go_wp2
 go_loopg [] (l.length + 1) (fun p wr => ∃ (vr : Value) (L2 : List Nd) (l' : List Tk), l'.length < p ∧ L2.length + l'.length ≤ l.length ∧ Hid (FAt P z 0 V B0 X l' vr (L ++ L2) wr) ∧ Hid (Bel2 P V B0 X w wr) ∧ Hid (∃ f, l'.length < f ∧ rows z (us.map ByteArray.toList) (l.length + 1) l = (rows z (us.map ByteArray.toList) f l').bind fun c l => .ok (appF (ofL' L2) c) l))
 case atStart => exact ⟨v, [], l, by omega, by simp, by simpa using HF0, Bel2.refl _ _ _ _ _, _, Nat.lt_succ_self _, (Rd.bind_id _).symm⟩
 case round =>
  obtain ⟨vr, L2, l', hp, hl', HF, HB, HSI⟩ := hrel
  obtain ⟨f, hf, hsi⟩ := HSI.out
  obtain ⟨f, rfl⟩ : ∃ f', f = f' + 1 := ⟨f - 1, by omega⟩
  have hit : rows z (us.map ByteArray.toList) (f + 1) l' = rows z (us.map ByteArray.toList) (f + 1) l' := rfl
  conv at hit => rhs; unfold rows
  rw [any_has] at hit
  obtain ⟨t, ht⟩ : ∃ t, Parse.hd z l' = t := ⟨_, rfl⟩
  obtain ⟨tk, tx, tp, tf⟩ := t
  rw [ht] at hit
  have Ht := Lib.hid ht
  have hf0 := fld0 tk tx tp tf
  have hf1 := fld1 tk tx tp tf
  have hwr : w.heap.size ≤ wr.heap.size := HB.out.size
  have HCP : Hid (wr.cell? ⟨Bp, 0, none⟩ = some (.pointer (some ⟨P, 0, none⟩))) := (HB.out.cell (p := ⟨Bp, 0, none⟩) hBp.2.2.2 (.inl hBp.1) hBp.2.1 hBp.2.2.1).trans HP0.out
  have HWX := Lib.hid (HW0.out.keep HB.out HF0.out.ne.2.2.2.2 hX.1 hX.2)
  have hLL : (L ++ L2).length ≤ 10000000 := by rw [List.length_append]; omega
  have HIT : Hid (∀ W, PS W P z l' 0 → Calls Tryz.prog 47 #[.pointer (some ⟨P, 0, none⟩), .func (.func 48) #[.pointer (some ⟨P, 0, none⟩)] #[]] W (RPost NV W P z 0 (item z (declR z) 0 l'))) :=
   fun W hW => item_any P z (l'.length + 1) _ (declR z) l' 0 W hW (reads_of W ent_decl (decl_rd P z _)) (Nat.lt_succ_self _) (by omega)
  generalize hLs : L ++ L2 = Lr at *
  have HLS := Lib.hid hLs
  obtain ⟨a9, c9, rfl, -, -⟩ := HF.out.own.slice
  clear ht hLs
  by_cases h5 : tk = 5
  ·subst h5
   rw [if_pos (.inl rfl)] at hit
   have hcp := HCP.out
   go_wp2_with fail
   refine (next_is HF.out.ps Ht.out).mono ?_
   rintro e w1 ⟨rfl, hb1⟩
   have HF1 := Lib.hid (HF.out.later hb1)
   have HB1 := Lib.hid (HB.out.trans (Bel2.of hb1))
   have HCP1 : Hid (w1.cell? ⟨Bp, 0, none⟩ = some (.pointer (some ⟨P, 0, none⟩))) := (hb1.cell (p := ⟨Bp, 0, none⟩) (by show Bp < wr.heap.size; omega)).trans HCP.out
   have HWX1 := Lib.hid (HWX.out.keep (P := P) (V := V) (B0 := B0) (Bel2.of hb1) HF.out.ne.2.2.2.2 hX.1 hX.2)
   have hs1 : wr.heap.size ≤ w1.heap.size := hb1.size
   clear hb1 hcp HF HCP HWX
   cases hr : item z (declR z) 0 l' with
   | bad p2 er =>
    rw [hr, Rd.bind_bad] at hit
    rw [hit, Rd.bind_bad] at hsi
    have HFIN := Lib.hid hsi
    have HR := Lib.hid hr
    clear hit hsi HSI hf hr
    go_wp2
    refine region_ph [4, 6, 7, 8, 9, 10] (FG P z 0 V B0 X l' l' zN (.slice a9 Lr.length c9) (Lr)) (Bel2 P V B0 X) [Cd.is (.slice a9 Lr.length c9), Cd.is (.pointer (some ⟨P, 0, none⟩)), Cd.is (.pointer (some ⟨P, 0, none⟩)), Cd.is (.func (.func 48) #[.pointer (some ⟨P, 0, none⟩)] #[]), cNo2, Cd.is (.int .i64 (Lr.length : Int)), Cd.any, Cd.any, Cd.any, Cd.any, Cd.any] (by kernel_rfl) (by decide) (by kernel_rfl) (Bel2.refl _ _ _ _ _) (fun _ _ _ h k => h.trans k) (fun _ _ h => Bel2.of h) FG.keep ?start ?steps ?behind
    case start => exact fun x => FG.start (HF1.out.later ((Below.refl _ _).drew))
    case steps =>
     intro xv W hW a ha
     replace hW := hW.undrew
     simp only [fillA] at ha
     simp only [List.setIfInBounds_toArray, List.set_cons_succ, List.set_cons_zero, Nat.zero_add, Nat.reduceAdd] at ha
     subst ha
     refine ⟨?s0, ?s1, ?s2, ?s3, ?s4, ?s5, ?s6, ?s7, ?s8, ?s9, ?s10, trivial⟩
     all_goals intro dn hdi hdw hcl hphi hg K hK
     all_goals (try simp only [Act.put, List.setIfInBounds_toArray, List.set_cons_succ, List.set_cons_zero] at hK)
     case s0 =>
      have hb10 : dn 10 = false := notYet hcl hdi (by kernel_rfl)
      have hbc := (hg.var hb10).cell
      clear hphi hdw
      refine (if_pos (by rfl)).mpr ?_
      go_simp
      exact hK.out _ _ (Below.refl _ _) rfl
     case s1 =>
      have hbp := (hW.cell (p := ⟨Bp, 0, none⟩) (by show Bp < w1.heap.size; omega) (.inl hBp.1) hBp.2.1 hBp.2.2.1).trans HCP1.out
      clear hphi hdw
      refine (if_pos (by rfl)).mpr ?_
      go_simp
      exact hK.out _ _ (Below.refl _ _) rfl
     case s2 =>
      have hbp := (hW.cell (p := ⟨Bp, 0, none⟩) (by show Bp < w1.heap.size; omega) (.inl hBp.1) hBp.2.1 hBp.2.2.1).trans HCP1.out
      clear hphi hdw
      refine (if_pos (by rfl)).mpr ?_
      go_simp
      exact hK.out _ _ (Below.refl _ _) rfl
     case s3 =>
      have hx2 : xv 2 = .pointer (some ⟨P, 0, none⟩) := hphi 2 (hdw 2 (by kernel_rfl))
      clear hphi hdw
      rw [hx2] at hK ⊢
      refine (if_pos (by rfl)).mpr ?_
      go_simp
      exact hK.out _ _ (Below.refl _ _) rfl
     case s4 =>
      have hx1 : xv 1 = .pointer (some ⟨P, 0, none⟩) := hphi 1 (hdw 1 (by kernel_rfl))
      have hx3 : xv 3 = .func (.func 48) #[.pointer (some ⟨P, 0, none⟩)] #[] := hphi 3 (hdw 3 (by kernel_rfl))
      clear hphi hdw
      rw [hx1] at hK ⊢
      rw [hx3] at hK ⊢
      refine (if_pos (by rfl)).mpr ?_
      go_simp
      refine (calls_bad (HIT.out W (hg.ps hdi)) HR.out).mono ?_
      rintro e W' ⟨rfl, hbe⟩
      exact ⟨rfl, rows_bad HFIN.out ((HB1.out.trans hW).trans (Bel2.bes hbe))⟩
     case s5 =>
      have hx0 : xv 0 = .slice a9 Lr.length c9 := hphi 0 (hdw 0 (by kernel_rfl))
      clear hphi hdw
      rw [hx0] at hK ⊢
      refine (if_pos (by rfl)).mpr ?_
      go_simp
      exact hK.out _ _ (Below.refl _ _) rfl
     case s6 =>
      clear hphi hdw
      refine (if_pos (by rfl)).mpr ?_
      go_simp
      exact hK.out _ _ ⟨Bel2.of ((Below.refl _ _).alloc (Nat.le_refl _) _), hg.lay hdi⟩ trivial
     case s7 =>
      have hx0 : xv 0 = .slice a9 Lr.length c9 := hphi 0 (hdw 0 (by kernel_rfl))
      have h6 : dn 6 = true := hdw 6 (by kernel_rfl)
      have h8 : dn 8 = false := notYet hcl hdi (by kernel_rfl)
      have h9 : dn 9 = false := notYet hcl hdi (by kernel_rfl)
      have h10 : dn 10 = false := notYet hcl hdi (by kernel_rfl)
      obtain ⟨b, hx6, hB, hl, c0, c1, c2, c3⟩ := hg.laid h6 hdi
      have hbf := hg.before hdi
      clear hphi hdw
      rw [hx0] at hK ⊢
      rw [hx6] at hK ⊢
      refine (if_pos (by rfl)).mpr ?_
      refine wp_app_own _ _ rfl (Kd B0 W (.slice a9 Lr.length c9)) (.slice a9 Lr.length c9) Lr b 1 zN (.slice none 0 0) rfl rfl ⟨c0, c1, c2, c3⟩ hbf.1 nil_fs (fun b hb => ⟨hb.2.1, hb.2.2⟩) (by omega) ?_
      intro v' w' r1 r2 r3
      exact hK.out _ _ ⟨Bel2.own r2 hbf.2, hg.app hdi h8 h9 h10 r1 r2 r3⟩ trivial
     case s8 =>
      have hx5 : xv 5 = .int .i64 (Lr.length : Int) := hphi 5 (hdw 5 (by kernel_rfl))
      have h7 : dn 7 = true := hdw 7 (by kernel_rfl)
      obtain ⟨g, C, hx7, hB⟩ := hg.form h7
      clear hphi hdw
      rw [hx5] at hK ⊢
      rw [hx7] at hK ⊢
      refine (if_pos (by rfl)).mpr ?_
      have hlt5 : (Lr.length : Int) < (Lr.length : Int) + 1 := by omega
      go_simp
      exact hK.out (.pointer (some ⟨g, Lr.length * 4, none⟩)) _ ⟨Bel2.refl _ _ _ _ _, hg.addr h7 hx7⟩ trivial
     case s9 =>
      have hno : False := hphi 4 (hdw 4 (by kernel_rfl))
      exact hno.elim
     case s10 =>
      have h7 : dn 7 = true := hdw 7 (by kernel_rfl)
      obtain ⟨g, C, hx7, hB⟩ := hg.form h7
      have hbx := hg.var hdi
      have hbc := hbx.cell
      have hbf := hbx.frz
      clear hphi hdw
      rw [hx7] at hK ⊢
      refine (if_pos (by rfl)).mpr ?_
      go_simp
      exact hK.out undef _ ⟨Bel2.grown (grown_set W V _), hg.set h7 hx7⟩ trivial
    case behind =>
     intro dn xv W hW hall hx hg a ha
     replace hW := hW.undrew
     simp only [fillA] at ha
     simp only [List.setIfInBounds_toArray, List.set_cons_succ, List.set_cons_zero, Nat.zero_add, Nat.reduceAdd] at ha
     subst ha
     exact (hx 4 (by decide) : False).elim
   | ok n l2 =>
    obtain ⟨nk, nx, ny, nc⟩ := n
    have hdl : l2.length < l'.length := decl_item_dec z 0 l' _ l2 hr
    rw [hr, Rd.bind_ok] at hit
    rw [hit, Rd.bind_bind] at hsi
    have HSI2 : Hid (∃ f, l2.length < f ∧ rows z (us.map ByteArray.toList) (l.length + 1) l = (rows z (us.map ByteArray.toList) f l2).bind fun c l => .ok (appF (ofL' (L2 ++ [⟨nk, nx, ny, nc⟩])) c) l) := ⟨f, by omega, by
     rw [hsi]
     congr 1
     funext c l
     rw [Rd.bind_ok, appF_snoc]⟩
    have HR := Lib.hid hr
    clear hit hsi HSI hf hr
    go_wp2
    refine region_ph [4, 6, 7, 8, 9, 10] (FG P z 0 V B0 X l' l2 ⟨nk, nx, ny, nc⟩ (.slice a9 Lr.length c9) (Lr)) (Bel2 P V B0 X) [Cd.is (.slice a9 Lr.length c9), Cd.is (.pointer (some ⟨P, 0, none⟩)), Cd.is (.pointer (some ⟨P, 0, none⟩)), Cd.is (.func (.func 48) #[.pointer (some ⟨P, 0, none⟩)] #[]), Cd.any, Cd.is (.int .i64 (Lr.length : Int)), Cd.any, Cd.any, Cd.any, Cd.any, Cd.any] (by kernel_rfl) (by decide) (by kernel_rfl) (Bel2.refl _ _ _ _ _) (fun _ _ _ h k => h.trans k) (fun _ _ h => Bel2.of h) FG.keep ?start ?steps ?behind
    case start => exact fun x => FG.start (HF1.out.later ((Below.refl _ _).drew))
    case steps =>
     intro xv W hW a ha
     replace hW := hW.undrew
     simp only [fillA] at ha
     simp only [List.setIfInBounds_toArray, List.set_cons_succ, List.set_cons_zero, Nat.zero_add, Nat.reduceAdd] at ha
     subst ha
     refine ⟨?s0, ?s1, ?s2, ?s3, ?s4, ?s5, ?s6, ?s7, ?s8, ?s9, ?s10, trivial⟩
     all_goals intro dn hdi hdw hcl hphi hg K hK
     all_goals (try simp only [Act.put, List.setIfInBounds_toArray, List.set_cons_succ, List.set_cons_zero] at hK)
     case s0 =>
      have hb10 : dn 10 = false := notYet hcl hdi (by kernel_rfl)
      have hbc := (hg.var hb10).cell
      clear hphi hdw
      refine (if_pos (by rfl)).mpr ?_
      go_simp
      exact hK.out _ _ (Below.refl _ _) rfl
     case s1 =>
      have hbp := (hW.cell (p := ⟨Bp, 0, none⟩) (by show Bp < w1.heap.size; omega) (.inl hBp.1) hBp.2.1 hBp.2.2.1).trans HCP1.out
      clear hphi hdw
      refine (if_pos (by rfl)).mpr ?_
      go_simp
      exact hK.out _ _ (Below.refl _ _) rfl
     case s2 =>
      have hbp := (hW.cell (p := ⟨Bp, 0, none⟩) (by show Bp < w1.heap.size; omega) (.inl hBp.1) hBp.2.1 hBp.2.2.1).trans HCP1.out
      clear hphi hdw
      refine (if_pos (by rfl)).mpr ?_
      go_simp
      exact hK.out _ _ (Below.refl _ _) rfl
     case s3 =>
      have hx2 : xv 2 = .pointer (some ⟨P, 0, none⟩) := hphi 2 (hdw 2 (by kernel_rfl))
      clear hphi hdw
      rw [hx2] at hK ⊢
      refine (if_pos (by rfl)).mpr ?_
      go_simp
      exact hK.out _ _ (Below.refl _ _) rfl
     case s4 =>
      have hx1 : xv 1 = .pointer (some ⟨P, 0, none⟩) := hphi 1 (hdw 1 (by kernel_rfl))
      have hx3 : xv 3 = .func (.func 48) #[.pointer (some ⟨P, 0, none⟩)] #[] := hphi 3 (hdw 3 (by kernel_rfl))
      clear hphi hdw
      rw [hx1] at hK ⊢
      rw [hx3] at hK ⊢
      refine (if_pos (by rfl)).mpr ?_
      go_simp
      refine (calls_ok (HIT.out W (hg.ps hdi)) HR.out).mono ?_
      rintro e W' ⟨v4, rfl, hv, hps, hbe⟩
      exact hK.out _ _ ⟨Bel2.bes hbe, hg.call hdi hv hps hbe⟩ trivial
     case s5 =>
      have hx0 : xv 0 = .slice a9 Lr.length c9 := hphi 0 (hdw 0 (by kernel_rfl))
      clear hphi hdw
      rw [hx0] at hK ⊢
      refine (if_pos (by rfl)).mpr ?_
      go_simp
      exact hK.out _ _ (Below.refl _ _) rfl
     case s6 =>
      clear hphi hdw
      refine (if_pos (by rfl)).mpr ?_
      go_simp
      exact hK.out _ _ ⟨Bel2.of ((Below.refl _ _).alloc (Nat.le_refl _) _), hg.lay hdi⟩ trivial
     case s7 =>
      have hx0 : xv 0 = .slice a9 Lr.length c9 := hphi 0 (hdw 0 (by kernel_rfl))
      have h6 : dn 6 = true := hdw 6 (by kernel_rfl)
      have h8 : dn 8 = false := notYet hcl hdi (by kernel_rfl)
      have h9 : dn 9 = false := notYet hcl hdi (by kernel_rfl)
      have h10 : dn 10 = false := notYet hcl hdi (by kernel_rfl)
      obtain ⟨b, hx6, hB, hl, c0, c1, c2, c3⟩ := hg.laid h6 hdi
      have hbf := hg.before hdi
      clear hphi hdw
      rw [hx0] at hK ⊢
      rw [hx6] at hK ⊢
      refine (if_pos (by rfl)).mpr ?_
      refine wp_app_own _ _ rfl (Kd B0 W (.slice a9 Lr.length c9)) (.slice a9 Lr.length c9) Lr b 1 zN (.slice none 0 0) rfl rfl ⟨c0, c1, c2, c3⟩ hbf.1 nil_fs (fun b hb => ⟨hb.2.1, hb.2.2⟩) (by omega) ?_
      intro v' w' r1 r2 r3
      exact hK.out _ _ ⟨Bel2.own r2 hbf.2, hg.app hdi h8 h9 h10 r1 r2 r3⟩ trivial
     case s8 =>
      have hx5 : xv 5 = .int .i64 (Lr.length : Int) := hphi 5 (hdw 5 (by kernel_rfl))
      have h7 : dn 7 = true := hdw 7 (by kernel_rfl)
      obtain ⟨g, C, hx7, hB⟩ := hg.form h7
      clear hphi hdw
      rw [hx5] at hK ⊢
      rw [hx7] at hK ⊢
      refine (if_pos (by rfl)).mpr ?_
      have hlt5 : (Lr.length : Int) < (Lr.length : Int) + 1 := by omega
      go_simp
      exact hK.out (.pointer (some ⟨g, Lr.length * 4, none⟩)) _ ⟨Bel2.refl _ _ _ _ _, hg.addr h7 hx7⟩ trivial
     case s9 =>
      have h4 : dn 4 = true := hdw 4 (by kernel_rfl)
      have h8 : dn 8 = true := hdw 8 (by kernel_rfl)
      have h7 : dn 7 = true := hcl 8 7 h8 (by kernel_rfl)
      obtain ⟨g, C, hx7, hB⟩ := hg.form h7
      obtain ⟨An, Cn, hx4⟩ := hg.node h4
      have hx8 := hg.at8 h8 hx7
      clear hphi hdw
      rw [hx4] at hK ⊢
      rw [hx7] at hK ⊢
      rw [hx8] at hK ⊢
      refine (if_pos (by rfl)).mpr ?_
      obtain ⟨⟨kz, xz, yz, sz, z0, z1, z2, z3⟩, y0, y1, y2, y3⟩ := hg.cells h7 hx7
      have hput := hg.put (u := undef) h4 h7 hdi hx7 hx4
      unfold put4 at hput
      go_simp
      exact hK.out undef _ ⟨Bel2.own (put4_grown W g Lr.length _ _ _ _) (fun k e => by obtain rfl := Option.some.inj e; exact hB), hput⟩ trivial
     case s10 =>
      have h7 : dn 7 = true := hdw 7 (by kernel_rfl)
      obtain ⟨g, C, hx7, hB⟩ := hg.form h7
      have hbx := hg.var hdi
      have hbc := hbx.cell
      have hbf := hbx.frz
      clear hphi hdw
      rw [hx7] at hK ⊢
      refine (if_pos (by rfl)).mpr ?_
      go_simp
      exact hK.out undef _ ⟨Bel2.grown (grown_set W V _), hg.set h7 hx7⟩ trivial
    case behind =>
     intro dn xv W hW hall hx hg a ha
     replace hW := hW.undrew
     simp only [fillA] at ha
     simp only [List.setIfInBounds_toArray, List.set_cons_succ, List.set_cons_zero, Nat.zero_add, Nat.reduceAdd] at ha
     subst ha
     have HFE := Lib.hid (hg.end_ fun i hi => hall i hi)
     have HWE := Lib.hid hW
     clear hx hg hall hW
     have HFE2 : Hid (FAt P z 0 V B0 X l2 (xv 7) (L ++ (L2 ++ [⟨nk, nx, ny, nc⟩])) W) := by
      have := HFE.out
      rw [← HLS.out, List.append_assoc] at this
      exact this
     have HBE := Lib.hid (HB1.out.trans HWE.out)
     go_wp2
     go_roundg (l2.length + 1)
     case rel => exact ⟨xv 7, L2 ++ [⟨nk, nx, ny, nc⟩], l2, by omega, by simp; omega, HFE2, HBE, HSI2⟩
     case measure => omega
  ·obtain ⟨bb, hbb⟩ : ∃ bb, hasW us tx = bb := ⟨_, rfl⟩
   have HBB := Lib.hid hbb
   cases bb with
   | true =>
    rw [if_pos (.inr hbb)] at hit
    clear hbb
    have hcp := HCP.out
    go_wp2_with fail
    refine (next_is HF.out.ps Ht.out).mono ?_
    rintro e w1 ⟨rfl, hb1⟩
    have HF1 := Lib.hid (HF.out.later hb1)
    have HB1 := Lib.hid (HB.out.trans (Bel2.of hb1))
    have HCP1 : Hid (w1.cell? ⟨Bp, 0, none⟩ = some (.pointer (some ⟨P, 0, none⟩))) := (hb1.cell (p := ⟨Bp, 0, none⟩) (by show Bp < wr.heap.size; omega)).trans HCP.out
    have HWX1 := Lib.hid (HWX.out.keep (P := P) (V := V) (B0 := B0) (Bel2.of hb1) HF.out.ne.2.2.2.2 hX.1 hX.2)
    have hs1 : wr.heap.size ≤ w1.heap.size := hb1.size
    clear hb1 hcp HF HCP HWX
    have hcp1 := HCP1.out
    go_wp2_with fail
    refine (next_is HF1.out.ps Ht.out).mono ?_
    rintro e w2 ⟨rfl, hb2⟩
    have HF2 := Lib.hid (HF1.out.later hb2)
    have HB2 := Lib.hid (HB1.out.trans (Bel2.of hb2))
    have HCP2 : Hid (w2.cell? ⟨Bp, 0, none⟩ = some (.pointer (some ⟨P, 0, none⟩))) := (hb2.cell (p := ⟨Bp, 0, none⟩) (by show Bp < w1.heap.size; omega)).trans HCP1.out
    have HWX2 := Lib.hid (HWX1.out.keep (P := P) (V := V) (B0 := B0) (Bel2.of hb2) HF1.out.ne.2.2.2.2 hX.1 hX.2)
    have hs2 : w1.heap.size ≤ w2.heap.size := hb2.size
    clear hb2 hcp1 HF1 HCP1 HWX1
    go_wp2_with fail
    refine (contains_any us _ tx _ HWX2.out.at_).mono ?_
    rintro e w2 ⟨rfl, rfl⟩
    rw [HBB.out]
    cases hr : item z (declR z) 0 l' with
    | bad p2 er =>
     rw [hr, Rd.bind_bad] at hit
     rw [hit, Rd.bind_bad] at hsi
     have HFIN := Lib.hid hsi
     have HR := Lib.hid hr
     clear hit hsi HSI hf hr
     go_wp2
     refine region_ph [4, 6, 7, 8, 9, 10] (FG P z 0 V B0 X l' l' zN (.slice a9 Lr.length c9) (Lr)) (Bel2 P V B0 X) [Cd.is (.slice a9 Lr.length c9), Cd.is (.pointer (some ⟨P, 0, none⟩)), Cd.is (.pointer (some ⟨P, 0, none⟩)), Cd.is (.func (.func 48) #[.pointer (some ⟨P, 0, none⟩)] #[]), cNo2, Cd.is (.int .i64 (Lr.length : Int)), Cd.any, Cd.any, Cd.any, Cd.any, Cd.any] (by kernel_rfl) (by decide) (by kernel_rfl) (Bel2.refl _ _ _ _ _) (fun _ _ _ h k => h.trans k) (fun _ _ h => Bel2.of h) FG.keep ?start ?steps ?behind
     case start => exact fun x => FG.start (HF2.out.later ((Below.refl _ _).drew))
     case steps =>
      intro xv W hW a ha
      replace hW := hW.undrew
      simp only [fillA] at ha
      simp only [List.setIfInBounds_toArray, List.set_cons_succ, List.set_cons_zero, Nat.zero_add, Nat.reduceAdd] at ha
      subst ha
      refine ⟨?s0, ?s1, ?s2, ?s3, ?s4, ?s5, ?s6, ?s7, ?s8, ?s9, ?s10, trivial⟩
      all_goals intro dn hdi hdw hcl hphi hg K hK
      all_goals (try simp only [Act.put, List.setIfInBounds_toArray, List.set_cons_succ, List.set_cons_zero] at hK)
      case s0 =>
       have hb10 : dn 10 = false := notYet hcl hdi (by kernel_rfl)
       have hbc := (hg.var hb10).cell
       clear hphi hdw
       refine (if_pos (by rfl)).mpr ?_
       go_simp
       exact hK.out _ _ (Below.refl _ _) rfl
      case s1 =>
       have hbp := (hW.cell (p := ⟨Bp, 0, none⟩) (by show Bp < w2.heap.size; omega) (.inl hBp.1) hBp.2.1 hBp.2.2.1).trans HCP2.out
       clear hphi hdw
       refine (if_pos (by rfl)).mpr ?_
       go_simp
       exact hK.out _ _ (Below.refl _ _) rfl
      case s2 =>
       have hbp := (hW.cell (p := ⟨Bp, 0, none⟩) (by show Bp < w2.heap.size; omega) (.inl hBp.1) hBp.2.1 hBp.2.2.1).trans HCP2.out
       clear hphi hdw
       refine (if_pos (by rfl)).mpr ?_
       go_simp
       exact hK.out _ _ (Below.refl _ _) rfl
      case s3 =>
       have hx2 : xv 2 = .pointer (some ⟨P, 0, none⟩) := hphi 2 (hdw 2 (by kernel_rfl))
       clear hphi hdw
       rw [hx2] at hK ⊢
       refine (if_pos (by rfl)).mpr ?_
       go_simp
       exact hK.out _ _ (Below.refl _ _) rfl
      case s4 =>
       have hx1 : xv 1 = .pointer (some ⟨P, 0, none⟩) := hphi 1 (hdw 1 (by kernel_rfl))
       have hx3 : xv 3 = .func (.func 48) #[.pointer (some ⟨P, 0, none⟩)] #[] := hphi 3 (hdw 3 (by kernel_rfl))
       clear hphi hdw
       rw [hx1] at hK ⊢
       rw [hx3] at hK ⊢
       refine (if_pos (by rfl)).mpr ?_
       go_simp
       refine (calls_bad (HIT.out W (hg.ps hdi)) HR.out).mono ?_
       rintro e W' ⟨rfl, hbe⟩
       exact ⟨rfl, rows_bad HFIN.out ((HB2.out.trans hW).trans (Bel2.bes hbe))⟩
      case s5 =>
       have hx0 : xv 0 = .slice a9 Lr.length c9 := hphi 0 (hdw 0 (by kernel_rfl))
       clear hphi hdw
       rw [hx0] at hK ⊢
       refine (if_pos (by rfl)).mpr ?_
       go_simp
       exact hK.out _ _ (Below.refl _ _) rfl
      case s6 =>
       clear hphi hdw
       refine (if_pos (by rfl)).mpr ?_
       go_simp
       exact hK.out _ _ ⟨Bel2.of ((Below.refl _ _).alloc (Nat.le_refl _) _), hg.lay hdi⟩ trivial
      case s7 =>
       have hx0 : xv 0 = .slice a9 Lr.length c9 := hphi 0 (hdw 0 (by kernel_rfl))
       have h6 : dn 6 = true := hdw 6 (by kernel_rfl)
       have h8 : dn 8 = false := notYet hcl hdi (by kernel_rfl)
       have h9 : dn 9 = false := notYet hcl hdi (by kernel_rfl)
       have h10 : dn 10 = false := notYet hcl hdi (by kernel_rfl)
       obtain ⟨b, hx6, hB, hl, c0, c1, c2, c3⟩ := hg.laid h6 hdi
       have hbf := hg.before hdi
       clear hphi hdw
       rw [hx0] at hK ⊢
       rw [hx6] at hK ⊢
       refine (if_pos (by rfl)).mpr ?_
       refine wp_app_own _ _ rfl (Kd B0 W (.slice a9 Lr.length c9)) (.slice a9 Lr.length c9) Lr b 1 zN (.slice none 0 0) rfl rfl ⟨c0, c1, c2, c3⟩ hbf.1 nil_fs (fun b hb => ⟨hb.2.1, hb.2.2⟩) (by omega) ?_
       intro v' w' r1 r2 r3
       exact hK.out _ _ ⟨Bel2.own r2 hbf.2, hg.app hdi h8 h9 h10 r1 r2 r3⟩ trivial
      case s8 =>
       have hx5 : xv 5 = .int .i64 (Lr.length : Int) := hphi 5 (hdw 5 (by kernel_rfl))
       have h7 : dn 7 = true := hdw 7 (by kernel_rfl)
       obtain ⟨g, C, hx7, hB⟩ := hg.form h7
       clear hphi hdw
       rw [hx5] at hK ⊢
       rw [hx7] at hK ⊢
       refine (if_pos (by rfl)).mpr ?_
       have hlt5 : (Lr.length : Int) < (Lr.length : Int) + 1 := by omega
       go_simp
       exact hK.out (.pointer (some ⟨g, Lr.length * 4, none⟩)) _ ⟨Bel2.refl _ _ _ _ _, hg.addr h7 hx7⟩ trivial
      case s9 =>
       have hno : False := hphi 4 (hdw 4 (by kernel_rfl))
       exact hno.elim
      case s10 =>
       have h7 : dn 7 = true := hdw 7 (by kernel_rfl)
       obtain ⟨g, C, hx7, hB⟩ := hg.form h7
       have hbx := hg.var hdi
       have hbc := hbx.cell
       have hbf := hbx.frz
       clear hphi hdw
       rw [hx7] at hK ⊢
       refine (if_pos (by rfl)).mpr ?_
       go_simp
       exact hK.out undef _ ⟨Bel2.grown (grown_set W V _), hg.set h7 hx7⟩ trivial
     case behind =>
      intro dn xv W hW hall hx hg a ha
      replace hW := hW.undrew
      simp only [fillA] at ha
      simp only [List.setIfInBounds_toArray, List.set_cons_succ, List.set_cons_zero, Nat.zero_add, Nat.reduceAdd] at ha
      subst ha
      exact (hx 4 (by decide) : False).elim
    | ok n l2 =>
     obtain ⟨nk, nx, ny, nc⟩ := n
     have hdl : l2.length < l'.length := decl_item_dec z 0 l' _ l2 hr
     rw [hr, Rd.bind_ok] at hit
     rw [hit, Rd.bind_bind] at hsi
     have HSI2 : Hid (∃ f, l2.length < f ∧ rows z (us.map ByteArray.toList) (l.length + 1) l = (rows z (us.map ByteArray.toList) f l2).bind fun c l => .ok (appF (ofL' (L2 ++ [⟨nk, nx, ny, nc⟩])) c) l) := ⟨f, by omega, by
      rw [hsi]
      congr 1
      funext c l
      rw [Rd.bind_ok, appF_snoc]⟩
     have HR := Lib.hid hr
     clear hit hsi HSI hf hr
     go_wp2
     refine region_ph [4, 6, 7, 8, 9, 10] (FG P z 0 V B0 X l' l2 ⟨nk, nx, ny, nc⟩ (.slice a9 Lr.length c9) (Lr)) (Bel2 P V B0 X) [Cd.is (.slice a9 Lr.length c9), Cd.is (.pointer (some ⟨P, 0, none⟩)), Cd.is (.pointer (some ⟨P, 0, none⟩)), Cd.is (.func (.func 48) #[.pointer (some ⟨P, 0, none⟩)] #[]), Cd.any, Cd.is (.int .i64 (Lr.length : Int)), Cd.any, Cd.any, Cd.any, Cd.any, Cd.any] (by kernel_rfl) (by decide) (by kernel_rfl) (Bel2.refl _ _ _ _ _) (fun _ _ _ h k => h.trans k) (fun _ _ h => Bel2.of h) FG.keep ?start ?steps ?behind
     case start => exact fun x => FG.start (HF2.out.later ((Below.refl _ _).drew))
     case steps =>
      intro xv W hW a ha
      replace hW := hW.undrew
      simp only [fillA] at ha
      simp only [List.setIfInBounds_toArray, List.set_cons_succ, List.set_cons_zero, Nat.zero_add, Nat.reduceAdd] at ha
      subst ha
      refine ⟨?s0, ?s1, ?s2, ?s3, ?s4, ?s5, ?s6, ?s7, ?s8, ?s9, ?s10, trivial⟩
      all_goals intro dn hdi hdw hcl hphi hg K hK
      all_goals (try simp only [Act.put, List.setIfInBounds_toArray, List.set_cons_succ, List.set_cons_zero] at hK)
      case s0 =>
       have hb10 : dn 10 = false := notYet hcl hdi (by kernel_rfl)
       have hbc := (hg.var hb10).cell
       clear hphi hdw
       refine (if_pos (by rfl)).mpr ?_
       go_simp
       exact hK.out _ _ (Below.refl _ _) rfl
      case s1 =>
       have hbp := (hW.cell (p := ⟨Bp, 0, none⟩) (by show Bp < w2.heap.size; omega) (.inl hBp.1) hBp.2.1 hBp.2.2.1).trans HCP2.out
       clear hphi hdw
       refine (if_pos (by rfl)).mpr ?_
       go_simp
       exact hK.out _ _ (Below.refl _ _) rfl
      case s2 =>
       have hbp := (hW.cell (p := ⟨Bp, 0, none⟩) (by show Bp < w2.heap.size; omega) (.inl hBp.1) hBp.2.1 hBp.2.2.1).trans HCP2.out
       clear hphi hdw
       refine (if_pos (by rfl)).mpr ?_
       go_simp
       exact hK.out _ _ (Below.refl _ _) rfl
      case s3 =>
       have hx2 : xv 2 = .pointer (some ⟨P, 0, none⟩) := hphi 2 (hdw 2 (by kernel_rfl))
       clear hphi hdw
       rw [hx2] at hK ⊢
       refine (if_pos (by rfl)).mpr ?_
       go_simp
       exact hK.out _ _ (Below.refl _ _) rfl
      case s4 =>
       have hx1 : xv 1 = .pointer (some ⟨P, 0, none⟩) := hphi 1 (hdw 1 (by kernel_rfl))
       have hx3 : xv 3 = .func (.func 48) #[.pointer (some ⟨P, 0, none⟩)] #[] := hphi 3 (hdw 3 (by kernel_rfl))
       clear hphi hdw
       rw [hx1] at hK ⊢
       rw [hx3] at hK ⊢
       refine (if_pos (by rfl)).mpr ?_
       go_simp
       refine (calls_ok (HIT.out W (hg.ps hdi)) HR.out).mono ?_
       rintro e W' ⟨v4, rfl, hv, hps, hbe⟩
       exact hK.out _ _ ⟨Bel2.bes hbe, hg.call hdi hv hps hbe⟩ trivial
      case s5 =>
       have hx0 : xv 0 = .slice a9 Lr.length c9 := hphi 0 (hdw 0 (by kernel_rfl))
       clear hphi hdw
       rw [hx0] at hK ⊢
       refine (if_pos (by rfl)).mpr ?_
       go_simp
       exact hK.out _ _ (Below.refl _ _) rfl
      case s6 =>
       clear hphi hdw
       refine (if_pos (by rfl)).mpr ?_
       go_simp
       exact hK.out _ _ ⟨Bel2.of ((Below.refl _ _).alloc (Nat.le_refl _) _), hg.lay hdi⟩ trivial
      case s7 =>
       have hx0 : xv 0 = .slice a9 Lr.length c9 := hphi 0 (hdw 0 (by kernel_rfl))
       have h6 : dn 6 = true := hdw 6 (by kernel_rfl)
       have h8 : dn 8 = false := notYet hcl hdi (by kernel_rfl)
       have h9 : dn 9 = false := notYet hcl hdi (by kernel_rfl)
       have h10 : dn 10 = false := notYet hcl hdi (by kernel_rfl)
       obtain ⟨b, hx6, hB, hl, c0, c1, c2, c3⟩ := hg.laid h6 hdi
       have hbf := hg.before hdi
       clear hphi hdw
       rw [hx0] at hK ⊢
       rw [hx6] at hK ⊢
       refine (if_pos (by rfl)).mpr ?_
       refine wp_app_own _ _ rfl (Kd B0 W (.slice a9 Lr.length c9)) (.slice a9 Lr.length c9) Lr b 1 zN (.slice none 0 0) rfl rfl ⟨c0, c1, c2, c3⟩ hbf.1 nil_fs (fun b hb => ⟨hb.2.1, hb.2.2⟩) (by omega) ?_
       intro v' w' r1 r2 r3
       exact hK.out _ _ ⟨Bel2.own r2 hbf.2, hg.app hdi h8 h9 h10 r1 r2 r3⟩ trivial
      case s8 =>
       have hx5 : xv 5 = .int .i64 (Lr.length : Int) := hphi 5 (hdw 5 (by kernel_rfl))
       have h7 : dn 7 = true := hdw 7 (by kernel_rfl)
       obtain ⟨g, C, hx7, hB⟩ := hg.form h7
       clear hphi hdw
       rw [hx5] at hK ⊢
       rw [hx7] at hK ⊢
       refine (if_pos (by rfl)).mpr ?_
       have hlt5 : (Lr.length : Int) < (Lr.length : Int) + 1 := by omega
       go_simp
       exact hK.out (.pointer (some ⟨g, Lr.length * 4, none⟩)) _ ⟨Bel2.refl _ _ _ _ _, hg.addr h7 hx7⟩ trivial
      case s9 =>
       have h4 : dn 4 = true := hdw 4 (by kernel_rfl)
       have h8 : dn 8 = true := hdw 8 (by kernel_rfl)
       have h7 : dn 7 = true := hcl 8 7 h8 (by kernel_rfl)
       obtain ⟨g, C, hx7, hB⟩ := hg.form h7
       obtain ⟨An, Cn, hx4⟩ := hg.node h4
       have hx8 := hg.at8 h8 hx7
       clear hphi hdw
       rw [hx4] at hK ⊢
       rw [hx7] at hK ⊢
       rw [hx8] at hK ⊢
       refine (if_pos (by rfl)).mpr ?_
       obtain ⟨⟨kz, xz, yz, sz, z0, z1, z2, z3⟩, y0, y1, y2, y3⟩ := hg.cells h7 hx7
       have hput := hg.put (u := undef) h4 h7 hdi hx7 hx4
       unfold put4 at hput
       go_simp
       exact hK.out undef _ ⟨Bel2.own (put4_grown W g Lr.length _ _ _ _) (fun k e => by obtain rfl := Option.some.inj e; exact hB), hput⟩ trivial
      case s10 =>
       have h7 : dn 7 = true := hdw 7 (by kernel_rfl)
       obtain ⟨g, C, hx7, hB⟩ := hg.form h7
       have hbx := hg.var hdi
       have hbc := hbx.cell
       have hbf := hbx.frz
       clear hphi hdw
       rw [hx7] at hK ⊢
       refine (if_pos (by rfl)).mpr ?_
       go_simp
       exact hK.out undef _ ⟨Bel2.grown (grown_set W V _), hg.set h7 hx7⟩ trivial
     case behind =>
      intro dn xv W hW hall hx hg a ha
      replace hW := hW.undrew
      simp only [fillA] at ha
      simp only [List.setIfInBounds_toArray, List.set_cons_succ, List.set_cons_zero, Nat.zero_add, Nat.reduceAdd] at ha
      subst ha
      have HFE := Lib.hid (hg.end_ fun i hi => hall i hi)
      have HWE := Lib.hid hW
      clear hx hg hall hW
      have HFE2 : Hid (FAt P z 0 V B0 X l2 (xv 7) (L ++ (L2 ++ [⟨nk, nx, ny, nc⟩])) W) := by
       have := HFE.out
       rw [← HLS.out, List.append_assoc] at this
       exact this
      have HBE := Lib.hid (HB2.out.trans HWE.out)
      go_wp2
      go_roundg (l2.length + 1)
      case rel => exact ⟨xv 7, L2 ++ [⟨nk, nx, ny, nc⟩], l2, by omega, by simp; omega, HFE2, HBE, HSI2⟩
      case measure => omega
   | false =>
    rw [if_neg (fun e => e.elim h5 (fun e => by rw [hbb] at e; cases e))] at hit
    rw [hit, Rd.bind_ok, appF_nil] at hsi
    have HFIN := Lib.hid hsi
    clear hbb hit hsi HSI hf
    have hcp := HCP.out
    go_wp2_with fail
    refine (next_is HF.out.ps Ht.out).mono ?_
    rintro e w1 ⟨rfl, hb1⟩
    have HF1 := Lib.hid (HF.out.later hb1)
    have HB1 := Lib.hid (HB.out.trans (Bel2.of hb1))
    have HCP1 : Hid (w1.cell? ⟨Bp, 0, none⟩ = some (.pointer (some ⟨P, 0, none⟩))) := (hb1.cell (p := ⟨Bp, 0, none⟩) (by show Bp < wr.heap.size; omega)).trans HCP.out
    have HWX1 := Lib.hid (HWX.out.keep (P := P) (V := V) (B0 := B0) (Bel2.of hb1) HF.out.ne.2.2.2.2 hX.1 hX.2)
    have hs1 : wr.heap.size ≤ w1.heap.size := hb1.size
    clear hb1 hcp HF HCP HWX
    have hcp1 := HCP1.out
    go_wp2_with fail
    refine (next_is HF1.out.ps Ht.out).mono ?_
    rintro e w2 ⟨rfl, hb2⟩
    have HF2 := Lib.hid (HF1.out.later hb2)
    have HB2 := Lib.hid (HB1.out.trans (Bel2.of hb2))
    have HCP2 : Hid (w2.cell? ⟨Bp, 0, none⟩ = some (.pointer (some ⟨P, 0, none⟩))) := (hb2.cell (p := ⟨Bp, 0, none⟩) (by show Bp < w1.heap.size; omega)).trans HCP1.out
    have HWX2 := Lib.hid (HWX1.out.keep (P := P) (V := V) (B0 := B0) (Bel2.of hb2) HF1.out.ne.2.2.2.2 hX.1 hX.2)
    have hs2 : w1.heap.size ≤ w2.heap.size := hb2.size
    clear hb2 hcp1 HF1 HCP1 HWX1
    go_wp2_with fail
    refine (contains_any us _ tx _ HWX2.out.at_).mono ?_
    rintro e w2 ⟨rfl, rfl⟩
    rw [HBB.out]
    go_wp2
    go_end0
    exact rows_ok HFIN.out (by have := HF2.out; rw [← HLS.out] at this; exact this) hl' HB2.out
end Go.Proofs.YtaiihnniblibaaaGreatDoor.Parse
