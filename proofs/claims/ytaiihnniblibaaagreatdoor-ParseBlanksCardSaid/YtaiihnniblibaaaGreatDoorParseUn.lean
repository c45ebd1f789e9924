/-
 Layer 6 (parse): expressions: unary.
-/
import Derived.Test.YtaiihnniblibaaaGreatDoorParseBehind
namespace Go.Proofs.YtaiihnniblibaaaGreatDoor.Parse
open Go.ChangeShapes Go.WideShapes Go.ChangeAt Go.RowKit Tree MemT Mem
set_option linter.unusedVariables false

/-- One expression without operators between; its own operand by un. -/
def un1 (z : Nat) (ex : Nat → Nat → List Tk → Rd Nd) (un : Nat → List Tk → Rd Nd) (d : Nat) (l : List Tk) : Rd Nd :=
 (beg z (begU (Parse.hd z l)) d l).bind fun t l =>
  if isSign t = true then (un (d + if isSign (Parse.hd z l) = true then 2 else 1) l).bind fun n l => .ok (node 28 t.x (one n)) l
  else (first z ex d t l).bind fun n l => behind z ex d (l.length + 1) n l
set_option maxHeartbeats 16000000 in
set_option maxRecDepth 100000 in
theorem un_step (P z N : Nat) (ex : Nat → Nat → List Tk → Rd Nd) (hex : RdOk 71 P z N (ex 1)) (hdec : ∀ k, Dec (ex k)) (M : Nat) (hM : M ≤ N) (un : Nat → List Tk → Rd Nd) (hun : RdOk 100 P z M un) (l : List Tk) (d : Nat) (w : World) (h : PS w P z l d) (hl : l.length ≤ M) (hd : d ≤ 300) :
  Calls Tryz.prog 100 #[.pointer (some ⟨P, 0, none⟩)] w (RPost NV w P z d (un1 z ex un d l)) := by
 have hlt := h.lt
 have HST := Lib.hid (Stt.start h)
 have HN := Lib.hid (next_any P z l d _ (h.alloc ndZ))
 have HI := Lib.hid (fun W => begU_any (Parse.hd z l) W)
 have HBG : Hid (∀ W, PS W P z l d → Calls Tryz.prog 66 #[.pointer (some ⟨P, 0, none⟩), .bool (begU (Parse.hd z l))] W (RPost TV W P z d (beg z (begU (Parse.hd z l)) d l))) :=
  fun W hW => begin_any _ P z l d begU_ne (by omega) W hW
 have hsp : un1 z ex un d l = un1 z ex un d l := rfl
 conv at hsp => rhs; unfold un1
 have hPB : P < w.heap.size + 1 := by omega
 cases hr : beg z (begU (Parse.hd z l)) d l with
 | bad p er =>
  rw [hr, Rd.bind_bad] at hsp
  rw [hr] at HBG
  have HSP := Lib.hid hsp
  clear h hsp hr hex hun
  generalize Parse.hd z l = t at *
  generalize begU t = bb at *
  go_enter Tryz.func100, Tryz.ntmps100
  go_wp2_with fail
  refine (HN.out).mono ?_
  rintro e w1 ⟨rfl, hb⟩
  replace HST := Lib.hid (HST.out.quiet hb)
  clear hb
  go_wp2_with fail
  refine (HI.out _).mono ?_
  rintro e w2 ⟨rfl, hb⟩
  replace HST := Lib.hid (HST.out.quiet hb)
  clear hb
  go_wp2_with fail
  refine (calls_bad (HBG.out _ HST.out.ps) rfl).mono ?_
  rintro e w3 ⟨rfl, hbe⟩
  have HE := Lib.hid (HST.out.bes.trans hbe)
  clear hbe
  go_wp2
  exact ⟨rfl, rpost_bad HSP.out HE.out⟩
 | ok t r =>
  obtain ⟨-, hd256, rfl⟩ := beg_ok begU_ne hr
  rw [hr, Rd.bind_ok] at hsp
  rw [hr] at HBG
  have hrl : r.length < M := by simp only [List.length_cons] at hl; omega
  have hrN : r.length < N := by omega
  have HDP : Hid (∀ W (by_ : Nat), by_ ≤ 2 → PS W P z r d → Calls Tryz.prog 89 #[.pointer (some ⟨P, 0, none⟩), .int .i64 (by_ : Int), .func (.func 100) #[.pointer (some ⟨P, 0, none⟩)] #[]] W (RPost NV W P z d (un (d + by_) r))) :=
   fun W by_ hby hW => deeper_any P z M _ un by_ r d W hW (reads_of W ent_unary hun) hrl (by omega)
  simp only [Parse.hd] at HN HI HBG
  have HIS := Lib.hid (fun W => isSign_any t W)
  have HFI : Hid (∀ W, PS W P z r d → ∀ tk tx tp tf, t = ⟨tk, tx, tp, tf⟩ → Calls Tryz.prog 113 #[.pointer (some ⟨P, 0, none⟩), .agg #[.int .i64 tk, .string tx, .int .i64 (tp : Int), .bool tf]] W (RPost NV W P z d (first z ex d t r))) :=
   fun W hW tk tx tp tf ht => by subst ht; exact first_any P z N ex hex tk tx tp tf r d W hW hrN (by omega)
  have HBE : Hid (∀ W B0 nk nx ny nc A C l', PS W P z l' d → Fs W (Mi B0 W.heap.size) (.slice A nc.len C) nc → P < B0 → B0 ≤ W.heap.size → l'.length ≤ N → Calls Tryz.prog 112 #[.pointer (some ⟨P, 0, none⟩), .agg #[.int .i64 nk, .string nx, .string ny, .slice A nc.len C]] W (RPost (NB B0) W P z d (behind z ex d (l'.length + 1) ⟨nk, nx, ny, nc⟩ l'))) :=
   fun W B0 nk nx ny nc A C l' hW hf hP hB hl' => behind_any P z N ex hex (hdec 1) _ nk nx ny nc A C l' d B0 W hW hf hP hB hl' (Nat.lt_succ_self _) (by omega)
  have hr1 : ∀ n l1, first z ex d t r = .ok n l1 → l1.length < r.length + 1 := fun n l1 e => lt_first hdec (Nat.lt_succ_self _) n l1 e
  have HR1 := Lib.hid hr1
  clear h hr hex hun hl hr1 hdec
  generalize begU t = bb at *
  obtain ⟨bs, hbs⟩ : ∃ bs, isSign t = bs := ⟨_, rfl⟩
  rw [hbs] at hsp HIS
  have HBS := Lib.hid hbs
  clear hbs
  have HBG2 : Hid (∀ W, PS W P z (t :: r) d → Calls Tryz.prog 66 #[.pointer (some ⟨P, 0, none⟩), .bool bb] W fun e w' => ∃ v, e = .returned v ∧ TV W w' v t ∧ PS w' P z r d ∧ Bes P W w') := fun W hW => calls_ok (HBG.out W hW) rfl
  clear HBG
  cases bs with
  | false =>
   rw [if_neg (by decide)] at hsp
   cases hf : first z ex d t r with
   | bad p er =>
    rw [hf, Rd.bind_bad] at hsp
    rw [hf] at HFI
    have HSP := Lib.hid hsp
    clear hsp hf
    go_enter Tryz.func100, Tryz.ntmps100
    go_wp2_with fail
    refine (HN.out).mono ?_
    rintro e w1 ⟨rfl, hb⟩
    replace HST := Lib.hid (HST.out.quiet hb)
    clear hb
    go_wp2_with fail
    refine (HI.out _).mono ?_
    rintro e w2 ⟨rfl, hb⟩
    replace HST := Lib.hid (HST.out.quiet hb)
    clear hb
    go_wp2_with fail
    refine (HBG2.out _ HST.out.ps).mono ?_
    rintro e wt ⟨v, rfl, rfl, hps, hbe⟩
    replace HST := Lib.hid (HST.out.read hbe hps)
    clear hps hbe
    obtain ⟨tk, tx, tp, tf⟩ := t
    have HTB := Lib.hid (box4_new wt 75 (.int .i64 tk) (.string tx) (.int .i64 (tp : Int)) (.bool tf))
    have hgP : wt.heap.size ≠ P := by have := HST.out.size; omega
    have hgR : wt.heap.size ≠ w.heap.size := by have := HST.out.size; omega
    have hNPHTB := hgP
    have hb := (Below.refl (wt).heap.size (wt)).alloc (Nat.le_refl _) (.cells #[.int .i64 tk, .string tx, .int .i64 (tp : Int), .bool tf] 75)
    replace HST := Lib.hid (HST.out.quiet hb)
    clear hb
    unfold tkV at HIS
    unfold tkV
    obtain ⟨t0, t1, t2, t3⟩ := HTB.out.cells
    go_wp2_with fail
    refine (HIS.out _).mono ?_
    rintro e w4 ⟨rfl, hb⟩
    replace HST := Lib.hid (HST.out.quiet hb)
    replace HTB := Lib.hid (HTB.out.later hb)
    clear hb
    obtain ⟨t0, t1, t2, t3⟩ := HTB.out.cells
    go_wp2_with fail
    refine (calls_bad (HFI.out _ HST.out.ps tk tx tp tf rfl) rfl).mono ?_
    rintro e w5 ⟨rfl, hbe⟩
    have HE := Lib.hid (HST.out.bes.trans hbe)
    clear hbe
    go_wp2
    exact ⟨rfl, rpost_bad HSP.out HE.out⟩
   | ok n l1 =>
    obtain ⟨nk, nx, ny, nc⟩ := n
    rw [hf, Rd.bind_ok] at hsp
    have hl1 : l1.length ≤ N := by have := HR1.out _ _ hf; omega
    rw [hf] at HFI
    cases hb : behind z ex d (l1.length + 1) ⟨nk, nx, ny, nc⟩ l1 with
    | bad p er =>
     have HSP : Hid (_ = _) := hsp.trans hb
     have HB := Lib.hid hb
     clear hsp hf hb
     go_enter Tryz.func100, Tryz.ntmps100
     go_wp2_with fail
     refine (HN.out).mono ?_
     rintro e w1 ⟨rfl, hb⟩
     replace HST := Lib.hid (HST.out.quiet hb)
     clear hb
     go_wp2_with fail
     refine (HI.out _).mono ?_
     rintro e w2 ⟨rfl, hb⟩
     replace HST := Lib.hid (HST.out.quiet hb)
     clear hb
     go_wp2_with fail
     refine (HBG2.out _ HST.out.ps).mono ?_
     rintro e wt ⟨v, rfl, rfl, hps, hbe⟩
     replace HST := Lib.hid (HST.out.read hbe hps)
     clear hps hbe
     obtain ⟨tk, tx, tp, tf⟩ := t
     have HTB := Lib.hid (box4_new wt 75 (.int .i64 tk) (.string tx) (.int .i64 (tp : Int)) (.bool tf))
     have hgP : wt.heap.size ≠ P := by have := HST.out.size; omega
     have hgR : wt.heap.size ≠ w.heap.size := by have := HST.out.size; omega
     have hNPHTB := hgP
     have hb := (Below.refl (wt).heap.size (wt)).alloc (Nat.le_refl _) (.cells #[.int .i64 tk, .string tx, .int .i64 (tp : Int), .bool tf] 75)
     replace HST := Lib.hid (HST.out.quiet hb)
     clear hb
     unfold tkV at HIS
     unfold tkV
     obtain ⟨t0, t1, t2, t3⟩ := HTB.out.cells
     go_wp2_with fail
     refine (HIS.out _).mono ?_
     rintro e w4 ⟨rfl, hb⟩
     replace HST := Lib.hid (HST.out.quiet hb)
     replace HTB := Lib.hid (HTB.out.later hb)
     clear hb
     obtain ⟨t0, t1, t2, t3⟩ := HTB.out.cells
     go_wp2_with fail
     refine (calls_ok (HFI.out _ HST.out.ps tk tx tp tf rfl) rfl).mono ?_
     rintro e wf ⟨v, rfl, hv, hps, hbe⟩
     obtain ⟨A, C, rfl, hf, hst⟩ := nv_at HST.out hv hps hbe
     replace HST := Lib.hid hst
     simp only at hf ⊢
     have HF := Lib.hid hf
     clear hv hps hbe hst hf t0 t1 t2 t3 HTB
     go_wp2_with fail
     refine (calls_bad (HBE.out _ _ nk nx ny nc A C l1 HST.out.ps HF.out hPB HST.out.size hl1) HB.out).mono ?_
     rintro e w5 ⟨rfl, hbe⟩
     have HE := Lib.hid (HST.out.bes.trans hbe)
     clear hbe
     go_wp2
     exact ⟨rfl, rpost_bad HSP.out HE.out⟩
    | ok n2 l2 =>
     obtain ⟨nk2, nx2, ny2, nc2⟩ := n2
     have HSP : Hid (_ = _) := hsp.trans hb
     have HB := Lib.hid hb
     clear hsp hf hb
     go_enter Tryz.func100, Tryz.ntmps100
     go_wp2_with fail
     refine (HN.out).mono ?_
     rintro e w1 ⟨rfl, hb⟩
     replace HST := Lib.hid (HST.out.quiet hb)
     clear hb
     go_wp2_with fail
     refine (HI.out _).mono ?_
     rintro e w2 ⟨rfl, hb⟩
     replace HST := Lib.hid (HST.out.quiet hb)
     clear hb
     go_wp2_with fail
     refine (HBG2.out _ HST.out.ps).mono ?_
     rintro e wt ⟨v, rfl, rfl, hps, hbe⟩
     replace HST := Lib.hid (HST.out.read hbe hps)
     clear hps hbe
     obtain ⟨tk, tx, tp, tf⟩ := t
     have HTB := Lib.hid (box4_new wt 75 (.int .i64 tk) (.string tx) (.int .i64 (tp : Int)) (.bool tf))
     have hgP : wt.heap.size ≠ P := by have := HST.out.size; omega
     have hgR : wt.heap.size ≠ w.heap.size := by have := HST.out.size; omega
     have hNPHTB := hgP
     have hb := (Below.refl (wt).heap.size (wt)).alloc (Nat.le_refl _) (.cells #[.int .i64 tk, .string tx, .int .i64 (tp : Int), .bool tf] 75)
     replace HST := Lib.hid (HST.out.quiet hb)
     clear hb
     unfold tkV at HIS
     unfold tkV
     obtain ⟨t0, t1, t2, t3⟩ := HTB.out.cells
     go_wp2_with fail
     refine (HIS.out _).mono ?_
     rintro e w4 ⟨rfl, hb⟩
     replace HST := Lib.hid (HST.out.quiet hb)
     replace HTB := Lib.hid (HTB.out.later hb)
     clear hb
     obtain ⟨t0, t1, t2, t3⟩ := HTB.out.cells
     go_wp2_with fail
     refine (calls_ok (HFI.out _ HST.out.ps tk tx tp tf rfl) rfl).mono ?_
     rintro e wf ⟨v, rfl, hv, hps, hbe⟩
     obtain ⟨A, C, rfl, hf, hst⟩ := nv_at HST.out hv hps hbe
     replace HST := Lib.hid hst
     simp only at hf ⊢
     have HF := Lib.hid hf
     clear hv hps hbe hst hf t0 t1 t2 t3 HTB
     go_wp2_with fail
     refine (calls_ok (HBE.out _ _ nk nx ny nc A C l1 HST.out.ps HF.out hPB HST.out.size hl1) HB.out).mono ?_
     rintro e w9 ⟨v, rfl, ⟨A2, C2, rfl, hf2⟩, hps, hbe⟩
     replace HST := Lib.hid (HST.out.read hbe hps)
     simp only at hf2 ⊢
     generalize hm2 : nc2.len = m2 at hf2 ⊢
     have Hm2 := Lib.hid hm2
     have HF2 := Lib.hid hf2
     clear hps hbe hf2 hm2
     obtain ⟨⟨r0, r1, r2, r3, y0, y1, y2, y3⟩, g0, g1, g2, g3⟩ := HST.out.frz
     try unfold e0
     go_wp2
     have hfin := HST.out.ret HSP.out Hm2.out.symm HF2.out
     refine bodyPost_ret (results_cell_row rfl _ _ w.heap.size 24 _ (0, 0) _ rfl hfin.1 Tryz.underlying24 rfl hi_nd) rfl ?_
     exact hfin.2
  | true =>
   rw [if_pos rfl] at hsp
   obtain ⟨b2, hb2⟩ : ∃ b2, isSign (Parse.hd z r) = b2 := ⟨_, rfl⟩
   rw [hb2] at hsp
   obtain ⟨u, hu⟩ : ∃ u, Parse.hd z r = u := ⟨_, rfl⟩
   rw [hu] at hb2
   have HB2 := Lib.hid hb2
   have Hu := Lib.hid hu
   clear hb2 hu HFI HBE HR1
   cases b2 with
   | false =>
    rw [if_neg (by decide)] at hsp
    cases hr : un (d + 1) r with
    | bad p er =>
     rw [hr, Rd.bind_bad] at hsp
     have HSP := Lib.hid hsp
     have Hr := Lib.hid hr
     clear hsp hr
     go_enter Tryz.func100, Tryz.ntmps100
     go_wp2_with fail
     refine (HN.out).mono ?_
     rintro e w1 ⟨rfl, hb⟩
     replace HST := Lib.hid (HST.out.quiet hb)
     clear hb
     go_wp2_with fail
     refine (HI.out _).mono ?_
     rintro e w2 ⟨rfl, hb⟩
     replace HST := Lib.hid (HST.out.quiet hb)
     clear hb
     go_wp2_with fail
     refine (HBG2.out _ HST.out.ps).mono ?_
     rintro e wt ⟨v, rfl, rfl, hps, hbe⟩
     replace HST := Lib.hid (HST.out.read hbe hps)
     clear hps hbe
     obtain ⟨tk, tx, tp, tf⟩ := t
     have HTB := Lib.hid (box4_new wt 75 (.int .i64 tk) (.string tx) (.int .i64 (tp : Int)) (.bool tf))
     have hgP : wt.heap.size ≠ P := by have := HST.out.size; omega
     have hgR : wt.heap.size ≠ w.heap.size := by have := HST.out.size; omega
     have hNPHTB := hgP
     have hb := (Below.refl (wt).heap.size (wt)).alloc (Nat.le_refl _) (.cells #[.int .i64 tk, .string tx, .int .i64 (tp : Int), .bool tf] 75)
     replace HST := Lib.hid (HST.out.quiet hb)
     clear hb
     unfold tkV at HIS
     unfold tkV
     obtain ⟨t0, t1, t2, t3⟩ := HTB.out.cells
     go_wp2_with fail
     refine (HIS.out _).mono ?_
     rintro e w4 ⟨rfl, hb⟩
     replace HST := Lib.hid (HST.out.quiet hb)
     replace HTB := Lib.hid (HTB.out.later hb)
     clear hb
     go_wp2_with fail
     refine (next_any P z r d _ HST.out.ps).mono ?_
     rintro e w5 ⟨rfl, hb⟩
     replace HST := Lib.hid (HST.out.quiet hb)
     replace HTB := Lib.hid (HTB.out.later hb)
     clear hb
     rw [Hu.out]
     have HS2 := Lib.hid (fun W => isSign_any u W)
     rw [HB2.out] at HS2
     go_wp2_with fail
     refine (HS2.out _).mono ?_
     rintro e w6 ⟨rfl, hb⟩
     replace HST := Lib.hid (HST.out.quiet hb)
     replace HTB := Lib.hid (HTB.out.later hb)
     clear hb
     have hRP : w.heap.size ≠ P := by omega
     clear t0 t1 t2 t3
     go_wp2
     generalize wt.heap.size = gt at *
     have hP0 : P < (w.heap.size + 1) := (by omega)
     have hR0 : w.heap.size < (w.heap.size + 1) := (by omega)
     refine region_ph [6, 9] (GN 6 9 P z d r r (FinN (w.heap.size + 1) w.heap.size noneN) (BxA w.heap.size)) (Bes2 P (w.heap.size)) [Cd.is (.pointer (some ⟨gt, 1, none⟩)), Cd.is (.string tx), Cd.is (.pointer (some ⟨P, 0, none⟩)), Cd.is (.int .i64 1), Cd.is (.pointer (some ⟨P, 0, none⟩)), Cd.is (.func (.func 100) #[.pointer (some ⟨P, 0, none⟩)] #[]), cNo, cNo, cNo, cNo] (by kernel_rfl) (by decide) (by kernel_rfl) (Bes2.refl _ _ _) (fun _ _ _ h k => h.trans k) (fun _ _ h => Bes2.of h) (GN.keep FinN.later BxA.later) ?start ?steps ?behind
     case start =>
      intro x
      exact ⟨fun h => (by cases h), fun _ => HST.out.bx, fun h => (by cases h), fun _ => HST.out.ps.drewN 1⟩
     case steps =>
      intro xv W hW a ha
      replace hW := hW.undrew
      simp only [fillA] at ha
      simp only [List.setIfInBounds_toArray, List.set_cons_succ, List.set_cons_zero, Nat.zero_add, Nat.reduceAdd] at ha
      subst ha
      refine ⟨?s0, ?s1, ?s2, ?s3, ?s4, ?s5, ?s6, ?s7, ?s8, ?s9, trivial⟩
      all_goals intro dn hdi hdw hcl hphi hg K hK
      all_goals (try simp only [Act.put, List.setIfInBounds_toArray, List.set_cons_succ, List.set_cons_zero] at hK)
      case s0 =>
       clear hphi hdw
       refine (if_pos (by rfl)).mpr ?_
       go_simp
       exact hK.out _ _ (Below.refl _ _) rfl
      case s1 =>
       have hx0 : xv 0 = .pointer (some ⟨gt, 1, none⟩) := hphi 0 (hdw 0 (by kernel_rfl))
       clear hphi hdw
       rw [hx0] at hK ⊢
       refine (if_pos (by rfl)).mpr ?_
       obtain ⟨q0, q1, q2, q3⟩ := (HTB.out.bes2 hW hgP hgR).cells
       go_simp
       exact hK.out _ _ (Below.refl _ _) rfl
      case s2 =>
       clear hphi hdw
       refine (if_pos (by rfl)).mpr ?_
       go_simp
       exact hK.out _ _ (Below.refl _ _) rfl
      case s3 =>
       clear hphi hdw
       refine (if_pos (by rfl)).mpr ?_
       go_simp
       exact hK.out _ _ (Below.refl _ _) rfl
      case s4 =>
       clear hphi hdw
       refine (if_pos (by rfl)).mpr ?_
       go_simp
       exact hK.out _ _ (Below.refl _ _) rfl
      case s5 =>
       have hx4 : xv 4 = .pointer (some ⟨P, 0, none⟩) := hphi 4 (hdw 4 (by kernel_rfl))
       clear hphi hdw
       rw [hx4] at hK ⊢
       refine (if_pos (by rfl)).mpr ?_
       go_simp
       exact hK.out _ _ (Below.refl _ _) rfl
      case s6 =>
       have hx2 : xv 2 = .pointer (some ⟨P, 0, none⟩) := hphi 2 (hdw 2 (by kernel_rfl))
       have hx3 : xv 3 = .int .i64 1 := hphi 3 (hdw 3 (by kernel_rfl))
       have hx5 : xv 5 = .func (.func 100) #[.pointer (some ⟨P, 0, none⟩)] #[] := hphi 5 (hdw 5 (by kernel_rfl))
       clear hphi hdw
       rw [hx2] at hK ⊢
       rw [hx3] at hK ⊢
       rw [hx5] at hK ⊢
       refine (if_pos (by rfl)).mpr ?_
       go_simp
       refine (calls_bad (HDP.out W 1 (by decide) (hg.2.2.2 hdi)) Hr.out).mono ?_
       rintro e W' ⟨rfl, hbe⟩
       exact ⟨rfl, rpost_bad HSP.out (Bes2.back HST.out.bes (hW.trans (Bes2.bes hbe)) (Nat.le_refl _))⟩
      case s7 =>
       have hno : False := hphi 6 (hdw 6 (by kernel_rfl))
       exact hno.elim
      case s8 =>
       have hx1 : xv 1 = .string tx := hphi 1 (hdw 1 (by kernel_rfl))
       have hno : False := hphi 7 (hdw 7 (by kernel_rfl))
       exact hno.elim
      case s9 =>
       have hno : False := hphi 8 (hdw 8 (by kernel_rfl))
       exact hno.elim
     case behind =>
      intro dn xv W hW hall hx hg a ha
      replace hW := hW.undrew
      simp only [fillA] at ha
      simp only [List.setIfInBounds_toArray, List.set_cons_succ, List.set_cons_zero, Nat.zero_add, Nat.reduceAdd] at ha
      subst ha
      exact (hx 6 (by decide) : False).elim
    | ok n l2 =>
     obtain ⟨nk, nx, ny, nc⟩ := n
     rw [hr, Rd.bind_ok] at hsp
     have HSP := Lib.hid hsp
     have Hr := Lib.hid hr
     clear hsp hr
     go_enter Tryz.func100, Tryz.ntmps100
     go_wp2_with fail
     refine (HN.out).mono ?_
     rintro e w1 ⟨rfl, hb⟩
     replace HST := Lib.hid (HST.out.quiet hb)
     clear hb
     go_wp2_with fail
     refine (HI.out _).mono ?_
     rintro e w2 ⟨rfl, hb⟩
     replace HST := Lib.hid (HST.out.quiet hb)
     clear hb
     go_wp2_with fail
     refine (HBG2.out _ HST.out.ps).mono ?_
     rintro e wt ⟨v, rfl, rfl, hps, hbe⟩
     replace HST := Lib.hid (HST.out.read hbe hps)
     clear hps hbe
     obtain ⟨tk, tx, tp, tf⟩ := t
     have HTB := Lib.hid (box4_new wt 75 (.int .i64 tk) (.string tx) (.int .i64 (tp : Int)) (.bool tf))
     have hgP : wt.heap.size ≠ P := by have := HST.out.size; omega
     have hgR : wt.heap.size ≠ w.heap.size := by have := HST.out.size; omega
     have hNPHTB := hgP
     have hb := (Below.refl (wt).heap.size (wt)).alloc (Nat.le_refl _) (.cells #[.int .i64 tk, .string tx, .int .i64 (tp : Int), .bool tf] 75)
     replace HST := Lib.hid (HST.out.quiet hb)
     clear hb
     unfold tkV at HIS
     unfold tkV
     obtain ⟨t0, t1, t2, t3⟩ := HTB.out.cells
     go_wp2_with fail
     refine (HIS.out _).mono ?_
     rintro e w4 ⟨rfl, hb⟩
     replace HST := Lib.hid (HST.out.quiet hb)
     replace HTB := Lib.hid (HTB.out.later hb)
     clear hb
     go_wp2_with fail
     refine (next_any P z r d _ HST.out.ps).mono ?_
     rintro e w5 ⟨rfl, hb⟩
     replace HST := Lib.hid (HST.out.quiet hb)
     replace HTB := Lib.hid (HTB.out.later hb)
     clear hb
     rw [Hu.out]
     have HS2 := Lib.hid (fun W => isSign_any u W)
     rw [HB2.out] at HS2
     go_wp2_with fail
     refine (HS2.out _).mono ?_
     rintro e w6 ⟨rfl, hb⟩
     replace HST := Lib.hid (HST.out.quiet hb)
     replace HTB := Lib.hid (HTB.out.later hb)
     clear hb
     have hRP : w.heap.size ≠ P := by omega
     clear t0 t1 t2 t3
     go_wp2
     generalize wt.heap.size = gt at *
     have hP0 : P < (w.heap.size + 1) := (by omega)
     have hR0 : w.heap.size < (w.heap.size + 1) := (by omega)
     refine region_ph [6, 9] (GN 6 9 P z d r l2 (FinN (w.heap.size + 1) w.heap.size (Parse.node 28 tx (one ⟨nk, nx, ny, nc⟩))) (BxA w.heap.size)) (Bes2 P (w.heap.size)) [Cd.is (.pointer (some ⟨gt, 1, none⟩)), Cd.is (.string tx), Cd.is (.pointer (some ⟨P, 0, none⟩)), Cd.is (.int .i64 1), Cd.is (.pointer (some ⟨P, 0, none⟩)), Cd.is (.func (.func 100) #[.pointer (some ⟨P, 0, none⟩)] #[]), cNd (w.heap.size + 1) hP0 hR0 ⟨nk, nx, ny, nc⟩, cRow (w.heap.size + 1) hP0 hR0 (one ⟨nk, nx, ny, nc⟩), cNd (w.heap.size + 1) hP0 hR0 (Parse.node 28 tx (one ⟨nk, nx, ny, nc⟩)), Cd.any] (by kernel_rfl) (by decide) (by kernel_rfl) (Bes2.refl _ _ _) (fun _ _ _ h k => h.trans k) (fun _ _ h => Bes2.of h) (GN.keep FinN.later BxA.later) ?start ?steps ?behind
     case start =>
      intro x
      exact ⟨fun h => (by cases h), fun _ => HST.out.bx, fun h => (by cases h), fun _ => HST.out.ps.drewN 1⟩
     case steps =>
      intro xv W hW a ha
      replace hW := hW.undrew
      simp only [fillA] at ha
      simp only [List.setIfInBounds_toArray, List.set_cons_succ, List.set_cons_zero, Nat.zero_add, Nat.reduceAdd] at ha
      subst ha
      refine ⟨?s0, ?s1, ?s2, ?s3, ?s4, ?s5, ?s6, ?s7, ?s8, ?s9, trivial⟩
      all_goals intro dn hdi hdw hcl hphi hg K hK
      all_goals (try simp only [Act.put, List.setIfInBounds_toArray, List.set_cons_succ, List.set_cons_zero] at hK)
      case s0 =>
       clear hphi hdw
       refine (if_pos (by rfl)).mpr ?_
       go_simp
       exact hK.out _ _ (Below.refl _ _) rfl
      case s1 =>
       have hx0 : xv 0 = .pointer (some ⟨gt, 1, none⟩) := hphi 0 (hdw 0 (by kernel_rfl))
       clear hphi hdw
       rw [hx0] at hK ⊢
       refine (if_pos (by rfl)).mpr ?_
       obtain ⟨q0, q1, q2, q3⟩ := (HTB.out.bes2 hW hgP hgR).cells
       go_simp
       exact hK.out _ _ (Below.refl _ _) rfl
      case s2 =>
       clear hphi hdw
       refine (if_pos (by rfl)).mpr ?_
       go_simp
       exact hK.out _ _ (Below.refl _ _) rfl
      case s3 =>
       clear hphi hdw
       refine (if_pos (by rfl)).mpr ?_
       go_simp
       exact hK.out _ _ (Below.refl _ _) rfl
      case s4 =>
       clear hphi hdw
       refine (if_pos (by rfl)).mpr ?_
       go_simp
       exact hK.out _ _ (Below.refl _ _) rfl
      case s5 =>
       have hx4 : xv 4 = .pointer (some ⟨P, 0, none⟩) := hphi 4 (hdw 4 (by kernel_rfl))
       clear hphi hdw
       rw [hx4] at hK ⊢
       refine (if_pos (by rfl)).mpr ?_
       go_simp
       exact hK.out _ _ (Below.refl _ _) rfl
      case s6 =>
       have hx2 : xv 2 = .pointer (some ⟨P, 0, none⟩) := hphi 2 (hdw 2 (by kernel_rfl))
       have hx3 : xv 3 = .int .i64 1 := hphi 3 (hdw 3 (by kernel_rfl))
       have hx5 : xv 5 = .func (.func 100) #[.pointer (some ⟨P, 0, none⟩)] #[] := hphi 5 (hdw 5 (by kernel_rfl))
       clear hphi hdw
       rw [hx2] at hK ⊢
       rw [hx3] at hK ⊢
       rw [hx5] at hK ⊢
       refine (if_pos (by rfl)).mpr ?_
       go_simp
       refine (calls_ok (HDP.out W 1 (by decide) (hg.2.2.2 hdi)) Hr.out).mono ?_
       rintro e W' ⟨v, rfl, ⟨A, C, rfl, hf⟩, hps, hbe⟩
       have hWs : (w.heap.size + 1) ≤ W.heap.size := Nat.le_trans HST.out.size hW.size
       exact hK.out _ _ ⟨Bes2.bes hbe, GN.call (by decide) hg (notYet hcl hdi (by kernel_rfl)) (fun h => h.bes hbe hRP) hps⟩ ⟨A, C, rfl, mi_more hf hWs (Nat.le_refl _)⟩
      case s7 =>
       obtain ⟨A6, C6, hx6, hf6⟩ : NdAt (w.heap.size + 1) ⟨nk, nx, ny, nc⟩ (xv 6) W := hphi 6 (hdw 6 (by kernel_rfl))
       clear hphi hdw
       rw [hx6] at hK ⊢
       refine (if_pos (by rfl)).mpr ?_
       go_simp
       exact hK.out _ _ ((Below.refl _ _).alloc (Nat.le_refl _) _) (row1 W _ (Nat.le_trans HST.out.size hW.size) nk nx ny nc _ hf6)
      case s8 =>
       have hx1 : xv 1 = .string tx := hphi 1 (hdw 1 (by kernel_rfl))
       obtain ⟨A7, C7, hx7, hf7⟩ : RowAt (w.heap.size + 1) (one ⟨nk, nx, ny, nc⟩) (xv 7) W := hphi 7 (hdw 7 (by kernel_rfl))
       clear hphi hdw
       rw [hx1] at hK ⊢
       rw [hx7] at hK ⊢
       refine (if_pos (by rfl)).mpr ?_
       go_simp
       refine (node_any _ _ _ _ _ W).mono ?_
       rintro e W' ⟨rfl, hb⟩
       exact hK.out _ _ hb ⟨A7, C7, rfl, mi_more (mi_later hf7 hb (Nat.le_refl _)) (Nat.le_refl _) hb.size⟩
      case s9 =>
       obtain ⟨A8, C8, hx8, hf8⟩ : NdAt (w.heap.size + 1) (Parse.node 28 tx (one ⟨nk, nx, ny, nc⟩)) (xv 8) W := hphi 8 (hdw 8 (by kernel_rfl))
       rw [hx8] at hK ⊢
       refine (if_pos (by rfl)).mpr ?_
       have hds : dn 6 = true := hdw 6 (by kernel_rfl)
       have hbx := hg.2.1 hdi
       obtain ⟨b0, b1, b2, b3, hbx4⟩ := id hbx
       obtain ⟨g0, g1, g2, g3⟩ := hbx4.frz
       obtain ⟨y0, y1, y2, y3⟩ := hbx4.cells
       simp only [Parse.node] at hf8 hK ⊢
       go_simp
       exact hK.out undef _ ⟨Bes2.set4 _ _ _ _ _, GN.store (by decide) (hds) (finN_set hbx rfl hf8 hR0) (ps_set4 (hg.2.2.1 hds) (by omega) _ _ _ _)⟩ trivial
     case behind =>
      intro dn xv W hW hall hx hg a ha
      replace hW := hW.undrew
      simp only [fillA] at ha
      simp only [List.setIfInBounds_toArray, List.set_cons_succ, List.set_cons_zero, Nat.zero_add, Nat.reduceAdd] at ha
      subst ha
      have hF := hg.1 (hall 9 (by decide))
      have hps := hg.2.2.1 (hall 6 (by decide))
      have hbw := Bes2.back HST.out.bes hW (Nat.le_refl _)
      obtain ⟨A, C, hbx, hpost⟩ := finRet (w := w) HSP.out hF (by omega) hps hbw
      have HPO := Lib.hid hpost
      have HBX2 := Lib.hid hbx
      clear hx hF hps hbw hpost hg hall hW hbx
      go_wp2
      refine bodyPost_ret (results_cell_row rfl _ _ w.heap.size 24 _ (0, 0) _ rfl HBX2.out Tryz.underlying24 rfl hi_nd) rfl ?_
      exact HPO.out
   | true =>
    rw [if_pos rfl] at hsp
    cases hr : un (d + 2) r with
    | bad p er =>
     rw [hr, Rd.bind_bad] at hsp
     have HSP := Lib.hid hsp
     have Hr := Lib.hid hr
     clear hsp hr
     go_enter Tryz.func100, Tryz.ntmps100
     go_wp2_with fail
     refine (HN.out).mono ?_
     rintro e w1 ⟨rfl, hb⟩
     replace HST := Lib.hid (HST.out.quiet hb)
     clear hb
     go_wp2_with fail
     refine (HI.out _).mono ?_
     rintro e w2 ⟨rfl, hb⟩
     replace HST := Lib.hid (HST.out.quiet hb)
     clear hb
     go_wp2_with fail
     refine (HBG2.out _ HST.out.ps).mono ?_
     rintro e wt ⟨v, rfl, rfl, hps, hbe⟩
     replace HST := Lib.hid (HST.out.read hbe hps)
     clear hps hbe
     obtain ⟨tk, tx, tp, tf⟩ := t
     have HTB := Lib.hid (box4_new wt 75 (.int .i64 tk) (.string tx) (.int .i64 (tp : Int)) (.bool tf))
     have hgP : wt.heap.size ≠ P := by have := HST.out.size; omega
     have hgR : wt.heap.size ≠ w.heap.size := by have := HST.out.size; omega
     have hNPHTB := hgP
     have hb := (Below.refl (wt).heap.size (wt)).alloc (Nat.le_refl _) (.cells #[.int .i64 tk, .string tx, .int .i64 (tp : Int), .bool tf] 75)
     replace HST := Lib.hid (HST.out.quiet hb)
     clear hb
     unfold tkV at HIS
     unfold tkV
     obtain ⟨t0, t1, t2, t3⟩ := HTB.out.cells
     go_wp2_with fail
     refine (HIS.out _).mono ?_
     rintro e w4 ⟨rfl, hb⟩
     replace HST := Lib.hid (HST.out.quiet hb)
     replace HTB := Lib.hid (HTB.out.later hb)
     clear hb
     go_wp2_with fail
     refine (next_any P z r d _ HST.out.ps).mono ?_
     rintro e w5 ⟨rfl, hb⟩
     replace HST := Lib.hid (HST.out.quiet hb)
     replace HTB := Lib.hid (HTB.out.later hb)
     clear hb
     rw [Hu.out]
     have HS2 := Lib.hid (fun W => isSign_any u W)
     rw [HB2.out] at HS2
     go_wp2_with fail
     refine (HS2.out _).mono ?_
     rintro e w6 ⟨rfl, hb⟩
     replace HST := Lib.hid (HST.out.quiet hb)
     replace HTB := Lib.hid (HTB.out.later hb)
     clear hb
     have hRP : w.heap.size ≠ P := by omega
     clear t0 t1 t2 t3
     go_wp2
     generalize wt.heap.size = gt at *
     have hP0 : P < (w.heap.size + 1) := (by omega)
     have hR0 : w.heap.size < (w.heap.size + 1) := (by omega)
     refine region_ph [6, 9] (GN 6 9 P z d r r (FinN (w.heap.size + 1) w.heap.size noneN) (BxA w.heap.size)) (Bes2 P (w.heap.size)) [Cd.is (.pointer (some ⟨gt, 1, none⟩)), Cd.is (.string tx), Cd.is (.pointer (some ⟨P, 0, none⟩)), Cd.is (.int .i64 2), Cd.is (.pointer (some ⟨P, 0, none⟩)), Cd.is (.func (.func 100) #[.pointer (some ⟨P, 0, none⟩)] #[]), cNo, cNo, cNo, cNo] (by kernel_rfl) (by decide) (by kernel_rfl) (Bes2.refl _ _ _) (fun _ _ _ h k => h.trans k) (fun _ _ h => Bes2.of h) (GN.keep FinN.later BxA.later) ?start ?steps ?behind
     case start =>
      intro x
      exact ⟨fun h => (by cases h), fun _ => HST.out.bx, fun h => (by cases h), fun _ => HST.out.ps.drewN 1⟩
     case steps =>
      intro xv W hW a ha
      replace hW := hW.undrew
      simp only [fillA] at ha
      simp only [List.setIfInBounds_toArray, List.set_cons_succ, List.set_cons_zero, Nat.zero_add, Nat.reduceAdd] at ha
      subst ha
      refine ⟨?s0, ?s1, ?s2, ?s3, ?s4, ?s5, ?s6, ?s7, ?s8, ?s9, trivial⟩
      all_goals intro dn hdi hdw hcl hphi hg K hK
      all_goals (try simp only [Act.put, List.setIfInBounds_toArray, List.set_cons_succ, List.set_cons_zero] at hK)
      case s0 =>
       clear hphi hdw
       refine (if_pos (by rfl)).mpr ?_
       go_simp
       exact hK.out _ _ (Below.refl _ _) rfl
      case s1 =>
       have hx0 : xv 0 = .pointer (some ⟨gt, 1, none⟩) := hphi 0 (hdw 0 (by kernel_rfl))
       clear hphi hdw
       rw [hx0] at hK ⊢
       refine (if_pos (by rfl)).mpr ?_
       obtain ⟨q0, q1, q2, q3⟩ := (HTB.out.bes2 hW hgP hgR).cells
       go_simp
       exact hK.out _ _ (Below.refl _ _) rfl
      case s2 =>
       clear hphi hdw
       refine (if_pos (by rfl)).mpr ?_
       go_simp
       exact hK.out _ _ (Below.refl _ _) rfl
      case s3 =>
       clear hphi hdw
       refine (if_pos (by rfl)).mpr ?_
       go_simp
       exact hK.out _ _ (Below.refl _ _) rfl
      case s4 =>
       clear hphi hdw
       refine (if_pos (by rfl)).mpr ?_
       go_simp
       exact hK.out _ _ (Below.refl _ _) rfl
      case s5 =>
       have hx4 : xv 4 = .pointer (some ⟨P, 0, none⟩) := hphi 4 (hdw 4 (by kernel_rfl))
       clear hphi hdw
       rw [hx4] at hK ⊢
       refine (if_pos (by rfl)).mpr ?_
       go_simp
       exact hK.out _ _ (Below.refl _ _) rfl
      case s6 =>
       have hx2 : xv 2 = .pointer (some ⟨P, 0, none⟩) := hphi 2 (hdw 2 (by kernel_rfl))
       have hx3 : xv 3 = .int .i64 2 := hphi 3 (hdw 3 (by kernel_rfl))
       have hx5 : xv 5 = .func (.func 100) #[.pointer (some ⟨P, 0, none⟩)] #[] := hphi 5 (hdw 5 (by kernel_rfl))
       clear hphi hdw
       rw [hx2] at hK ⊢
       rw [hx3] at hK ⊢
       rw [hx5] at hK ⊢
       refine (if_pos (by rfl)).mpr ?_
       go_simp
       refine (calls_bad (HDP.out W 2 (by decide) (hg.2.2.2 hdi)) Hr.out).mono ?_
       rintro e W' ⟨rfl, hbe⟩
       exact ⟨rfl, rpost_bad HSP.out (Bes2.back HST.out.bes (hW.trans (Bes2.bes hbe)) (Nat.le_refl _))⟩
      case s7 =>
       have hno : False := hphi 6 (hdw 6 (by kernel_rfl))
       exact hno.elim
      case s8 =>
       have hx1 : xv 1 = .string tx := hphi 1 (hdw 1 (by kernel_rfl))
       have hno : False := hphi 7 (hdw 7 (by kernel_rfl))
       exact hno.elim
      case s9 =>
       have hno : False := hphi 8 (hdw 8 (by kernel_rfl))
       exact hno.elim
     case behind =>
      intro dn xv W hW hall hx hg a ha
      replace hW := hW.undrew
      simp only [fillA] at ha
      simp only [List.setIfInBounds_toArray, List.set_cons_succ, List.set_cons_zero, Nat.zero_add, Nat.reduceAdd] at ha
      subst ha
      exact (hx 6 (by decide) : False).elim
    | ok n l2 =>
     obtain ⟨nk, nx, ny, nc⟩ := n
     rw [hr, Rd.bind_ok] at hsp
     have HSP := Lib.hid hsp
     have Hr := Lib.hid hr
     clear hsp hr
     go_enter Tryz.func100, Tryz.ntmps100
     go_wp2_with fail
     refine (HN.out).mono ?_
     rintro e w1 ⟨rfl, hb⟩
     replace HST := Lib.hid (HST.out.quiet hb)
     clear hb
     go_wp2_with fail
     refine (HI.out _).mono ?_
     rintro e w2 ⟨rfl, hb⟩
     replace HST := Lib.hid (HST.out.quiet hb)
     clear hb
     go_wp2_with fail
     refine (HBG2.out _ HST.out.ps).mono ?_
     rintro e wt ⟨v, rfl, rfl, hps, hbe⟩
     replace HST := Lib.hid (HST.out.read hbe hps)
     clear hps hbe
     obtain ⟨tk, tx, tp, tf⟩ := t
     have HTB := Lib.hid (box4_new wt 75 (.int .i64 tk) (.string tx) (.int .i64 (tp : Int)) (.bool tf))
     have hgP : wt.heap.size ≠ P := by have := HST.out.size; omega
     have hgR : wt.heap.size ≠ w.heap.size := by have := HST.out.size; omega
     have hNPHTB := hgP
     have hb := (Below.refl (wt).heap.size (wt)).alloc (Nat.le_refl _) (.cells #[.int .i64 tk, .string tx, .int .i64 (tp : Int), .bool tf] 75)
     replace HST := Lib.hid (HST.out.quiet hb)
     clear hb
     unfold tkV at HIS
     unfold tkV
     obtain ⟨t0, t1, t2, t3⟩ := HTB.out.cells
     go_wp2_with fail
     refine (HIS.out _).mono ?_
     rintro e w4 ⟨rfl, hb⟩
     replace HST := Lib.hid (HST.out.quiet hb)
     replace HTB := Lib.hid (HTB.out.later hb)
     clear hb
     go_wp2_with fail
     refine (next_any P z r d _ HST.out.ps).mono ?_
     rintro e w5 ⟨rfl, hb⟩
     replace HST := Lib.hid (HST.out.quiet hb)
     replace HTB := Lib.hid (HTB.out.later hb)
     clear hb
     rw [Hu.out]
     have HS2 := Lib.hid (fun W => isSign_any u W)
     rw [HB2.out] at HS2
     go_wp2_with fail
     refine (HS2.out _).mono ?_
     rintro e w6 ⟨rfl, hb⟩
     replace HST := Lib.hid (HST.out.quiet hb)
     replace HTB := Lib.hid (HTB.out.later hb)
     clear hb
     have hRP : w.heap.size ≠ P := by omega
     clear t0 t1 t2 t3
     go_wp2
     generalize wt.heap.size = gt at *
     have hP0 : P < (w.heap.size + 1) := (by omega)
     have hR0 : w.heap.size < (w.heap.size + 1) := (by omega)
     refine region_ph [6, 9] (GN 6 9 P z d r l2 (FinN (w.heap.size + 1) w.heap.size (Parse.node 28 tx (one ⟨nk, nx, ny, nc⟩))) (BxA w.heap.size)) (Bes2 P (w.heap.size)) [Cd.is (.pointer (some ⟨gt, 1, none⟩)), Cd.is (.string tx), Cd.is (.pointer (some ⟨P, 0, none⟩)), Cd.is (.int .i64 2), Cd.is (.pointer (some ⟨P, 0, none⟩)), Cd.is (.func (.func 100) #[.pointer (some ⟨P, 0, none⟩)] #[]), cNd (w.heap.size + 1) hP0 hR0 ⟨nk, nx, ny, nc⟩, cRow (w.heap.size + 1) hP0 hR0 (one ⟨nk, nx, ny, nc⟩), cNd (w.heap.size + 1) hP0 hR0 (Parse.node 28 tx (one ⟨nk, nx, ny, nc⟩)), Cd.any] (by kernel_rfl) (by decide) (by kernel_rfl) (Bes2.refl _ _ _) (fun _ _ _ h k => h.trans k) (fun _ _ h => Bes2.of h) (GN.keep FinN.later BxA.later) ?start ?steps ?behind
     case start =>
      intro x
      exact ⟨fun h => (by cases h), fun _ => HST.out.bx, fun h => (by cases h), fun _ => HST.out.ps.drewN 1⟩
     case steps =>
      intro xv W hW a ha
      replace hW := hW.undrew
      simp only [fillA] at ha
      simp only [List.setIfInBounds_toArray, List.set_cons_succ, List.set_cons_zero, Nat.zero_add, Nat.reduceAdd] at ha
      subst ha
      refine ⟨?s0, ?s1, ?s2, ?s3, ?s4, ?s5, ?s6, ?s7, ?s8, ?s9, trivial⟩
      all_goals intro dn hdi hdw hcl hphi hg K hK
      all_goals (try simp only [Act.put, List.setIfInBounds_toArray, List.set_cons_succ, List.set_cons_zero] at hK)
      case s0 =>
       clear hphi hdw
       refine (if_pos (by rfl)).mpr ?_
       go_simp
       exact hK.out _ _ (Below.refl _ _) rfl
      case s1 =>
       have hx0 : xv 0 = .pointer (some ⟨gt, 1, none⟩) := hphi 0 (hdw 0 (by kernel_rfl))
       clear hphi hdw
       rw [hx0] at hK ⊢
       refine (if_pos (by rfl)).mpr ?_
       obtain ⟨q0, q1, q2, q3⟩ := (HTB.out.bes2 hW hgP hgR).cells
       go_simp
       exact hK.out _ _ (Below.refl _ _) rfl
      case s2 =>
       clear hphi hdw
       refine (if_pos (by rfl)).mpr ?_
       go_simp
       exact hK.out _ _ (Below.refl _ _) rfl
      case s3 =>
       clear hphi hdw
       refine (if_pos (by rfl)).mpr ?_
       go_simp
       exact hK.out _ _ (Below.refl _ _) rfl
      case s4 =>
       clear hphi hdw
       refine (if_pos (by rfl)).mpr ?_
       go_simp
       exact hK.out _ _ (Below.refl _ _) rfl
      case s5 =>
       have hx4 : xv 4 = .pointer (some ⟨P, 0, none⟩) := hphi 4 (hdw 4 (by kernel_rfl))
       clear hphi hdw
       rw [hx4] at hK ⊢
       refine (if_pos (by rfl)).mpr ?_
       go_simp
       exact hK.out _ _ (Below.refl _ _) rfl
      case s6 =>
       have hx2 : xv 2 = .pointer (some ⟨P, 0, none⟩) := hphi 2 (hdw 2 (by kernel_rfl))
       have hx3 : xv 3 = .int .i64 2 := hphi 3 (hdw 3 (by kernel_rfl))
       have hx5 : xv 5 = .func (.func 100) #[.pointer (some ⟨P, 0, none⟩)] #[] := hphi 5 (hdw 5 (by kernel_rfl))
       clear hphi hdw
       rw [hx2] at hK ⊢
       rw [hx3] at hK ⊢
       rw [hx5] at hK ⊢
       refine (if_pos (by rfl)).mpr ?_
       go_simp
       refine (calls_ok (HDP.out W 2 (by decide) (hg.2.2.2 hdi)) Hr.out).mono ?_
       rintro e W' ⟨v, rfl, ⟨A, C, rfl, hf⟩, hps, hbe⟩
       have hWs : (w.heap.size + 1) ≤ W.heap.size := Nat.le_trans HST.out.size hW.size
       exact hK.out _ _ ⟨Bes2.bes hbe, GN.call (by decide) hg (notYet hcl hdi (by kernel_rfl)) (fun h => h.bes hbe hRP) hps⟩ ⟨A, C, rfl, mi_more hf hWs (Nat.le_refl _)⟩
      case s7 =>
       obtain ⟨A6, C6, hx6, hf6⟩ : NdAt (w.heap.size + 1) ⟨nk, nx, ny, nc⟩ (xv 6) W := hphi 6 (hdw 6 (by kernel_rfl))
       clear hphi hdw
       rw [hx6] at hK ⊢
       refine (if_pos (by rfl)).mpr ?_
       go_simp
       exact hK.out _ _ ((Below.refl _ _).alloc (Nat.le_refl _) _) (row1 W _ (Nat.le_trans HST.out.size hW.size) nk nx ny nc _ hf6)
      case s8 =>
       have hx1 : xv 1 = .string tx := hphi 1 (hdw 1 (by kernel_rfl))
       obtain ⟨A7, C7, hx7, hf7⟩ : RowAt (w.heap.size + 1) (one ⟨nk, nx, ny, nc⟩) (xv 7) W := hphi 7 (hdw 7 (by kernel_rfl))
       clear hphi hdw
       rw [hx1] at hK ⊢
       rw [hx7] at hK ⊢
       refine (if_pos (by rfl)).mpr ?_
       go_simp
       refine (node_any _ _ _ _ _ W).mono ?_
       rintro e W' ⟨rfl, hb⟩
       exact hK.out _ _ hb ⟨A7, C7, rfl, mi_more (mi_later hf7 hb (Nat.le_refl _)) (Nat.le_refl _) hb.size⟩
      case s9 =>
       obtain ⟨A8, C8, hx8, hf8⟩ : NdAt (w.heap.size + 1) (Parse.node 28 tx (one ⟨nk, nx, ny, nc⟩)) (xv 8) W := hphi 8 (hdw 8 (by kernel_rfl))
       rw [hx8] at hK ⊢
       refine (if_pos (by rfl)).mpr ?_
       have hds : dn 6 = true := hdw 6 (by kernel_rfl)
       have hbx := hg.2.1 hdi
       obtain ⟨b0, b1, b2, b3, hbx4⟩ := id hbx
       obtain ⟨g0, g1, g2, g3⟩ := hbx4.frz
       obtain ⟨y0, y1, y2, y3⟩ := hbx4.cells
       simp only [Parse.node] at hf8 hK ⊢
       go_simp
       exact hK.out undef _ ⟨Bes2.set4 _ _ _ _ _, GN.store (by decide) (hds) (finN_set hbx rfl hf8 hR0) (ps_set4 (hg.2.2.1 hds) (by omega) _ _ _ _)⟩ trivial
     case behind =>
      intro dn xv W hW hall hx hg a ha
      replace hW := hW.undrew
      simp only [fillA] at ha
      simp only [List.setIfInBounds_toArray, List.set_cons_succ, List.set_cons_zero, Nat.zero_add, Nat.reduceAdd] at ha
      subst ha
      have hF := hg.1 (hall 9 (by decide))
      have hps := hg.2.2.1 (hall 6 (by decide))
      have hbw := Bes2.back HST.out.bes hW (Nat.le_refl _)
      obtain ⟨A, C, hbx, hpost⟩ := finRet (w := w) HSP.out hF (by omega) hps hbw
      have HPO := Lib.hid hpost
      have HBX2 := Lib.hid hbx
      clear hx hF hps hbw hpost hg hall hW hbx
      go_wp2
      refine bodyPost_ret (results_cell_row rfl _ _ w.heap.size 24 _ (0, 0) _ rfl HBX2.out Tryz.underlying24 rfl hi_nd) rfl ?_
      exact HPO.out
end Go.Proofs.YtaiihnniblibaaaGreatDoor.Parse
