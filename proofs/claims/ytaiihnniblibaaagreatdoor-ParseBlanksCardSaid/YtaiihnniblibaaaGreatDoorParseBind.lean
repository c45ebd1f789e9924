/-
 Layer 6 (parse): expressions: binding; expression.
-/
import Derived.Test.YtaiihnniblibaaaGreatDoorParseUn
import Derived.IntWalk
namespace Go.Proofs.YtaiihnniblibaaaGreatDoor.Parse
open Go.ChangeShapes Go.WideShapes Go.ChangeAt Go.RowKit Tree MemT Mem
set_option linter.unusedVariables false

def BiOk (P z N : Nat) (ex : Nat → Nat → List Tk → Rd Nd) : Prop := ∀ W (least d : Nat) l, l.length < N → d ≤ 300 → 1 ≤ least ∧ least ≤ 100 → PS W P z l d → Calls Tryz.prog 87 #[.pointer (some ⟨P, 0, none⟩), .int .i64 (least : Int)] W (RPost NV W P z d (ex least d l))
def bi1 (z : Nat) (ex : Nat → Nat → List Tk → Rd Nd) (un : Nat → List Tk → Rd Nd) (least d : Nat) (l : List Tk) : Rd Nd := (un d l).bind fun n l => loopB z ex least d (l.length + 1) n l

set_option maxHeartbeats 16000000 in
set_option maxRecDepth 100000 in
theorem bi_step (P z N : Nat) (ex : Nat → Nat → List Tk → Rd Nd) (hex : BiOk P z N ex) (hdec : ∀ k, Dec (ex k)) (un : Nat → List Tk → Rd Nd) (hdu : Dec un) (least : Nat) (l : List Tk) (d : Nat) (w : World) (h : PS w P z l d) (hl : l.length ≤ N) (hd : d ≤ 300) (hle : 1 ≤ least ∧ least ≤ 100)
  (hun : ∀ W, PS W P z l d → Calls Tryz.prog 100 #[.pointer (some ⟨P, 0, none⟩)] W (RPost NV W P z d (un d l))) :
  Calls Tryz.prog 87 #[.pointer (some ⟨P, 0, none⟩), .int .i64 (least : Int)] w (RPost NV w P z d (bi1 z ex un least d l)) := by
 have hlt := h.lt
 have HST : Hid (StX w w.heap.size (w.alloc ndZ) P z d l) := ⟨Bes.of (ndz_below w) P, h.alloc _, ⟨_, _, _, _, ndz_box w⟩, Nat.le_refl _, hlt⟩
 have HUN := Lib.hid hun
 have hsp : bi1 z ex un least d l = bi1 z ex un least d l := rfl
 conv at hsp => rhs; unfold bi1
 have hP0 : P < w.heap.size + 1 := by omega
 clear h hun
 cases hr : un d l with
 | bad p er =>
  rw [hr, Rd.bind_bad] at hsp
  rw [hr] at HUN
  have HSP := Lib.hid hsp
  clear hsp hr hex
  go_enter Tryz.func87, Tryz.ntmps87
  go_wp2_with fail
  refine (calls_bad (HUN.out _ HST.out.ps) rfl).mono ?_
  rintro e w1 ⟨rfl, hbe⟩
  have HE := Lib.hid (HST.out.bes.trans hbe)
  clear hbe
  go_wp2
  exact ⟨rfl, rpost_bad HSP.out HE.out⟩
 | ok n l1 =>
  obtain ⟨nk, nx, ny, nc⟩ := n
  have hl1 : l1.length < l.length := hdu _ _ _ _ hr
  rw [hr, Rd.bind_ok] at hsp
  rw [hr] at HUN
  have HSPL := Lib.hid hsp
  have HEX := Lib.hid hex
  have HDEC := Lib.hid hdec
  clear hsp hr hex hdec hdu
  go_enter Tryz.func87, Tryz.ntmps87
  go_wp2_with fail
  refine (calls_ok (HUN.out _ HST.out.ps) rfl).mono ?_
  rintro e W ⟨v, rfl, ⟨A, C, rfl, hf⟩, hps, hbe⟩
  have hf' := mi_more (B0' := w.heap.size + 1) hf HST.out.size (Nat.le_refl _)
  replace HST := Lib.hid (HST.out.read hbe hps)
  simp only at hf' ⊢
  have hba := (Below.refl W.heap.size W).alloc (Nat.le_refl _) (.cells #[.int .i64 nk, .string nx, .string ny, .slice A nc.len C] 24)
  have hWs := HST.out.size
  obtain ⟨gb, hgb⟩ : ∃ gb, W.heap.size = gb := ⟨_, rfl⟩
  have HFK0 : Hid (FinX (w.heap.size + 1) gb gb ⟨nk, nx, ny, nc⟩ (W.alloc (.cells #[.int .i64 nk, .string nx, .string ny, .slice A nc.len C] 24))) := by
   subst hgb
   exact ⟨A, C, box4_new W _ _ _ _ _, mx_of (mi_later hf' hba (Nat.le_refl _)) (Nat.le_refl _) (.inr (Nat.le_refl _)) (.inr (Nat.le_refl _)) hba.size⟩
  replace HST := Lib.hid (HST.out.quiet hba)
  clear hf hf' hps hbe hba HUN
  generalize hm0 : nc.len = m0 at *
  clear hm0
  go_wp2
  have hgP : gb ≠ P := by omega
  have hgw : w.heap.size < gb := by omega
  clear hgb hWs
  generalize (W.alloc (.cells #[.int .i64 nk, .string nx, .string ny, .slice A m0 C] 24)) = W1 at *
  go_loopg [9] (l1.length + 1) (fun p s9 wr => ∃ (kk : Int) (kx ky : ByteArray) (kc : F) (l' : List Tk), l'.length < p ∧ l'.length ≤ l1.length ∧ Hid (StX w w.heap.size wr P z d l') ∧ Hid (FinX (w.heap.size + 1) gb gb ⟨kk, kx, ky, kc⟩ wr) ∧ Hid (∃ f', l'.length < f' ∧ bi1 z ex un least d l = loopB z ex least d f' ⟨kk, kx, ky, kc⟩ l'))
  case atStart => exact ⟨nk, nx, ny, nc, l1, by omega, Nat.le_refl _, HST, HFK0, _, Nat.lt_succ_self _, HSPL.out⟩
  case round =>
   clear HST HFK0 HSPL
   obtain ⟨kk, kx, ky, kc, l', hp, hl', HST, HFK, HSI⟩ := hrel
   obtain ⟨f', hf', hsi⟩ := HSI.out
   obtain ⟨f', rfl⟩ : ∃ f2, f' = f2 + 1 := ⟨f' - 1, by omega⟩
   have hit : loopB z ex least d (f' + 1) ⟨kk, kx, ky, kc⟩ l' = loopB z ex least d (f' + 1) ⟨kk, kx, ky, kc⟩ l' := rfl
   conv at hit => rhs; unfold loopB
   rw [hit] at hsi
   obtain ⟨t, ht⟩ : ∃ t, Parse.hd z l' = t := ⟨_, rfl⟩
   rw [ht] at hsi
   obtain ⟨tk, tx, tp, tf⟩ := t
   simp only at hsi
   have hf1 := fld1 tk tx tp tf
   have HN := Lib.hid (next_is HST.out.ps ht)
   have Ht := Lib.hid ht
   have HLV := Lib.hid (fun W => level_any tx W)
   have hlv5 := level_le tx
   clear hit ht HSI
   by_cases hc : least ≤ level tx
   ·rw [if_pos hc] at hsi
    obtain ⟨t', r, rfl⟩ : ∃ t' r, l' = t' :: r := by
     cases l' with
     | nil =>
      have := Ht.out
      simp only [Parse.hd, Tk.mk.injEq] at this
      exfalso
      have hz : level tx = 0 := by rw [← this.2.1]; decide +kernel
      omega
     | cons t' r => exact ⟨t', r, rfl⟩
    obtain rfl : t' = ⟨tk, tx, tp, tf⟩ := Ht.out
    rw [List.tail_cons] at hsi
    simp only [List.length_cons] at hp hl' hf'
    have hc' : (least : Int) ≤ ((level tx : Nat) : Int) := by omega
    have hrN : r.length < N := by omega
    cases hr : ex (level tx + 1) d r with
    | bad p er =>
     rw [hr, Rd.bind_bad] at hsi
     have Hr := Lib.hid hr
     have HSP := Lib.hid hsi
     clear hr hsi
     go_wp2_with fail
     refine HN.out.mono ?_
     rintro e w1 ⟨rfl, hb⟩
     replace HST := Lib.hid (HST.out.quiet hb)
     replace HFK := Lib.hid (HFK.out.later hP0 _ _ hb)
     clear hb HN
     go_wp2_with fail
     refine (HLV.out w1).mono ?_
     rintro e _ ⟨rfl, rfl⟩
     obtain ⟨Ak, Ck, hbx, hfk⟩ := HFK.out
     have HBV : Hid (BxV (w.heap.size + 1) gb gb ⟨kk, kx, ky, kc⟩ Ak Ck _) := ⟨hbx, hfk⟩
     obtain ⟨mk, hmk⟩ : ∃ mk, kc.len = mk := ⟨_, rfl⟩
     have Hmk := Lib.hid hmk
     clear hbx hfk hmk HFK
     have HGB := Lib.hid HBV.out.1.lt
     go_wp2_with fail
     refine (take_any P z _ _ d _ HST.out.ps).mono ?_
     rintro e w2 ⟨v, rfl, rfl, hps, hbe⟩
     replace HST := Lib.hid (HST.out.read hbe hps)
     replace HBV := Lib.hid (HBV.out.bes hbe hgP hP0)
     replace HGB := Lib.hid HBV.out.1.lt
     clear hps hbe Ht
     unfold tkV
     have HWR : Hid (IntKind.i64.wrap ((level tx : Int) + 1) = (level tx : Int) + 1) := IntWalk.i64_in _ (by omega)
     go_wp2
     clear hf1 hc hc'
     refine region_ph [6, 9] (GN 6 9 P z d r r (FinX (w.heap.size + 1) gb gb noneN) (BxV (w.heap.size + 1) gb gb ⟨kk, kx, ky, kc⟩ Ak Ck)) (Bes2 P (gb)) [Cd.is (.string tx), Cd.is (.agg #[.int .i64 kk, .string kx, .string ky, .slice Ak mk Ck]), Cd.is (.pointer (some ⟨P, 0, none⟩)), Cd.is (.string tx), Cd.is (.int .i64 ((level tx : Nat) : Int)), Cd.is (.int .i64 ((level tx : Int) + 1)), cNo, cNo, cNo, cNo] (by kernel_rfl) (by decide) (by kernel_rfl) (Bes2.refl _ _ _) (fun _ _ _ h k => h.trans k) (fun _ _ h => Bes2.of h) (GN.keep (FinX.later hP0) (BxV.later hP0)) ?start ?steps ?behind
     case start =>
      intro x
      exact ⟨fun h => (by cases h), fun _ => HBV.out.drew, fun h => (by cases h), fun _ => HST.out.ps.drewN 1⟩
     case steps =>
      intro xv W hW a ha
      replace hW := hW.undrew
      simp only [fillA] at ha
      simp only [List.setIfInBounds_toArray, List.set_cons_succ, List.set_cons_zero, Nat.zero_add, Nat.reduceAdd] at ha
      subst ha
      refine ⟨?s0, ?s1, ?s2, ?s3, ?s4, ?s5, ?s6, ?s7, ?s8, ?s9, trivial⟩
      all_goals intro dn hdi hdw hcl hphi hg K hK
      all_goals (try simp only [Act.put, List.setIfInBounds_toArray, List.set_cons_succ, List.set_cons_zero] at hK)
      case s0 =>
       clear hphi hdw
       refine (if_pos (by rfl)).mpr ?_
       go_simp
       exact hK.out _ _ (Below.refl _ _) rfl
      case s1 =>
       clear hphi hdw
       refine (if_pos (by rfl)).mpr ?_
       obtain ⟨q0, q1, q2, q3⟩ := (hg.2.1 (notYet hcl hdi (by kernel_rfl))).1.cells
       simp only [Hmk.out] at q3
       go_simp
       exact hK.out _ _ (Below.refl _ _) rfl
      case s2 =>
       clear hphi hdw
       refine (if_pos (by rfl)).mpr ?_
       go_simp
       exact hK.out _ _ (Below.refl _ _) rfl
      case s3 =>
       clear hphi hdw
       refine (if_pos (by rfl)).mpr ?_
       go_simp
       exact hK.out _ _ (Below.refl _ _) rfl
      case s4 =>
       have hx3 : xv 3 = .string tx := hphi 3 (hdw 3 (by kernel_rfl))
       clear hphi hdw
       rw [hx3] at hK ⊢
       refine (if_pos (by rfl)).mpr ?_
       go_simp
       refine (HLV.out W).mono ?_
       rintro e W' ⟨rfl, rfl⟩
       exact hK.out _ _ (Below.refl _ _) rfl
      case s5 =>
       have hx4 : xv 4 = .int .i64 ((level tx : Nat) : Int) := hphi 4 (hdw 4 (by kernel_rfl))
       clear hphi hdw
       rw [hx4] at hK ⊢
       refine (if_pos (by rfl)).mpr ?_
       have hwr := HWR.out
       go_simp
       exact hK.out _ _ (Below.refl _ _) rfl
      case s6 =>
       have hx2 : xv 2 = .pointer (some ⟨P, 0, none⟩) := hphi 2 (hdw 2 (by kernel_rfl))
       have hx5 : xv 5 = .int .i64 ((level tx : Int) + 1) := hphi 5 (hdw 5 (by kernel_rfl))
       clear hphi hdw
       rw [hx2] at hK ⊢
       rw [hx5] at hK ⊢
       refine (if_pos (by rfl)).mpr ?_
       go_simp
       refine (calls_bad (HEX.out W (level tx + 1) d r hrN hd (by omega) (hg.2.2.2 hdi)) Hr.out).mono ?_
       rintro e W' ⟨rfl, hbe⟩
       exact ⟨rfl, rpost_bad HSP.out (Bes2.back HST.out.bes (hW.trans (Bes2.bes hbe)) (Nat.le_of_lt hgw))⟩
      case s7 =>
       have hx1 : xv 1 = .agg #[.int .i64 kk, .string kx, .string ky, .slice Ak mk Ck] := hphi 1 (hdw 1 (by kernel_rfl))
       have hno : False := hphi 6 (hdw 6 (by kernel_rfl))
       exact hno.elim
      case s8 =>
       have hno : False := hphi 7 (hdw 7 (by kernel_rfl))
       exact hno.elim
      case s9 =>
       have hno : False := hphi 8 (hdw 8 (by kernel_rfl))
       exact hno.elim
     case behind =>
      intro dn xv W hW hall hx hg a ha
      replace hW := hW.undrew
      simp only [fillA] at ha
      simp only [List.setIfInBounds_toArray, List.set_cons_succ, List.set_cons_zero, Nat.zero_add, Nat.reduceAdd] at ha
      subst ha
      exact (hx 6 (by decide) : False).elim

    | ok n2 l2 =>
     obtain ⟨nk2, nx2, ny2, nc2⟩ := n2
     have hl2 : l2.length < r.length := HDEC.out _ _ _ _ _ hr
     rw [hr, Rd.bind_ok] at hsi
     have Hr := Lib.hid hr
     have HSI := Lib.hid hsi
     clear hr hsi
     go_wp2_with fail
     refine HN.out.mono ?_
     rintro e w1 ⟨rfl, hb⟩
     replace HST := Lib.hid (HST.out.quiet hb)
     replace HFK := Lib.hid (HFK.out.later hP0 _ _ hb)
     clear hb HN
     go_wp2_with fail
     refine (HLV.out w1).mono ?_
     rintro e _ ⟨rfl, rfl⟩
     obtain ⟨Ak, Ck, hbx, hfk⟩ := HFK.out
     have HBV : Hid (BxV (w.heap.size + 1) gb gb ⟨kk, kx, ky, kc⟩ Ak Ck _) := ⟨hbx, hfk⟩
     obtain ⟨mk, hmk⟩ : ∃ mk, kc.len = mk := ⟨_, rfl⟩
     have Hmk := Lib.hid hmk
     clear hbx hfk hmk HFK
     have HGB := Lib.hid HBV.out.1.lt
     go_wp2_with fail
     refine (take_any P z _ _ d _ HST.out.ps).mono ?_
     rintro e w2 ⟨v, rfl, rfl, hps, hbe⟩
     replace HST := Lib.hid (HST.out.read hbe hps)
     replace HBV := Lib.hid (HBV.out.bes hbe hgP hP0)
     replace HGB := Lib.hid HBV.out.1.lt
     clear hps hbe Ht
     unfold tkV
     have HWR : Hid (IntKind.i64.wrap ((level tx : Int) + 1) = (level tx : Int) + 1) := IntWalk.i64_in _ (by omega)
     go_wp2
     clear hf1 hc hc'
     refine region_ph [6, 9] (GN 6 9 P z d r l2 (FinX (w.heap.size + 1) gb gb (Parse.node 29 tx (oneF ⟨kk, kx, ky, kc⟩ (one ⟨nk2, nx2, ny2, nc2⟩)))) (BxV (w.heap.size + 1) gb gb ⟨kk, kx, ky, kc⟩ Ak Ck)) (Bes2 P (gb)) [Cd.is (.string tx), Cd.is (.agg #[.int .i64 kk, .string kx, .string ky, .slice Ak mk Ck]), Cd.is (.pointer (some ⟨P, 0, none⟩)), Cd.is (.string tx), Cd.is (.int .i64 ((level tx : Nat) : Int)), Cd.is (.int .i64 ((level tx : Int) + 1)), cNdX (w.heap.size + 1) gb hP0 ⟨nk2, nx2, ny2, nc2⟩, cRowX (w.heap.size + 1) gb hP0 (oneF ⟨kk, kx, ky, kc⟩ (one ⟨nk2, nx2, ny2, nc2⟩)), cNdX (w.heap.size + 1) gb hP0 (Parse.node 29 tx (oneF ⟨kk, kx, ky, kc⟩ (one ⟨nk2, nx2, ny2, nc2⟩))), Cd.any] (by kernel_rfl) (by decide) (by kernel_rfl) (Bes2.refl _ _ _) (fun _ _ _ h k => h.trans k) (fun _ _ h => Bes2.of h) (GN.keep (FinX.later hP0) (BxV.later hP0)) ?start ?steps ?behind
     case start =>
      intro x
      exact ⟨fun h => (by cases h), fun _ => HBV.out.drew, fun h => (by cases h), fun _ => HST.out.ps.drewN 1⟩
     case steps =>
      intro xv W hW a ha
      replace hW := hW.undrew
      simp only [fillA] at ha
      simp only [List.setIfInBounds_toArray, List.set_cons_succ, List.set_cons_zero, Nat.zero_add, Nat.reduceAdd] at ha
      subst ha
      refine ⟨?s0, ?s1, ?s2, ?s3, ?s4, ?s5, ?s6, ?s7, ?s8, ?s9, trivial⟩
      all_goals intro dn hdi hdw hcl hphi hg K hK
      all_goals (try simp only [Act.put, List.setIfInBounds_toArray, List.set_cons_succ, List.set_cons_zero] at hK)
      case s0 =>
       clear hphi hdw
       refine (if_pos (by rfl)).mpr ?_
       go_simp
       exact hK.out _ _ (Below.refl _ _) rfl
      case s1 =>
       clear hphi hdw
       refine (if_pos (by rfl)).mpr ?_
       obtain ⟨q0, q1, q2, q3⟩ := (hg.2.1 (notYet hcl hdi (by kernel_rfl))).1.cells
       simp only [Hmk.out] at q3
       go_simp
       exact hK.out _ _ (Below.refl _ _) rfl
      case s2 =>
       clear hphi hdw
       refine (if_pos (by rfl)).mpr ?_
       go_simp
       exact hK.out _ _ (Below.refl _ _) rfl
      case s3 =>
       clear hphi hdw
       refine (if_pos (by rfl)).mpr ?_
       go_simp
       exact hK.out _ _ (Below.refl _ _) rfl
      case s4 =>
       have hx3 : xv 3 = .string tx := hphi 3 (hdw 3 (by kernel_rfl))
       clear hphi hdw
       rw [hx3] at hK ⊢
       refine (if_pos (by rfl)).mpr ?_
       go_simp
       refine (HLV.out W).mono ?_
       rintro e W' ⟨rfl, rfl⟩
       exact hK.out _ _ (Below.refl _ _) rfl
      case s5 =>
       have hx4 : xv 4 = .int .i64 ((level tx : Nat) : Int) := hphi 4 (hdw 4 (by kernel_rfl))
       clear hphi hdw
       rw [hx4] at hK ⊢
       refine (if_pos (by rfl)).mpr ?_
       have hwr := HWR.out
       go_simp
       exact hK.out _ _ (Below.refl _ _) rfl
      case s6 =>
       have hx2 : xv 2 = .pointer (some ⟨P, 0, none⟩) := hphi 2 (hdw 2 (by kernel_rfl))
       have hx5 : xv 5 = .int .i64 ((level tx : Int) + 1) := hphi 5 (hdw 5 (by kernel_rfl))
       clear hphi hdw
       rw [hx2] at hK ⊢
       rw [hx5] at hK ⊢
       refine (if_pos (by rfl)).mpr ?_
       go_simp
       refine (calls_ok (HEX.out W (level tx + 1) d r hrN hd (by omega) (hg.2.2.2 hdi)) Hr.out).mono ?_
       rintro e W' ⟨v, rfl, ⟨A, C, rfl, hf⟩, hps, hbe⟩
       exact hK.out _ _ ⟨Bes2.bes hbe, GN.call (by decide) hg (notYet hcl hdi (by kernel_rfl)) (fun h => h.bes hbe hgP hP0) hps⟩ ⟨A, C, rfl, mx_of hf (by have := HST.out.size; have := hW.size; have := HGB.out; omega) (.inl (by have := HST.out.size; have := hW.size; have := HGB.out; omega)) (.inl (by have := HST.out.size; have := hW.size; have := HGB.out; omega)) (Nat.le_refl _)⟩
      case s7 =>
       have hx1 : xv 1 = .agg #[.int .i64 kk, .string kx, .string ky, .slice Ak mk Ck] := hphi 1 (hdw 1 (by kernel_rfl))
       obtain ⟨A6, C6, hx6, hf6⟩ : NdX (w.heap.size + 1) gb gb ⟨nk2, nx2, ny2, nc2⟩ (xv 6) W := hphi 6 (hdw 6 (by kernel_rfl))
       clear hphi hdw
       rw [hx6] at hK ⊢
       rw [hx1] at hK ⊢
       refine (if_pos (by rfl)).mpr ?_
       go_simp
       exact hK.out _ _ ((Below.refl _ _).alloc (Nat.le_refl _) _) (rowX2 W (w.heap.size + 1) _ _ P (by have := HST.out.size; have := hW.size; have := HGB.out; omega) (by have := HST.out.size; have := hW.size; have := HGB.out; omega) (by have := HST.out.size; have := hW.size; have := HGB.out; omega) hP0 kk kx ky kc _ (by have hq := mx_bes2 HBV.out.2 hW hP0; simp only [Hmk.out] at hq; exact hq) nk2 nx2 ny2 nc2 _ hf6)
      case s8 =>
       have hx0 : xv 0 = .string tx := hphi 0 (hdw 0 (by kernel_rfl))
       obtain ⟨A7, C7, hx7, hf7⟩ : RowX (w.heap.size + 1) gb gb (oneF ⟨kk, kx, ky, kc⟩ (one ⟨nk2, nx2, ny2, nc2⟩)) (xv 7) W := hphi 7 (hdw 7 (by kernel_rfl))
       clear hphi hdw
       rw [hx7] at hK ⊢
       rw [hx0] at hK ⊢
       refine (if_pos (by rfl)).mpr ?_
       go_simp
       refine (node_any _ _ _ _ _ W).mono ?_
       rintro e W' ⟨rfl, hb⟩
       exact hK.out _ _ hb ⟨A7, C7, rfl, mx_later hf7 hb hP0⟩
      case s9 =>
       obtain ⟨A8, C8, hx8, hf8⟩ : NdX (w.heap.size + 1) gb gb (Parse.node 29 tx (oneF ⟨kk, kx, ky, kc⟩ (one ⟨nk2, nx2, ny2, nc2⟩))) (xv 8) W := hphi 8 (hdw 8 (by kernel_rfl))
       rw [hx8] at hK ⊢
       refine (if_pos (by rfl)).mpr ?_
       have hds : dn 6 = true := hdw 6 (by kernel_rfl)
       have hbx := (hg.2.1 hdi).1
       obtain ⟨g0, g1, g2, g3⟩ := hbx.frz
       obtain ⟨y0, y1, y2, y3⟩ := hbx.cells
       simp only [Parse.node] at hf8 hK ⊢
       go_simp
       exact hK.out undef _ ⟨Bes2.set4 _ _ _ _ _, GN.store (by decide) (hds) (finX_set hbx rfl hf8) (ps_set4 (hg.2.2.1 hds) (by omega) _ _ _ _)⟩ trivial
     case behind =>
      intro dn xv W hW hall hx hg a ha
      replace hW := hW.undrew
      simp only [fillA] at ha
      simp only [List.setIfInBounds_toArray, List.set_cons_succ, List.set_cons_zero, Nat.zero_add, Nat.reduceAdd] at ha
      subst ha
      have hF := hg.1 (hall 9 (by decide))
      have hps := hg.2.2.1 (hall 6 (by decide))
      have HST2 := Lib.hid (HST.out.region hW (Nat.le_of_lt hgw) (by omega) hps)
      have HFX := Lib.hid hF
      clear hx hF hps hg hall hW HBV
      go_wp2
      go_roundg (l2.length + 1)
      case rel => exact ⟨29, tx, e0, oneF ⟨kk, kx, ky, kc⟩ (one ⟨nk2, nx2, ny2, nc2⟩), l2, by omega, by omega, HST2, HFX, f', by omega, HSI.out⟩
      case measure => omega

   ·rw [if_neg hc] at hsi
    have HSP := Lib.hid hsi
    have hc' : ¬ (least : Int) ≤ ((level tx : Nat) : Int) := by omega
    clear hsi hc
    go_wp2_with fail
    refine HN.out.mono ?_
    rintro e w1 ⟨rfl, hb⟩
    replace HST := Lib.hid (HST.out.quiet hb)
    replace HFK := Lib.hid (HFK.out.later hP0 _ _ hb)
    clear hb HN
    go_wp2_with fail
    refine (HLV.out w1).mono ?_
    rintro e _ ⟨rfl, rfl⟩
    obtain ⟨Ak, Ck, hbx, hfk⟩ := HFK.out
    have HBV : Hid (BxV (w.heap.size + 1) gb gb ⟨kk, kx, ky, kc⟩ Ak Ck _) := ⟨hbx, hfk⟩
    obtain ⟨mk, hmk⟩ : ∃ mk, kc.len = mk := ⟨_, rfl⟩
    have Hmk := Lib.hid hmk
    clear hbx hfk hmk HFK
    obtain ⟨q0, q1, q2, q3⟩ := HBV.out.1.cells
    simp only [Hmk.out] at q3
    have HFQ : Hid (Fs _ _ _ _) := HBV.out.2
    rw [Hmk.out] at HFQ
    have hne : w.heap.size ≠ gb := by omega
    have hne2 : gb ≠ w.heap.size := by omega
    clear HBV Ht HEX HDEC
    obtain ⟨⟨r0, r1, r2, r3, y0, y1, y2, y3⟩, g0, g1, g2, g3⟩ := HST.out.frz
    go_wp2
    have hfin := HST.out.ret (B0 := w.heap.size + 1) HSP.out Hmk.out.symm (mx_mi HFQ.out) (fun _ _ _ _ => mi_set4 (mx_mi HFQ.out) (.inl (Nat.lt_succ_self _)) _ _ _ _)
    refine bodyPost_ret (results_cell_row rfl _ _ w.heap.size 24 _ (0, 0) _ rfl hfin.1 Tryz.underlying24 rfl hi_nd) rfl ?_
    exact nb_nv hfin.2 (Nat.le_succ _)

set_option maxHeartbeats 4000000 in
set_option maxRecDepth 100000 in
theorem expr_any (P z N : Nat) (ex : Nat → Nat → List Tk → Rd Nd) (hex : BiOk P z N ex) (l : List Tk) (d : Nat) (w : World) (h : PS w P z l d) (hl : l.length < N) (hd : d ≤ 300) :
  Calls Tryz.prog 71 #[.pointer (some ⟨P, 0, none⟩)] w (RPost NV w P z d (ex 1 d l)) := by
 have HST := Lib.hid (Stt.start h)
 have HC := Lib.hid (hex _ 1 d l hl hd (by omega) (h.alloc ndZ))
 clear h
 generalize ex 1 d l = R at *
 go_enter Tryz.func71, Tryz.ntmps71
 go_wp2_with fail
 refine HC.out.mono ?_
 intro e W hp
 rcases pass_ok HST.out hp with ⟨p, er, hR, rfl, hbe⟩ | ⟨k, x, y, c, l2, A, C, hR, rfl, hf, hst⟩
 ·have HE := Lib.hid hbe
  have HR := Lib.hid hR
  clear hp hbe hR HST HC
  go_wp2
  exact ⟨rfl, rpost_bad HR.out HE.out⟩
 ·have HS := Lib.hid hst
  have HF := Lib.hid hf
  have HR := Lib.hid hR
  obtain ⟨⟨r0, r1, r2, r3, y0, y1, y2, y3⟩, g0, g1, g2, g3⟩ := hst.frz
  generalize hm : c.len = m at *
  have Hm := Lib.hid hm
  clear hp hf hst hR HST HC hm
  go_wp2
  have hfin := HS.out.ret HR.out Hm.out.symm HF.out
  refine bodyPost_ret (results_cell_row rfl _ _ w.heap.size 24 _ (0, 0) _ rfl hfin.1 Tryz.underlying24 rfl hi_nd) rfl ?_
  exact hfin.2

theorem expr_rd {P z N : Nat} {ex : Nat → Nat → List Tk → Rd Nd} (hex : BiOk P z N ex) : RdOk 71 P z N (ex 1) := fun W d l hl hd hps => expr_any P z N ex hex l d W hps hl hd
theorem un_rd (P z N : Nat) (ex : Nat → Nat → List Tk → Rd Nd) (hex : BiOk P z N ex) (hdec : ∀ k, Dec (ex k)) : ∀ M G, M ≤ N + 1 → M ≤ G → RdOk 100 P z M (unR z ex G)
 | 0, G, _, _ => fun W d l hl => absurd hl (Nat.not_lt_zero _)
 | M + 1, 0, _, h => absurd h (by omega)
 | M + 1, G + 1, h1, h2 => fun W d l hl hd hps => un_step P z N ex (expr_rd hex) hdec M (by omega) (unR z ex G) (un_rd P z N ex hex hdec M G (by omega) (by omega)) l d W hps (by omega) hd
theorem bi_rd (P z : Nat) : ∀ N F, N ≤ F → BiOk P z N (bindR z F)
 | 0, F, _ => fun W least d l hl => absurd hl (Nat.not_lt_zero _)
 | N + 1, 0, h => absurd h (by omega)
 | N + 1, F + 1, h => fun W least d l hl hd hle hps =>
  bi_step P z N (bindR z F) (bi_rd P z N F (by omega)) (bindR_dec z F) (unR z (bindR z F) (l.length + 1)) (unR_dec (bindR_dec z F) _) least l d W hps (by omega) hd hle
   fun W' hW' => un_rd P z N (bindR z F) (bi_rd P z N F (by omega)) (bindR_dec z F) (l.length + 1) (l.length + 1) (by omega) (Nat.le_refl _) W' d l (Nat.lt_succ_self _) hd hW'
/-- Expressions, of any row. -/
theorem ex_rd (P z N : Nat) : RdOk 71 P z N (exR z) := fun W d l _ hd hps => expr_any P z (l.length + 1) (bindR z (l.length + 1)) (bi_rd P z _ _ (Nat.le_refl _)) l d W hps (Nat.lt_succ_self _) hd
theorem typ_rd (P z : Nat) : ∀ N F, N ≤ F → RdOk 72 P z N (typR z F)
 | 0, F, _ => fun W d l hl => absurd hl (Nat.not_lt_zero _)
 | N + 1, 0, h => absurd h (by omega)
 | N + 1, F + 1, h => fun W d l hl hd hps => typ_step P z N (typR z F) (typ_rd P z N F (by omega)) (typR_dec z F) l d W hps (by omega) hd
/-- Types, of any row. -/
theorem ty_rd (P z N : Nat) : RdOk 72 P z N (tyR z) := fun W d l _ hd hps => typ_rd P z (l.length + 1) (l.length + 1) (Nat.le_refl _) W d l (Nat.lt_succ_self _) hd hps
end Go.Proofs.YtaiihnniblibaaaGreatDoor.Parse
