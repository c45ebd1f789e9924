/-
 Layer 6 (parse): expressions: behind.
-/
import Derived.Test.YtaiihnniblibaaaGreatDoorJpG
namespace Go.Proofs.YtaiihnniblibaaaGreatDoor.Parse
open Go.ChangeShapes Go.WideShapes Go.ChangeAt Go.RowKit Tree MemT Mem
set_option linter.unusedVariables false

theorem args_count {z : Nat} {rd : List Tk → Rd Nd} (hit : ∀ l n r, rd l = .ok n r → r.length < l.length) : ∀ (f : Nat) (l : List Tk) (c : F) (r : List Tk), args z rd f l = .ok c r → c.len + r.length ≤ l.length
 | 0, l, c, r, h => by cases h
 | f + 1, l, c, r, h => by
  unfold args at h
  split at h
  ·simp only [Rd.ok.injEq] at h
   rw [← h.1, h.2]; simp [F.len]
  ·cases h1 : rd l with
   | bad p e => rw [h1] at h; cases h
   | ok n l1 =>
    rw [h1, Rd.bind_ok] at h
    have a1 := hit l n l1 h1
    cases h2 : comma z l1 with
    | bad p e => rw [h2] at h; cases h
    | ok u l2 =>
     rw [h2, Rd.bind_ok] at h
     have a2 : l2.length ≤ l1.length := by
      unfold comma at h2
      split at h2
      ·simp only [Rd.ok.injEq] at h2; rw [h2.2]; exact Nat.le_refl _
      ·rw [want_ok h2, List.length_tail]; omega
     cases h3 : args z rd f l2 with
     | bad p e => rw [h3] at h; cases h
     | ok c2 l3 =>
      rw [h3, Rd.bind_ok] at h
      simp only [Rd.ok.injEq] at h
      have a3 := args_count hit f l2 c2 l3 h3
      rw [← h.1, ← h.2]
      simp only [oneF, F.len]; omega
theorem list_count {z d : Nat} {rd : Nat → List Tk → Rd Nd} (hd : Dec rd) {l r : List Tk} {c : F} (h : list z rd d l = .ok c r) : c.len + r.length ≤ l.length := by
 unfold list at h
 cases h1 : Parse.want z [40] l with
 | bad p e => rw [h1] at h; cases h
 | ok u l1 =>
  rw [h1, Rd.bind_ok] at h
  have a1 := want_ok h1
  cases h2 : args z (rd (d + 1)) (l1.length + 1) l1 with
  | bad p e => rw [h2] at h; cases h
  | ok c2 l2 =>
   rw [h2, Rd.bind_ok] at h
   have a2 := args_count (fun l n r e => hd _ l n r e) _ l1 c2 l2 h2
   cases h3 : Parse.want z [41] l2 with
   | bad p e => rw [h3] at h; cases h
   | ok u2 l3 =>
    rw [h3, Rd.bind_ok] at h
    simp only [Rd.ok.injEq] at h
    have a3 := want_ok h3
    rw [← h.1, ← h.2, a3, List.length_tail]
    rw [a1, List.length_tail] at a2
    omega

theorem list_lt {z d : Nat} {rd : Nat → List Tk → Rd Nd} (hd : Dec rd) {l r : List Tk} {c : F} (h : list z rd d l = .ok c r) : r.length < l.length := by
 unfold list at h
 cases h1 : Parse.want z [40] l with
 | bad p e => rw [h1] at h; cases h
 | ok u l1 =>
  rw [h1, Rd.bind_ok] at h
  have a1 : l1.length < l.length := by
   cases l with
   | nil => simp [Parse.want, Parse.hd, isT, e0] at h1
   | cons t r => rw [want_ok h1]; simp
  exact (Lt.bind (lt_args (fun l => fun n r e => hd _ l n r e) _ a1) fun c r2 h2 => Lt.bind (lt_want h2) fun _ r3 h3 => Lt.ok h3) c r h
theorem row1X_new (w : World) (B0 g g' P : Nat) (hB : B0 ≤ w.heap.size) (hg : g < w.heap.size) (hg' : g' < w.heap.size) (hP : P < B0) (k : Int) (x y : ByteArray) (c : F) (s : Value) (hf : Fs w (Mx B0 g g' w.heap.size) s c) :
  Row1X B0 g g' ⟨k, x, y, c⟩ (.slice (some ⟨w.heap.size, 0, none⟩) 1 1) (w.alloc (.cells #[.int .i64 k, .string x, .string y, s] 24)) :=
 ⟨w.heap.size, rfl, rowX w B0 g g' [(⟨k, x, y, c⟩, s)] _ (by rfl) 1 rfl (by omega) hB hg hg' P hP (fun p hp => by simp at hp; subst hp; exact hf)⟩
/-- The variable g as it stands. -/
def BxV (B0 g g' : Nat) (n : Nd) (A : Option Addr) (C : Nat) (W : World) : Prop := Box4 W g 24 (.int .i64 n.k) (.string n.x) (.string n.y) (.slice A n.c.len C) ∧ Fs W (Mx B0 g g' W.heap.size) (.slice A n.c.len C) n.c
section
variable {P B0 g g' : Nat} {n : Nd} {A : Option Addr} {C : Nat} {W W' : World}
theorem BxV.later (hP : P < B0) (W W' : World) (hb : Below W.heap.size W W') (h : BxV B0 g g' n A C W) : BxV B0 g g' n A C W' := ⟨h.1.later hb, mx_later h.2 hb hP⟩
theorem BxV.bes (h : BxV B0 g g' n A C W) (hb : Bes P W W') (hg : g ≠ P) (hP : P < B0) : BxV B0 g g' n A C W' := ⟨h.1.bes hb hg, mx_bes h.2 hb hP⟩
theorem BxV.drew (h : BxV B0 g g' n A C W) : BxV B0 g g' n A C W.drew := ⟨h.1, h.2.drewN 1⟩
theorem mx_setR {R : Nat} {v : Value} {f : F} (h : Fs W (Mx B0 g R W.heap.size) v f) (v0 v1 v2 v3 : Value) : Fs ((((W.setCell ⟨R, 0, none⟩ v0).setCell ⟨R, 1, none⟩ v1).setCell ⟨R, 2, none⟩ v2).setCell ⟨R, 3, none⟩ v3) (Mi B0 W.heap.size) v f :=
 (h.keep fun b hb => (Bes2.set4 (P := R) W v0 v1 v2 v3).block b hb.2.1 hb.2.2.2 hb.2.2.2).more fun b hb => ⟨hb.1, hb.2.1⟩
end
theorem StX.region {w W W' : World} {P z d R g : Nat} {l l' : List Tk} (h : StX w R W P z d l) (hW : Bes2 P g W W') (hg : w.heap.size ≤ g) (hne : R ≠ g) (hps : PS W' P z l' d) : StX w R W' P z d l' := by
 obtain ⟨a, b, c, d', hx⟩ := h.bx
 have h1 := h.hlt; have h2 := h.hR
 exact ⟨Bes2.back h.bes hW hg, hps, ⟨a, b, c, d', hx.bes2 hW (by omega) hne⟩, h.hR, h.hlt⟩

set_option maxHeartbeats 16000000 in
set_option maxRecDepth 100000 in
theorem behind_any (P z N : Nat) (ex : Nat → Nat → List Tk → Rd Nd) (hex : RdOk 71 P z N (ex 1)) (hdec : Dec (ex 1)) (f : Nat) (nk : Int) (nx ny : ByteArray) (nc : F) (A : Option Addr) (C : Nat) (l : List Tk) (d : Nat) (B0 : Nat) (w : World) (h : PS w P z l d)
  (hf : Fs w (Mi B0 w.heap.size) (.slice A nc.len C) nc) (hP0 : P < B0) (hB : B0 ≤ w.heap.size) (hl : l.length ≤ N) (hfu : l.length < f) (hd : d + 1 ≤ 300) :
  Calls Tryz.prog 112 #[.pointer (some ⟨P, 0, none⟩), .agg #[.int .i64 nk, .string nx, .string ny, .slice A nc.len C]] w (RPost (NB B0) w P z d (behind z ex d f ⟨nk, nx, ny, nc⟩ l)) := by
 have hlt := h.lt
 have hlen := h.len
 have hb0 : Below w.heap.size w (w.alloc (.cells #[.int .i64 nk, .string nx, .string ny, .slice A nc.len C] 24)) := (Below.refl _ _).alloc (Nat.le_refl _) _
 have hb1 := ndz_below (w.alloc (.cells #[.int .i64 nk, .string nx, .string ny, .slice A nc.len C] 24))
 have hs : (w.alloc (.cells #[.int .i64 nk, .string nx, .string ny, .slice A nc.len C] 24)).heap.size = w.heap.size + 1 := by simp
 have HST0 : Hid (StX w (w.heap.size + 1) ((w.alloc (.cells #[.int .i64 nk, .string nx, .string ny, .slice A nc.len C] 24)).alloc ndZ) P z d l) :=
  ⟨(Bes.of hb0 P).then_ hb1, (h.later hb0).later hb1, ⟨_, _, _, _, by have := ndz_box (w.alloc (.cells #[.int .i64 nk, .string nx, .string ny, .slice A nc.len C] 24)); rwa [hs] at this⟩, by omega, hlt⟩
 have HF0 : Hid (FinX B0 w.heap.size (w.heap.size + 1) ⟨nk, nx, ny, nc⟩ ((w.alloc (.cells #[.int .i64 nk, .string nx, .string ny, .slice A nc.len C] 24)).alloc ndZ)) :=
  ⟨A, C, (box4_new w _ _ _ _ _).later hb1, mx_of (mi_later (mi_later hf hb0 (Nat.le_refl _)) hb1 hb0.size) (Nat.le_refl _) (.inr (Nat.le_refl _)) (.inr (by omega)) (Nat.le_trans hb0.size hb1.size)⟩
 have HEX := Lib.hid hex
 have HDEC := Lib.hid hdec
 have HU1 : Hid ((⟨#[93]⟩ : ByteArray).toList = [93]) := by show _ = _; rw [ByteArray.toList_eq]
 have hgP : w.heap.size ≠ P := by omega
 clear h hf hb0 hb1 hs hex hdec
 generalize hm0 : nc.len = m0 at *
 clear hm0
 go_enter Tryz.func112, Tryz.ntmps112
 go_wp2
 go_loopg [9] (l.length + 1) (fun p s9 wr => ∃ (kk : Int) (kx ky : ByteArray) (kc : F) (l' : List Tk), l'.length < p ∧ l'.length ≤ l.length ∧ Hid (StX w (w.heap.size + 1) wr P z d l') ∧ Hid (FinX B0 w.heap.size (w.heap.size + 1) ⟨kk, kx, ky, kc⟩ wr) ∧ Hid (∃ f', l'.length < f' ∧ behind z ex d f ⟨nk, nx, ny, nc⟩ l = behind z ex d f' ⟨kk, kx, ky, kc⟩ l'))
 case atStart => exact ⟨nk, nx, ny, nc, l, by omega, Nat.le_refl _, HST0, HF0, f, hfu, rfl⟩
 case round =>
  clear HST0 HF0 hfu
  obtain ⟨kk, kx, ky, kc, l', hp, hl', HST, HFK, HSI⟩ := hrel
  obtain ⟨f', hf', hsi⟩ := HSI.out
  obtain ⟨f', rfl⟩ : ∃ f2, f' = f2 + 1 := ⟨f' - 1, by omega⟩
  have hit : behind z ex d (f' + 1) ⟨kk, kx, ky, kc⟩ l' = behind z ex d (f' + 1) ⟨kk, kx, ky, kc⟩ l' := rfl
  conv at hit => rhs; unfold behind
  rw [hit] at hsi
  obtain ⟨t, ht⟩ : ∃ t, Parse.hd z l' = t := ⟨_, rfl⟩
  rw [ht] at hsi
  obtain ⟨tk, tx, tp, tf⟩ := t
  have hf1 := fld1 tk tx tp tf
  have HN := Lib.hid (next_is HST.out.ps ht)
  have Ht := Lib.hid ht
  clear hit ht HSI
  cases b0 : (tx.toList == [40]) with
  | true =>
   rw [if_pos (isT_yes b0)] at hsi
   have HLI : Hid (∀ W, PS W P z l' d → Calls Tryz.prog 94 #[.pointer (some ⟨P, 0, none⟩), .func (.func 71) #[.pointer (some ⟨P, 0, none⟩)] #[]] W (RPost FV W P z d (list z (ex 1) d l'))) :=
    fun W hW => list_any P z N _ (ex 1) HDEC.out l' d W hW (reads_of W ent_expr HEX.out) (by omega) hd
   cases hr : list z (ex 1) d l' with
   | bad p er =>
    rw [hr, Rd.bind_bad] at hsi
    have Hr := Lib.hid hr
    have HSP := Lib.hid hsi
    clear hr hsi
    go_wp2_with fail
    refine HN.out.mono ?_
    rintro e w1 ⟨rfl, hb⟩
    replace HST := Lib.hid (HST.out.quiet hb)
    replace HFK := Lib.hid (HFK.out.later hP0 _ _ hb)
    clear hb HN
    obtain ⟨Ak, Ck, hbx, hfk⟩ := HFK.out
    have HBV : Hid (BxV B0 w.heap.size (w.heap.size + 1) ⟨kk, kx, ky, kc⟩ Ak Ck _) := ⟨hbx, hfk⟩
    obtain ⟨mk, hmk⟩ : ∃ mk, kc.len = mk := ⟨_, rfl⟩
    have Hmk := Lib.hid hmk
    clear hbx hfk hmk HFK
    clear Ht
    go_wp2
    clear hf1
    refine region_ph [5, 8] (GN 5 8 P z d l' l' (FinX B0 w.heap.size (w.heap.size + 1) noneN) (BxV B0 w.heap.size (w.heap.size + 1) ⟨kk, kx, ky, kc⟩ Ak Ck)) (Bes2 P (w.heap.size)) [Cd.is (.agg #[.int .i64 kk, .string kx, .string ky, .slice Ak mk Ck]), cRow1X B0 (w.heap.size + 1) hP0 ⟨kk, kx, ky, kc⟩, Cd.is (.pointer (some ⟨P, 0, none⟩)), Cd.is (.pointer (some ⟨P, 0, none⟩)), Cd.is (.func (.func 71) #[.pointer (some ⟨P, 0, none⟩)] #[]), cNo, cNo, cNo, cNo] (by kernel_rfl) (by decide) (by kernel_rfl) (Bes2.refl _ _ _) (fun _ _ _ h k => h.trans k) (fun _ _ h => Bes2.of h) (GN.keep (FinX.later hP0) (BxV.later hP0)) ?start ?steps ?behind
    case start =>
     intro x
     exact ⟨fun h => (by cases h), fun _ => HBV.out.drew, fun h => (by cases h), fun _ => HST.out.ps.drewN 1⟩
    case steps =>
     intro xv W hW a ha
     replace hW := hW.undrew
     simp only [fillA] at ha
     simp only [List.setIfInBounds_toArray, List.set_cons_succ, List.set_cons_zero, Nat.zero_add, Nat.reduceAdd] at ha
     subst ha
     refine ⟨?s0, ?s1, ?s2, ?s3, ?s4, ?s5, ?s6, ?s7, ?s8, trivial⟩
     all_goals intro dn hdi hdw hcl hphi hg K hK
     all_goals (try simp only [Act.put, List.setIfInBounds_toArray, List.set_cons_succ, List.set_cons_zero] at hK)
     case s0 =>
      clear hphi hdw
      refine (if_pos (by rfl)).mpr ?_
      obtain ⟨q0, q1, q2, q3⟩ := (hg.2.1 (notYet hcl hdi (by kernel_rfl))).1.cells
      simp only [Hmk.out] at q3
      go_simp
      exact hK.out _ _ (Below.refl _ _) rfl
     case s1 =>
      have hx0 : xv 0 = .agg #[.int .i64 kk, .string kx, .string ky, .slice Ak mk Ck] := hphi 0 (hdw 0 (by kernel_rfl))
      clear hphi hdw
      rw [hx0] at hK ⊢
      refine (if_pos (by rfl)).mpr ?_
      go_simp
      exact hK.out _ _ ((Below.refl _ _).alloc (Nat.le_refl _) _) (row1X_new W B0 _ _ P (by have := HST.out.size; have := hW.size; omega) (by have := HST.out.size; have := hW.size; omega) (by have := HST.out.size; have := hW.size; omega) hP0 kk kx ky kc _ (by have hq := mx_bes2 HBV.out.2 hW hP0; simp only [Hmk.out] at hq; exact hq))
     case s2 =>
      clear hphi hdw
      refine (if_pos (by rfl)).mpr ?_
      go_simp
      exact hK.out _ _ (Below.refl _ _) rfl
     case s3 =>
      clear hphi hdw
      refine (if_pos (by rfl)).mpr ?_
      go_simp
      exact hK.out _ _ (Below.refl _ _) rfl
     case s4 =>
      have hx3 : xv 3 = .pointer (some ⟨P, 0, none⟩) := hphi 3 (hdw 3 (by kernel_rfl))
      clear hphi hdw
      rw [hx3] at hK ⊢
      refine (if_pos (by rfl)).mpr ?_
      go_simp
      exact hK.out _ _ (Below.refl _ _) rfl
     case s5 =>
      have hx2 : xv 2 = .pointer (some ⟨P, 0, none⟩) := hphi 2 (hdw 2 (by kernel_rfl))
      have hx4 : xv 4 = .func (.func 71) #[.pointer (some ⟨P, 0, none⟩)] #[] := hphi 4 (hdw 4 (by kernel_rfl))
      clear hphi hdw
      rw [hx2] at hK ⊢
      rw [hx4] at hK ⊢
      refine (if_pos (by rfl)).mpr ?_
      go_simp
      refine (calls_bad (HLI.out W (hg.2.2.2 hdi)) Hr.out).mono ?_
      rintro e W' ⟨rfl, hbe⟩
      exact ⟨rfl, rpost_bad HSP.out (Bes2.back HST.out.bes (hW.trans (Bes2.bes hbe)) (Nat.le_refl _))⟩
     case s6 =>
      have hno : False := hphi 5 (hdw 5 (by kernel_rfl))
      exact hno.elim
     case s7 =>
      have hno : False := hphi 6 (hdw 6 (by kernel_rfl))
      exact hno.elim
     case s8 =>
      have hno : False := hphi 7 (hdw 7 (by kernel_rfl))
      exact hno.elim
    case behind =>
     intro dn xv W hW hall hx hg a ha
     replace hW := hW.undrew
     simp only [fillA] at ha
     simp only [List.setIfInBounds_toArray, List.set_cons_succ, List.set_cons_zero, Nat.zero_add, Nat.reduceAdd] at ha
     subst ha
     exact (hx 5 (by decide) : False).elim

   | ok c l2 =>
    rw [hr, Rd.bind_ok] at hsi
    have Hr := Lib.hid hr
    have HSI := Lib.hid hsi
    have hl2 := list_count HDEC.out hr
    have Hcl : Hid (c.len ≤ 10000000) := (by omega : c.len ≤ 10000000)
    have hlt2 : l2.length < l'.length := by
     exact list_lt HDEC.out hr
    clear hr hsi
    go_wp2_with fail
    refine HN.out.mono ?_
    rintro e w1 ⟨rfl, hb⟩
    replace HST := Lib.hid (HST.out.quiet hb)
    replace HFK := Lib.hid (HFK.out.later hP0 _ _ hb)
    clear hb HN
    obtain ⟨Ak, Ck, hbx, hfk⟩ := HFK.out
    have HBV : Hid (BxV B0 w.heap.size (w.heap.size + 1) ⟨kk, kx, ky, kc⟩ Ak Ck _) := ⟨hbx, hfk⟩
    obtain ⟨mk, hmk⟩ : ∃ mk, kc.len = mk := ⟨_, rfl⟩
    have Hmk := Lib.hid hmk
    clear hbx hfk hmk HFK
    clear Ht
    go_wp2
    clear hf1
    refine region_ph [5, 8] (GN 5 8 P z d l' l2 (FinX B0 w.heap.size (w.heap.size + 1) (Parse.node 30 e0 (oneF ⟨kk, kx, ky, kc⟩ c))) (BxV B0 w.heap.size (w.heap.size + 1) ⟨kk, kx, ky, kc⟩ Ak Ck)) (Bes2 P (w.heap.size)) [Cd.is (.agg #[.int .i64 kk, .string kx, .string ky, .slice Ak mk Ck]), cRow1X B0 (w.heap.size + 1) hP0 ⟨kk, kx, ky, kc⟩, Cd.is (.pointer (some ⟨P, 0, none⟩)), Cd.is (.pointer (some ⟨P, 0, none⟩)), Cd.is (.func (.func 71) #[.pointer (some ⟨P, 0, none⟩)] #[]), cRowX B0 (w.heap.size + 1) hP0 c, cRowX B0 (w.heap.size + 1) hP0 (oneF ⟨kk, kx, ky, kc⟩ c), cNdX B0 (w.heap.size + 1) hP0 (Parse.node 30 e0 (oneF ⟨kk, kx, ky, kc⟩ c)), Cd.any] (by kernel_rfl) (by decide) (by kernel_rfl) (Bes2.refl _ _ _) (fun _ _ _ h k => h.trans k) (fun _ _ h => Bes2.of h) (GN.keep (FinX.later hP0) (BxV.later hP0)) ?start ?steps ?behind
    case start =>
     intro x
     exact ⟨fun h => (by cases h), fun _ => HBV.out.drew, fun h => (by cases h), fun _ => HST.out.ps.drewN 1⟩
    case steps =>
     intro xv W hW a ha
     replace hW := hW.undrew
     simp only [fillA] at ha
     simp only [List.setIfInBounds_toArray, List.set_cons_succ, List.set_cons_zero, Nat.zero_add, Nat.reduceAdd] at ha
     subst ha
     refine ⟨?s0, ?s1, ?s2, ?s3, ?s4, ?s5, ?s6, ?s7, ?s8, trivial⟩
     all_goals intro dn hdi hdw hcl hphi hg K hK
     all_goals (try simp only [Act.put, List.setIfInBounds_toArray, List.set_cons_succ, List.set_cons_zero] at hK)
     case s0 =>
      clear hphi hdw
      refine (if_pos (by rfl)).mpr ?_
      obtain ⟨q0, q1, q2, q3⟩ := (hg.2.1 (notYet hcl hdi (by kernel_rfl))).1.cells
      simp only [Hmk.out] at q3
      go_simp
      exact hK.out _ _ (Below.refl _ _) rfl
     case s1 =>
      have hx0 : xv 0 = .agg #[.int .i64 kk, .string kx, .string ky, .slice Ak mk Ck] := hphi 0 (hdw 0 (by kernel_rfl))
      clear hphi hdw
      rw [hx0] at hK ⊢
      refine (if_pos (by rfl)).mpr ?_
      go_simp
      exact hK.out _ _ ((Below.refl _ _).alloc (Nat.le_refl _) _) (row1X_new W B0 _ _ P (by have := HST.out.size; have := hW.size; omega) (by have := HST.out.size; have := hW.size; omega) (by have := HST.out.size; have := hW.size; omega) hP0 kk kx ky kc _ (by have hq := mx_bes2 HBV.out.2 hW hP0; simp only [Hmk.out] at hq; exact hq))
     case s2 =>
      clear hphi hdw
      refine (if_pos (by rfl)).mpr ?_
      go_simp
      exact hK.out _ _ (Below.refl _ _) rfl
     case s3 =>
      clear hphi hdw
      refine (if_pos (by rfl)).mpr ?_
      go_simp
      exact hK.out _ _ (Below.refl _ _) rfl
     case s4 =>
      have hx3 : xv 3 = .pointer (some ⟨P, 0, none⟩) := hphi 3 (hdw 3 (by kernel_rfl))
      clear hphi hdw
      rw [hx3] at hK ⊢
      refine (if_pos (by rfl)).mpr ?_
      go_simp
      exact hK.out _ _ (Below.refl _ _) rfl
     case s5 =>
      have hx2 : xv 2 = .pointer (some ⟨P, 0, none⟩) := hphi 2 (hdw 2 (by kernel_rfl))
      have hx4 : xv 4 = .func (.func 71) #[.pointer (some ⟨P, 0, none⟩)] #[] := hphi 4 (hdw 4 (by kernel_rfl))
      clear hphi hdw
      rw [hx2] at hK ⊢
      rw [hx4] at hK ⊢
      refine (if_pos (by rfl)).mpr ?_
      go_simp
      refine (calls_ok (HLI.out W (hg.2.2.2 hdi)) Hr.out).mono ?_
      rintro e W' ⟨v, rfl, ⟨A, C, rfl, hf⟩, hps, hbe⟩
      exact hK.out _ _ ⟨Bes2.bes hbe, GN.call (by decide) hg (notYet hcl hdi (by kernel_rfl)) (fun h => h.bes hbe hgP hP0) hps⟩ ⟨A, C, rfl, mx_of hf (by have := HST.out.size; have := hW.size; omega) (.inl (by have := HST.out.size; have := hW.size; omega)) (.inl (by have := HST.out.size; have := hW.size; omega)) (Nat.le_refl _)⟩
     case s6 =>
      obtain ⟨b1, hx1, hf1⟩ : Row1X B0 w.heap.size (w.heap.size + 1) ⟨kk, kx, ky, kc⟩ (xv 1) W := hphi 1 (hdw 1 (by kernel_rfl))
      obtain ⟨A5, C5, hx5, hf5⟩ : RowX B0 w.heap.size (w.heap.size + 1) c (xv 5) W := hphi 5 (hdw 5 (by kernel_rfl))
      clear hphi hdw
      rw [hx1] at hK ⊢
      rw [hx5] at hK ⊢
      refine (if_pos (by rfl)).mpr ?_
      refine wp_app_two _ _ rfl P B0 w.heap.size (w.heap.size + 1) b1 C5 hP0 (by have := HST.out.size; have := hW.size; omega) (by have := HST.out.size; have := hW.size; omega) (by have := HST.out.size; have := hW.size; omega) ⟨kk, kx, ky, kc⟩ c A5 rfl rfl hf1 hf5 Hcl.out ?_
      intro v' W' hb hrow
      exact hK.out _ _ hb hrow
     case s7 =>
      obtain ⟨A6, C6, hx6, hf6⟩ : RowX B0 w.heap.size (w.heap.size + 1) (oneF ⟨kk, kx, ky, kc⟩ c) (xv 6) W := hphi 6 (hdw 6 (by kernel_rfl))
      clear hphi hdw
      rw [hx6] at hK ⊢
      refine (if_pos (by rfl)).mpr ?_
      go_simp
      refine (node_any _ _ _ _ _ W).mono ?_
      rintro e W' ⟨rfl, hb⟩
      exact hK.out _ _ hb ⟨A6, C6, rfl, mx_later hf6 hb hP0⟩
     case s8 =>
      obtain ⟨A7, C7, hx7, hf7⟩ : NdX B0 w.heap.size (w.heap.size + 1) (Parse.node 30 e0 (oneF ⟨kk, kx, ky, kc⟩ c)) (xv 7) W := hphi 7 (hdw 7 (by kernel_rfl))
      rw [hx7] at hK ⊢
      refine (if_pos (by rfl)).mpr ?_
      have hds : dn 5 = true := hdw 5 (by kernel_rfl)
      have hbx := (hg.2.1 hdi).1
      obtain ⟨g0, g1, g2, g3⟩ := hbx.frz
      obtain ⟨y0, y1, y2, y3⟩ := hbx.cells
      simp only [Parse.node] at hf7 hK ⊢
      go_simp
      exact hK.out undef _ ⟨Bes2.set4 _ _ _ _ _, GN.store (by decide) (hds) (finX_set hbx rfl hf7) (ps_set4 (hg.2.2.1 hds) (by omega) _ _ _ _)⟩ trivial
    case behind =>
     intro dn xv W hW hall hx hg a ha
     replace hW := hW.undrew
     simp only [fillA] at ha
     simp only [List.setIfInBounds_toArray, List.set_cons_succ, List.set_cons_zero, Nat.zero_add, Nat.reduceAdd] at ha
     subst ha
     have hF := hg.1 (hall 8 (by decide))
     have hps := hg.2.2.1 (hall 5 (by decide))
     have HST2 := Lib.hid (HST.out.region hW (Nat.le_refl _) (by omega) hps)
     have HFX := Lib.hid hF
     clear hx hF hps hg hall hW HBV
     go_wp2
     go_roundg (l2.length + 1)
     case rel => exact ⟨30, e0, e0, oneF ⟨kk, kx, ky, kc⟩ c, l2, by omega, by omega, HST2, HFX, f', by omega, HSI.out⟩
     case measure => omega

  | false =>
  rw [if_neg (isT_no b0)] at hsi
  cases b1 : (tx.toList == [91]) with
  | true =>
   rw [if_pos (isT_yes b1)] at hsi
   obtain ⟨t', r, rfl⟩ := isT_cons (z := z) (l := l') (u := [91]) (by rw [Ht.out]; exact b1) (by decide)
   obtain rfl : t' = ⟨tk, tx, tp, tf⟩ := Ht.out
   rw [List.tail_cons] at hsi
   have hrN : r.length < N := by simp only [List.length_cons] at hl'; omega
   simp only [List.length_cons] at hp hl' hf'
   have HDP : Hid (∀ W, PS W P z r d → Calls Tryz.prog 89 #[.pointer (some ⟨P, 0, none⟩), .int .i64 ((1 : Nat) : Int), .func (.func 71) #[.pointer (some ⟨P, 0, none⟩)] #[]] W (RPost NV W P z d (ex 1 (d + 1) r))) :=
    fun W hW => deeper_any P z N _ (ex 1) 1 r d W hW (reads_of W ent_expr HEX.out) hrN hd
   cases hr : ex 1 (d + 1) r with
   | bad p er =>
    rw [hr, Rd.bind_bad] at hsi
    have Hr := Lib.hid hr
    have HSP := Lib.hid hsi
    clear hr hsi
    go_wp2_with fail
    refine HN.out.mono ?_
    rintro e w1 ⟨rfl, hb⟩
    replace HST := Lib.hid (HST.out.quiet hb)
    replace HFK := Lib.hid (HFK.out.later hP0 _ _ hb)
    clear hb HN
    obtain ⟨Ak, Ck, hbx, hfk⟩ := HFK.out
    have HBV : Hid (BxV B0 w.heap.size (w.heap.size + 1) ⟨kk, kx, ky, kc⟩ Ak Ck _) := ⟨hbx, hfk⟩
    obtain ⟨mk, hmk⟩ : ∃ mk, kc.len = mk := ⟨_, rfl⟩
    have Hmk := Lib.hid hmk
    clear hbx hfk hmk HFK
    go_wp2_with fail
    refine (take_any P z _ _ d _ HST.out.ps).mono ?_
    rintro e w2 ⟨v, rfl, rfl, hps, hbe⟩
    replace HST := Lib.hid (HST.out.read hbe hps)
    replace HBV := Lib.hid (HBV.out.bes hbe hgP hP0)
    clear hps hbe Ht
    go_wp2
    clear hf1
    refine region_ph [4, 7] (GN 4 7 P z d r r (FinX B0 w.heap.size (w.heap.size + 1) noneN) (BxV B0 w.heap.size (w.heap.size + 1) ⟨kk, kx, ky, kc⟩ Ak Ck)) (Bes2 P (w.heap.size)) [Cd.is (.agg #[.int .i64 kk, .string kx, .string ky, .slice Ak mk Ck]), Cd.is (.pointer (some ⟨P, 0, none⟩)), Cd.is (.pointer (some ⟨P, 0, none⟩)), Cd.is (.func (.func 71) #[.pointer (some ⟨P, 0, none⟩)] #[]), cNo, cNo, cNo, cNo] (by kernel_rfl) (by decide) (by kernel_rfl) (Bes2.refl _ _ _) (fun _ _ _ h k => h.trans k) (fun _ _ h => Bes2.of h) (GN.keep (FinX.later hP0) (BxV.later hP0)) ?start ?steps ?behind
    case start =>
     intro x
     exact ⟨fun h => (by cases h), fun _ => HBV.out.drew, fun h => (by cases h), fun _ => HST.out.ps.drewN 1⟩
    case steps =>
     intro xv W hW a ha
     replace hW := hW.undrew
     simp only [fillA] at ha
     simp only [List.setIfInBounds_toArray, List.set_cons_succ, List.set_cons_zero, Nat.zero_add, Nat.reduceAdd] at ha
     subst ha
     refine ⟨?s0, ?s1, ?s2, ?s3, ?s4, ?s5, ?s6, ?s7, trivial⟩
     all_goals intro dn hdi hdw hcl hphi hg K hK
     all_goals (try simp only [Act.put, List.setIfInBounds_toArray, List.set_cons_succ, List.set_cons_zero] at hK)
     case s0 =>
      clear hphi hdw
      refine (if_pos (by rfl)).mpr ?_
      obtain ⟨q0, q1, q2, q3⟩ := (hg.2.1 (notYet hcl hdi (by kernel_rfl))).1.cells
      simp only [Hmk.out] at q3
      go_simp
      exact hK.out _ _ (Below.refl _ _) rfl
     case s1 =>
      clear hphi hdw
      refine (if_pos (by rfl)).mpr ?_
      go_simp
      exact hK.out _ _ (Below.refl _ _) rfl
     case s2 =>
      clear hphi hdw
      refine (if_pos (by rfl)).mpr ?_
      go_simp
      exact hK.out _ _ (Below.refl _ _) rfl
     case s3 =>
      have hx2 : xv 2 = .pointer (some ⟨P, 0, none⟩) := hphi 2 (hdw 2 (by kernel_rfl))
      clear hphi hdw
      rw [hx2] at hK ⊢
      refine (if_pos (by rfl)).mpr ?_
      go_simp
      exact hK.out _ _ (Below.refl _ _) rfl
     case s4 =>
      have hx1 : xv 1 = .pointer (some ⟨P, 0, none⟩) := hphi 1 (hdw 1 (by kernel_rfl))
      have hx3 : xv 3 = .func (.func 71) #[.pointer (some ⟨P, 0, none⟩)] #[] := hphi 3 (hdw 3 (by kernel_rfl))
      clear hphi hdw
      rw [hx1] at hK ⊢
      rw [hx3] at hK ⊢
      refine (if_pos (by rfl)).mpr ?_
      go_simp
      refine (calls_bad (HDP.out W (hg.2.2.2 hdi)) Hr.out).mono ?_
      rintro e W' ⟨rfl, hbe⟩
      exact ⟨rfl, rpost_bad HSP.out (Bes2.back HST.out.bes (hW.trans (Bes2.bes hbe)) (Nat.le_refl _))⟩
     case s5 =>
      have hx0 : xv 0 = .agg #[.int .i64 kk, .string kx, .string ky, .slice Ak mk Ck] := hphi 0 (hdw 0 (by kernel_rfl))
      have hno : False := hphi 4 (hdw 4 (by kernel_rfl))
      exact hno.elim
     case s6 =>
      have hno : False := hphi 5 (hdw 5 (by kernel_rfl))
      exact hno.elim
     case s7 =>
      have hno : False := hphi 6 (hdw 6 (by kernel_rfl))
      exact hno.elim
    case behind =>
     intro dn xv W hW hall hx hg a ha
     replace hW := hW.undrew
     simp only [fillA] at ha
     simp only [List.setIfInBounds_toArray, List.set_cons_succ, List.set_cons_zero, Nat.zero_add, Nat.reduceAdd] at ha
     subst ha
     exact (hx 4 (by decide) : False).elim

   | ok n2 l2 =>
    obtain ⟨nk2, nx2, ny2, nc2⟩ := n2
    rw [hr, Rd.bind_ok] at hsi
    have Hr := Lib.hid hr
    have hl2 : l2.length < r.length := HDEC.out _ _ _ _ hr
    clear hr
    cases hw : Parse.want z [93] l2 with
    | bad p er =>
     rw [hw, Rd.bind_bad] at hsi
     have HW := Lib.hid hw
     have HSP := Lib.hid hsi
     clear hw hsi
     go_wp2_with fail
     refine HN.out.mono ?_
     rintro e w1 ⟨rfl, hb⟩
     replace HST := Lib.hid (HST.out.quiet hb)
     replace HFK := Lib.hid (HFK.out.later hP0 _ _ hb)
     clear hb HN
     obtain ⟨Ak, Ck, hbx, hfk⟩ := HFK.out
     have HBV : Hid (BxV B0 w.heap.size (w.heap.size + 1) ⟨kk, kx, ky, kc⟩ Ak Ck _) := ⟨hbx, hfk⟩
     obtain ⟨mk, hmk⟩ : ∃ mk, kc.len = mk := ⟨_, rfl⟩
     have Hmk := Lib.hid hmk
     clear hbx hfk hmk HFK
     go_wp2_with fail
     refine (take_any P z _ _ d _ HST.out.ps).mono ?_
     rintro e w2 ⟨v, rfl, rfl, hps, hbe⟩
     replace HST := Lib.hid (HST.out.read hbe hps)
     replace HBV := Lib.hid (HBV.out.bes hbe hgP hP0)
     clear hps hbe Ht
     go_wp2
     clear hf1
     refine region_ph [4, 7] (GN 4 7 P z d r l2 (FinX B0 w.heap.size (w.heap.size + 1) (Parse.node 31 e0 (oneF ⟨kk, kx, ky, kc⟩ (one ⟨nk2, nx2, ny2, nc2⟩)))) (BxV B0 w.heap.size (w.heap.size + 1) ⟨kk, kx, ky, kc⟩ Ak Ck)) (Bes2 P (w.heap.size)) [Cd.is (.agg #[.int .i64 kk, .string kx, .string ky, .slice Ak mk Ck]), Cd.is (.pointer (some ⟨P, 0, none⟩)), Cd.is (.pointer (some ⟨P, 0, none⟩)), Cd.is (.func (.func 71) #[.pointer (some ⟨P, 0, none⟩)] #[]), cNdX B0 (w.heap.size + 1) hP0 ⟨nk2, nx2, ny2, nc2⟩, cRowX B0 (w.heap.size + 1) hP0 (oneF ⟨kk, kx, ky, kc⟩ (one ⟨nk2, nx2, ny2, nc2⟩)), cNdX B0 (w.heap.size + 1) hP0 (Parse.node 31 e0 (oneF ⟨kk, kx, ky, kc⟩ (one ⟨nk2, nx2, ny2, nc2⟩))), Cd.any] (by kernel_rfl) (by decide) (by kernel_rfl) (Bes2.refl _ _ _) (fun _ _ _ h k => h.trans k) (fun _ _ h => Bes2.of h) (GN.keep (FinX.later hP0) (BxV.later hP0)) ?start ?steps ?behind
     case start =>
      intro x
      exact ⟨fun h => (by cases h), fun _ => HBV.out.drew, fun h => (by cases h), fun _ => HST.out.ps.drewN 1⟩
     case steps =>
      intro xv W hW a ha
      replace hW := hW.undrew
      simp only [fillA] at ha
      simp only [List.setIfInBounds_toArray, List.set_cons_succ, List.set_cons_zero, Nat.zero_add, Nat.reduceAdd] at ha
      subst ha
      refine ⟨?s0, ?s1, ?s2, ?s3, ?s4, ?s5, ?s6, ?s7, trivial⟩
      all_goals intro dn hdi hdw hcl hphi hg K hK
      all_goals (try simp only [Act.put, List.setIfInBounds_toArray, List.set_cons_succ, List.set_cons_zero] at hK)
      case s0 =>
       clear hphi hdw
       refine (if_pos (by rfl)).mpr ?_
       obtain ⟨q0, q1, q2, q3⟩ := (hg.2.1 (notYet hcl hdi (by kernel_rfl))).1.cells
       simp only [Hmk.out] at q3
       go_simp
       exact hK.out _ _ (Below.refl _ _) rfl
      case s1 =>
       clear hphi hdw
       refine (if_pos (by rfl)).mpr ?_
       go_simp
       exact hK.out _ _ (Below.refl _ _) rfl
      case s2 =>
       clear hphi hdw
       refine (if_pos (by rfl)).mpr ?_
       go_simp
       exact hK.out _ _ (Below.refl _ _) rfl
      case s3 =>
       have hx2 : xv 2 = .pointer (some ⟨P, 0, none⟩) := hphi 2 (hdw 2 (by kernel_rfl))
       clear hphi hdw
       rw [hx2] at hK ⊢
       refine (if_pos (by rfl)).mpr ?_
       go_simp
       exact hK.out _ _ (Below.refl _ _) rfl
      case s4 =>
       have hx1 : xv 1 = .pointer (some ⟨P, 0, none⟩) := hphi 1 (hdw 1 (by kernel_rfl))
       have hx3 : xv 3 = .func (.func 71) #[.pointer (some ⟨P, 0, none⟩)] #[] := hphi 3 (hdw 3 (by kernel_rfl))
       clear hphi hdw
       rw [hx1] at hK ⊢
       rw [hx3] at hK ⊢
       refine (if_pos (by rfl)).mpr ?_
       go_simp
       refine (calls_ok (HDP.out W (hg.2.2.2 hdi)) Hr.out).mono ?_
       rintro e W' ⟨v, rfl, ⟨A, C, rfl, hf⟩, hps, hbe⟩
       exact hK.out _ _ ⟨Bes2.bes hbe, GN.call (by decide) hg (notYet hcl hdi (by kernel_rfl)) (fun h => h.bes hbe hgP hP0) hps⟩ ⟨A, C, rfl, mx_of hf (by have := HST.out.size; have := hW.size; omega) (.inl (by have := HST.out.size; have := hW.size; omega)) (.inl (by have := HST.out.size; have := hW.size; omega)) (Nat.le_refl _)⟩
      case s5 =>
       have hx0 : xv 0 = .agg #[.int .i64 kk, .string kx, .string ky, .slice Ak mk Ck] := hphi 0 (hdw 0 (by kernel_rfl))
       obtain ⟨A4, C4, hx4, hf4⟩ : NdX B0 w.heap.size (w.heap.size + 1) ⟨nk2, nx2, ny2, nc2⟩ (xv 4) W := hphi 4 (hdw 4 (by kernel_rfl))
       clear hphi hdw
       rw [hx4] at hK ⊢
       rw [hx0] at hK ⊢
       refine (if_pos (by rfl)).mpr ?_
       go_simp
       exact hK.out _ _ ((Below.refl _ _).alloc (Nat.le_refl _) _) (rowX2 W B0 _ _ P (by have := HST.out.size; have := hW.size; omega) (by have := HST.out.size; have := hW.size; omega) (by have := HST.out.size; have := hW.size; omega) hP0 kk kx ky kc _ (by have hq := mx_bes2 HBV.out.2 hW hP0; simp only [Hmk.out] at hq; exact hq) nk2 nx2 ny2 nc2 _ hf4)
      case s6 =>
       obtain ⟨A5, C5, hx5, hf5⟩ : RowX B0 w.heap.size (w.heap.size + 1) (oneF ⟨kk, kx, ky, kc⟩ (one ⟨nk2, nx2, ny2, nc2⟩)) (xv 5) W := hphi 5 (hdw 5 (by kernel_rfl))
       clear hphi hdw
       rw [hx5] at hK ⊢
       refine (if_pos (by rfl)).mpr ?_
       go_simp
       refine (node_any _ _ _ _ _ W).mono ?_
       rintro e W' ⟨rfl, hb⟩
       exact hK.out _ _ hb ⟨A5, C5, rfl, mx_later hf5 hb hP0⟩
      case s7 =>
       obtain ⟨A6, C6, hx6, hf6⟩ : NdX B0 w.heap.size (w.heap.size + 1) (Parse.node 31 e0 (oneF ⟨kk, kx, ky, kc⟩ (one ⟨nk2, nx2, ny2, nc2⟩))) (xv 6) W := hphi 6 (hdw 6 (by kernel_rfl))
       rw [hx6] at hK ⊢
       refine (if_pos (by rfl)).mpr ?_
       have hds : dn 4 = true := hdw 4 (by kernel_rfl)
       have hbx := (hg.2.1 hdi).1
       obtain ⟨g0, g1, g2, g3⟩ := hbx.frz
       obtain ⟨y0, y1, y2, y3⟩ := hbx.cells
       simp only [Parse.node] at hf6 hK ⊢
       go_simp
       exact hK.out undef _ ⟨Bes2.set4 _ _ _ _ _, GN.store (by decide) (hds) (finX_set hbx rfl hf6) (ps_set4 (hg.2.2.1 hds) (by omega) _ _ _ _)⟩ trivial
     case behind =>
      intro dn xv W hW hall hx hg a ha
      replace hW := hW.undrew
      simp only [fillA] at ha
      simp only [List.setIfInBounds_toArray, List.set_cons_succ, List.set_cons_zero, Nat.zero_add, Nat.reduceAdd] at ha
      subst ha
      have hF := hg.1 (hall 7 (by decide))
      have hps := hg.2.2.1 (hall 4 (by decide))
      have HST2 := Lib.hid (HST.out.region hW (Nat.le_refl _) (by omega) hps)
      have HFX := Lib.hid hF
      clear hx hF hps hg hall hW HBV
      go_wp2_with fail
      refine (calls_bad (want_at HST2.out.ps HU1.out (by decide)) HW.out).mono ?_
      rintro e w3 ⟨rfl, hbe⟩
      have HE := Lib.hid (HST2.out.bes.trans hbe)
      clear hbe
      go_wp2
      exact ⟨rfl, rpost_bad HSP.out HE.out⟩

    | ok u l3 =>
     rw [hw, Rd.bind_ok] at hsi
     have HW := Lib.hid hw
     have HSI := Lib.hid hsi
     have hl3 : l3.length ≤ l2.length := by rw [want_ok hw, List.length_tail]; omega
     clear hw hsi
     go_wp2_with fail
     refine HN.out.mono ?_
     rintro e w1 ⟨rfl, hb⟩
     replace HST := Lib.hid (HST.out.quiet hb)
     replace HFK := Lib.hid (HFK.out.later hP0 _ _ hb)
     clear hb HN
     obtain ⟨Ak, Ck, hbx, hfk⟩ := HFK.out
     have HBV : Hid (BxV B0 w.heap.size (w.heap.size + 1) ⟨kk, kx, ky, kc⟩ Ak Ck _) := ⟨hbx, hfk⟩
     obtain ⟨mk, hmk⟩ : ∃ mk, kc.len = mk := ⟨_, rfl⟩
     have Hmk := Lib.hid hmk
     clear hbx hfk hmk HFK
     go_wp2_with fail
     refine (take_any P z _ _ d _ HST.out.ps).mono ?_
     rintro e w2 ⟨v, rfl, rfl, hps, hbe⟩
     replace HST := Lib.hid (HST.out.read hbe hps)
     replace HBV := Lib.hid (HBV.out.bes hbe hgP hP0)
     clear hps hbe Ht
     go_wp2
     clear hf1
     refine region_ph [4, 7] (GN 4 7 P z d r l2 (FinX B0 w.heap.size (w.heap.size + 1) (Parse.node 31 e0 (oneF ⟨kk, kx, ky, kc⟩ (one ⟨nk2, nx2, ny2, nc2⟩)))) (BxV B0 w.heap.size (w.heap.size + 1) ⟨kk, kx, ky, kc⟩ Ak Ck)) (Bes2 P (w.heap.size)) [Cd.is (.agg #[.int .i64 kk, .string kx, .string ky, .slice Ak mk Ck]), Cd.is (.pointer (some ⟨P, 0, none⟩)), Cd.is (.pointer (some ⟨P, 0, none⟩)), Cd.is (.func (.func 71) #[.pointer (some ⟨P, 0, none⟩)] #[]), cNdX B0 (w.heap.size + 1) hP0 ⟨nk2, nx2, ny2, nc2⟩, cRowX B0 (w.heap.size + 1) hP0 (oneF ⟨kk, kx, ky, kc⟩ (one ⟨nk2, nx2, ny2, nc2⟩)), cNdX B0 (w.heap.size + 1) hP0 (Parse.node 31 e0 (oneF ⟨kk, kx, ky, kc⟩ (one ⟨nk2, nx2, ny2, nc2⟩))), Cd.any] (by kernel_rfl) (by decide) (by kernel_rfl) (Bes2.refl _ _ _) (fun _ _ _ h k => h.trans k) (fun _ _ h => Bes2.of h) (GN.keep (FinX.later hP0) (BxV.later hP0)) ?start ?steps ?behind
     case start =>
      intro x
      exact ⟨fun h => (by cases h), fun _ => HBV.out.drew, fun h => (by cases h), fun _ => HST.out.ps.drewN 1⟩
     case steps =>
      intro xv W hW a ha
      replace hW := hW.undrew
      simp only [fillA] at ha
      simp only [List.setIfInBounds_toArray, List.set_cons_succ, List.set_cons_zero, Nat.zero_add, Nat.reduceAdd] at ha
      subst ha
      refine ⟨?s0, ?s1, ?s2, ?s3, ?s4, ?s5, ?s6, ?s7, trivial⟩
      all_goals intro dn hdi hdw hcl hphi hg K hK
      all_goals (try simp only [Act.put, List.setIfInBounds_toArray, List.set_cons_succ, List.set_cons_zero] at hK)
      case s0 =>
       clear hphi hdw
       refine (if_pos (by rfl)).mpr ?_
       obtain ⟨q0, q1, q2, q3⟩ := (hg.2.1 (notYet hcl hdi (by kernel_rfl))).1.cells
       simp only [Hmk.out] at q3
       go_simp
       exact hK.out _ _ (Below.refl _ _) rfl
      case s1 =>
       clear hphi hdw
       refine (if_pos (by rfl)).mpr ?_
       go_simp
       exact hK.out _ _ (Below.refl _ _) rfl
      case s2 =>
       clear hphi hdw
       refine (if_pos (by rfl)).mpr ?_
       go_simp
       exact hK.out _ _ (Below.refl _ _) rfl
      case s3 =>
       have hx2 : xv 2 = .pointer (some ⟨P, 0, none⟩) := hphi 2 (hdw 2 (by kernel_rfl))
       clear hphi hdw
       rw [hx2] at hK ⊢
       refine (if_pos (by rfl)).mpr ?_
       go_simp
       exact hK.out _ _ (Below.refl _ _) rfl
      case s4 =>
       have hx1 : xv 1 = .pointer (some ⟨P, 0, none⟩) := hphi 1 (hdw 1 (by kernel_rfl))
       have hx3 : xv 3 = .func (.func 71) #[.pointer (some ⟨P, 0, none⟩)] #[] := hphi 3 (hdw 3 (by kernel_rfl))
       clear hphi hdw
       rw [hx1] at hK ⊢
       rw [hx3] at hK ⊢
       refine (if_pos (by rfl)).mpr ?_
       go_simp
       refine (calls_ok (HDP.out W (hg.2.2.2 hdi)) Hr.out).mono ?_
       rintro e W' ⟨v, rfl, ⟨A, C, rfl, hf⟩, hps, hbe⟩
       exact hK.out _ _ ⟨Bes2.bes hbe, GN.call (by decide) hg (notYet hcl hdi (by kernel_rfl)) (fun h => h.bes hbe hgP hP0) hps⟩ ⟨A, C, rfl, mx_of hf (by have := HST.out.size; have := hW.size; omega) (.inl (by have := HST.out.size; have := hW.size; omega)) (.inl (by have := HST.out.size; have := hW.size; omega)) (Nat.le_refl _)⟩
      case s5 =>
       have hx0 : xv 0 = .agg #[.int .i64 kk, .string kx, .string ky, .slice Ak mk Ck] := hphi 0 (hdw 0 (by kernel_rfl))
       obtain ⟨A4, C4, hx4, hf4⟩ : NdX B0 w.heap.size (w.heap.size + 1) ⟨nk2, nx2, ny2, nc2⟩ (xv 4) W := hphi 4 (hdw 4 (by kernel_rfl))
       clear hphi hdw
       rw [hx4] at hK ⊢
       rw [hx0] at hK ⊢
       refine (if_pos (by rfl)).mpr ?_
       go_simp
       exact hK.out _ _ ((Below.refl _ _).alloc (Nat.le_refl _) _) (rowX2 W B0 _ _ P (by have := HST.out.size; have := hW.size; omega) (by have := HST.out.size; have := hW.size; omega) (by have := HST.out.size; have := hW.size; omega) hP0 kk kx ky kc _ (by have hq := mx_bes2 HBV.out.2 hW hP0; simp only [Hmk.out] at hq; exact hq) nk2 nx2 ny2 nc2 _ hf4)
      case s6 =>
       obtain ⟨A5, C5, hx5, hf5⟩ : RowX B0 w.heap.size (w.heap.size + 1) (oneF ⟨kk, kx, ky, kc⟩ (one ⟨nk2, nx2, ny2, nc2⟩)) (xv 5) W := hphi 5 (hdw 5 (by kernel_rfl))
       clear hphi hdw
       rw [hx5] at hK ⊢
       refine (if_pos (by rfl)).mpr ?_
       go_simp
       refine (node_any _ _ _ _ _ W).mono ?_
       rintro e W' ⟨rfl, hb⟩
       exact hK.out _ _ hb ⟨A5, C5, rfl, mx_later hf5 hb hP0⟩
      case s7 =>
       obtain ⟨A6, C6, hx6, hf6⟩ : NdX B0 w.heap.size (w.heap.size + 1) (Parse.node 31 e0 (oneF ⟨kk, kx, ky, kc⟩ (one ⟨nk2, nx2, ny2, nc2⟩))) (xv 6) W := hphi 6 (hdw 6 (by kernel_rfl))
       rw [hx6] at hK ⊢
       refine (if_pos (by rfl)).mpr ?_
       have hds : dn 4 = true := hdw 4 (by kernel_rfl)
       have hbx := (hg.2.1 hdi).1
       obtain ⟨g0, g1, g2, g3⟩ := hbx.frz
       obtain ⟨y0, y1, y2, y3⟩ := hbx.cells
       simp only [Parse.node] at hf6 hK ⊢
       go_simp
       exact hK.out undef _ ⟨Bes2.set4 _ _ _ _ _, GN.store (by decide) (hds) (finX_set hbx rfl hf6) (ps_set4 (hg.2.2.1 hds) (by omega) _ _ _ _)⟩ trivial
     case behind =>
      intro dn xv W hW hall hx hg a ha
      replace hW := hW.undrew
      simp only [fillA] at ha
      simp only [List.setIfInBounds_toArray, List.set_cons_succ, List.set_cons_zero, Nat.zero_add, Nat.reduceAdd] at ha
      subst ha
      have hF := hg.1 (hall 7 (by decide))
      have hps := hg.2.2.1 (hall 4 (by decide))
      have HST2 := Lib.hid (HST.out.region hW (Nat.le_refl _) (by omega) hps)
      have HFX := Lib.hid hF
      clear hx hF hps hg hall hW HBV
      go_wp2_with fail
      refine (calls_ok (want_at HST2.out.ps HU1.out (by decide)) HW.out).mono ?_
      rintro e w3 ⟨v, rfl, rfl, hps, hbe⟩
      have HST3 := Lib.hid (HST2.out.read hbe hps)
      have HFX3 := Lib.hid (HFX.out.bes hbe hP0 hgP)
      clear hps hbe
      go_wp2
      go_roundg (l3.length + 1)
      case rel => exact ⟨31, e0, e0, oneF ⟨kk, kx, ky, kc⟩ (one ⟨nk2, nx2, ny2, nc2⟩), l3, by omega, by omega, HST3, HFX3, f', by omega, HSI.out⟩
      case measure => omega

  | false =>
  rw [if_neg (isT_no b1)] at hsi
  cases b2 : (tx.toList == [46]) with
  | true =>
   rw [if_pos (isT_yes b2)] at hsi
   obtain ⟨t', r, rfl⟩ := isT_cons (z := z) (l := l') (u := [46]) (by rw [Ht.out]; exact b2) (by decide)
   obtain rfl : t' = ⟨tk, tx, tp, tf⟩ := Ht.out
   rw [List.tail_cons] at hsi
   simp only [List.length_cons] at hp hl' hf'
   cases hr : name z r with
   | bad p er =>
    rw [hr, Rd.bind_bad] at hsi
    have Hr := Lib.hid hr
    have HSP := Lib.hid hsi
    clear hr hsi
    go_wp2_with fail
    refine HN.out.mono ?_
    rintro e w1 ⟨rfl, hb⟩
    replace HST := Lib.hid (HST.out.quiet hb)
    replace HFK := Lib.hid (HFK.out.later hP0 _ _ hb)
    clear hb HN
    obtain ⟨Ak, Ck, hbx, hfk⟩ := HFK.out
    have HBV : Hid (BxV B0 w.heap.size (w.heap.size + 1) ⟨kk, kx, ky, kc⟩ Ak Ck _) := ⟨hbx, hfk⟩
    obtain ⟨mk, hmk⟩ : ∃ mk, kc.len = mk := ⟨_, rfl⟩
    have Hmk := Lib.hid hmk
    clear hbx hfk hmk HFK
    go_wp2_with fail
    refine (take_any P z _ _ d _ HST.out.ps).mono ?_
    rintro e w2 ⟨v, rfl, rfl, hps, hbe⟩
    replace HST := Lib.hid (HST.out.read hbe hps)
    replace HBV := Lib.hid (HBV.out.bes hbe hgP hP0)
    clear hps hbe Ht
    go_wp2
    clear hf1
    refine region_ph [3, 7] (GN 3 7 P z d r r (FinX B0 w.heap.size (w.heap.size + 1) noneN) (BxV B0 w.heap.size (w.heap.size + 1) ⟨kk, kx, ky, kc⟩ Ak Ck)) (Bes2 P (w.heap.size)) [Cd.is (.pointer (some ⟨P, 0, none⟩)), Cd.is (.pointer (some ⟨P, 0, none⟩)), Cd.is (.pointer (some ⟨P, 0, none⟩)), cNo, Cd.is (.agg #[.int .i64 kk, .string kx, .string ky, .slice Ak mk Ck]), cRowX B0 (w.heap.size + 1) hP0 (one ⟨kk, kx, ky, kc⟩), cNo, cNo] (by kernel_rfl) (by decide) (by kernel_rfl) (Bes2.refl _ _ _) (fun _ _ _ h k => h.trans k) (fun _ _ h => Bes2.of h) (GN.keep (FinX.later hP0) (BxV.later hP0)) ?start ?steps ?behind
    case start =>
     intro x
     exact ⟨fun h => (by cases h), fun _ => HBV.out.drew, fun h => (by cases h), fun _ => HST.out.ps.drewN 1⟩
    case steps =>
     intro xv W hW a ha
     replace hW := hW.undrew
     simp only [fillA] at ha
     simp only [List.setIfInBounds_toArray, List.set_cons_succ, List.set_cons_zero, Nat.zero_add, Nat.reduceAdd] at ha
     subst ha
     refine ⟨?s0, ?s1, ?s2, ?s3, ?s4, ?s5, ?s6, ?s7, trivial⟩
     all_goals intro dn hdi hdw hcl hphi hg K hK
     all_goals (try simp only [Act.put, List.setIfInBounds_toArray, List.set_cons_succ, List.set_cons_zero] at hK)
     case s0 =>
      clear hphi hdw
      refine (if_pos (by rfl)).mpr ?_
      go_simp
      exact hK.out _ _ (Below.refl _ _) rfl
     case s1 =>
      have hx0 : xv 0 = .pointer (some ⟨P, 0, none⟩) := hphi 0 (hdw 0 (by kernel_rfl))
      clear hphi hdw
      rw [hx0] at hK ⊢
      refine (if_pos (by rfl)).mpr ?_
      go_simp
      exact hK.out _ _ (Below.refl _ _) rfl
     case s2 =>
      have hx1 : xv 1 = .pointer (some ⟨P, 0, none⟩) := hphi 1 (hdw 1 (by kernel_rfl))
      clear hphi hdw
      rw [hx1] at hK ⊢
      refine (if_pos (by rfl)).mpr ?_
      go_simp
      exact hK.out _ _ (Below.refl _ _) rfl
     case s3 =>
      have hx2 : xv 2 = .pointer (some ⟨P, 0, none⟩) := hphi 2 (hdw 2 (by kernel_rfl))
      clear hphi hdw
      rw [hx2] at hK ⊢
      refine (if_pos (by rfl)).mpr ?_
      go_simp
      refine (calls_bad (name_any P z r d W (hg.2.2.2 hdi)) Hr.out).mono ?_
      rintro e W' ⟨rfl, hbe⟩
      exact ⟨rfl, rpost_bad HSP.out (Bes2.back HST.out.bes (hW.trans (Bes2.bes hbe)) (Nat.le_refl _))⟩
     case s4 =>
      clear hphi hdw
      refine (if_pos (by rfl)).mpr ?_
      obtain ⟨q0, q1, q2, q3⟩ := (hg.2.1 (notYet hcl hdi (by kernel_rfl))).1.cells
      simp only [Hmk.out] at q3
      go_simp
      exact hK.out _ _ (Below.refl _ _) rfl
     case s5 =>
      have hx4 : xv 4 = .agg #[.int .i64 kk, .string kx, .string ky, .slice Ak mk Ck] := hphi 4 (hdw 4 (by kernel_rfl))
      clear hphi hdw
      rw [hx4] at hK ⊢
      refine (if_pos (by rfl)).mpr ?_
      go_simp
      exact hK.out _ _ ((Below.refl _ _).alloc (Nat.le_refl _) _) (rowX1 W B0 _ _ P (by have := HST.out.size; have := hW.size; omega) (by have := HST.out.size; have := hW.size; omega) (by have := HST.out.size; have := hW.size; omega) hP0 kk kx ky kc _ (by have hq := mx_bes2 HBV.out.2 hW hP0; simp only [Hmk.out] at hq; exact hq))
     case s6 =>
      have hno : False := hphi 3 (hdw 3 (by kernel_rfl))
      exact hno.elim
     case s7 =>
      have hno : False := hphi 6 (hdw 6 (by kernel_rfl))
      exact hno.elim
    case behind =>
     intro dn xv W hW hall hx hg a ha
     replace hW := hW.undrew
     simp only [fillA] at ha
     simp only [List.setIfInBounds_toArray, List.set_cons_succ, List.set_cons_zero, Nat.zero_add, Nat.reduceAdd] at ha
     subst ha
     exact (hx 3 (by decide) : False).elim

   | ok sx l2 =>
    rw [hr, Rd.bind_ok] at hsi
    have Hr := Lib.hid hr
    have HSI := Lib.hid hsi
    have hl2 : l2.length ≤ r.length := by have := lt_name (z := z) (l := r) (m := r.length + 1) (Nat.lt_succ_self _) _ _ hr; omega
    clear hr hsi
    go_wp2_with fail
    refine HN.out.mono ?_
    rintro e w1 ⟨rfl, hb⟩
    replace HST := Lib.hid (HST.out.quiet hb)
    replace HFK := Lib.hid (HFK.out.later hP0 _ _ hb)
    clear hb HN
    obtain ⟨Ak, Ck, hbx, hfk⟩ := HFK.out
    have HBV : Hid (BxV B0 w.heap.size (w.heap.size + 1) ⟨kk, kx, ky, kc⟩ Ak Ck _) := ⟨hbx, hfk⟩
    obtain ⟨mk, hmk⟩ : ∃ mk, kc.len = mk := ⟨_, rfl⟩
    have Hmk := Lib.hid hmk
    clear hbx hfk hmk HFK
    go_wp2_with fail
    refine (take_any P z _ _ d _ HST.out.ps).mono ?_
    rintro e w2 ⟨v, rfl, rfl, hps, hbe⟩
    replace HST := Lib.hid (HST.out.read hbe hps)
    replace HBV := Lib.hid (HBV.out.bes hbe hgP hP0)
    clear hps hbe Ht
    go_wp2
    clear hf1
    refine region_ph [3, 7] (GN 3 7 P z d r l2 (FinX B0 w.heap.size (w.heap.size + 1) (Parse.node 32 sx (one ⟨kk, kx, ky, kc⟩))) (BxV B0 w.heap.size (w.heap.size + 1) ⟨kk, kx, ky, kc⟩ Ak Ck)) (Bes2 P (w.heap.size)) [Cd.is (.pointer (some ⟨P, 0, none⟩)), Cd.is (.pointer (some ⟨P, 0, none⟩)), Cd.is (.pointer (some ⟨P, 0, none⟩)), Cd.is (.string sx), Cd.is (.agg #[.int .i64 kk, .string kx, .string ky, .slice Ak mk Ck]), cRowX B0 (w.heap.size + 1) hP0 (one ⟨kk, kx, ky, kc⟩), cNdX B0 (w.heap.size + 1) hP0 (Parse.node 32 sx (one ⟨kk, kx, ky, kc⟩)), Cd.any] (by kernel_rfl) (by decide) (by kernel_rfl) (Bes2.refl _ _ _) (fun _ _ _ h k => h.trans k) (fun _ _ h => Bes2.of h) (GN.keep (FinX.later hP0) (BxV.later hP0)) ?start ?steps ?behind
    case start =>
     intro x
     exact ⟨fun h => (by cases h), fun _ => HBV.out.drew, fun h => (by cases h), fun _ => HST.out.ps.drewN 1⟩
    case steps =>
     intro xv W hW a ha
     replace hW := hW.undrew
     simp only [fillA] at ha
     simp only [List.setIfInBounds_toArray, List.set_cons_succ, List.set_cons_zero, Nat.zero_add, Nat.reduceAdd] at ha
     subst ha
     refine ⟨?s0, ?s1, ?s2, ?s3, ?s4, ?s5, ?s6, ?s7, trivial⟩
     all_goals intro dn hdi hdw hcl hphi hg K hK
     all_goals (try simp only [Act.put, List.setIfInBounds_toArray, List.set_cons_succ, List.set_cons_zero] at hK)
     case s0 =>
      clear hphi hdw
      refine (if_pos (by rfl)).mpr ?_
      go_simp
      exact hK.out _ _ (Below.refl _ _) rfl
     case s1 =>
      have hx0 : xv 0 = .pointer (some ⟨P, 0, none⟩) := hphi 0 (hdw 0 (by kernel_rfl))
      clear hphi hdw
      rw [hx0] at hK ⊢
      refine (if_pos (by rfl)).mpr ?_
      go_simp
      exact hK.out _ _ (Below.refl _ _) rfl
     case s2 =>
      have hx1 : xv 1 = .pointer (some ⟨P, 0, none⟩) := hphi 1 (hdw 1 (by kernel_rfl))
      clear hphi hdw
      rw [hx1] at hK ⊢
      refine (if_pos (by rfl)).mpr ?_
      go_simp
      exact hK.out _ _ (Below.refl _ _) rfl
     case s3 =>
      have hx2 : xv 2 = .pointer (some ⟨P, 0, none⟩) := hphi 2 (hdw 2 (by kernel_rfl))
      clear hphi hdw
      rw [hx2] at hK ⊢
      refine (if_pos (by rfl)).mpr ?_
      go_simp
      refine (calls_ok (name_any P z r d W (hg.2.2.2 hdi)) Hr.out).mono ?_
      rintro e W' ⟨v, rfl, rfl, hps, hbe⟩
      exact hK.out _ _ ⟨Bes2.bes hbe, GN.call (by decide) hg (notYet hcl hdi (by kernel_rfl)) (fun h => h.bes hbe hgP hP0) hps⟩ rfl
     case s4 =>
      clear hphi hdw
      refine (if_pos (by rfl)).mpr ?_
      obtain ⟨q0, q1, q2, q3⟩ := (hg.2.1 (notYet hcl hdi (by kernel_rfl))).1.cells
      simp only [Hmk.out] at q3
      go_simp
      exact hK.out _ _ (Below.refl _ _) rfl
     case s5 =>
      have hx4 : xv 4 = .agg #[.int .i64 kk, .string kx, .string ky, .slice Ak mk Ck] := hphi 4 (hdw 4 (by kernel_rfl))
      clear hphi hdw
      rw [hx4] at hK ⊢
      refine (if_pos (by rfl)).mpr ?_
      go_simp
      exact hK.out _ _ ((Below.refl _ _).alloc (Nat.le_refl _) _) (rowX1 W B0 _ _ P (by have := HST.out.size; have := hW.size; omega) (by have := HST.out.size; have := hW.size; omega) (by have := HST.out.size; have := hW.size; omega) hP0 kk kx ky kc _ (by have hq := mx_bes2 HBV.out.2 hW hP0; simp only [Hmk.out] at hq; exact hq))
     case s6 =>
      have hx3 : xv 3 = .string sx := hphi 3 (hdw 3 (by kernel_rfl))
      obtain ⟨A5, C5, hx5, hf5⟩ : RowX B0 w.heap.size (w.heap.size + 1) (one ⟨kk, kx, ky, kc⟩) (xv 5) W := hphi 5 (hdw 5 (by kernel_rfl))
      clear hphi hdw
      rw [hx5] at hK ⊢
      rw [hx3] at hK ⊢
      refine (if_pos (by rfl)).mpr ?_
      go_simp
      refine (node_any _ _ _ _ _ W).mono ?_
      rintro e W' ⟨rfl, hb⟩
      exact hK.out _ _ hb ⟨A5, C5, rfl, mx_later hf5 hb hP0⟩
     case s7 =>
      obtain ⟨A6, C6, hx6, hf6⟩ : NdX B0 w.heap.size (w.heap.size + 1) (Parse.node 32 sx (one ⟨kk, kx, ky, kc⟩)) (xv 6) W := hphi 6 (hdw 6 (by kernel_rfl))
      rw [hx6] at hK ⊢
      refine (if_pos (by rfl)).mpr ?_
      have hds : dn 3 = true := hdw 3 (by kernel_rfl)
      have hbx := (hg.2.1 hdi).1
      obtain ⟨g0, g1, g2, g3⟩ := hbx.frz
      obtain ⟨y0, y1, y2, y3⟩ := hbx.cells
      simp only [Parse.node] at hf6 hK ⊢
      go_simp
      exact hK.out undef _ ⟨Bes2.set4 _ _ _ _ _, GN.store (by decide) (hds) (finX_set hbx rfl hf6) (ps_set4 (hg.2.2.1 hds) (by omega) _ _ _ _)⟩ trivial
    case behind =>
     intro dn xv W hW hall hx hg a ha
     replace hW := hW.undrew
     simp only [fillA] at ha
     simp only [List.setIfInBounds_toArray, List.set_cons_succ, List.set_cons_zero, Nat.zero_add, Nat.reduceAdd] at ha
     subst ha
     have hF := hg.1 (hall 7 (by decide))
     have hps := hg.2.2.1 (hall 3 (by decide))
     have HST2 := Lib.hid (HST.out.region hW (Nat.le_refl _) (by omega) hps)
     have HFX := Lib.hid hF
     clear hx hF hps hg hall hW HBV
     go_wp2
     go_roundg (l2.length + 1)
     case rel => exact ⟨32, sx, e0, one ⟨kk, kx, ky, kc⟩, l2, by omega, by omega, HST2, HFX, f', by omega, HSI.out⟩
     case measure => omega

  | false =>
   rw [if_neg (isT_no b2)] at hsi
   have HSP := Lib.hid hsi
   clear hsi
   go_wp2_with fail
   refine HN.out.mono ?_
   rintro e w1 ⟨rfl, hb⟩
   replace HST := Lib.hid (HST.out.quiet hb)
   replace HFK := Lib.hid (HFK.out.later hP0 _ _ hb)
   clear hb HN
   obtain ⟨Ak, Ck, hbx, hfk⟩ := HFK.out
   have HBV : Hid (BxV B0 w.heap.size (w.heap.size + 1) ⟨kk, kx, ky, kc⟩ Ak Ck _) := ⟨hbx, hfk⟩
   obtain ⟨mk, hmk⟩ : ∃ mk, kc.len = mk := ⟨_, rfl⟩
   have Hmk := Lib.hid hmk
   clear hbx hfk hmk HFK
   obtain ⟨q0, q1, q2, q3⟩ := HBV.out.1.cells
   simp only [Hmk.out] at q3
   have HFQ : Hid (Fs _ _ _ _) := HBV.out.2
   rw [Hmk.out] at HFQ
   have hne : w.heap.size ≠ w.heap.size + 1 := by omega
   have hne2 : w.heap.size + 1 ≠ w.heap.size := by omega
   clear HBV Ht HEX HDEC
   obtain ⟨⟨r0, r1, r2, r3, y0, y1, y2, y3⟩, g0, g1, g2, g3⟩ := HST.out.frz
   go_wp2
   have hfin := HST.out.ret (B0 := B0) HSP.out Hmk.out.symm (mx_mi HFQ.out) (fun _ _ _ _ => mx_setR HFQ.out _ _ _ _)
   refine bodyPost_ret (results_cell_row rfl _ _ (w.heap.size + 1) 24 _ (0, 0) _ rfl hfin.1 Tryz.underlying24 rfl hi_nd) rfl ?_
   exact hfin.2
end Go.Proofs.YtaiihnniblibaaaGreatDoor.Parse
