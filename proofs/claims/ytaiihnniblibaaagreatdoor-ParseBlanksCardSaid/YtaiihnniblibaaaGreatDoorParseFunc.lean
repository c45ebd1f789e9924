/-
 Layer 6 (parse): functions.
-/
import Derived.Test.YtaiihnniblibaaaGreatDoorParseStat
namespace Go.Proofs.YtaiihnniblibaaaGreatDoor.Parse
open Go.ChangeShapes Go.WideShapes Go.ChangeAt Go.RowKit Tree MemT Mem
set_option linter.unusedVariables false

theorem param_rd (P z N : Nat) : RdOk 93 P z N (typed z 16 (tyR z)) := fun W d l hl hd hps => param_any P z l.length (tyR z) (ty_rd P z _) l d W hps (Nat.le_refl _) hd
theorem fv_mx {W W' : World} {B0 g g' : Nat} {v : Value} {c : F} (h : FV W W' v c) (hB : B0 ≤ W.heap.size) (hg : g < W.heap.size) (hg' : g' < W.heap.size) : ∃ A C, v = .slice A c.len C ∧ Fs W' (Mx B0 g g' W'.heap.size) (.slice A c.len C) c := by
 obtain ⟨A, C, e, hf⟩ := h
 exact ⟨A, C, e, mx_of hf hB (.inl hg) (.inl hg') (Nat.le_refl _)⟩

set_option maxHeartbeats 32000000 in
set_option maxRecDepth 100000 in
theorem func_bad (P z : Nat) (l : List Tk) (d : Nat) (w : World) (h : PS w P z l d) (hd : d ≤ 300) (p : Nat) (er : Int) (hr : beg z (isT (Parse.hd z l) [102, 117, 110, 99]) d l = .bad p er) :
  Calls Tryz.prog 74 #[.pointer (some ⟨P, 0, none⟩)] w (RPost NV w P z d (funcR z d l)) := by
 have hlt := h.lt
 have HST := Lib.hid (StX.start h)
 have HU : Hid ((⟨#[102, 117, 110, 99]⟩ : ByteArray).toList = [102, 117, 110, 99]) := by show _ = _; rw [ByteArray.toList_eq]
 have HU2 : Hid ((⟨#[40]⟩ : ByteArray).toList = [40]) := by show _ = _; rw [ByteArray.toList_eq]
 have HU3 : Hid ((⟨#[41]⟩ : ByteArray).toList = [41]) := by show _ = _; rw [ByteArray.toList_eq]
 have HU4 : Hid ((⟨#[123]⟩ : ByteArray).toList = [123]) := by show _ = _; rw [ByteArray.toList_eq]
 have hsp : funcR z d l = funcR z d l := rfl
 conv at hsp => rhs; unfold funcR
 have hP0 : P < w.heap.size + 1 := by omega
 have hRP : w.heap.size ≠ P := by omega
 obtain ⟨bb, hbb⟩ : ∃ bb, isT (Parse.hd z l) [102, 117, 110, 99] = bb := ⟨_, rfl⟩
 rw [hbb] at hsp
 have HBB := Lib.hid hbb
 have HBG : Hid (∀ W, PS W P z l d → Calls Tryz.prog 66 #[.pointer (some ⟨P, 0, none⟩), .bool bb] W (RPost TV W P z d (beg z bb d l))) :=
  fun W hW => begin_any _ P z l d (fun e => isT_ne (by decide) (hbb.trans e)) (by omega) W hW
 have hfb : bb = true → l ≠ [] := fun e => isT_ne (by decide) (hbb.trans e)
 have HT : Hid (∀ W l', PS W P z l' d → Calls Tryz.prog 72 #[.pointer (some ⟨P, 0, none⟩)] W (RPost NV W P z d (tyR z d l'))) := fun W l' hW => ty_rd P z (l'.length + 1) W d l' (Nat.lt_succ_self _) (by omega) hW
 have HPA : Hid (∀ W l', PS W P z l' d → Calls Tryz.prog 93 #[.pointer (some ⟨P, 0, none⟩)] W (RPost NV W P z d (typed z 16 (tyR z) d l'))) := fun W l' hW => param_rd P z (l'.length + 1) W d l' (Nat.lt_succ_self _) (by omega) hW
 have HBL : Hid (∀ W l', PS W P z l' d → Calls Tryz.prog 95 #[.pointer (some ⟨P, 0, none⟩)] W (RPost NV W P z d (blockR z (stmR z) d l'))) := fun W l' hW => block_any P z l'.length (stmR z) (stm_rd P z _) (stmR_dec z) l' d W hW (Nat.le_refl _) (by omega)
 clear h hbb
 rw [HBB.out] at hr
 rw [hr, Rd.bind_bad] at hsp
 rw [hr] at HBG
 have HSP := Lib.hid hsp
 clear hsp hr hfb
 go_enter Tryz.func74, Tryz.ntmps74
 go_wp2_with fail
 refine (is_at HST.out.ps HU.out HBB.out).mono ?_
 rintro e w1 ⟨rfl, hb⟩
 replace HST := Lib.hid (HST.out.quiet hb)
 clear hb
 go_wp2_with fail
 refine (calls_bad (HBG.out _ HST.out.ps) rfl).mono ?_
 rintro e w2 ⟨rfl, hbe⟩
 have HE := Lib.hid (HST.out.bes.trans hbe)
 clear hbe
 go_wp2
 exact ⟨rfl, rpost_bad HSP.out HE.out⟩

set_option maxHeartbeats 32000000 in
set_option maxRecDepth 100000 in
theorem func_plain (P z : Nat) (l : List Tk) (d : Nat) (w : World) (h : PS w P z l d) (hd : d + 1 ≤ 300) (t : Tk) (l1 : List Tk) (hr : beg z (isT (Parse.hd z l) [102, 117, 110, 99]) d l = .ok t l1) (he : isT (Parse.hd z l1) [40] = false) :
  Calls Tryz.prog 74 #[.pointer (some ⟨P, 0, none⟩)] w (RPost NV w P z d (funcR z d l)) := by
 have hlt := h.lt
 have HST := Lib.hid (StX.start h)
 have HU : Hid ((⟨#[102, 117, 110, 99]⟩ : ByteArray).toList = [102, 117, 110, 99]) := by show _ = _; rw [ByteArray.toList_eq]
 have HU2 : Hid ((⟨#[40]⟩ : ByteArray).toList = [40]) := by show _ = _; rw [ByteArray.toList_eq]
 have HU3 : Hid ((⟨#[41]⟩ : ByteArray).toList = [41]) := by show _ = _; rw [ByteArray.toList_eq]
 have HU4 : Hid ((⟨#[123]⟩ : ByteArray).toList = [123]) := by show _ = _; rw [ByteArray.toList_eq]
 have hsp : funcR z d l = funcR z d l := rfl
 conv at hsp => rhs; unfold funcR
 have hP0 : P < w.heap.size + 1 := by omega
 have hRP : w.heap.size ≠ P := by omega
 obtain ⟨bb, hbb⟩ : ∃ bb, isT (Parse.hd z l) [102, 117, 110, 99] = bb := ⟨_, rfl⟩
 rw [hbb] at hsp
 have HBB := Lib.hid hbb
 have HBG : Hid (∀ W, PS W P z l d → Calls Tryz.prog 66 #[.pointer (some ⟨P, 0, none⟩), .bool bb] W (RPost TV W P z d (beg z bb d l))) :=
  fun W hW => begin_any _ P z l d (fun e => isT_ne (by decide) (hbb.trans e)) (by omega) W hW
 have hfb : bb = true → l ≠ [] := fun e => isT_ne (by decide) (hbb.trans e)
 have HT : Hid (∀ W l', PS W P z l' d → Calls Tryz.prog 72 #[.pointer (some ⟨P, 0, none⟩)] W (RPost NV W P z d (tyR z d l'))) := fun W l' hW => ty_rd P z (l'.length + 1) W d l' (Nat.lt_succ_self _) (by omega) hW
 have HPA : Hid (∀ W l', PS W P z l' d → Calls Tryz.prog 93 #[.pointer (some ⟨P, 0, none⟩)] W (RPost NV W P z d (typed z 16 (tyR z) d l'))) := fun W l' hW => param_rd P z (l'.length + 1) W d l' (Nat.lt_succ_self _) (by omega) hW
 have HLI : Hid (∀ W l', PS W P z l' d → Calls Tryz.prog 94 #[.pointer (some ⟨P, 0, none⟩), .func (.func 93) #[.pointer (some ⟨P, 0, none⟩)] #[]] W (RPost FV W P z d (list z (typed z 16 (tyR z)) d l'))) :=
  fun W l' hW => list_any P z l'.length _ (typed z 16 (tyR z)) (typed_dec (tyR_dec z)) l' d W hW (reads_of W ent_param (param_rd P z _)) (Nat.le_refl _) hd
 have HBL : Hid (∀ W l', PS W P z l' d → Calls Tryz.prog 95 #[.pointer (some ⟨P, 0, none⟩)] W (RPost NV W P z d (blockR z (stmR z) d l'))) := fun W l' hW => block_any P z l'.length (stmR z) (stm_rd P z _) (stmR_dec z) l' d W hW (Nat.le_refl _) (by omega)
 clear h hbb
 rw [HBB.out] at hr
 rw [hr, Rd.bind_ok] at hsp
 rw [hr] at HBG
 clear hr hfb
 have HBG2 : Hid (∀ W, PS W P z l d → Calls Tryz.prog 66 #[.pointer (some ⟨P, 0, none⟩), .bool bb] W fun e w' => ∃ v, e = .returned v ∧ TV W w' v t ∧ PS w' P z l1 d ∧ Bes P W w') := fun W hW => calls_ok (HBG.out W hW) rfl
 clear HBG
 rw [he, if_neg (by decide), Rd.bind_ok] at hsp
 have HE := Lib.hid he
 clear he
 cases hn : name z l1 with
 | bad p er =>
  rw [hn, Rd.bind_bad] at hsp
  have HSP := Lib.hid hsp
  have HN := Lib.hid hn
  clear hsp hn
  go_enter Tryz.func74, Tryz.ntmps74
  go_wp2_with fail
  refine (is_at HST.out.ps HU.out HBB.out).mono ?_
  rintro e w1 ⟨rfl, hb⟩
  replace HST := Lib.hid (HST.out.quiet hb)
  clear hb
  go_wp2_with fail
  refine (HBG2.out _ HST.out.ps).mono ?_
  rintro e w2 ⟨v, rfl, rfl, hps, hbe⟩
  replace HST := Lib.hid (HST.out.read hbe hps)
  clear hps hbe
  unfold tkV
  go_wp2_with fail
  refine (none_any _).mono ?_
  rintro e wo ⟨rfl, hb⟩
  replace HST := Lib.hid (HST.out.quiet hb)
  clear hb
  go_wp2_with fail
  refine (none_any _).mono ?_
  rintro e wp ⟨rfl, hb⟩
  replace HST := Lib.hid (HST.out.quiet hb)
  clear hb
  unfold e0
  have hps0 := HST.out.size
  have hba := (Below.refl wp.heap.size wp).alloc (Nat.le_refl _) (.cells #[.int .i64 33, .string ⟨#[]⟩, .string ⟨#[]⟩, .slice none 0 0] 24)
  have hsa : (wp.alloc (.cells #[.int .i64 33, .string ⟨#[]⟩, .string ⟨#[]⟩, .slice none 0 0] 24)).heap.size = wp.heap.size + 1 := by simp
  have HX3 : Hid (Box4 ((wp.alloc (.cells #[.int .i64 33, .string ⟨#[]⟩, .string ⟨#[]⟩, .slice none 0 0] 24)).alloc (.cells #[.int .i64 33, .string ⟨#[]⟩, .string ⟨#[]⟩, .slice none 0 0] 24)) wp.heap.size 24 (.int .i64 33) (.string ⟨#[]⟩) (.string ⟨#[]⟩) (.slice none 0 0)) := (box4_new wp _ _ _ _ _).later ((Below.refl _ _).alloc (Nat.le_refl _) _)
  have HX4 : Hid (Box4 ((wp.alloc (.cells #[.int .i64 33, .string ⟨#[]⟩, .string ⟨#[]⟩, .slice none 0 0] 24)).alloc (.cells #[.int .i64 33, .string ⟨#[]⟩, .string ⟨#[]⟩, .slice none 0 0] 24)) (wp.heap.size + 1) 24 (.int .i64 33) (.string ⟨#[]⟩) (.string ⟨#[]⟩) (.slice none 0 0)) := by
   have := box4_new (wp.alloc (.cells #[.int .i64 33, .string ⟨#[]⟩, .string ⟨#[]⟩, .slice none 0 0] 24)) 24 (.int .i64 33) (.string ⟨#[]⟩) (.string ⟨#[]⟩) (.slice none 0 0)
   rwa [hsa] at this
  replace HST := Lib.hid ((HST.out.quiet hba).quiet ((Below.refl _ _).alloc (Nat.le_refl _) (.cells #[.int .i64 33, .string ⟨#[]⟩, .string ⟨#[]⟩, .slice none 0 0] 24)))
  have hNPHX3 : wp.heap.size ≠ P := by omega
  have hNPHX4 : wp.heap.size + 1 ≠ P := by omega
  have hg3 := HX3.out.lt
  have hg4 := HX4.out.lt
  clear hba hsa
  go_wp2_with fail
  refine (is_at HST.out.ps HU2.out HE.out).mono ?_
  rintro e w5 ⟨rfl, hb⟩
  replace HST := Lib.hid (HST.out.quiet hb)
  replace HX3 := Lib.hid (HX3.out.later hb)
  replace HX4 := Lib.hid (HX4.out.later hb)
  clear hb
  go_wp2_with fail
  refine (calls_bad (name_any P z l1 d _ HST.out.ps) HN.out).mono ?_
  rintro e w6 ⟨rfl, hbe⟩
  have HE := Lib.hid (HST.out.bes.trans hbe)
  clear hbe
  go_wp2
  exact ⟨rfl, rpost_bad HSP.out HE.out⟩
 | ok s l3 =>
  rw [hn, Rd.bind_ok] at hsp
  have HN := Lib.hid hn
  clear hn
  cases hl : list z (typed z 16 (tyR z)) d l3 with
  | bad p er =>
   rw [hl, Rd.bind_bad] at hsp
   have HSP := Lib.hid hsp
   have HL := Lib.hid hl
   clear hsp hl
   go_enter Tryz.func74, Tryz.ntmps74
   go_wp2_with fail
   refine (is_at HST.out.ps HU.out HBB.out).mono ?_
   rintro e w1 ⟨rfl, hb⟩
   replace HST := Lib.hid (HST.out.quiet hb)
   clear hb
   go_wp2_with fail
   refine (HBG2.out _ HST.out.ps).mono ?_
   rintro e w2 ⟨v, rfl, rfl, hps, hbe⟩
   replace HST := Lib.hid (HST.out.read hbe hps)
   clear hps hbe
   unfold tkV
   go_wp2_with fail
   refine (none_any _).mono ?_
   rintro e wo ⟨rfl, hb⟩
   replace HST := Lib.hid (HST.out.quiet hb)
   clear hb
   go_wp2_with fail
   refine (none_any _).mono ?_
   rintro e wp ⟨rfl, hb⟩
   replace HST := Lib.hid (HST.out.quiet hb)
   clear hb
   unfold e0
   have hps0 := HST.out.size
   have hba := (Below.refl wp.heap.size wp).alloc (Nat.le_refl _) (.cells #[.int .i64 33, .string ⟨#[]⟩, .string ⟨#[]⟩, .slice none 0 0] 24)
   have hsa : (wp.alloc (.cells #[.int .i64 33, .string ⟨#[]⟩, .string ⟨#[]⟩, .slice none 0 0] 24)).heap.size = wp.heap.size + 1 := by simp
   have HX3 : Hid (Box4 ((wp.alloc (.cells #[.int .i64 33, .string ⟨#[]⟩, .string ⟨#[]⟩, .slice none 0 0] 24)).alloc (.cells #[.int .i64 33, .string ⟨#[]⟩, .string ⟨#[]⟩, .slice none 0 0] 24)) wp.heap.size 24 (.int .i64 33) (.string ⟨#[]⟩) (.string ⟨#[]⟩) (.slice none 0 0)) := (box4_new wp _ _ _ _ _).later ((Below.refl _ _).alloc (Nat.le_refl _) _)
   have HX4 : Hid (Box4 ((wp.alloc (.cells #[.int .i64 33, .string ⟨#[]⟩, .string ⟨#[]⟩, .slice none 0 0] 24)).alloc (.cells #[.int .i64 33, .string ⟨#[]⟩, .string ⟨#[]⟩, .slice none 0 0] 24)) (wp.heap.size + 1) 24 (.int .i64 33) (.string ⟨#[]⟩) (.string ⟨#[]⟩) (.slice none 0 0)) := by
    have := box4_new (wp.alloc (.cells #[.int .i64 33, .string ⟨#[]⟩, .string ⟨#[]⟩, .slice none 0 0] 24)) 24 (.int .i64 33) (.string ⟨#[]⟩) (.string ⟨#[]⟩) (.slice none 0 0)
    rwa [hsa] at this
   replace HST := Lib.hid ((HST.out.quiet hba).quiet ((Below.refl _ _).alloc (Nat.le_refl _) (.cells #[.int .i64 33, .string ⟨#[]⟩, .string ⟨#[]⟩, .slice none 0 0] 24)))
   have hNPHX3 : wp.heap.size ≠ P := by omega
   have hNPHX4 : wp.heap.size + 1 ≠ P := by omega
   have hg3 := HX3.out.lt
   have hg4 := HX4.out.lt
   clear hba hsa
   go_wp2_with fail
   refine (is_at HST.out.ps HU2.out HE.out).mono ?_
   rintro e w5 ⟨rfl, hb⟩
   replace HST := Lib.hid (HST.out.quiet hb)
   replace HX3 := Lib.hid (HX3.out.later hb)
   replace HX4 := Lib.hid (HX4.out.later hb)
   clear hb
   go_wp2_with fail
   refine (calls_ok (name_any P z l1 d _ HST.out.ps) HN.out).mono ?_
   rintro e wn ⟨v, rfl, rfl, hps, hbe⟩
   replace HST := Lib.hid (HST.out.read hbe hps)
   replace HX3 := Lib.hid (HX3.out.bes hbe hNPHX3)
   replace HX4 := Lib.hid (HX4.out.bes hbe hNPHX4)
   clear hps hbe
   go_wp2_with fail
   refine (calls_bad (HLI.out _ _ HST.out.ps) HL.out).mono ?_
   rintro e w7 ⟨rfl, hbe⟩
   have HE := Lib.hid (HST.out.bes.trans hbe)
   clear hbe
   go_wp2
   exact ⟨rfl, rpost_bad HSP.out HE.out⟩
  | ok qc l4 =>
   rw [hl, Rd.bind_ok] at hsp
   have HL := Lib.hid hl
   clear hl
   cases he4 : isT (Parse.hd z l4) [123] with
   | true =>
    rw [he4, if_pos rfl, Rd.bind_ok] at hsp
    have HE4 := Lib.hid he4
    clear he4
    cases hb : blockR z (stmR z) d l4 with
    | bad p er =>
     rw [hb, Rd.bind_bad] at hsp
     have HSP := Lib.hid hsp
     have HB2 := Lib.hid hb
     clear hsp hb
     go_enter Tryz.func74, Tryz.ntmps74
     go_wp2_with fail
     refine (is_at HST.out.ps HU.out HBB.out).mono ?_
     rintro e w1 ⟨rfl, hb⟩
     replace HST := Lib.hid (HST.out.quiet hb)
     clear hb
     go_wp2_with fail
     refine (HBG2.out _ HST.out.ps).mono ?_
     rintro e w2 ⟨v, rfl, rfl, hps, hbe⟩
     replace HST := Lib.hid (HST.out.read hbe hps)
     clear hps hbe
     unfold tkV
     go_wp2_with fail
     refine (none_any _).mono ?_
     rintro e wo ⟨rfl, hb⟩
     replace HST := Lib.hid (HST.out.quiet hb)
     clear hb
     go_wp2_with fail
     refine (none_any _).mono ?_
     rintro e wp ⟨rfl, hb⟩
     replace HST := Lib.hid (HST.out.quiet hb)
     clear hb
     unfold e0
     have hps0 := HST.out.size
     have hba := (Below.refl wp.heap.size wp).alloc (Nat.le_refl _) (.cells #[.int .i64 33, .string ⟨#[]⟩, .string ⟨#[]⟩, .slice none 0 0] 24)
     have hsa : (wp.alloc (.cells #[.int .i64 33, .string ⟨#[]⟩, .string ⟨#[]⟩, .slice none 0 0] 24)).heap.size = wp.heap.size + 1 := by simp
     have HX3 : Hid (Box4 ((wp.alloc (.cells #[.int .i64 33, .string ⟨#[]⟩, .string ⟨#[]⟩, .slice none 0 0] 24)).alloc (.cells #[.int .i64 33, .string ⟨#[]⟩, .string ⟨#[]⟩, .slice none 0 0] 24)) wp.heap.size 24 (.int .i64 33) (.string ⟨#[]⟩) (.string ⟨#[]⟩) (.slice none 0 0)) := (box4_new wp _ _ _ _ _).later ((Below.refl _ _).alloc (Nat.le_refl _) _)
     have HX4 : Hid (Box4 ((wp.alloc (.cells #[.int .i64 33, .string ⟨#[]⟩, .string ⟨#[]⟩, .slice none 0 0] 24)).alloc (.cells #[.int .i64 33, .string ⟨#[]⟩, .string ⟨#[]⟩, .slice none 0 0] 24)) (wp.heap.size + 1) 24 (.int .i64 33) (.string ⟨#[]⟩) (.string ⟨#[]⟩) (.slice none 0 0)) := by
      have := box4_new (wp.alloc (.cells #[.int .i64 33, .string ⟨#[]⟩, .string ⟨#[]⟩, .slice none 0 0] 24)) 24 (.int .i64 33) (.string ⟨#[]⟩) (.string ⟨#[]⟩) (.slice none 0 0)
      rwa [hsa] at this
     replace HST := Lib.hid ((HST.out.quiet hba).quiet ((Below.refl _ _).alloc (Nat.le_refl _) (.cells #[.int .i64 33, .string ⟨#[]⟩, .string ⟨#[]⟩, .slice none 0 0] 24)))
     have hNPHX3 : wp.heap.size ≠ P := by omega
     have hNPHX4 : wp.heap.size + 1 ≠ P := by omega
     have hg3 := HX3.out.lt
     have hg4 := HX4.out.lt
     clear hba hsa
     go_wp2_with fail
     refine (is_at HST.out.ps HU2.out HE.out).mono ?_
     rintro e w5 ⟨rfl, hb⟩
     replace HST := Lib.hid (HST.out.quiet hb)
     replace HX3 := Lib.hid (HX3.out.later hb)
     replace HX4 := Lib.hid (HX4.out.later hb)
     clear hb
     go_wp2_with fail
     refine (calls_ok (name_any P z l1 d _ HST.out.ps) HN.out).mono ?_
     rintro e wn ⟨v, rfl, rfl, hps, hbe⟩
     replace HST := Lib.hid (HST.out.read hbe hps)
     replace HX3 := Lib.hid (HX3.out.bes hbe hNPHX3)
     replace HX4 := Lib.hid (HX4.out.bes hbe hNPHX4)
     clear hps hbe
     go_wp2_with fail
     refine (calls_ok (HLI.out _ _ HST.out.ps) HL.out).mono ?_
     rintro e wl ⟨v, rfl, hv, hps, hbe⟩
     obtain ⟨Aq, Cq, rfl, hf⟩ := fv_mx (B0 := w.heap.size + 1) (g := wp.heap.size) (g' := (wp.heap.size + 1)) hv HST.out.size (by have hh3 := HX3.out.lt; have hh4 := HX4.out.lt; omega) (by have hh3 := HX3.out.lt; have hh4 := HX4.out.lt; omega)
     replace HST := Lib.hid (HST.out.read hbe hps)
     replace HX3 := Lib.hid (HX3.out.bes hbe hNPHX3)
     replace HX4 := Lib.hid (HX4.out.bes hbe hNPHX4)
     generalize hm : F.len qc = mq at hf ⊢
     have Hmq := Lib.hid hm
     have HFq := Lib.hid hf
     clear hv hps hbe hf hm
     go_wp2_with fail
     refine (node_any 15 ⟨#[]⟩ _ _ _ _).mono ?_
     rintro e wq ⟨rfl, hb⟩
     replace HST := Lib.hid (HST.out.quiet hb)
     replace HFq := Lib.hid (mx_later HFq.out hb hP0)
     replace HX3 := Lib.hid (HX3.out.later hb)
     replace HX4 := Lib.hid (HX4.out.later hb)
     clear hb
     unfold e0
     have HX6 := Lib.hid (box4_new wq 24 (.int .i64 15) (.string ⟨#[]⟩) (.string ⟨#[]⟩) (.slice Aq mq Cq))
     have hq3 := HX3.out.lt
     have hq4 := HX4.out.lt
     have hqR := HST.out.size
     have hNPHX6 : wq.heap.size ≠ P := by omega
     have hNR6 : wq.heap.size ≠ w.heap.size := by omega
     have hb := (Below.refl (wq).heap.size (wq)).alloc (Nat.le_refl _) (.cells #[.int .i64 15, .string ⟨#[]⟩, .string ⟨#[]⟩, .slice Aq mq Cq] 24)
     replace HST := Lib.hid (HST.out.quiet hb)
     replace HFq := Lib.hid (mx_later HFq.out hb hP0)
     replace HX3 := Lib.hid (HX3.out.later hb)
     replace HX4 := Lib.hid (HX4.out.later hb)
     clear hb
     go_wp2_with fail
     refine (is_at HST.out.ps HU4.out HE4.out).mono ?_
     rintro e wd ⟨rfl, hb⟩
     replace HST := Lib.hid (HST.out.quiet hb)
     replace HFq := Lib.hid (mx_later HFq.out hb hP0)
     replace HX3 := Lib.hid (HX3.out.later hb)
     replace HX4 := Lib.hid (HX4.out.later hb)
     replace HX6 := Lib.hid (HX6.out.later hb)
     clear hb
     go_wp2
     clear hq3 hq4 hqR
     refine region_ph [5, 8] (GN 5 8 P z d l4 l4 (FinYy w.heap.size wp.heap.size (wp.heap.size + 1) noneN) (BxA w.heap.size)) (Bes2 P (w.heap.size)) [Cd.is (.string s), Cd.is (.agg #[.int .i64 33, .string ⟨#[]⟩, .string ⟨#[]⟩, .slice none 0 0]), Cd.is (.agg #[.int .i64 15, .string ⟨#[]⟩, .string ⟨#[]⟩, .slice Aq mq Cq]), Cd.is (.agg #[.int .i64 33, .string ⟨#[]⟩, .string ⟨#[]⟩, .slice none 0 0]), Cd.is (.pointer (some ⟨P, 0, none⟩)), cNo, cNo, cNo, cNo] (by kernel_rfl) (by decide) (by kernel_rfl) (Bes2.refl _ _ _) (fun _ _ _ h k => h.trans k) (fun _ _ h => Bes2.of h) (GN.keep (FinYy.later hP0) BxA.later) ?start ?steps ?behind
     case start =>
      intro x
      exact ⟨fun h => (by cases h), fun _ => HST.out.bx, fun h => (by cases h), fun _ => HST.out.ps.drewN 1⟩
     case steps =>
      intro xv W hW a ha
      replace hW := hW.undrew
      simp only [fillA] at ha
      simp only [List.setIfInBounds_toArray, List.set_cons_succ, List.set_cons_zero, Nat.zero_add, Nat.reduceAdd] at ha
      subst ha
      refine ⟨?s0, ?s1, ?s2, ?s3, ?s4, ?s5, ?s6, ?s7, ?s8, trivial⟩
      all_goals intro dn hdi hdw hcl hphi hg K hK
      all_goals (try simp only [Act.put, List.setIfInBounds_toArray, List.set_cons_succ, List.set_cons_zero] at hK)
      case s0 =>
       clear hphi hdw
       refine (if_pos (by rfl)).mpr ?_
       go_simp
       exact hK.out _ _ (Below.refl _ _) rfl
      case s1 =>
       clear hphi hdw
       refine (if_pos (by rfl)).mpr ?_
       obtain ⟨q0, q1, q2, q3⟩ := (HX3.out.bes2 hW hNPHX3 (by omega)).cells
       go_simp
       exact hK.out _ _ (Below.refl _ _) rfl
      case s2 =>
       clear hphi hdw
       refine (if_pos (by rfl)).mpr ?_
       obtain ⟨q0, q1, q2, q3⟩ := (HX6.out.bes2 hW hNPHX6 (by omega)).cells
       go_simp
       exact hK.out _ _ (Below.refl _ _) rfl
      case s3 =>
       clear hphi hdw
       refine (if_pos (by rfl)).mpr ?_
       obtain ⟨q0, q1, q2, q3⟩ := (HX4.out.bes2 hW hNPHX4 (by omega)).cells
       go_simp
       exact hK.out _ _ (Below.refl _ _) rfl
      case s4 =>
       clear hphi hdw
       refine (if_pos (by rfl)).mpr ?_
       go_simp
       exact hK.out _ _ (Below.refl _ _) rfl
      case s5 =>
       have hx4 : xv 4 = .pointer (some ⟨P, 0, none⟩) := hphi 4 (hdw 4 (by kernel_rfl))
       clear hphi hdw
       rw [hx4] at hK ⊢
       refine (if_pos (by rfl)).mpr ?_
       go_simp
       refine (calls_bad (HBL.out W _ (hg.2.2.2 hdi)) HB2.out).mono ?_
       rintro e W' ⟨rfl, hbe⟩
       exact ⟨rfl, rpost_bad HSP.out (Bes2.back HST.out.bes (hW.trans (Bes2.bes hbe)) (Nat.le_refl _))⟩
      case s6 =>
       have hx1 : xv 1 = .agg #[.int .i64 33, .string ⟨#[]⟩, .string ⟨#[]⟩, .slice none 0 0] := hphi 1 (hdw 1 (by kernel_rfl))
       have hx2 : xv 2 = .agg #[.int .i64 15, .string ⟨#[]⟩, .string ⟨#[]⟩, .slice Aq mq Cq] := hphi 2 (hdw 2 (by kernel_rfl))
       have hx3 : xv 3 = .agg #[.int .i64 33, .string ⟨#[]⟩, .string ⟨#[]⟩, .slice none 0 0] := hphi 3 (hdw 3 (by kernel_rfl))
       have hno : False := hphi 5 (hdw 5 (by kernel_rfl))
       exact hno.elim
      case s7 =>
       have hno : False := hphi 6 (hdw 6 (by kernel_rfl))
       exact hno.elim
      case s8 =>
       have hno : False := hphi 7 (hdw 7 (by kernel_rfl))
       exact hno.elim
     case behind =>
      intro dn xv W hW hall hx hg a ha
      replace hW := hW.undrew
      simp only [fillA] at ha
      simp only [List.setIfInBounds_toArray, List.set_cons_succ, List.set_cons_zero, Nat.zero_add, Nat.reduceAdd] at ha
      subst ha
      exact (hx 5 (by decide) : False).elim
    | ok b l6 =>
     obtain ⟨bk, bx, by', bc⟩ := b
     rw [hb, Rd.bind_ok] at hsp
     have HB2 := Lib.hid hb
     clear hb
     have HSP := Lib.hid hsp
     clear hsp
     go_enter Tryz.func74, Tryz.ntmps74
     go_wp2_with fail
     refine (is_at HST.out.ps HU.out HBB.out).mono ?_
     rintro e w1 ⟨rfl, hb⟩
     replace HST := Lib.hid (HST.out.quiet hb)
     clear hb
     go_wp2_with fail
     refine (HBG2.out _ HST.out.ps).mono ?_
     rintro e w2 ⟨v, rfl, rfl, hps, hbe⟩
     replace HST := Lib.hid (HST.out.read hbe hps)
     clear hps hbe
     unfold tkV
     go_wp2_with fail
     refine (none_any _).mono ?_
     rintro e wo ⟨rfl, hb⟩
     replace HST := Lib.hid (HST.out.quiet hb)
     clear hb
     go_wp2_with fail
     refine (none_any _).mono ?_
     rintro e wp ⟨rfl, hb⟩
     replace HST := Lib.hid (HST.out.quiet hb)
     clear hb
     unfold e0
     have hps0 := HST.out.size
     have hba := (Below.refl wp.heap.size wp).alloc (Nat.le_refl _) (.cells #[.int .i64 33, .string ⟨#[]⟩, .string ⟨#[]⟩, .slice none 0 0] 24)
     have hsa : (wp.alloc (.cells #[.int .i64 33, .string ⟨#[]⟩, .string ⟨#[]⟩, .slice none 0 0] 24)).heap.size = wp.heap.size + 1 := by simp
     have HX3 : Hid (Box4 ((wp.alloc (.cells #[.int .i64 33, .string ⟨#[]⟩, .string ⟨#[]⟩, .slice none 0 0] 24)).alloc (.cells #[.int .i64 33, .string ⟨#[]⟩, .string ⟨#[]⟩, .slice none 0 0] 24)) wp.heap.size 24 (.int .i64 33) (.string ⟨#[]⟩) (.string ⟨#[]⟩) (.slice none 0 0)) := (box4_new wp _ _ _ _ _).later ((Below.refl _ _).alloc (Nat.le_refl _) _)
     have HX4 : Hid (Box4 ((wp.alloc (.cells #[.int .i64 33, .string ⟨#[]⟩, .string ⟨#[]⟩, .slice none 0 0] 24)).alloc (.cells #[.int .i64 33, .string ⟨#[]⟩, .string ⟨#[]⟩, .slice none 0 0] 24)) (wp.heap.size + 1) 24 (.int .i64 33) (.string ⟨#[]⟩) (.string ⟨#[]⟩) (.slice none 0 0)) := by
      have := box4_new (wp.alloc (.cells #[.int .i64 33, .string ⟨#[]⟩, .string ⟨#[]⟩, .slice none 0 0] 24)) 24 (.int .i64 33) (.string ⟨#[]⟩) (.string ⟨#[]⟩) (.slice none 0 0)
      rwa [hsa] at this
     replace HST := Lib.hid ((HST.out.quiet hba).quiet ((Below.refl _ _).alloc (Nat.le_refl _) (.cells #[.int .i64 33, .string ⟨#[]⟩, .string ⟨#[]⟩, .slice none 0 0] 24)))
     have hNPHX3 : wp.heap.size ≠ P := by omega
     have hNPHX4 : wp.heap.size + 1 ≠ P := by omega
     have hg3 := HX3.out.lt
     have hg4 := HX4.out.lt
     clear hba hsa
     go_wp2_with fail
     refine (is_at HST.out.ps HU2.out HE.out).mono ?_
     rintro e w5 ⟨rfl, hb⟩
     replace HST := Lib.hid (HST.out.quiet hb)
     replace HX3 := Lib.hid (HX3.out.later hb)
     replace HX4 := Lib.hid (HX4.out.later hb)
     clear hb
     go_wp2_with fail
     refine (calls_ok (name_any P z l1 d _ HST.out.ps) HN.out).mono ?_
     rintro e wn ⟨v, rfl, rfl, hps, hbe⟩
     replace HST := Lib.hid (HST.out.read hbe hps)
     replace HX3 := Lib.hid (HX3.out.bes hbe hNPHX3)
     replace HX4 := Lib.hid (HX4.out.bes hbe hNPHX4)
     clear hps hbe
     go_wp2_with fail
     refine (calls_ok (HLI.out _ _ HST.out.ps) HL.out).mono ?_
     rintro e wl ⟨v, rfl, hv, hps, hbe⟩
     obtain ⟨Aq, Cq, rfl, hf⟩ := fv_mx (B0 := w.heap.size + 1) (g := wp.heap.size) (g' := (wp.heap.size + 1)) hv HST.out.size (by have hh3 := HX3.out.lt; have hh4 := HX4.out.lt; omega) (by have hh3 := HX3.out.lt; have hh4 := HX4.out.lt; omega)
     replace HST := Lib.hid (HST.out.read hbe hps)
     replace HX3 := Lib.hid (HX3.out.bes hbe hNPHX3)
     replace HX4 := Lib.hid (HX4.out.bes hbe hNPHX4)
     generalize hm : F.len qc = mq at hf ⊢
     have Hmq := Lib.hid hm
     have HFq := Lib.hid hf
     clear hv hps hbe hf hm
     go_wp2_with fail
     refine (node_any 15 ⟨#[]⟩ _ _ _ _).mono ?_
     rintro e wq ⟨rfl, hb⟩
     replace HST := Lib.hid (HST.out.quiet hb)
     replace HFq := Lib.hid (mx_later HFq.out hb hP0)
     replace HX3 := Lib.hid (HX3.out.later hb)
     replace HX4 := Lib.hid (HX4.out.later hb)
     clear hb
     unfold e0
     have HX6 := Lib.hid (box4_new wq 24 (.int .i64 15) (.string ⟨#[]⟩) (.string ⟨#[]⟩) (.slice Aq mq Cq))
     have hq3 := HX3.out.lt
     have hq4 := HX4.out.lt
     have hqR := HST.out.size
     have hNPHX6 : wq.heap.size ≠ P := by omega
     have hNR6 : wq.heap.size ≠ w.heap.size := by omega
     have hb := (Below.refl (wq).heap.size (wq)).alloc (Nat.le_refl _) (.cells #[.int .i64 15, .string ⟨#[]⟩, .string ⟨#[]⟩, .slice Aq mq Cq] 24)
     replace HST := Lib.hid (HST.out.quiet hb)
     replace HFq := Lib.hid (mx_later HFq.out hb hP0)
     replace HX3 := Lib.hid (HX3.out.later hb)
     replace HX4 := Lib.hid (HX4.out.later hb)
     clear hb
     go_wp2_with fail
     refine (is_at HST.out.ps HU4.out HE4.out).mono ?_
     rintro e wd ⟨rfl, hb⟩
     replace HST := Lib.hid (HST.out.quiet hb)
     replace HFq := Lib.hid (mx_later HFq.out hb hP0)
     replace HX3 := Lib.hid (HX3.out.later hb)
     replace HX4 := Lib.hid (HX4.out.later hb)
     replace HX6 := Lib.hid (HX6.out.later hb)
     clear hb
     go_wp2
     clear hq3 hq4 hqR
     refine region_ph [5, 8] (GN 5 8 P z d l4 l6 (FinYy w.heap.size wp.heap.size (wp.heap.size + 1) (Parse.node 7 s (oneF ⟨33, ⟨#[]⟩, ⟨#[]⟩, .nil⟩ (oneF ⟨15, ⟨#[]⟩, ⟨#[]⟩, qc⟩ (oneF ⟨33, ⟨#[]⟩, ⟨#[]⟩, .nil⟩ (one ⟨bk, bx, by', bc⟩)))))) (BxA w.heap.size)) (Bes2 P (w.heap.size)) [Cd.is (.string s), Cd.is (.agg #[.int .i64 33, .string ⟨#[]⟩, .string ⟨#[]⟩, .slice none 0 0]), Cd.is (.agg #[.int .i64 15, .string ⟨#[]⟩, .string ⟨#[]⟩, .slice Aq mq Cq]), Cd.is (.agg #[.int .i64 33, .string ⟨#[]⟩, .string ⟨#[]⟩, .slice none 0 0]), Cd.is (.pointer (some ⟨P, 0, none⟩)), cNdY wp.heap.size (wp.heap.size + 1) hP0 ⟨bk, bx, by', bc⟩, cRowY wp.heap.size (wp.heap.size + 1) hP0 (oneF ⟨33, ⟨#[]⟩, ⟨#[]⟩, .nil⟩ (oneF ⟨15, ⟨#[]⟩, ⟨#[]⟩, qc⟩ (oneF ⟨33, ⟨#[]⟩, ⟨#[]⟩, .nil⟩ (one ⟨bk, bx, by', bc⟩)))), cNdY wp.heap.size (wp.heap.size + 1) hP0 (Parse.node 7 s (oneF ⟨33, ⟨#[]⟩, ⟨#[]⟩, .nil⟩ (oneF ⟨15, ⟨#[]⟩, ⟨#[]⟩, qc⟩ (oneF ⟨33, ⟨#[]⟩, ⟨#[]⟩, .nil⟩ (one ⟨bk, bx, by', bc⟩))))), Cd.any] (by kernel_rfl) (by decide) (by kernel_rfl) (Bes2.refl _ _ _) (fun _ _ _ h k => h.trans k) (fun _ _ h => Bes2.of h) (GN.keep (FinYy.later hP0) BxA.later) ?start ?steps ?behind
     case start =>
      intro x
      exact ⟨fun h => (by cases h), fun _ => HST.out.bx, fun h => (by cases h), fun _ => HST.out.ps.drewN 1⟩
     case steps =>
      intro xv W hW a ha
      replace hW := hW.undrew
      simp only [fillA] at ha
      simp only [List.setIfInBounds_toArray, List.set_cons_succ, List.set_cons_zero, Nat.zero_add, Nat.reduceAdd] at ha
      subst ha
      refine ⟨?s0, ?s1, ?s2, ?s3, ?s4, ?s5, ?s6, ?s7, ?s8, trivial⟩
      all_goals intro dn hdi hdw hcl hphi hg K hK
      all_goals (try simp only [Act.put, List.setIfInBounds_toArray, List.set_cons_succ, List.set_cons_zero] at hK)
      case s0 =>
       clear hphi hdw
       refine (if_pos (by rfl)).mpr ?_
       go_simp
       exact hK.out _ _ (Below.refl _ _) rfl
      case s1 =>
       clear hphi hdw
       refine (if_pos (by rfl)).mpr ?_
       obtain ⟨q0, q1, q2, q3⟩ := (HX3.out.bes2 hW hNPHX3 (by omega)).cells
       go_simp
       exact hK.out _ _ (Below.refl _ _) rfl
      case s2 =>
       clear hphi hdw
       refine (if_pos (by rfl)).mpr ?_
       obtain ⟨q0, q1, q2, q3⟩ := (HX6.out.bes2 hW hNPHX6 (by omega)).cells
       go_simp
       exact hK.out _ _ (Below.refl _ _) rfl
      case s3 =>
       clear hphi hdw
       refine (if_pos (by rfl)).mpr ?_
       obtain ⟨q0, q1, q2, q3⟩ := (HX4.out.bes2 hW hNPHX4 (by omega)).cells
       go_simp
       exact hK.out _ _ (Below.refl _ _) rfl
      case s4 =>
       clear hphi hdw
       refine (if_pos (by rfl)).mpr ?_
       go_simp
       exact hK.out _ _ (Below.refl _ _) rfl
      case s5 =>
       have hx4 : xv 4 = .pointer (some ⟨P, 0, none⟩) := hphi 4 (hdw 4 (by kernel_rfl))
       clear hphi hdw
       rw [hx4] at hK ⊢
       refine (if_pos (by rfl)).mpr ?_
       go_simp
       refine (calls_ok (HBL.out W _ (hg.2.2.2 hdi)) HB2.out).mono ?_
       rintro e W' ⟨v, rfl, hv, hps, hbe⟩
       exact hK.out _ _ ⟨Bes2.bes hbe, GN.call (by decide) hg (notYet hcl hdi (by kernel_rfl)) (fun h => h.bes hbe hRP) hps⟩ (mx_new hv (by have hh := HST.out.size; have hw := hW.size; have hq3 := HX3.out.lt; have hq4 := HX4.out.lt; omega) (by have hh := HST.out.size; have hw := hW.size; have hq3 := HX3.out.lt; have hq4 := HX4.out.lt; omega) (by have hh := HST.out.size; have hw := hW.size; have hq3 := HX3.out.lt; have hq4 := HX4.out.lt; omega))
      case s6 =>
       have hx1 : xv 1 = .agg #[.int .i64 33, .string ⟨#[]⟩, .string ⟨#[]⟩, .slice none 0 0] := hphi 1 (hdw 1 (by kernel_rfl))
       have hx2 : xv 2 = .agg #[.int .i64 15, .string ⟨#[]⟩, .string ⟨#[]⟩, .slice Aq mq Cq] := hphi 2 (hdw 2 (by kernel_rfl))
       have hx3 : xv 3 = .agg #[.int .i64 33, .string ⟨#[]⟩, .string ⟨#[]⟩, .slice none 0 0] := hphi 3 (hdw 3 (by kernel_rfl))
       obtain ⟨A5, C5, hx5, hf5⟩ : NdX (w.heap.size + 1) wp.heap.size (wp.heap.size + 1) ⟨bk, bx, by', bc⟩ (xv 5) W := hphi 5 (hdw 5 (by kernel_rfl))
       clear hphi hdw
       rw [hx5] at hK ⊢
       rw [hx1] at hK ⊢
       rw [hx2] at hK ⊢
       rw [hx3] at hK ⊢
       refine (if_pos (by rfl)).mpr ?_
       go_simp
       exact hK.out _ _ ((Below.refl _ _).alloc (Nat.le_refl _) _) (rowX4 W (w.heap.size + 1) wp.heap.size (wp.heap.size + 1) P (by have hh := HST.out.size; have hw := hW.size; have hq3 := HX3.out.lt; have hq4 := HX4.out.lt; omega) (by have hh := HST.out.size; have hw := hW.size; have hq3 := HX3.out.lt; have hq4 := HX4.out.lt; omega) (by have hh := HST.out.size; have hw := hW.size; have hq3 := HX3.out.lt; have hq4 := HX4.out.lt; omega) hP0 33 ⟨#[]⟩ ⟨#[]⟩ .nil _ mx_nil 15 ⟨#[]⟩ ⟨#[]⟩ qc _ (mxR HFq.out hW hP0) 33 ⟨#[]⟩ ⟨#[]⟩ .nil _ mx_nil bk bx by' bc _ hf5)
      case s7 =>
       have hx0 : xv 0 = .string s := hphi 0 (hdw 0 (by kernel_rfl))
       obtain ⟨A6, C6, hx6, hf6⟩ : RowX (w.heap.size + 1) wp.heap.size (wp.heap.size + 1) (oneF ⟨33, ⟨#[]⟩, ⟨#[]⟩, .nil⟩ (oneF ⟨15, ⟨#[]⟩, ⟨#[]⟩, qc⟩ (oneF ⟨33, ⟨#[]⟩, ⟨#[]⟩, .nil⟩ (one ⟨bk, bx, by', bc⟩)))) (xv 6) W := hphi 6 (hdw 6 (by kernel_rfl))
       clear hphi hdw
       rw [hx6] at hK ⊢
       rw [hx0] at hK ⊢
       refine (if_pos (by rfl)).mpr ?_
       go_simp
       refine (node_any _ _ _ _ _ W).mono ?_
       rintro e W' ⟨rfl, hb⟩
       exact hK.out _ _ hb ⟨A6, C6, rfl, mx_later hf6 hb hP0⟩
      case s8 =>
       obtain ⟨A7, C7, hx7, hf7⟩ : NdX (w.heap.size + 1) wp.heap.size (wp.heap.size + 1) (Parse.node 7 s (oneF ⟨33, ⟨#[]⟩, ⟨#[]⟩, .nil⟩ (oneF ⟨15, ⟨#[]⟩, ⟨#[]⟩, qc⟩ (oneF ⟨33, ⟨#[]⟩, ⟨#[]⟩, .nil⟩ (one ⟨bk, bx, by', bc⟩))))) (xv 7) W := hphi 7 (hdw 7 (by kernel_rfl))
       rw [hx7] at hK ⊢
       refine (if_pos (by rfl)).mpr ?_
       have hds : dn 5 = true := hdw 5 (by kernel_rfl)
       have hbx := hg.2.1 hdi
       obtain ⟨b0, b1, b2, b3, hbx4⟩ := id hbx
       obtain ⟨g0, g1, g2, g3⟩ := hbx4.frz
       obtain ⟨y0, y1, y2, y3⟩ := hbx4.cells
       simp only [Parse.node] at hf7 hK ⊢
       go_simp
       exact hK.out undef _ ⟨Bes2.set4 _ _ _ _ _, GN.store (by decide) (hds) (finY_set hbx4 rfl hf7) (ps_set4 (hg.2.2.1 hds) (by omega) _ _ _ _)⟩ trivial
     case behind =>
      intro dn xv W hW hall hx hg a ha
      replace hW := hW.undrew
      simp only [fillA] at ha
      simp only [List.setIfInBounds_toArray, List.set_cons_succ, List.set_cons_zero, Nat.zero_add, Nat.reduceAdd] at ha
      subst ha
      have hF := hg.1 (hall 8 (by decide))
      have hps := hg.2.2.1 (hall 5 (by decide))
      have hbw := Bes2.back HST.out.bes hW (Nat.le_refl _)
      obtain ⟨A, C, hbx, hpost⟩ := finYRet (w := w) HSP.out hF hps hbw
      have HPO := Lib.hid hpost
      have HBX2 := Lib.hid hbx
      clear hx hF hps hbw hpost hg hall hW hbx
      go_wp2
      refine bodyPost_ret (results_cell_row rfl _ _ w.heap.size 24 _ (0, 0) _ rfl HBX2.out Tryz.underlying24 rfl hi_nd) rfl ?_
      exact HPO.out
   | false =>
    rw [he4, if_neg (by decide)] at hsp
    have HE4 := Lib.hid he4
    clear he4
    cases ht : tyR z d l4 with
    | bad p er =>
     rw [ht, Rd.bind_bad] at hsp
     have HSP := Lib.hid hsp
     have HT2 := Lib.hid ht
     clear hsp ht
     go_enter Tryz.func74, Tryz.ntmps74
     go_wp2_with fail
     refine (is_at HST.out.ps HU.out HBB.out).mono ?_
     rintro e w1 ⟨rfl, hb⟩
     replace HST := Lib.hid (HST.out.quiet hb)
     clear hb
     go_wp2_with fail
     refine (HBG2.out _ HST.out.ps).mono ?_
     rintro e w2 ⟨v, rfl, rfl, hps, hbe⟩
     replace HST := Lib.hid (HST.out.read hbe hps)
     clear hps hbe
     unfold tkV
     go_wp2_with fail
     refine (none_any _).mono ?_
     rintro e wo ⟨rfl, hb⟩
     replace HST := Lib.hid (HST.out.quiet hb)
     clear hb
     go_wp2_with fail
     refine (none_any _).mono ?_
     rintro e wp ⟨rfl, hb⟩
     replace HST := Lib.hid (HST.out.quiet hb)
     clear hb
     unfold e0
     have hps0 := HST.out.size
     have hba := (Below.refl wp.heap.size wp).alloc (Nat.le_refl _) (.cells #[.int .i64 33, .string ⟨#[]⟩, .string ⟨#[]⟩, .slice none 0 0] 24)
     have hsa : (wp.alloc (.cells #[.int .i64 33, .string ⟨#[]⟩, .string ⟨#[]⟩, .slice none 0 0] 24)).heap.size = wp.heap.size + 1 := by simp
     have HX3 : Hid (Box4 ((wp.alloc (.cells #[.int .i64 33, .string ⟨#[]⟩, .string ⟨#[]⟩, .slice none 0 0] 24)).alloc (.cells #[.int .i64 33, .string ⟨#[]⟩, .string ⟨#[]⟩, .slice none 0 0] 24)) wp.heap.size 24 (.int .i64 33) (.string ⟨#[]⟩) (.string ⟨#[]⟩) (.slice none 0 0)) := (box4_new wp _ _ _ _ _).later ((Below.refl _ _).alloc (Nat.le_refl _) _)
     have HX4 : Hid (Box4 ((wp.alloc (.cells #[.int .i64 33, .string ⟨#[]⟩, .string ⟨#[]⟩, .slice none 0 0] 24)).alloc (.cells #[.int .i64 33, .string ⟨#[]⟩, .string ⟨#[]⟩, .slice none 0 0] 24)) (wp.heap.size + 1) 24 (.int .i64 33) (.string ⟨#[]⟩) (.string ⟨#[]⟩) (.slice none 0 0)) := by
      have := box4_new (wp.alloc (.cells #[.int .i64 33, .string ⟨#[]⟩, .string ⟨#[]⟩, .slice none 0 0] 24)) 24 (.int .i64 33) (.string ⟨#[]⟩) (.string ⟨#[]⟩) (.slice none 0 0)
      rwa [hsa] at this
     replace HST := Lib.hid ((HST.out.quiet hba).quiet ((Below.refl _ _).alloc (Nat.le_refl _) (.cells #[.int .i64 33, .string ⟨#[]⟩, .string ⟨#[]⟩, .slice none 0 0] 24)))
     have hNPHX3 : wp.heap.size ≠ P := by omega
     have hNPHX4 : wp.heap.size + 1 ≠ P := by omega
     have hg3 := HX3.out.lt
     have hg4 := HX4.out.lt
     clear hba hsa
     go_wp2_with fail
     refine (is_at HST.out.ps HU2.out HE.out).mono ?_
     rintro e w5 ⟨rfl, hb⟩
     replace HST := Lib.hid (HST.out.quiet hb)
     replace HX3 := Lib.hid (HX3.out.later hb)
     replace HX4 := Lib.hid (HX4.out.later hb)
     clear hb
     go_wp2_with fail
     refine (calls_ok (name_any P z l1 d _ HST.out.ps) HN.out).mono ?_
     rintro e wn ⟨v, rfl, rfl, hps, hbe⟩
     replace HST := Lib.hid (HST.out.read hbe hps)
     replace HX3 := Lib.hid (HX3.out.bes hbe hNPHX3)
     replace HX4 := Lib.hid (HX4.out.bes hbe hNPHX4)
     clear hps hbe
     go_wp2_with fail
     refine (calls_ok (HLI.out _ _ HST.out.ps) HL.out).mono ?_
     rintro e wl ⟨v, rfl, hv, hps, hbe⟩
     obtain ⟨Aq, Cq, rfl, hf⟩ := fv_mx (B0 := w.heap.size + 1) (g := wp.heap.size) (g' := (wp.heap.size + 1)) hv HST.out.size (by have hh3 := HX3.out.lt; have hh4 := HX4.out.lt; omega) (by have hh3 := HX3.out.lt; have hh4 := HX4.out.lt; omega)
     replace HST := Lib.hid (HST.out.read hbe hps)
     replace HX3 := Lib.hid (HX3.out.bes hbe hNPHX3)
     replace HX4 := Lib.hid (HX4.out.bes hbe hNPHX4)
     generalize hm : F.len qc = mq at hf ⊢
     have Hmq := Lib.hid hm
     have HFq := Lib.hid hf
     clear hv hps hbe hf hm
     go_wp2_with fail
     refine (node_any 15 ⟨#[]⟩ _ _ _ _).mono ?_
     rintro e wq ⟨rfl, hb⟩
     replace HST := Lib.hid (HST.out.quiet hb)
     replace HFq := Lib.hid (mx_later HFq.out hb hP0)
     replace HX3 := Lib.hid (HX3.out.later hb)
     replace HX4 := Lib.hid (HX4.out.later hb)
     clear hb
     unfold e0
     have HX6 := Lib.hid (box4_new wq 24 (.int .i64 15) (.string ⟨#[]⟩) (.string ⟨#[]⟩) (.slice Aq mq Cq))
     have hq3 := HX3.out.lt
     have hq4 := HX4.out.lt
     have hqR := HST.out.size
     have hNPHX6 : wq.heap.size ≠ P := by omega
     have hNR6 : wq.heap.size ≠ w.heap.size := by omega
     have hb := (Below.refl (wq).heap.size (wq)).alloc (Nat.le_refl _) (.cells #[.int .i64 15, .string ⟨#[]⟩, .string ⟨#[]⟩, .slice Aq mq Cq] 24)
     replace HST := Lib.hid (HST.out.quiet hb)
     replace HFq := Lib.hid (mx_later HFq.out hb hP0)
     replace HX3 := Lib.hid (HX3.out.later hb)
     replace HX4 := Lib.hid (HX4.out.later hb)
     clear hb
     go_wp2_with fail
     refine (is_at HST.out.ps HU4.out HE4.out).mono ?_
     rintro e wd ⟨rfl, hb⟩
     replace HST := Lib.hid (HST.out.quiet hb)
     replace HFq := Lib.hid (mx_later HFq.out hb hP0)
     replace HX3 := Lib.hid (HX3.out.later hb)
     replace HX4 := Lib.hid (HX4.out.later hb)
     replace HX6 := Lib.hid (HX6.out.later hb)
     clear hb
     go_wp2_with fail
     refine (calls_bad (HT.out _ _ HST.out.ps) HT2.out).mono ?_
     rintro e w9 ⟨rfl, hbe⟩
     have HE := Lib.hid (HST.out.bes.trans hbe)
     clear hbe
     go_wp2
     exact ⟨rfl, rpost_bad HSP.out HE.out⟩
    | ok m l5 =>
     obtain ⟨mk, mx, my, mc⟩ := m
     rw [ht, Rd.bind_ok] at hsp
     have HT2 := Lib.hid ht
     clear ht
     cases hb : blockR z (stmR z) d l5 with
     | bad p er =>
      rw [hb, Rd.bind_bad] at hsp
      have HSP := Lib.hid hsp
      have HB2 := Lib.hid hb
      clear hsp hb
      go_enter Tryz.func74, Tryz.ntmps74
      go_wp2_with fail
      refine (is_at HST.out.ps HU.out HBB.out).mono ?_
      rintro e w1 ⟨rfl, hb⟩
      replace HST := Lib.hid (HST.out.quiet hb)
      clear hb
      go_wp2_with fail
      refine (HBG2.out _ HST.out.ps).mono ?_
      rintro e w2 ⟨v, rfl, rfl, hps, hbe⟩
      replace HST := Lib.hid (HST.out.read hbe hps)
      clear hps hbe
      unfold tkV
      go_wp2_with fail
      refine (none_any _).mono ?_
      rintro e wo ⟨rfl, hb⟩
      replace HST := Lib.hid (HST.out.quiet hb)
      clear hb
      go_wp2_with fail
      refine (none_any _).mono ?_
      rintro e wp ⟨rfl, hb⟩
      replace HST := Lib.hid (HST.out.quiet hb)
      clear hb
      unfold e0
      have hps0 := HST.out.size
      have hba := (Below.refl wp.heap.size wp).alloc (Nat.le_refl _) (.cells #[.int .i64 33, .string ⟨#[]⟩, .string ⟨#[]⟩, .slice none 0 0] 24)
      have hsa : (wp.alloc (.cells #[.int .i64 33, .string ⟨#[]⟩, .string ⟨#[]⟩, .slice none 0 0] 24)).heap.size = wp.heap.size + 1 := by simp
      have HX3 : Hid (Box4 ((wp.alloc (.cells #[.int .i64 33, .string ⟨#[]⟩, .string ⟨#[]⟩, .slice none 0 0] 24)).alloc (.cells #[.int .i64 33, .string ⟨#[]⟩, .string ⟨#[]⟩, .slice none 0 0] 24)) wp.heap.size 24 (.int .i64 33) (.string ⟨#[]⟩) (.string ⟨#[]⟩) (.slice none 0 0)) := (box4_new wp _ _ _ _ _).later ((Below.refl _ _).alloc (Nat.le_refl _) _)
      have HX4 : Hid (Box4 ((wp.alloc (.cells #[.int .i64 33, .string ⟨#[]⟩, .string ⟨#[]⟩, .slice none 0 0] 24)).alloc (.cells #[.int .i64 33, .string ⟨#[]⟩, .string ⟨#[]⟩, .slice none 0 0] 24)) (wp.heap.size + 1) 24 (.int .i64 33) (.string ⟨#[]⟩) (.string ⟨#[]⟩) (.slice none 0 0)) := by
       have := box4_new (wp.alloc (.cells #[.int .i64 33, .string ⟨#[]⟩, .string ⟨#[]⟩, .slice none 0 0] 24)) 24 (.int .i64 33) (.string ⟨#[]⟩) (.string ⟨#[]⟩) (.slice none 0 0)
       rwa [hsa] at this
      replace HST := Lib.hid ((HST.out.quiet hba).quiet ((Below.refl _ _).alloc (Nat.le_refl _) (.cells #[.int .i64 33, .string ⟨#[]⟩, .string ⟨#[]⟩, .slice none 0 0] 24)))
      have hNPHX3 : wp.heap.size ≠ P := by omega
      have hNPHX4 : wp.heap.size + 1 ≠ P := by omega
      have hg3 := HX3.out.lt
      have hg4 := HX4.out.lt
      clear hba hsa
      go_wp2_with fail
      refine (is_at HST.out.ps HU2.out HE.out).mono ?_
      rintro e w5 ⟨rfl, hb⟩
      replace HST := Lib.hid (HST.out.quiet hb)
      replace HX3 := Lib.hid (HX3.out.later hb)
      replace HX4 := Lib.hid (HX4.out.later hb)
      clear hb
      go_wp2_with fail
      refine (calls_ok (name_any P z l1 d _ HST.out.ps) HN.out).mono ?_
      rintro e wn ⟨v, rfl, rfl, hps, hbe⟩
      replace HST := Lib.hid (HST.out.read hbe hps)
      replace HX3 := Lib.hid (HX3.out.bes hbe hNPHX3)
      replace HX4 := Lib.hid (HX4.out.bes hbe hNPHX4)
      clear hps hbe
      go_wp2_with fail
      refine (calls_ok (HLI.out _ _ HST.out.ps) HL.out).mono ?_
      rintro e wl ⟨v, rfl, hv, hps, hbe⟩
      obtain ⟨Aq, Cq, rfl, hf⟩ := fv_mx (B0 := w.heap.size + 1) (g := wp.heap.size) (g' := (wp.heap.size + 1)) hv HST.out.size (by have hh3 := HX3.out.lt; have hh4 := HX4.out.lt; omega) (by have hh3 := HX3.out.lt; have hh4 := HX4.out.lt; omega)
      replace HST := Lib.hid (HST.out.read hbe hps)
      replace HX3 := Lib.hid (HX3.out.bes hbe hNPHX3)
      replace HX4 := Lib.hid (HX4.out.bes hbe hNPHX4)
      generalize hm : F.len qc = mq at hf ⊢
      have Hmq := Lib.hid hm
      have HFq := Lib.hid hf
      clear hv hps hbe hf hm
      go_wp2_with fail
      refine (node_any 15 ⟨#[]⟩ _ _ _ _).mono ?_
      rintro e wq ⟨rfl, hb⟩
      replace HST := Lib.hid (HST.out.quiet hb)
      replace HFq := Lib.hid (mx_later HFq.out hb hP0)
      replace HX3 := Lib.hid (HX3.out.later hb)
      replace HX4 := Lib.hid (HX4.out.later hb)
      clear hb
      unfold e0
      have HX6 := Lib.hid (box4_new wq 24 (.int .i64 15) (.string ⟨#[]⟩) (.string ⟨#[]⟩) (.slice Aq mq Cq))
      have hq3 := HX3.out.lt
      have hq4 := HX4.out.lt
      have hqR := HST.out.size
      have hNPHX6 : wq.heap.size ≠ P := by omega
      have hNR6 : wq.heap.size ≠ w.heap.size := by omega
      have hb := (Below.refl (wq).heap.size (wq)).alloc (Nat.le_refl _) (.cells #[.int .i64 15, .string ⟨#[]⟩, .string ⟨#[]⟩, .slice Aq mq Cq] 24)
      replace HST := Lib.hid (HST.out.quiet hb)
      replace HFq := Lib.hid (mx_later HFq.out hb hP0)
      replace HX3 := Lib.hid (HX3.out.later hb)
      replace HX4 := Lib.hid (HX4.out.later hb)
      clear hb
      go_wp2_with fail
      refine (is_at HST.out.ps HU4.out HE4.out).mono ?_
      rintro e wd ⟨rfl, hb⟩
      replace HST := Lib.hid (HST.out.quiet hb)
      replace HFq := Lib.hid (mx_later HFq.out hb hP0)
      replace HX3 := Lib.hid (HX3.out.later hb)
      replace HX4 := Lib.hid (HX4.out.later hb)
      replace HX6 := Lib.hid (HX6.out.later hb)
      clear hb
      have hgs := HST.out.size
      skip
      go_wp2_with fail
      refine (calls_ok (HT.out _ _ HST.out.ps) HT2.out).mono ?_
      rintro e wt ⟨v, rfl, hv, hps, hbe⟩
      obtain ⟨Am, Cm, rfl, hf⟩ := mx_new (B0 := w.heap.size + 1) (g := wp.heap.size) (g' := (wp.heap.size + 1)) hv HST.out.size (by have hh3 := HX3.out.lt; have hh4 := HX4.out.lt; omega) (by have hh3 := HX3.out.lt; have hh4 := HX4.out.lt; omega)
      replace HST := Lib.hid (HST.out.read hbe hps)
      replace HFq := Lib.hid (mx_bes HFq.out hbe hP0)
      replace HX3 := Lib.hid (HX3.out.bes hbe hNPHX3)
      replace HX4 := Lib.hid (HX4.out.bes hbe hNPHX4)
      replace HX6 := Lib.hid (HX6.out.bes hbe hNPHX6)
      simp only at hf ⊢
      generalize hm : mc.len = mm at hf ⊢
      have Hmm := Lib.hid hm
      have HFm := Lib.hid hf
      clear hv hps hbe hf hm hgs
      obtain ⟨p0, p1, p2, p3⟩ := HX4.out.frz
      obtain ⟨c0, c1, c2, c3⟩ := HX4.out.cells
      have hz3 := HX3.out.lt
      have hz4 := HX4.out.lt
      replace HST := Lib.hid (HST.out.setg (y := (wp.heap.size + 1)) (by omega) (.int .i64 mk) (.string mx) (.string my) (.slice Am mm Cm))
      replace HFq := Lib.hid (mx_setg HFq.out (x := (wp.heap.size + 1)) (by omega) (.int .i64 mk) (.string mx) (.string my) (.slice Am mm Cm))
      replace HFm := Lib.hid (mx_setg HFm.out (x := (wp.heap.size + 1)) (by omega) (.int .i64 mk) (.string mx) (.string my) (.slice Am mm Cm))
      replace HX3 := Lib.hid (HX3.out.setg (y := (wp.heap.size + 1)) (by omega) (.int .i64 mk) (.string mx) (.string my) (.slice Am mm Cm))
      replace HX4 := Lib.hid (HX4.out.set4 (.int .i64 mk) (.string mx) (.string my) (.slice Am mm Cm))
      replace HX6 := Lib.hid (HX6.out.setg (y := (wp.heap.size + 1)) (by omega) (.int .i64 mk) (.string mx) (.string my) (.slice Am mm Cm))
      go_wp2
      clear p0 p1 p2 p3 c0 c1 c2 c3 hz3 hz4 hq3 hq4 hqR
      generalize ((((wt.setCell ⟨wp.heap.size + 1, 0, none⟩ (.int .i64 mk)).setCell ⟨wp.heap.size + 1, 1, none⟩ (.string mx)).setCell ⟨wp.heap.size + 1, 2, none⟩ (.string my)).setCell ⟨wp.heap.size + 1, 3, none⟩ (.slice Am mm Cm)) = wz at *
      refine region_ph [5, 8] (GN 5 8 P z d l5 l5 (FinYy w.heap.size wp.heap.size (wp.heap.size + 1) noneN) (BxA w.heap.size)) (Bes2 P (w.heap.size)) [Cd.is (.string s), Cd.is (.agg #[.int .i64 33, .string ⟨#[]⟩, .string ⟨#[]⟩, .slice none 0 0]), Cd.is (.agg #[.int .i64 15, .string ⟨#[]⟩, .string ⟨#[]⟩, .slice Aq mq Cq]), Cd.is (.agg #[.int .i64 mk, .string mx, .string my, .slice Am mm Cm]), Cd.is (.pointer (some ⟨P, 0, none⟩)), cNo, cNo, cNo, cNo] (by kernel_rfl) (by decide) (by kernel_rfl) (Bes2.refl _ _ _) (fun _ _ _ h k => h.trans k) (fun _ _ h => Bes2.of h) (GN.keep (FinYy.later hP0) BxA.later) ?start ?steps ?behind
      case start =>
       intro x
       exact ⟨fun h => (by cases h), fun _ => HST.out.bx, fun h => (by cases h), fun _ => HST.out.ps.drewN 1⟩
      case steps =>
       intro xv W hW a ha
       replace hW := hW.undrew
       simp only [fillA] at ha
       simp only [List.setIfInBounds_toArray, List.set_cons_succ, List.set_cons_zero, Nat.zero_add, Nat.reduceAdd] at ha
       subst ha
       refine ⟨?s0, ?s1, ?s2, ?s3, ?s4, ?s5, ?s6, ?s7, ?s8, trivial⟩
       all_goals intro dn hdi hdw hcl hphi hg K hK
       all_goals (try simp only [Act.put, List.setIfInBounds_toArray, List.set_cons_succ, List.set_cons_zero] at hK)
       case s0 =>
        clear hphi hdw
        refine (if_pos (by rfl)).mpr ?_
        go_simp
        exact hK.out _ _ (Below.refl _ _) rfl
       case s1 =>
        clear hphi hdw
        refine (if_pos (by rfl)).mpr ?_
        obtain ⟨q0, q1, q2, q3⟩ := (HX3.out.bes2 hW hNPHX3 (by omega)).cells
        go_simp
        exact hK.out _ _ (Below.refl _ _) rfl
       case s2 =>
        clear hphi hdw
        refine (if_pos (by rfl)).mpr ?_
        obtain ⟨q0, q1, q2, q3⟩ := (HX6.out.bes2 hW hNPHX6 (by omega)).cells
        go_simp
        exact hK.out _ _ (Below.refl _ _) rfl
       case s3 =>
        clear hphi hdw
        refine (if_pos (by rfl)).mpr ?_
        obtain ⟨q0, q1, q2, q3⟩ := (HX4.out.bes2 hW hNPHX4 (by omega)).cells
        go_simp
        exact hK.out _ _ (Below.refl _ _) rfl
       case s4 =>
        clear hphi hdw
        refine (if_pos (by rfl)).mpr ?_
        go_simp
        exact hK.out _ _ (Below.refl _ _) rfl
       case s5 =>
        have hx4 : xv 4 = .pointer (some ⟨P, 0, none⟩) := hphi 4 (hdw 4 (by kernel_rfl))
        clear hphi hdw
        rw [hx4] at hK ⊢
        refine (if_pos (by rfl)).mpr ?_
        go_simp
        refine (calls_bad (HBL.out W _ (hg.2.2.2 hdi)) HB2.out).mono ?_
        rintro e W' ⟨rfl, hbe⟩
        exact ⟨rfl, rpost_bad HSP.out (Bes2.back HST.out.bes (hW.trans (Bes2.bes hbe)) (Nat.le_refl _))⟩
       case s6 =>
        have hx1 : xv 1 = .agg #[.int .i64 33, .string ⟨#[]⟩, .string ⟨#[]⟩, .slice none 0 0] := hphi 1 (hdw 1 (by kernel_rfl))
        have hx2 : xv 2 = .agg #[.int .i64 15, .string ⟨#[]⟩, .string ⟨#[]⟩, .slice Aq mq Cq] := hphi 2 (hdw 2 (by kernel_rfl))
        have hx3 : xv 3 = .agg #[.int .i64 mk, .string mx, .string my, .slice Am mm Cm] := hphi 3 (hdw 3 (by kernel_rfl))
        have hno : False := hphi 5 (hdw 5 (by kernel_rfl))
        exact hno.elim
       case s7 =>
        have hno : False := hphi 6 (hdw 6 (by kernel_rfl))
        exact hno.elim
       case s8 =>
        have hno : False := hphi 7 (hdw 7 (by kernel_rfl))
        exact hno.elim
      case behind =>
       intro dn xv W hW hall hx hg a ha
       replace hW := hW.undrew
       simp only [fillA] at ha
       simp only [List.setIfInBounds_toArray, List.set_cons_succ, List.set_cons_zero, Nat.zero_add, Nat.reduceAdd] at ha
       subst ha
       exact (hx 5 (by decide) : False).elim
     | ok b l6 =>
      obtain ⟨bk, bx, by', bc⟩ := b
      rw [hb, Rd.bind_ok] at hsp
      have HB2 := Lib.hid hb
      clear hb
      have HSP := Lib.hid hsp
      clear hsp
      go_enter Tryz.func74, Tryz.ntmps74
      go_wp2_with fail
      refine (is_at HST.out.ps HU.out HBB.out).mono ?_
      rintro e w1 ⟨rfl, hb⟩
      replace HST := Lib.hid (HST.out.quiet hb)
      clear hb
      go_wp2_with fail
      refine (HBG2.out _ HST.out.ps).mono ?_
      rintro e w2 ⟨v, rfl, rfl, hps, hbe⟩
      replace HST := Lib.hid (HST.out.read hbe hps)
      clear hps hbe
      unfold tkV
      go_wp2_with fail
      refine (none_any _).mono ?_
      rintro e wo ⟨rfl, hb⟩
      replace HST := Lib.hid (HST.out.quiet hb)
      clear hb
      go_wp2_with fail
      refine (none_any _).mono ?_
      rintro e wp ⟨rfl, hb⟩
      replace HST := Lib.hid (HST.out.quiet hb)
      clear hb
      unfold e0
      have hps0 := HST.out.size
      have hba := (Below.refl wp.heap.size wp).alloc (Nat.le_refl _) (.cells #[.int .i64 33, .string ⟨#[]⟩, .string ⟨#[]⟩, .slice none 0 0] 24)
      have hsa : (wp.alloc (.cells #[.int .i64 33, .string ⟨#[]⟩, .string ⟨#[]⟩, .slice none 0 0] 24)).heap.size = wp.heap.size + 1 := by simp
      have HX3 : Hid (Box4 ((wp.alloc (.cells #[.int .i64 33, .string ⟨#[]⟩, .string ⟨#[]⟩, .slice none 0 0] 24)).alloc (.cells #[.int .i64 33, .string ⟨#[]⟩, .string ⟨#[]⟩, .slice none 0 0] 24)) wp.heap.size 24 (.int .i64 33) (.string ⟨#[]⟩) (.string ⟨#[]⟩) (.slice none 0 0)) := (box4_new wp _ _ _ _ _).later ((Below.refl _ _).alloc (Nat.le_refl _) _)
      have HX4 : Hid (Box4 ((wp.alloc (.cells #[.int .i64 33, .string ⟨#[]⟩, .string ⟨#[]⟩, .slice none 0 0] 24)).alloc (.cells #[.int .i64 33, .string ⟨#[]⟩, .string ⟨#[]⟩, .slice none 0 0] 24)) (wp.heap.size + 1) 24 (.int .i64 33) (.string ⟨#[]⟩) (.string ⟨#[]⟩) (.slice none 0 0)) := by
       have := box4_new (wp.alloc (.cells #[.int .i64 33, .string ⟨#[]⟩, .string ⟨#[]⟩, .slice none 0 0] 24)) 24 (.int .i64 33) (.string ⟨#[]⟩) (.string ⟨#[]⟩) (.slice none 0 0)
       rwa [hsa] at this
      replace HST := Lib.hid ((HST.out.quiet hba).quiet ((Below.refl _ _).alloc (Nat.le_refl _) (.cells #[.int .i64 33, .string ⟨#[]⟩, .string ⟨#[]⟩, .slice none 0 0] 24)))
      have hNPHX3 : wp.heap.size ≠ P := by omega
      have hNPHX4 : wp.heap.size + 1 ≠ P := by omega
      have hg3 := HX3.out.lt
      have hg4 := HX4.out.lt
      clear hba hsa
      go_wp2_with fail
      refine (is_at HST.out.ps HU2.out HE.out).mono ?_
      rintro e w5 ⟨rfl, hb⟩
      replace HST := Lib.hid (HST.out.quiet hb)
      replace HX3 := Lib.hid (HX3.out.later hb)
      replace HX4 := Lib.hid (HX4.out.later hb)
      clear hb
      go_wp2_with fail
      refine (calls_ok (name_any P z l1 d _ HST.out.ps) HN.out).mono ?_
      rintro e wn ⟨v, rfl, rfl, hps, hbe⟩
      replace HST := Lib.hid (HST.out.read hbe hps)
      replace HX3 := Lib.hid (HX3.out.bes hbe hNPHX3)
      replace HX4 := Lib.hid (HX4.out.bes hbe hNPHX4)
      clear hps hbe
      go_wp2_with fail
      refine (calls_ok (HLI.out _ _ HST.out.ps) HL.out).mono ?_
      rintro e wl ⟨v, rfl, hv, hps, hbe⟩
      obtain ⟨Aq, Cq, rfl, hf⟩ := fv_mx (B0 := w.heap.size + 1) (g := wp.heap.size) (g' := (wp.heap.size + 1)) hv HST.out.size (by have hh3 := HX3.out.lt; have hh4 := HX4.out.lt; omega) (by have hh3 := HX3.out.lt; have hh4 := HX4.out.lt; omega)
      replace HST := Lib.hid (HST.out.read hbe hps)
      replace HX3 := Lib.hid (HX3.out.bes hbe hNPHX3)
      replace HX4 := Lib.hid (HX4.out.bes hbe hNPHX4)
      generalize hm : F.len qc = mq at hf ⊢
      have Hmq := Lib.hid hm
      have HFq := Lib.hid hf
      clear hv hps hbe hf hm
      go_wp2_with fail
      refine (node_any 15 ⟨#[]⟩ _ _ _ _).mono ?_
      rintro e wq ⟨rfl, hb⟩
      replace HST := Lib.hid (HST.out.quiet hb)
      replace HFq := Lib.hid (mx_later HFq.out hb hP0)
      replace HX3 := Lib.hid (HX3.out.later hb)
      replace HX4 := Lib.hid (HX4.out.later hb)
      clear hb
      unfold e0
      have HX6 := Lib.hid (box4_new wq 24 (.int .i64 15) (.string ⟨#[]⟩) (.string ⟨#[]⟩) (.slice Aq mq Cq))
      have hq3 := HX3.out.lt
      have hq4 := HX4.out.lt
      have hqR := HST.out.size
      have hNPHX6 : wq.heap.size ≠ P := by omega
      have hNR6 : wq.heap.size ≠ w.heap.size := by omega
      have hb := (Below.refl (wq).heap.size (wq)).alloc (Nat.le_refl _) (.cells #[.int .i64 15, .string ⟨#[]⟩, .string ⟨#[]⟩, .slice Aq mq Cq] 24)
      replace HST := Lib.hid (HST.out.quiet hb)
      replace HFq := Lib.hid (mx_later HFq.out hb hP0)
      replace HX3 := Lib.hid (HX3.out.later hb)
      replace HX4 := Lib.hid (HX4.out.later hb)
      clear hb
      go_wp2_with fail
      refine (is_at HST.out.ps HU4.out HE4.out).mono ?_
      rintro e wd ⟨rfl, hb⟩
      replace HST := Lib.hid (HST.out.quiet hb)
      replace HFq := Lib.hid (mx_later HFq.out hb hP0)
      replace HX3 := Lib.hid (HX3.out.later hb)
      replace HX4 := Lib.hid (HX4.out.later hb)
      replace HX6 := Lib.hid (HX6.out.later hb)
      clear hb
      have hgs := HST.out.size
      skip
      go_wp2_with fail
      refine (calls_ok (HT.out _ _ HST.out.ps) HT2.out).mono ?_
      rintro e wt ⟨v, rfl, hv, hps, hbe⟩
      obtain ⟨Am, Cm, rfl, hf⟩ := mx_new (B0 := w.heap.size + 1) (g := wp.heap.size) (g' := (wp.heap.size + 1)) hv HST.out.size (by have hh3 := HX3.out.lt; have hh4 := HX4.out.lt; omega) (by have hh3 := HX3.out.lt; have hh4 := HX4.out.lt; omega)
      replace HST := Lib.hid (HST.out.read hbe hps)
      replace HFq := Lib.hid (mx_bes HFq.out hbe hP0)
      replace HX3 := Lib.hid (HX3.out.bes hbe hNPHX3)
      replace HX4 := Lib.hid (HX4.out.bes hbe hNPHX4)
      replace HX6 := Lib.hid (HX6.out.bes hbe hNPHX6)
      simp only at hf ⊢
      generalize hm : mc.len = mm at hf ⊢
      have Hmm := Lib.hid hm
      have HFm := Lib.hid hf
      clear hv hps hbe hf hm hgs
      obtain ⟨p0, p1, p2, p3⟩ := HX4.out.frz
      obtain ⟨c0, c1, c2, c3⟩ := HX4.out.cells
      have hz3 := HX3.out.lt
      have hz4 := HX4.out.lt
      replace HST := Lib.hid (HST.out.setg (y := (wp.heap.size + 1)) (by omega) (.int .i64 mk) (.string mx) (.string my) (.slice Am mm Cm))
      replace HFq := Lib.hid (mx_setg HFq.out (x := (wp.heap.size + 1)) (by omega) (.int .i64 mk) (.string mx) (.string my) (.slice Am mm Cm))
      replace HFm := Lib.hid (mx_setg HFm.out (x := (wp.heap.size + 1)) (by omega) (.int .i64 mk) (.string mx) (.string my) (.slice Am mm Cm))
      replace HX3 := Lib.hid (HX3.out.setg (y := (wp.heap.size + 1)) (by omega) (.int .i64 mk) (.string mx) (.string my) (.slice Am mm Cm))
      replace HX4 := Lib.hid (HX4.out.set4 (.int .i64 mk) (.string mx) (.string my) (.slice Am mm Cm))
      replace HX6 := Lib.hid (HX6.out.setg (y := (wp.heap.size + 1)) (by omega) (.int .i64 mk) (.string mx) (.string my) (.slice Am mm Cm))
      go_wp2
      clear p0 p1 p2 p3 c0 c1 c2 c3 hz3 hz4 hq3 hq4 hqR
      generalize ((((wt.setCell ⟨wp.heap.size + 1, 0, none⟩ (.int .i64 mk)).setCell ⟨wp.heap.size + 1, 1, none⟩ (.string mx)).setCell ⟨wp.heap.size + 1, 2, none⟩ (.string my)).setCell ⟨wp.heap.size + 1, 3, none⟩ (.slice Am mm Cm)) = wz at *
      refine region_ph [5, 8] (GN 5 8 P z d l5 l6 (FinYy w.heap.size wp.heap.size (wp.heap.size + 1) (Parse.node 7 s (oneF ⟨33, ⟨#[]⟩, ⟨#[]⟩, .nil⟩ (oneF ⟨15, ⟨#[]⟩, ⟨#[]⟩, qc⟩ (oneF ⟨mk, mx, my, mc⟩ (one ⟨bk, bx, by', bc⟩)))))) (BxA w.heap.size)) (Bes2 P (w.heap.size)) [Cd.is (.string s), Cd.is (.agg #[.int .i64 33, .string ⟨#[]⟩, .string ⟨#[]⟩, .slice none 0 0]), Cd.is (.agg #[.int .i64 15, .string ⟨#[]⟩, .string ⟨#[]⟩, .slice Aq mq Cq]), Cd.is (.agg #[.int .i64 mk, .string mx, .string my, .slice Am mm Cm]), Cd.is (.pointer (some ⟨P, 0, none⟩)), cNdY wp.heap.size (wp.heap.size + 1) hP0 ⟨bk, bx, by', bc⟩, cRowY wp.heap.size (wp.heap.size + 1) hP0 (oneF ⟨33, ⟨#[]⟩, ⟨#[]⟩, .nil⟩ (oneF ⟨15, ⟨#[]⟩, ⟨#[]⟩, qc⟩ (oneF ⟨mk, mx, my, mc⟩ (one ⟨bk, bx, by', bc⟩)))), cNdY wp.heap.size (wp.heap.size + 1) hP0 (Parse.node 7 s (oneF ⟨33, ⟨#[]⟩, ⟨#[]⟩, .nil⟩ (oneF ⟨15, ⟨#[]⟩, ⟨#[]⟩, qc⟩ (oneF ⟨mk, mx, my, mc⟩ (one ⟨bk, bx, by', bc⟩))))), Cd.any] (by kernel_rfl) (by decide) (by kernel_rfl) (Bes2.refl _ _ _) (fun _ _ _ h k => h.trans k) (fun _ _ h => Bes2.of h) (GN.keep (FinYy.later hP0) BxA.later) ?start ?steps ?behind
      case start =>
       intro x
       exact ⟨fun h => (by cases h), fun _ => HST.out.bx, fun h => (by cases h), fun _ => HST.out.ps.drewN 1⟩
      case steps =>
       intro xv W hW a ha
       replace hW := hW.undrew
       simp only [fillA] at ha
       simp only [List.setIfInBounds_toArray, List.set_cons_succ, List.set_cons_zero, Nat.zero_add, Nat.reduceAdd] at ha
       subst ha
       refine ⟨?s0, ?s1, ?s2, ?s3, ?s4, ?s5, ?s6, ?s7, ?s8, trivial⟩
       all_goals intro dn hdi hdw hcl hphi hg K hK
       all_goals (try simp only [Act.put, List.setIfInBounds_toArray, List.set_cons_succ, List.set_cons_zero] at hK)
       case s0 =>
        clear hphi hdw
        refine (if_pos (by rfl)).mpr ?_
        go_simp
        exact hK.out _ _ (Below.refl _ _) rfl
       case s1 =>
        clear hphi hdw
        refine (if_pos (by rfl)).mpr ?_
        obtain ⟨q0, q1, q2, q3⟩ := (HX3.out.bes2 hW hNPHX3 (by omega)).cells
        go_simp
        exact hK.out _ _ (Below.refl _ _) rfl
       case s2 =>
        clear hphi hdw
        refine (if_pos (by rfl)).mpr ?_
        obtain ⟨q0, q1, q2, q3⟩ := (HX6.out.bes2 hW hNPHX6 (by omega)).cells
        go_simp
        exact hK.out _ _ (Below.refl _ _) rfl
       case s3 =>
        clear hphi hdw
        refine (if_pos (by rfl)).mpr ?_
        obtain ⟨q0, q1, q2, q3⟩ := (HX4.out.bes2 hW hNPHX4 (by omega)).cells
        go_simp
        exact hK.out _ _ (Below.refl _ _) rfl
       case s4 =>
        clear hphi hdw
        refine (if_pos (by rfl)).mpr ?_
        go_simp
        exact hK.out _ _ (Below.refl _ _) rfl
       case s5 =>
        have hx4 : xv 4 = .pointer (some ⟨P, 0, none⟩) := hphi 4 (hdw 4 (by kernel_rfl))
        clear hphi hdw
        rw [hx4] at hK ⊢
        refine (if_pos (by rfl)).mpr ?_
        go_simp
        refine (calls_ok (HBL.out W _ (hg.2.2.2 hdi)) HB2.out).mono ?_
        rintro e W' ⟨v, rfl, hv, hps, hbe⟩
        exact hK.out _ _ ⟨Bes2.bes hbe, GN.call (by decide) hg (notYet hcl hdi (by kernel_rfl)) (fun h => h.bes hbe hRP) hps⟩ (mx_new hv (by have hh := HST.out.size; have hw := hW.size; have hq3 := HX3.out.lt; have hq4 := HX4.out.lt; omega) (by have hh := HST.out.size; have hw := hW.size; have hq3 := HX3.out.lt; have hq4 := HX4.out.lt; omega) (by have hh := HST.out.size; have hw := hW.size; have hq3 := HX3.out.lt; have hq4 := HX4.out.lt; omega))
       case s6 =>
        have hx1 : xv 1 = .agg #[.int .i64 33, .string ⟨#[]⟩, .string ⟨#[]⟩, .slice none 0 0] := hphi 1 (hdw 1 (by kernel_rfl))
        have hx2 : xv 2 = .agg #[.int .i64 15, .string ⟨#[]⟩, .string ⟨#[]⟩, .slice Aq mq Cq] := hphi 2 (hdw 2 (by kernel_rfl))
        have hx3 : xv 3 = .agg #[.int .i64 mk, .string mx, .string my, .slice Am mm Cm] := hphi 3 (hdw 3 (by kernel_rfl))
        obtain ⟨A5, C5, hx5, hf5⟩ : NdX (w.heap.size + 1) wp.heap.size (wp.heap.size + 1) ⟨bk, bx, by', bc⟩ (xv 5) W := hphi 5 (hdw 5 (by kernel_rfl))
        clear hphi hdw
        rw [hx5] at hK ⊢
        rw [hx1] at hK ⊢
        rw [hx2] at hK ⊢
        rw [hx3] at hK ⊢
        refine (if_pos (by rfl)).mpr ?_
        go_simp
        exact hK.out _ _ ((Below.refl _ _).alloc (Nat.le_refl _) _) (rowX4 W (w.heap.size + 1) wp.heap.size (wp.heap.size + 1) P (by have hh := HST.out.size; have hw := hW.size; have hq3 := HX3.out.lt; have hq4 := HX4.out.lt; omega) (by have hh := HST.out.size; have hw := hW.size; have hq3 := HX3.out.lt; have hq4 := HX4.out.lt; omega) (by have hh := HST.out.size; have hw := hW.size; have hq3 := HX3.out.lt; have hq4 := HX4.out.lt; omega) hP0 33 ⟨#[]⟩ ⟨#[]⟩ .nil _ mx_nil 15 ⟨#[]⟩ ⟨#[]⟩ qc _ (mxR HFq.out hW hP0) mk mx my mc _ (mxR HFm.out hW hP0) bk bx by' bc _ hf5)
       case s7 =>
        have hx0 : xv 0 = .string s := hphi 0 (hdw 0 (by kernel_rfl))
        obtain ⟨A6, C6, hx6, hf6⟩ : RowX (w.heap.size + 1) wp.heap.size (wp.heap.size + 1) (oneF ⟨33, ⟨#[]⟩, ⟨#[]⟩, .nil⟩ (oneF ⟨15, ⟨#[]⟩, ⟨#[]⟩, qc⟩ (oneF ⟨mk, mx, my, mc⟩ (one ⟨bk, bx, by', bc⟩)))) (xv 6) W := hphi 6 (hdw 6 (by kernel_rfl))
        clear hphi hdw
        rw [hx6] at hK ⊢
        rw [hx0] at hK ⊢
        refine (if_pos (by rfl)).mpr ?_
        go_simp
        refine (node_any _ _ _ _ _ W).mono ?_
        rintro e W' ⟨rfl, hb⟩
        exact hK.out _ _ hb ⟨A6, C6, rfl, mx_later hf6 hb hP0⟩
       case s8 =>
        obtain ⟨A7, C7, hx7, hf7⟩ : NdX (w.heap.size + 1) wp.heap.size (wp.heap.size + 1) (Parse.node 7 s (oneF ⟨33, ⟨#[]⟩, ⟨#[]⟩, .nil⟩ (oneF ⟨15, ⟨#[]⟩, ⟨#[]⟩, qc⟩ (oneF ⟨mk, mx, my, mc⟩ (one ⟨bk, bx, by', bc⟩))))) (xv 7) W := hphi 7 (hdw 7 (by kernel_rfl))
        rw [hx7] at hK ⊢
        refine (if_pos (by rfl)).mpr ?_
        have hds : dn 5 = true := hdw 5 (by kernel_rfl)
        have hbx := hg.2.1 hdi
        obtain ⟨b0, b1, b2, b3, hbx4⟩ := id hbx
        obtain ⟨g0, g1, g2, g3⟩ := hbx4.frz
        obtain ⟨y0, y1, y2, y3⟩ := hbx4.cells
        simp only [Parse.node] at hf7 hK ⊢
        go_simp
        exact hK.out undef _ ⟨Bes2.set4 _ _ _ _ _, GN.store (by decide) (hds) (finY_set hbx4 rfl hf7) (ps_set4 (hg.2.2.1 hds) (by omega) _ _ _ _)⟩ trivial
      case behind =>
       intro dn xv W hW hall hx hg a ha
       replace hW := hW.undrew
       simp only [fillA] at ha
       simp only [List.setIfInBounds_toArray, List.set_cons_succ, List.set_cons_zero, Nat.zero_add, Nat.reduceAdd] at ha
       subst ha
       have hF := hg.1 (hall 8 (by decide))
       have hps := hg.2.2.1 (hall 5 (by decide))
       have hbw := Bes2.back HST.out.bes hW (Nat.le_refl _)
       obtain ⟨A, C, hbx, hpost⟩ := finYRet (w := w) HSP.out hF hps hbw
       have HPO := Lib.hid hpost
       have HBX2 := Lib.hid hbx
       clear hx hF hps hbw hpost hg hall hW hbx
       go_wp2
       refine bodyPost_ret (results_cell_row rfl _ _ w.heap.size 24 _ (0, 0) _ rfl HBX2.out Tryz.underlying24 rfl hi_nd) rfl ?_
       exact HPO.out

set_option maxHeartbeats 32000000 in
set_option maxRecDepth 100000 in
theorem func_recv (P z : Nat) (l : List Tk) (d : Nat) (w : World) (h : PS w P z l d) (hd : d + 1 ≤ 300) (t : Tk) (l1 : List Tk) (hr : beg z (isT (Parse.hd z l) [102, 117, 110, 99]) d l = .ok t l1) (he : isT (Parse.hd z l1) [40] = true) :
  Calls Tryz.prog 74 #[.pointer (some ⟨P, 0, none⟩)] w (RPost NV w P z d (funcR z d l)) := by
 have hlt := h.lt
 have HST := Lib.hid (StX.start h)
 have HU : Hid ((⟨#[102, 117, 110, 99]⟩ : ByteArray).toList = [102, 117, 110, 99]) := by show _ = _; rw [ByteArray.toList_eq]
 have HU2 : Hid ((⟨#[40]⟩ : ByteArray).toList = [40]) := by show _ = _; rw [ByteArray.toList_eq]
 have HU3 : Hid ((⟨#[41]⟩ : ByteArray).toList = [41]) := by show _ = _; rw [ByteArray.toList_eq]
 have HU4 : Hid ((⟨#[123]⟩ : ByteArray).toList = [123]) := by show _ = _; rw [ByteArray.toList_eq]
 have hsp : funcR z d l = funcR z d l := rfl
 conv at hsp => rhs; unfold funcR
 have hP0 : P < w.heap.size + 1 := by omega
 have hRP : w.heap.size ≠ P := by omega
 obtain ⟨bb, hbb⟩ : ∃ bb, isT (Parse.hd z l) [102, 117, 110, 99] = bb := ⟨_, rfl⟩
 rw [hbb] at hsp
 have HBB := Lib.hid hbb
 have HBG : Hid (∀ W, PS W P z l d → Calls Tryz.prog 66 #[.pointer (some ⟨P, 0, none⟩), .bool bb] W (RPost TV W P z d (beg z bb d l))) :=
  fun W hW => begin_any _ P z l d (fun e => isT_ne (by decide) (hbb.trans e)) (by omega) W hW
 have hfb : bb = true → l ≠ [] := fun e => isT_ne (by decide) (hbb.trans e)
 have HT : Hid (∀ W l', PS W P z l' d → Calls Tryz.prog 72 #[.pointer (some ⟨P, 0, none⟩)] W (RPost NV W P z d (tyR z d l'))) := fun W l' hW => ty_rd P z (l'.length + 1) W d l' (Nat.lt_succ_self _) (by omega) hW
 have HPA : Hid (∀ W l', PS W P z l' d → Calls Tryz.prog 93 #[.pointer (some ⟨P, 0, none⟩)] W (RPost NV W P z d (typed z 16 (tyR z) d l'))) := fun W l' hW => param_rd P z (l'.length + 1) W d l' (Nat.lt_succ_self _) (by omega) hW
 have HLI : Hid (∀ W l', PS W P z l' d → Calls Tryz.prog 94 #[.pointer (some ⟨P, 0, none⟩), .func (.func 93) #[.pointer (some ⟨P, 0, none⟩)] #[]] W (RPost FV W P z d (list z (typed z 16 (tyR z)) d l'))) :=
  fun W l' hW => list_any P z l'.length _ (typed z 16 (tyR z)) (typed_dec (tyR_dec z)) l' d W hW (reads_of W ent_param (param_rd P z _)) (Nat.le_refl _) hd
 have HBL : Hid (∀ W l', PS W P z l' d → Calls Tryz.prog 95 #[.pointer (some ⟨P, 0, none⟩)] W (RPost NV W P z d (blockR z (stmR z) d l'))) := fun W l' hW => block_any P z l'.length (stmR z) (stm_rd P z _) (stmR_dec z) l' d W hW (Nat.le_refl _) (by omega)
 clear h hbb
 rw [HBB.out] at hr
 rw [hr, Rd.bind_ok] at hsp
 rw [hr] at HBG
 clear hr hfb
 have HBG2 : Hid (∀ W, PS W P z l d → Calls Tryz.prog 66 #[.pointer (some ⟨P, 0, none⟩), .bool bb] W fun e w' => ∃ v, e = .returned v ∧ TV W w' v t ∧ PS w' P z l1 d ∧ Bes P W w') := fun W hW => calls_ok (HBG.out W hW) rfl
 clear HBG
 rw [he, if_pos rfl] at hsp
 have HE := Lib.hid he
 obtain ⟨t', r, rfl⟩ := isT_cons he (by decide)
 rw [List.tail_cons] at hsp
 clear he
 cases hp : typed z 16 (tyR z) d r with
 | bad p er =>
  rw [hp, Rd.bind_bad, Rd.bind_bad] at hsp
  have HSP := Lib.hid hsp
  have HP := Lib.hid hp
  clear hsp hp
  go_enter Tryz.func74, Tryz.ntmps74
  go_wp2_with fail
  refine (is_at HST.out.ps HU.out HBB.out).mono ?_
  rintro e w1 ⟨rfl, hb⟩
  replace HST := Lib.hid (HST.out.quiet hb)
  clear hb
  go_wp2_with fail
  refine (HBG2.out _ HST.out.ps).mono ?_
  rintro e w2 ⟨v, rfl, rfl, hps, hbe⟩
  replace HST := Lib.hid (HST.out.read hbe hps)
  clear hps hbe
  unfold tkV
  go_wp2_with fail
  refine (none_any _).mono ?_
  rintro e wo ⟨rfl, hb⟩
  replace HST := Lib.hid (HST.out.quiet hb)
  clear hb
  go_wp2_with fail
  refine (none_any _).mono ?_
  rintro e wp ⟨rfl, hb⟩
  replace HST := Lib.hid (HST.out.quiet hb)
  clear hb
  unfold e0
  have hps0 := HST.out.size
  have hba := (Below.refl wp.heap.size wp).alloc (Nat.le_refl _) (.cells #[.int .i64 33, .string ⟨#[]⟩, .string ⟨#[]⟩, .slice none 0 0] 24)
  have hsa : (wp.alloc (.cells #[.int .i64 33, .string ⟨#[]⟩, .string ⟨#[]⟩, .slice none 0 0] 24)).heap.size = wp.heap.size + 1 := by simp
  have HX3 : Hid (Box4 ((wp.alloc (.cells #[.int .i64 33, .string ⟨#[]⟩, .string ⟨#[]⟩, .slice none 0 0] 24)).alloc (.cells #[.int .i64 33, .string ⟨#[]⟩, .string ⟨#[]⟩, .slice none 0 0] 24)) wp.heap.size 24 (.int .i64 33) (.string ⟨#[]⟩) (.string ⟨#[]⟩) (.slice none 0 0)) := (box4_new wp _ _ _ _ _).later ((Below.refl _ _).alloc (Nat.le_refl _) _)
  have HX4 : Hid (Box4 ((wp.alloc (.cells #[.int .i64 33, .string ⟨#[]⟩, .string ⟨#[]⟩, .slice none 0 0] 24)).alloc (.cells #[.int .i64 33, .string ⟨#[]⟩, .string ⟨#[]⟩, .slice none 0 0] 24)) (wp.heap.size + 1) 24 (.int .i64 33) (.string ⟨#[]⟩) (.string ⟨#[]⟩) (.slice none 0 0)) := by
   have := box4_new (wp.alloc (.cells #[.int .i64 33, .string ⟨#[]⟩, .string ⟨#[]⟩, .slice none 0 0] 24)) 24 (.int .i64 33) (.string ⟨#[]⟩) (.string ⟨#[]⟩) (.slice none 0 0)
   rwa [hsa] at this
  replace HST := Lib.hid ((HST.out.quiet hba).quiet ((Below.refl _ _).alloc (Nat.le_refl _) (.cells #[.int .i64 33, .string ⟨#[]⟩, .string ⟨#[]⟩, .slice none 0 0] 24)))
  have hNPHX3 : wp.heap.size ≠ P := by omega
  have hNPHX4 : wp.heap.size + 1 ≠ P := by omega
  have hg3 := HX3.out.lt
  have hg4 := HX4.out.lt
  clear hba hsa
  go_wp2_with fail
  refine (is_at HST.out.ps HU2.out HE.out).mono ?_
  rintro e w5 ⟨rfl, hb⟩
  replace HST := Lib.hid (HST.out.quiet hb)
  replace HX3 := Lib.hid (HX3.out.later hb)
  replace HX4 := Lib.hid (HX4.out.later hb)
  clear hb
  go_wp2_with fail
  refine (take_any P z _ _ d _ HST.out.ps).mono ?_
  rintro e w6 ⟨v, rfl, rfl, hps, hbe⟩
  replace HST := Lib.hid (HST.out.read hbe hps)
  replace HX3 := Lib.hid (HX3.out.bes hbe hNPHX3)
  replace HX4 := Lib.hid (HX4.out.bes hbe hNPHX4)
  clear hps hbe
  unfold tkV
  go_wp2_with fail
  refine (calls_bad (HPA.out _ _ HST.out.ps) HP.out).mono ?_
  rintro e w7 ⟨rfl, hbe⟩
  have HE := Lib.hid (HST.out.bes.trans hbe)
  clear hbe
  go_wp2
  exact ⟨rfl, rpost_bad HSP.out HE.out⟩
 | ok n la =>
  obtain ⟨nk, nx, ny, nc⟩ := n
  rw [hp, Rd.bind_ok] at hsp
  have HP := Lib.hid hp
  clear hp
  cases hw : Parse.want z [41] la with
  | bad p er =>
   rw [hw, Rd.bind_bad, Rd.bind_bad] at hsp
   have HSP := Lib.hid hsp
   have HW := Lib.hid hw
   clear hsp hw
   go_enter Tryz.func74, Tryz.ntmps74
   go_wp2_with fail
   refine (is_at HST.out.ps HU.out HBB.out).mono ?_
   rintro e w1 ⟨rfl, hb⟩
   replace HST := Lib.hid (HST.out.quiet hb)
   clear hb
   go_wp2_with fail
   refine (HBG2.out _ HST.out.ps).mono ?_
   rintro e w2 ⟨v, rfl, rfl, hps, hbe⟩
   replace HST := Lib.hid (HST.out.read hbe hps)
   clear hps hbe
   unfold tkV
   go_wp2_with fail
   refine (none_any _).mono ?_
   rintro e wo ⟨rfl, hb⟩
   replace HST := Lib.hid (HST.out.quiet hb)
   clear hb
   go_wp2_with fail
   refine (none_any _).mono ?_
   rintro e wp ⟨rfl, hb⟩
   replace HST := Lib.hid (HST.out.quiet hb)
   clear hb
   unfold e0
   have hps0 := HST.out.size
   have hba := (Below.refl wp.heap.size wp).alloc (Nat.le_refl _) (.cells #[.int .i64 33, .string ⟨#[]⟩, .string ⟨#[]⟩, .slice none 0 0] 24)
   have hsa : (wp.alloc (.cells #[.int .i64 33, .string ⟨#[]⟩, .string ⟨#[]⟩, .slice none 0 0] 24)).heap.size = wp.heap.size + 1 := by simp
   have HX3 : Hid (Box4 ((wp.alloc (.cells #[.int .i64 33, .string ⟨#[]⟩, .string ⟨#[]⟩, .slice none 0 0] 24)).alloc (.cells #[.int .i64 33, .string ⟨#[]⟩, .string ⟨#[]⟩, .slice none 0 0] 24)) wp.heap.size 24 (.int .i64 33) (.string ⟨#[]⟩) (.string ⟨#[]⟩) (.slice none 0 0)) := (box4_new wp _ _ _ _ _).later ((Below.refl _ _).alloc (Nat.le_refl _) _)
   have HX4 : Hid (Box4 ((wp.alloc (.cells #[.int .i64 33, .string ⟨#[]⟩, .string ⟨#[]⟩, .slice none 0 0] 24)).alloc (.cells #[.int .i64 33, .string ⟨#[]⟩, .string ⟨#[]⟩, .slice none 0 0] 24)) (wp.heap.size + 1) 24 (.int .i64 33) (.string ⟨#[]⟩) (.string ⟨#[]⟩) (.slice none 0 0)) := by
    have := box4_new (wp.alloc (.cells #[.int .i64 33, .string ⟨#[]⟩, .string ⟨#[]⟩, .slice none 0 0] 24)) 24 (.int .i64 33) (.string ⟨#[]⟩) (.string ⟨#[]⟩) (.slice none 0 0)
    rwa [hsa] at this
   replace HST := Lib.hid ((HST.out.quiet hba).quiet ((Below.refl _ _).alloc (Nat.le_refl _) (.cells #[.int .i64 33, .string ⟨#[]⟩, .string ⟨#[]⟩, .slice none 0 0] 24)))
   have hNPHX3 : wp.heap.size ≠ P := by omega
   have hNPHX4 : wp.heap.size + 1 ≠ P := by omega
   have hg3 := HX3.out.lt
   have hg4 := HX4.out.lt
   clear hba hsa
   go_wp2_with fail
   refine (is_at HST.out.ps HU2.out HE.out).mono ?_
   rintro e w5 ⟨rfl, hb⟩
   replace HST := Lib.hid (HST.out.quiet hb)
   replace HX3 := Lib.hid (HX3.out.later hb)
   replace HX4 := Lib.hid (HX4.out.later hb)
   clear hb
   go_wp2_with fail
   refine (take_any P z _ _ d _ HST.out.ps).mono ?_
   rintro e w6 ⟨v, rfl, rfl, hps, hbe⟩
   replace HST := Lib.hid (HST.out.read hbe hps)
   replace HX3 := Lib.hid (HX3.out.bes hbe hNPHX3)
   replace HX4 := Lib.hid (HX4.out.bes hbe hNPHX4)
   clear hps hbe
   unfold tkV
   have hgs := HST.out.size
   skip
   go_wp2_with fail
   refine (calls_ok (HPA.out _ _ HST.out.ps) HP.out).mono ?_
   rintro e wr ⟨v, rfl, hv, hps, hbe⟩
   obtain ⟨An, Cn, rfl, hf⟩ := mx_new (B0 := w.heap.size + 1) (g := wp.heap.size) (g' := (wp.heap.size + 1)) hv HST.out.size (by have hh3 := HX3.out.lt; have hh4 := HX4.out.lt; omega) (by have hh3 := HX3.out.lt; have hh4 := HX4.out.lt; omega)
   replace HST := Lib.hid (HST.out.read hbe hps)
   replace HX3 := Lib.hid (HX3.out.bes hbe hNPHX3)
   replace HX4 := Lib.hid (HX4.out.bes hbe hNPHX4)
   simp only at hf ⊢
   generalize hm : nc.len = mn at hf ⊢
   have Hmn := Lib.hid hm
   have HFn := Lib.hid hf
   clear hv hps hbe hf hm hgs
   obtain ⟨p0, p1, p2, p3⟩ := HX3.out.frz
   obtain ⟨c0, c1, c2, c3⟩ := HX3.out.cells
   have hz3 := HX3.out.lt
   have hz4 := HX4.out.lt
   replace HST := Lib.hid (HST.out.setg (y := wp.heap.size) (by omega) (.int .i64 nk) (.string nx) (.string ny) (.slice An mn Cn))
   replace HFn := Lib.hid (mx_setg HFn.out (x := wp.heap.size) (by omega) (.int .i64 nk) (.string nx) (.string ny) (.slice An mn Cn))
   replace HX3 := Lib.hid (HX3.out.set4 (.int .i64 nk) (.string nx) (.string ny) (.slice An mn Cn))
   replace HX4 := Lib.hid (HX4.out.setg (y := wp.heap.size) (by omega) (.int .i64 nk) (.string nx) (.string ny) (.slice An mn Cn))
   go_wp2_with fail
   refine (calls_bad (want_at HST.out.ps HU3.out (by decide)) HW.out).mono ?_
   rintro e w8 ⟨rfl, hbe⟩
   have HE := Lib.hid (HST.out.bes.trans hbe)
   clear hbe
   go_wp2
   exact ⟨rfl, rpost_bad HSP.out HE.out⟩
  | ok u l2 =>
   rw [hw, Rd.bind_ok, Rd.bind_ok] at hsp
   have HW := Lib.hid hw
   clear hw
   cases hn : name z l2 with
   | bad p er =>
    rw [hn, Rd.bind_bad] at hsp
    have HSP := Lib.hid hsp
    have HN := Lib.hid hn
    clear hsp hn
    go_enter Tryz.func74, Tryz.ntmps74
    go_wp2_with fail
    refine (is_at HST.out.ps HU.out HBB.out).mono ?_
    rintro e w1 ⟨rfl, hb⟩
    replace HST := Lib.hid (HST.out.quiet hb)
    clear hb
    go_wp2_with fail
    refine (HBG2.out _ HST.out.ps).mono ?_
    rintro e w2 ⟨v, rfl, rfl, hps, hbe⟩
    replace HST := Lib.hid (HST.out.read hbe hps)
    clear hps hbe
    unfold tkV
    go_wp2_with fail
    refine (none_any _).mono ?_
    rintro e wo ⟨rfl, hb⟩
    replace HST := Lib.hid (HST.out.quiet hb)
    clear hb
    go_wp2_with fail
    refine (none_any _).mono ?_
    rintro e wp ⟨rfl, hb⟩
    replace HST := Lib.hid (HST.out.quiet hb)
    clear hb
    unfold e0
    have hps0 := HST.out.size
    have hba := (Below.refl wp.heap.size wp).alloc (Nat.le_refl _) (.cells #[.int .i64 33, .string ⟨#[]⟩, .string ⟨#[]⟩, .slice none 0 0] 24)
    have hsa : (wp.alloc (.cells #[.int .i64 33, .string ⟨#[]⟩, .string ⟨#[]⟩, .slice none 0 0] 24)).heap.size = wp.heap.size + 1 := by simp
    have HX3 : Hid (Box4 ((wp.alloc (.cells #[.int .i64 33, .string ⟨#[]⟩, .string ⟨#[]⟩, .slice none 0 0] 24)).alloc (.cells #[.int .i64 33, .string ⟨#[]⟩, .string ⟨#[]⟩, .slice none 0 0] 24)) wp.heap.size 24 (.int .i64 33) (.string ⟨#[]⟩) (.string ⟨#[]⟩) (.slice none 0 0)) := (box4_new wp _ _ _ _ _).later ((Below.refl _ _).alloc (Nat.le_refl _) _)
    have HX4 : Hid (Box4 ((wp.alloc (.cells #[.int .i64 33, .string ⟨#[]⟩, .string ⟨#[]⟩, .slice none 0 0] 24)).alloc (.cells #[.int .i64 33, .string ⟨#[]⟩, .string ⟨#[]⟩, .slice none 0 0] 24)) (wp.heap.size + 1) 24 (.int .i64 33) (.string ⟨#[]⟩) (.string ⟨#[]⟩) (.slice none 0 0)) := by
     have := box4_new (wp.alloc (.cells #[.int .i64 33, .string ⟨#[]⟩, .string ⟨#[]⟩, .slice none 0 0] 24)) 24 (.int .i64 33) (.string ⟨#[]⟩) (.string ⟨#[]⟩) (.slice none 0 0)
     rwa [hsa] at this
    replace HST := Lib.hid ((HST.out.quiet hba).quiet ((Below.refl _ _).alloc (Nat.le_refl _) (.cells #[.int .i64 33, .string ⟨#[]⟩, .string ⟨#[]⟩, .slice none 0 0] 24)))
    have hNPHX3 : wp.heap.size ≠ P := by omega
    have hNPHX4 : wp.heap.size + 1 ≠ P := by omega
    have hg3 := HX3.out.lt
    have hg4 := HX4.out.lt
    clear hba hsa
    go_wp2_with fail
    refine (is_at HST.out.ps HU2.out HE.out).mono ?_
    rintro e w5 ⟨rfl, hb⟩
    replace HST := Lib.hid (HST.out.quiet hb)
    replace HX3 := Lib.hid (HX3.out.later hb)
    replace HX4 := Lib.hid (HX4.out.later hb)
    clear hb
    go_wp2_with fail
    refine (take_any P z _ _ d _ HST.out.ps).mono ?_
    rintro e w6 ⟨v, rfl, rfl, hps, hbe⟩
    replace HST := Lib.hid (HST.out.read hbe hps)
    replace HX3 := Lib.hid (HX3.out.bes hbe hNPHX3)
    replace HX4 := Lib.hid (HX4.out.bes hbe hNPHX4)
    clear hps hbe
    unfold tkV
    have hgs := HST.out.size
    skip
    go_wp2_with fail
    refine (calls_ok (HPA.out _ _ HST.out.ps) HP.out).mono ?_
    rintro e wr ⟨v, rfl, hv, hps, hbe⟩
    obtain ⟨An, Cn, rfl, hf⟩ := mx_new (B0 := w.heap.size + 1) (g := wp.heap.size) (g' := (wp.heap.size + 1)) hv HST.out.size (by have hh3 := HX3.out.lt; have hh4 := HX4.out.lt; omega) (by have hh3 := HX3.out.lt; have hh4 := HX4.out.lt; omega)
    replace HST := Lib.hid (HST.out.read hbe hps)
    replace HX3 := Lib.hid (HX3.out.bes hbe hNPHX3)
    replace HX4 := Lib.hid (HX4.out.bes hbe hNPHX4)
    simp only at hf ⊢
    generalize hm : nc.len = mn at hf ⊢
    have Hmn := Lib.hid hm
    have HFn := Lib.hid hf
    clear hv hps hbe hf hm hgs
    obtain ⟨p0, p1, p2, p3⟩ := HX3.out.frz
    obtain ⟨c0, c1, c2, c3⟩ := HX3.out.cells
    have hz3 := HX3.out.lt
    have hz4 := HX4.out.lt
    replace HST := Lib.hid (HST.out.setg (y := wp.heap.size) (by omega) (.int .i64 nk) (.string nx) (.string ny) (.slice An mn Cn))
    replace HFn := Lib.hid (mx_setg HFn.out (x := wp.heap.size) (by omega) (.int .i64 nk) (.string nx) (.string ny) (.slice An mn Cn))
    replace HX3 := Lib.hid (HX3.out.set4 (.int .i64 nk) (.string nx) (.string ny) (.slice An mn Cn))
    replace HX4 := Lib.hid (HX4.out.setg (y := wp.heap.size) (by omega) (.int .i64 nk) (.string nx) (.string ny) (.slice An mn Cn))
    go_wp2_with fail
    refine (calls_ok (want_at HST.out.ps HU3.out (by decide)) HW.out).mono ?_
    rintro e ww ⟨v, rfl, rfl, hps, hbe⟩
    replace HST := Lib.hid (HST.out.read hbe hps)
    replace HFn := Lib.hid (mx_bes HFn.out hbe hP0)
    replace HX3 := Lib.hid (HX3.out.bes hbe hNPHX3)
    replace HX4 := Lib.hid (HX4.out.bes hbe hNPHX4)
    clear hps hbe
    clear p0 p1 p2 p3 c0 c1 c2 c3 hz3 hz4
    go_wp2_with fail
    refine (calls_bad (name_any P z l2 d _ HST.out.ps) HN.out).mono ?_
    rintro e w9 ⟨rfl, hbe⟩
    have HE := Lib.hid (HST.out.bes.trans hbe)
    clear hbe
    go_wp2
    exact ⟨rfl, rpost_bad HSP.out HE.out⟩
   | ok s l3 =>
    rw [hn, Rd.bind_ok] at hsp
    have HN := Lib.hid hn
    clear hn
    cases hl : list z (typed z 16 (tyR z)) d l3 with
    | bad p er =>
     rw [hl, Rd.bind_bad] at hsp
     have HSP := Lib.hid hsp
     have HL := Lib.hid hl
     clear hsp hl
     go_enter Tryz.func74, Tryz.ntmps74
     go_wp2_with fail
     refine (is_at HST.out.ps HU.out HBB.out).mono ?_
     rintro e w1 ⟨rfl, hb⟩
     replace HST := Lib.hid (HST.out.quiet hb)
     clear hb
     go_wp2_with fail
     refine (HBG2.out _ HST.out.ps).mono ?_
     rintro e w2 ⟨v, rfl, rfl, hps, hbe⟩
     replace HST := Lib.hid (HST.out.read hbe hps)
     clear hps hbe
     unfold tkV
     go_wp2_with fail
     refine (none_any _).mono ?_
     rintro e wo ⟨rfl, hb⟩
     replace HST := Lib.hid (HST.out.quiet hb)
     clear hb
     go_wp2_with fail
     refine (none_any _).mono ?_
     rintro e wp ⟨rfl, hb⟩
     replace HST := Lib.hid (HST.out.quiet hb)
     clear hb
     unfold e0
     have hps0 := HST.out.size
     have hba := (Below.refl wp.heap.size wp).alloc (Nat.le_refl _) (.cells #[.int .i64 33, .string ⟨#[]⟩, .string ⟨#[]⟩, .slice none 0 0] 24)
     have hsa : (wp.alloc (.cells #[.int .i64 33, .string ⟨#[]⟩, .string ⟨#[]⟩, .slice none 0 0] 24)).heap.size = wp.heap.size + 1 := by simp
     have HX3 : Hid (Box4 ((wp.alloc (.cells #[.int .i64 33, .string ⟨#[]⟩, .string ⟨#[]⟩, .slice none 0 0] 24)).alloc (.cells #[.int .i64 33, .string ⟨#[]⟩, .string ⟨#[]⟩, .slice none 0 0] 24)) wp.heap.size 24 (.int .i64 33) (.string ⟨#[]⟩) (.string ⟨#[]⟩) (.slice none 0 0)) := (box4_new wp _ _ _ _ _).later ((Below.refl _ _).alloc (Nat.le_refl _) _)
     have HX4 : Hid (Box4 ((wp.alloc (.cells #[.int .i64 33, .string ⟨#[]⟩, .string ⟨#[]⟩, .slice none 0 0] 24)).alloc (.cells #[.int .i64 33, .string ⟨#[]⟩, .string ⟨#[]⟩, .slice none 0 0] 24)) (wp.heap.size + 1) 24 (.int .i64 33) (.string ⟨#[]⟩) (.string ⟨#[]⟩) (.slice none 0 0)) := by
      have := box4_new (wp.alloc (.cells #[.int .i64 33, .string ⟨#[]⟩, .string ⟨#[]⟩, .slice none 0 0] 24)) 24 (.int .i64 33) (.string ⟨#[]⟩) (.string ⟨#[]⟩) (.slice none 0 0)
      rwa [hsa] at this
     replace HST := Lib.hid ((HST.out.quiet hba).quiet ((Below.refl _ _).alloc (Nat.le_refl _) (.cells #[.int .i64 33, .string ⟨#[]⟩, .string ⟨#[]⟩, .slice none 0 0] 24)))
     have hNPHX3 : wp.heap.size ≠ P := by omega
     have hNPHX4 : wp.heap.size + 1 ≠ P := by omega
     have hg3 := HX3.out.lt
     have hg4 := HX4.out.lt
     clear hba hsa
     go_wp2_with fail
     refine (is_at HST.out.ps HU2.out HE.out).mono ?_
     rintro e w5 ⟨rfl, hb⟩
     replace HST := Lib.hid (HST.out.quiet hb)
     replace HX3 := Lib.hid (HX3.out.later hb)
     replace HX4 := Lib.hid (HX4.out.later hb)
     clear hb
     go_wp2_with fail
     refine (take_any P z _ _ d _ HST.out.ps).mono ?_
     rintro e w6 ⟨v, rfl, rfl, hps, hbe⟩
     replace HST := Lib.hid (HST.out.read hbe hps)
     replace HX3 := Lib.hid (HX3.out.bes hbe hNPHX3)
     replace HX4 := Lib.hid (HX4.out.bes hbe hNPHX4)
     clear hps hbe
     unfold tkV
     have hgs := HST.out.size
     skip
     go_wp2_with fail
     refine (calls_ok (HPA.out _ _ HST.out.ps) HP.out).mono ?_
     rintro e wr ⟨v, rfl, hv, hps, hbe⟩
     obtain ⟨An, Cn, rfl, hf⟩ := mx_new (B0 := w.heap.size + 1) (g := wp.heap.size) (g' := (wp.heap.size + 1)) hv HST.out.size (by have hh3 := HX3.out.lt; have hh4 := HX4.out.lt; omega) (by have hh3 := HX3.out.lt; have hh4 := HX4.out.lt; omega)
     replace HST := Lib.hid (HST.out.read hbe hps)
     replace HX3 := Lib.hid (HX3.out.bes hbe hNPHX3)
     replace HX4 := Lib.hid (HX4.out.bes hbe hNPHX4)
     simp only at hf ⊢
     generalize hm : nc.len = mn at hf ⊢
     have Hmn := Lib.hid hm
     have HFn := Lib.hid hf
     clear hv hps hbe hf hm hgs
     obtain ⟨p0, p1, p2, p3⟩ := HX3.out.frz
     obtain ⟨c0, c1, c2, c3⟩ := HX3.out.cells
     have hz3 := HX3.out.lt
     have hz4 := HX4.out.lt
     replace HST := Lib.hid (HST.out.setg (y := wp.heap.size) (by omega) (.int .i64 nk) (.string nx) (.string ny) (.slice An mn Cn))
     replace HFn := Lib.hid (mx_setg HFn.out (x := wp.heap.size) (by omega) (.int .i64 nk) (.string nx) (.string ny) (.slice An mn Cn))
     replace HX3 := Lib.hid (HX3.out.set4 (.int .i64 nk) (.string nx) (.string ny) (.slice An mn Cn))
     replace HX4 := Lib.hid (HX4.out.setg (y := wp.heap.size) (by omega) (.int .i64 nk) (.string nx) (.string ny) (.slice An mn Cn))
     go_wp2_with fail
     refine (calls_ok (want_at HST.out.ps HU3.out (by decide)) HW.out).mono ?_
     rintro e ww ⟨v, rfl, rfl, hps, hbe⟩
     replace HST := Lib.hid (HST.out.read hbe hps)
     replace HFn := Lib.hid (mx_bes HFn.out hbe hP0)
     replace HX3 := Lib.hid (HX3.out.bes hbe hNPHX3)
     replace HX4 := Lib.hid (HX4.out.bes hbe hNPHX4)
     clear hps hbe
     clear p0 p1 p2 p3 c0 c1 c2 c3 hz3 hz4
     go_wp2_with fail
     refine (calls_ok (name_any P z l2 d _ HST.out.ps) HN.out).mono ?_
     rintro e wn ⟨v, rfl, rfl, hps, hbe⟩
     replace HST := Lib.hid (HST.out.read hbe hps)
     replace HFn := Lib.hid (mx_bes HFn.out hbe hP0)
     replace HX3 := Lib.hid (HX3.out.bes hbe hNPHX3)
     replace HX4 := Lib.hid (HX4.out.bes hbe hNPHX4)
     clear hps hbe
     go_wp2_with fail
     refine (calls_bad (HLI.out _ _ HST.out.ps) HL.out).mono ?_
     rintro e w10 ⟨rfl, hbe⟩
     have HE := Lib.hid (HST.out.bes.trans hbe)
     clear hbe
     go_wp2
     exact ⟨rfl, rpost_bad HSP.out HE.out⟩
    | ok qc l4 =>
     rw [hl, Rd.bind_ok] at hsp
     have HL := Lib.hid hl
     clear hl
     cases he4 : isT (Parse.hd z l4) [123] with
     | true =>
      rw [he4, if_pos rfl, Rd.bind_ok] at hsp
      have HE4 := Lib.hid he4
      clear he4
      cases hb : blockR z (stmR z) d l4 with
      | bad p er =>
       rw [hb, Rd.bind_bad] at hsp
       have HSP := Lib.hid hsp
       have HB2 := Lib.hid hb
       clear hsp hb
       go_enter Tryz.func74, Tryz.ntmps74
       go_wp2_with fail
       refine (is_at HST.out.ps HU.out HBB.out).mono ?_
       rintro e w1 ⟨rfl, hb⟩
       replace HST := Lib.hid (HST.out.quiet hb)
       clear hb
       go_wp2_with fail
       refine (HBG2.out _ HST.out.ps).mono ?_
       rintro e w2 ⟨v, rfl, rfl, hps, hbe⟩
       replace HST := Lib.hid (HST.out.read hbe hps)
       clear hps hbe
       unfold tkV
       go_wp2_with fail
       refine (none_any _).mono ?_
       rintro e wo ⟨rfl, hb⟩
       replace HST := Lib.hid (HST.out.quiet hb)
       clear hb
       go_wp2_with fail
       refine (none_any _).mono ?_
       rintro e wp ⟨rfl, hb⟩
       replace HST := Lib.hid (HST.out.quiet hb)
       clear hb
       unfold e0
       have hps0 := HST.out.size
       have hba := (Below.refl wp.heap.size wp).alloc (Nat.le_refl _) (.cells #[.int .i64 33, .string ⟨#[]⟩, .string ⟨#[]⟩, .slice none 0 0] 24)
       have hsa : (wp.alloc (.cells #[.int .i64 33, .string ⟨#[]⟩, .string ⟨#[]⟩, .slice none 0 0] 24)).heap.size = wp.heap.size + 1 := by simp
       have HX3 : Hid (Box4 ((wp.alloc (.cells #[.int .i64 33, .string ⟨#[]⟩, .string ⟨#[]⟩, .slice none 0 0] 24)).alloc (.cells #[.int .i64 33, .string ⟨#[]⟩, .string ⟨#[]⟩, .slice none 0 0] 24)) wp.heap.size 24 (.int .i64 33) (.string ⟨#[]⟩) (.string ⟨#[]⟩) (.slice none 0 0)) := (box4_new wp _ _ _ _ _).later ((Below.refl _ _).alloc (Nat.le_refl _) _)
       have HX4 : Hid (Box4 ((wp.alloc (.cells #[.int .i64 33, .string ⟨#[]⟩, .string ⟨#[]⟩, .slice none 0 0] 24)).alloc (.cells #[.int .i64 33, .string ⟨#[]⟩, .string ⟨#[]⟩, .slice none 0 0] 24)) (wp.heap.size + 1) 24 (.int .i64 33) (.string ⟨#[]⟩) (.string ⟨#[]⟩) (.slice none 0 0)) := by
        have := box4_new (wp.alloc (.cells #[.int .i64 33, .string ⟨#[]⟩, .string ⟨#[]⟩, .slice none 0 0] 24)) 24 (.int .i64 33) (.string ⟨#[]⟩) (.string ⟨#[]⟩) (.slice none 0 0)
        rwa [hsa] at this
       replace HST := Lib.hid ((HST.out.quiet hba).quiet ((Below.refl _ _).alloc (Nat.le_refl _) (.cells #[.int .i64 33, .string ⟨#[]⟩, .string ⟨#[]⟩, .slice none 0 0] 24)))
       have hNPHX3 : wp.heap.size ≠ P := by omega
       have hNPHX4 : wp.heap.size + 1 ≠ P := by omega
       have hg3 := HX3.out.lt
       have hg4 := HX4.out.lt
       clear hba hsa
       go_wp2_with fail
       refine (is_at HST.out.ps HU2.out HE.out).mono ?_
       rintro e w5 ⟨rfl, hb⟩
       replace HST := Lib.hid (HST.out.quiet hb)
       replace HX3 := Lib.hid (HX3.out.later hb)
       replace HX4 := Lib.hid (HX4.out.later hb)
       clear hb
       go_wp2_with fail
       refine (take_any P z _ _ d _ HST.out.ps).mono ?_
       rintro e w6 ⟨v, rfl, rfl, hps, hbe⟩
       replace HST := Lib.hid (HST.out.read hbe hps)
       replace HX3 := Lib.hid (HX3.out.bes hbe hNPHX3)
       replace HX4 := Lib.hid (HX4.out.bes hbe hNPHX4)
       clear hps hbe
       unfold tkV
       have hgs := HST.out.size
       skip
       go_wp2_with fail
       refine (calls_ok (HPA.out _ _ HST.out.ps) HP.out).mono ?_
       rintro e wr ⟨v, rfl, hv, hps, hbe⟩
       obtain ⟨An, Cn, rfl, hf⟩ := mx_new (B0 := w.heap.size + 1) (g := wp.heap.size) (g' := (wp.heap.size + 1)) hv HST.out.size (by have hh3 := HX3.out.lt; have hh4 := HX4.out.lt; omega) (by have hh3 := HX3.out.lt; have hh4 := HX4.out.lt; omega)
       replace HST := Lib.hid (HST.out.read hbe hps)
       replace HX3 := Lib.hid (HX3.out.bes hbe hNPHX3)
       replace HX4 := Lib.hid (HX4.out.bes hbe hNPHX4)
       simp only at hf ⊢
       generalize hm : nc.len = mn at hf ⊢
       have Hmn := Lib.hid hm
       have HFn := Lib.hid hf
       clear hv hps hbe hf hm hgs
       obtain ⟨p0, p1, p2, p3⟩ := HX3.out.frz
       obtain ⟨c0, c1, c2, c3⟩ := HX3.out.cells
       have hz3 := HX3.out.lt
       have hz4 := HX4.out.lt
       replace HST := Lib.hid (HST.out.setg (y := wp.heap.size) (by omega) (.int .i64 nk) (.string nx) (.string ny) (.slice An mn Cn))
       replace HFn := Lib.hid (mx_setg HFn.out (x := wp.heap.size) (by omega) (.int .i64 nk) (.string nx) (.string ny) (.slice An mn Cn))
       replace HX3 := Lib.hid (HX3.out.set4 (.int .i64 nk) (.string nx) (.string ny) (.slice An mn Cn))
       replace HX4 := Lib.hid (HX4.out.setg (y := wp.heap.size) (by omega) (.int .i64 nk) (.string nx) (.string ny) (.slice An mn Cn))
       go_wp2_with fail
       refine (calls_ok (want_at HST.out.ps HU3.out (by decide)) HW.out).mono ?_
       rintro e ww ⟨v, rfl, rfl, hps, hbe⟩
       replace HST := Lib.hid (HST.out.read hbe hps)
       replace HFn := Lib.hid (mx_bes HFn.out hbe hP0)
       replace HX3 := Lib.hid (HX3.out.bes hbe hNPHX3)
       replace HX4 := Lib.hid (HX4.out.bes hbe hNPHX4)
       clear hps hbe
       clear p0 p1 p2 p3 c0 c1 c2 c3 hz3 hz4
       go_wp2_with fail
       refine (calls_ok (name_any P z l2 d _ HST.out.ps) HN.out).mono ?_
       rintro e wn ⟨v, rfl, rfl, hps, hbe⟩
       replace HST := Lib.hid (HST.out.read hbe hps)
       replace HFn := Lib.hid (mx_bes HFn.out hbe hP0)
       replace HX3 := Lib.hid (HX3.out.bes hbe hNPHX3)
       replace HX4 := Lib.hid (HX4.out.bes hbe hNPHX4)
       clear hps hbe
       go_wp2_with fail
       refine (calls_ok (HLI.out _ _ HST.out.ps) HL.out).mono ?_
       rintro e wl ⟨v, rfl, hv, hps, hbe⟩
       obtain ⟨Aq, Cq, rfl, hf⟩ := fv_mx (B0 := w.heap.size + 1) (g := wp.heap.size) (g' := (wp.heap.size + 1)) hv HST.out.size (by have hh3 := HX3.out.lt; have hh4 := HX4.out.lt; omega) (by have hh3 := HX3.out.lt; have hh4 := HX4.out.lt; omega)
       replace HST := Lib.hid (HST.out.read hbe hps)
       replace HFn := Lib.hid (mx_bes HFn.out hbe hP0)
       replace HX3 := Lib.hid (HX3.out.bes hbe hNPHX3)
       replace HX4 := Lib.hid (HX4.out.bes hbe hNPHX4)
       generalize hm : F.len qc = mq at hf ⊢
       have Hmq := Lib.hid hm
       have HFq := Lib.hid hf
       clear hv hps hbe hf hm
       go_wp2_with fail
       refine (node_any 15 ⟨#[]⟩ _ _ _ _).mono ?_
       rintro e wq ⟨rfl, hb⟩
       replace HST := Lib.hid (HST.out.quiet hb)
       replace HFn := Lib.hid (mx_later HFn.out hb hP0)
       replace HFq := Lib.hid (mx_later HFq.out hb hP0)
       replace HX3 := Lib.hid (HX3.out.later hb)
       replace HX4 := Lib.hid (HX4.out.later hb)
       clear hb
       unfold e0
       have HX6 := Lib.hid (box4_new wq 24 (.int .i64 15) (.string ⟨#[]⟩) (.string ⟨#[]⟩) (.slice Aq mq Cq))
       have hq3 := HX3.out.lt
       have hq4 := HX4.out.lt
       have hqR := HST.out.size
       have hNPHX6 : wq.heap.size ≠ P := by omega
       have hNR6 : wq.heap.size ≠ w.heap.size := by omega
       have hb := (Below.refl (wq).heap.size (wq)).alloc (Nat.le_refl _) (.cells #[.int .i64 15, .string ⟨#[]⟩, .string ⟨#[]⟩, .slice Aq mq Cq] 24)
       replace HST := Lib.hid (HST.out.quiet hb)
       replace HFn := Lib.hid (mx_later HFn.out hb hP0)
       replace HFq := Lib.hid (mx_later HFq.out hb hP0)
       replace HX3 := Lib.hid (HX3.out.later hb)
       replace HX4 := Lib.hid (HX4.out.later hb)
       clear hb
       go_wp2_with fail
       refine (is_at HST.out.ps HU4.out HE4.out).mono ?_
       rintro e wd ⟨rfl, hb⟩
       replace HST := Lib.hid (HST.out.quiet hb)
       replace HFn := Lib.hid (mx_later HFn.out hb hP0)
       replace HFq := Lib.hid (mx_later HFq.out hb hP0)
       replace HX3 := Lib.hid (HX3.out.later hb)
       replace HX4 := Lib.hid (HX4.out.later hb)
       replace HX6 := Lib.hid (HX6.out.later hb)
       clear hb
       go_wp2
       clear hq3 hq4 hqR
       refine region_ph [5, 8] (GN 5 8 P z d l4 l4 (FinYy w.heap.size wp.heap.size (wp.heap.size + 1) noneN) (BxA w.heap.size)) (Bes2 P (w.heap.size)) [Cd.is (.string s), Cd.is (.agg #[.int .i64 nk, .string nx, .string ny, .slice An mn Cn]), Cd.is (.agg #[.int .i64 15, .string ⟨#[]⟩, .string ⟨#[]⟩, .slice Aq mq Cq]), Cd.is (.agg #[.int .i64 33, .string ⟨#[]⟩, .string ⟨#[]⟩, .slice none 0 0]), Cd.is (.pointer (some ⟨P, 0, none⟩)), cNo, cNo, cNo, cNo] (by kernel_rfl) (by decide) (by kernel_rfl) (Bes2.refl _ _ _) (fun _ _ _ h k => h.trans k) (fun _ _ h => Bes2.of h) (GN.keep (FinYy.later hP0) BxA.later) ?start ?steps ?behind
       case start =>
        intro x
        exact ⟨fun h => (by cases h), fun _ => HST.out.bx, fun h => (by cases h), fun _ => HST.out.ps.drewN 1⟩
       case steps =>
        intro xv W hW a ha
        replace hW := hW.undrew
        simp only [fillA] at ha
        simp only [List.setIfInBounds_toArray, List.set_cons_succ, List.set_cons_zero, Nat.zero_add, Nat.reduceAdd] at ha
        subst ha
        refine ⟨?s0, ?s1, ?s2, ?s3, ?s4, ?s5, ?s6, ?s7, ?s8, trivial⟩
        all_goals intro dn hdi hdw hcl hphi hg K hK
        all_goals (try simp only [Act.put, List.setIfInBounds_toArray, List.set_cons_succ, List.set_cons_zero] at hK)
        case s0 =>
         clear hphi hdw
         refine (if_pos (by rfl)).mpr ?_
         go_simp
         exact hK.out _ _ (Below.refl _ _) rfl
        case s1 =>
         clear hphi hdw
         refine (if_pos (by rfl)).mpr ?_
         obtain ⟨q0, q1, q2, q3⟩ := (HX3.out.bes2 hW hNPHX3 (by omega)).cells
         go_simp
         exact hK.out _ _ (Below.refl _ _) rfl
        case s2 =>
         clear hphi hdw
         refine (if_pos (by rfl)).mpr ?_
         obtain ⟨q0, q1, q2, q3⟩ := (HX6.out.bes2 hW hNPHX6 (by omega)).cells
         go_simp
         exact hK.out _ _ (Below.refl _ _) rfl
        case s3 =>
         clear hphi hdw
         refine (if_pos (by rfl)).mpr ?_
         obtain ⟨q0, q1, q2, q3⟩ := (HX4.out.bes2 hW hNPHX4 (by omega)).cells
         go_simp
         exact hK.out _ _ (Below.refl _ _) rfl
        case s4 =>
         clear hphi hdw
         refine (if_pos (by rfl)).mpr ?_
         go_simp
         exact hK.out _ _ (Below.refl _ _) rfl
        case s5 =>
         have hx4 : xv 4 = .pointer (some ⟨P, 0, none⟩) := hphi 4 (hdw 4 (by kernel_rfl))
         clear hphi hdw
         rw [hx4] at hK ⊢
         refine (if_pos (by rfl)).mpr ?_
         go_simp
         refine (calls_bad (HBL.out W _ (hg.2.2.2 hdi)) HB2.out).mono ?_
         rintro e W' ⟨rfl, hbe⟩
         exact ⟨rfl, rpost_bad HSP.out (Bes2.back HST.out.bes (hW.trans (Bes2.bes hbe)) (Nat.le_refl _))⟩
        case s6 =>
         have hx1 : xv 1 = .agg #[.int .i64 nk, .string nx, .string ny, .slice An mn Cn] := hphi 1 (hdw 1 (by kernel_rfl))
         have hx2 : xv 2 = .agg #[.int .i64 15, .string ⟨#[]⟩, .string ⟨#[]⟩, .slice Aq mq Cq] := hphi 2 (hdw 2 (by kernel_rfl))
         have hx3 : xv 3 = .agg #[.int .i64 33, .string ⟨#[]⟩, .string ⟨#[]⟩, .slice none 0 0] := hphi 3 (hdw 3 (by kernel_rfl))
         have hno : False := hphi 5 (hdw 5 (by kernel_rfl))
         exact hno.elim
        case s7 =>
         have hno : False := hphi 6 (hdw 6 (by kernel_rfl))
         exact hno.elim
        case s8 =>
         have hno : False := hphi 7 (hdw 7 (by kernel_rfl))
         exact hno.elim
       case behind =>
        intro dn xv W hW hall hx hg a ha
        replace hW := hW.undrew
        simp only [fillA] at ha
        simp only [List.setIfInBounds_toArray, List.set_cons_succ, List.set_cons_zero, Nat.zero_add, Nat.reduceAdd] at ha
        subst ha
        exact (hx 5 (by decide) : False).elim
      | ok b l6 =>
       obtain ⟨bk, bx, by', bc⟩ := b
       rw [hb, Rd.bind_ok] at hsp
       have HB2 := Lib.hid hb
       clear hb
       have HSP := Lib.hid hsp
       clear hsp
       go_enter Tryz.func74, Tryz.ntmps74
       go_wp2_with fail
       refine (is_at HST.out.ps HU.out HBB.out).mono ?_
       rintro e w1 ⟨rfl, hb⟩
       replace HST := Lib.hid (HST.out.quiet hb)
       clear hb
       go_wp2_with fail
       refine (HBG2.out _ HST.out.ps).mono ?_
       rintro e w2 ⟨v, rfl, rfl, hps, hbe⟩
       replace HST := Lib.hid (HST.out.read hbe hps)
       clear hps hbe
       unfold tkV
       go_wp2_with fail
       refine (none_any _).mono ?_
       rintro e wo ⟨rfl, hb⟩
       replace HST := Lib.hid (HST.out.quiet hb)
       clear hb
       go_wp2_with fail
       refine (none_any _).mono ?_
       rintro e wp ⟨rfl, hb⟩
       replace HST := Lib.hid (HST.out.quiet hb)
       clear hb
       unfold e0
       have hps0 := HST.out.size
       have hba := (Below.refl wp.heap.size wp).alloc (Nat.le_refl _) (.cells #[.int .i64 33, .string ⟨#[]⟩, .string ⟨#[]⟩, .slice none 0 0] 24)
       have hsa : (wp.alloc (.cells #[.int .i64 33, .string ⟨#[]⟩, .string ⟨#[]⟩, .slice none 0 0] 24)).heap.size = wp.heap.size + 1 := by simp
       have HX3 : Hid (Box4 ((wp.alloc (.cells #[.int .i64 33, .string ⟨#[]⟩, .string ⟨#[]⟩, .slice none 0 0] 24)).alloc (.cells #[.int .i64 33, .string ⟨#[]⟩, .string ⟨#[]⟩, .slice none 0 0] 24)) wp.heap.size 24 (.int .i64 33) (.string ⟨#[]⟩) (.string ⟨#[]⟩) (.slice none 0 0)) := (box4_new wp _ _ _ _ _).later ((Below.refl _ _).alloc (Nat.le_refl _) _)
       have HX4 : Hid (Box4 ((wp.alloc (.cells #[.int .i64 33, .string ⟨#[]⟩, .string ⟨#[]⟩, .slice none 0 0] 24)).alloc (.cells #[.int .i64 33, .string ⟨#[]⟩, .string ⟨#[]⟩, .slice none 0 0] 24)) (wp.heap.size + 1) 24 (.int .i64 33) (.string ⟨#[]⟩) (.string ⟨#[]⟩) (.slice none 0 0)) := by
        have := box4_new (wp.alloc (.cells #[.int .i64 33, .string ⟨#[]⟩, .string ⟨#[]⟩, .slice none 0 0] 24)) 24 (.int .i64 33) (.string ⟨#[]⟩) (.string ⟨#[]⟩) (.slice none 0 0)
        rwa [hsa] at this
       replace HST := Lib.hid ((HST.out.quiet hba).quiet ((Below.refl _ _).alloc (Nat.le_refl _) (.cells #[.int .i64 33, .string ⟨#[]⟩, .string ⟨#[]⟩, .slice none 0 0] 24)))
       have hNPHX3 : wp.heap.size ≠ P := by omega
       have hNPHX4 : wp.heap.size + 1 ≠ P := by omega
       have hg3 := HX3.out.lt
       have hg4 := HX4.out.lt
       clear hba hsa
       go_wp2_with fail
       refine (is_at HST.out.ps HU2.out HE.out).mono ?_
       rintro e w5 ⟨rfl, hb⟩
       replace HST := Lib.hid (HST.out.quiet hb)
       replace HX3 := Lib.hid (HX3.out.later hb)
       replace HX4 := Lib.hid (HX4.out.later hb)
       clear hb
       go_wp2_with fail
       refine (take_any P z _ _ d _ HST.out.ps).mono ?_
       rintro e w6 ⟨v, rfl, rfl, hps, hbe⟩
       replace HST := Lib.hid (HST.out.read hbe hps)
       replace HX3 := Lib.hid (HX3.out.bes hbe hNPHX3)
       replace HX4 := Lib.hid (HX4.out.bes hbe hNPHX4)
       clear hps hbe
       unfold tkV
       have hgs := HST.out.size
       skip
       go_wp2_with fail
       refine (calls_ok (HPA.out _ _ HST.out.ps) HP.out).mono ?_
       rintro e wr ⟨v, rfl, hv, hps, hbe⟩
       obtain ⟨An, Cn, rfl, hf⟩ := mx_new (B0 := w.heap.size + 1) (g := wp.heap.size) (g' := (wp.heap.size + 1)) hv HST.out.size (by have hh3 := HX3.out.lt; have hh4 := HX4.out.lt; omega) (by have hh3 := HX3.out.lt; have hh4 := HX4.out.lt; omega)
       replace HST := Lib.hid (HST.out.read hbe hps)
       replace HX3 := Lib.hid (HX3.out.bes hbe hNPHX3)
       replace HX4 := Lib.hid (HX4.out.bes hbe hNPHX4)
       simp only at hf ⊢
       generalize hm : nc.len = mn at hf ⊢
       have Hmn := Lib.hid hm
       have HFn := Lib.hid hf
       clear hv hps hbe hf hm hgs
       obtain ⟨p0, p1, p2, p3⟩ := HX3.out.frz
       obtain ⟨c0, c1, c2, c3⟩ := HX3.out.cells
       have hz3 := HX3.out.lt
       have hz4 := HX4.out.lt
       replace HST := Lib.hid (HST.out.setg (y := wp.heap.size) (by omega) (.int .i64 nk) (.string nx) (.string ny) (.slice An mn Cn))
       replace HFn := Lib.hid (mx_setg HFn.out (x := wp.heap.size) (by omega) (.int .i64 nk) (.string nx) (.string ny) (.slice An mn Cn))
       replace HX3 := Lib.hid (HX3.out.set4 (.int .i64 nk) (.string nx) (.string ny) (.slice An mn Cn))
       replace HX4 := Lib.hid (HX4.out.setg (y := wp.heap.size) (by omega) (.int .i64 nk) (.string nx) (.string ny) (.slice An mn Cn))
       go_wp2_with fail
       refine (calls_ok (want_at HST.out.ps HU3.out (by decide)) HW.out).mono ?_
       rintro e ww ⟨v, rfl, rfl, hps, hbe⟩
       replace HST := Lib.hid (HST.out.read hbe hps)
       replace HFn := Lib.hid (mx_bes HFn.out hbe hP0)
       replace HX3 := Lib.hid (HX3.out.bes hbe hNPHX3)
       replace HX4 := Lib.hid (HX4.out.bes hbe hNPHX4)
       clear hps hbe
       clear p0 p1 p2 p3 c0 c1 c2 c3 hz3 hz4
       go_wp2_with fail
       refine (calls_ok (name_any P z l2 d _ HST.out.ps) HN.out).mono ?_
       rintro e wn ⟨v, rfl, rfl, hps, hbe⟩
       replace HST := Lib.hid (HST.out.read hbe hps)
       replace HFn := Lib.hid (mx_bes HFn.out hbe hP0)
       replace HX3 := Lib.hid (HX3.out.bes hbe hNPHX3)
       replace HX4 := Lib.hid (HX4.out.bes hbe hNPHX4)
       clear hps hbe
       go_wp2_with fail
       refine (calls_ok (HLI.out _ _ HST.out.ps) HL.out).mono ?_
       rintro e wl ⟨v, rfl, hv, hps, hbe⟩
       obtain ⟨Aq, Cq, rfl, hf⟩ := fv_mx (B0 := w.heap.size + 1) (g := wp.heap.size) (g' := (wp.heap.size + 1)) hv HST.out.size (by have hh3 := HX3.out.lt; have hh4 := HX4.out.lt; omega) (by have hh3 := HX3.out.lt; have hh4 := HX4.out.lt; omega)
       replace HST := Lib.hid (HST.out.read hbe hps)
       replace HFn := Lib.hid (mx_bes HFn.out hbe hP0)
       replace HX3 := Lib.hid (HX3.out.bes hbe hNPHX3)
       replace HX4 := Lib.hid (HX4.out.bes hbe hNPHX4)
       generalize hm : F.len qc = mq at hf ⊢
       have Hmq := Lib.hid hm
       have HFq := Lib.hid hf
       clear hv hps hbe hf hm
       go_wp2_with fail
       refine (node_any 15 ⟨#[]⟩ _ _ _ _).mono ?_
       rintro e wq ⟨rfl, hb⟩
       replace HST := Lib.hid (HST.out.quiet hb)
       replace HFn := Lib.hid (mx_later HFn.out hb hP0)
       replace HFq := Lib.hid (mx_later HFq.out hb hP0)
       replace HX3 := Lib.hid (HX3.out.later hb)
       replace HX4 := Lib.hid (HX4.out.later hb)
       clear hb
       unfold e0
       have HX6 := Lib.hid (box4_new wq 24 (.int .i64 15) (.string ⟨#[]⟩) (.string ⟨#[]⟩) (.slice Aq mq Cq))
       have hq3 := HX3.out.lt
       have hq4 := HX4.out.lt
       have hqR := HST.out.size
       have hNPHX6 : wq.heap.size ≠ P := by omega
       have hNR6 : wq.heap.size ≠ w.heap.size := by omega
       have hb := (Below.refl (wq).heap.size (wq)).alloc (Nat.le_refl _) (.cells #[.int .i64 15, .string ⟨#[]⟩, .string ⟨#[]⟩, .slice Aq mq Cq] 24)
       replace HST := Lib.hid (HST.out.quiet hb)
       replace HFn := Lib.hid (mx_later HFn.out hb hP0)
       replace HFq := Lib.hid (mx_later HFq.out hb hP0)
       replace HX3 := Lib.hid (HX3.out.later hb)
       replace HX4 := Lib.hid (HX4.out.later hb)
       clear hb
       go_wp2_with fail
       refine (is_at HST.out.ps HU4.out HE4.out).mono ?_
       rintro e wd ⟨rfl, hb⟩
       replace HST := Lib.hid (HST.out.quiet hb)
       replace HFn := Lib.hid (mx_later HFn.out hb hP0)
       replace HFq := Lib.hid (mx_later HFq.out hb hP0)
       replace HX3 := Lib.hid (HX3.out.later hb)
       replace HX4 := Lib.hid (HX4.out.later hb)
       replace HX6 := Lib.hid (HX6.out.later hb)
       clear hb
       go_wp2
       clear hq3 hq4 hqR
       refine region_ph [5, 8] (GN 5 8 P z d l4 l6 (FinYy w.heap.size wp.heap.size (wp.heap.size + 1) (Parse.node 7 s (oneF ⟨nk, nx, ny, nc⟩ (oneF ⟨15, ⟨#[]⟩, ⟨#[]⟩, qc⟩ (oneF ⟨33, ⟨#[]⟩, ⟨#[]⟩, .nil⟩ (one ⟨bk, bx, by', bc⟩)))))) (BxA w.heap.size)) (Bes2 P (w.heap.size)) [Cd.is (.string s), Cd.is (.agg #[.int .i64 nk, .string nx, .string ny, .slice An mn Cn]), Cd.is (.agg #[.int .i64 15, .string ⟨#[]⟩, .string ⟨#[]⟩, .slice Aq mq Cq]), Cd.is (.agg #[.int .i64 33, .string ⟨#[]⟩, .string ⟨#[]⟩, .slice none 0 0]), Cd.is (.pointer (some ⟨P, 0, none⟩)), cNdY wp.heap.size (wp.heap.size + 1) hP0 ⟨bk, bx, by', bc⟩, cRowY wp.heap.size (wp.heap.size + 1) hP0 (oneF ⟨nk, nx, ny, nc⟩ (oneF ⟨15, ⟨#[]⟩, ⟨#[]⟩, qc⟩ (oneF ⟨33, ⟨#[]⟩, ⟨#[]⟩, .nil⟩ (one ⟨bk, bx, by', bc⟩)))), cNdY wp.heap.size (wp.heap.size + 1) hP0 (Parse.node 7 s (oneF ⟨nk, nx, ny, nc⟩ (oneF ⟨15, ⟨#[]⟩, ⟨#[]⟩, qc⟩ (oneF ⟨33, ⟨#[]⟩, ⟨#[]⟩, .nil⟩ (one ⟨bk, bx, by', bc⟩))))), Cd.any] (by kernel_rfl) (by decide) (by kernel_rfl) (Bes2.refl _ _ _) (fun _ _ _ h k => h.trans k) (fun _ _ h => Bes2.of h) (GN.keep (FinYy.later hP0) BxA.later) ?start ?steps ?behind
       case start =>
        intro x
        exact ⟨fun h => (by cases h), fun _ => HST.out.bx, fun h => (by cases h), fun _ => HST.out.ps.drewN 1⟩
       case steps =>
        intro xv W hW a ha
        replace hW := hW.undrew
        simp only [fillA] at ha
        simp only [List.setIfInBounds_toArray, List.set_cons_succ, List.set_cons_zero, Nat.zero_add, Nat.reduceAdd] at ha
        subst ha
        refine ⟨?s0, ?s1, ?s2, ?s3, ?s4, ?s5, ?s6, ?s7, ?s8, trivial⟩
        all_goals intro dn hdi hdw hcl hphi hg K hK
        all_goals (try simp only [Act.put, List.setIfInBounds_toArray, List.set_cons_succ, List.set_cons_zero] at hK)
        case s0 =>
         clear hphi hdw
         refine (if_pos (by rfl)).mpr ?_
         go_simp
         exact hK.out _ _ (Below.refl _ _) rfl
        case s1 =>
         clear hphi hdw
         refine (if_pos (by rfl)).mpr ?_
         obtain ⟨q0, q1, q2, q3⟩ := (HX3.out.bes2 hW hNPHX3 (by omega)).cells
         go_simp
         exact hK.out _ _ (Below.refl _ _) rfl
        case s2 =>
         clear hphi hdw
         refine (if_pos (by rfl)).mpr ?_
         obtain ⟨q0, q1, q2, q3⟩ := (HX6.out.bes2 hW hNPHX6 (by omega)).cells
         go_simp
         exact hK.out _ _ (Below.refl _ _) rfl
        case s3 =>
         clear hphi hdw
         refine (if_pos (by rfl)).mpr ?_
         obtain ⟨q0, q1, q2, q3⟩ := (HX4.out.bes2 hW hNPHX4 (by omega)).cells
         go_simp
         exact hK.out _ _ (Below.refl _ _) rfl
        case s4 =>
         clear hphi hdw
         refine (if_pos (by rfl)).mpr ?_
         go_simp
         exact hK.out _ _ (Below.refl _ _) rfl
        case s5 =>
         have hx4 : xv 4 = .pointer (some ⟨P, 0, none⟩) := hphi 4 (hdw 4 (by kernel_rfl))
         clear hphi hdw
         rw [hx4] at hK ⊢
         refine (if_pos (by rfl)).mpr ?_
         go_simp
         refine (calls_ok (HBL.out W _ (hg.2.2.2 hdi)) HB2.out).mono ?_
         rintro e W' ⟨v, rfl, hv, hps, hbe⟩
         exact hK.out _ _ ⟨Bes2.bes hbe, GN.call (by decide) hg (notYet hcl hdi (by kernel_rfl)) (fun h => h.bes hbe hRP) hps⟩ (mx_new hv (by have hh := HST.out.size; have hw := hW.size; have hq3 := HX3.out.lt; have hq4 := HX4.out.lt; omega) (by have hh := HST.out.size; have hw := hW.size; have hq3 := HX3.out.lt; have hq4 := HX4.out.lt; omega) (by have hh := HST.out.size; have hw := hW.size; have hq3 := HX3.out.lt; have hq4 := HX4.out.lt; omega))
        case s6 =>
         have hx1 : xv 1 = .agg #[.int .i64 nk, .string nx, .string ny, .slice An mn Cn] := hphi 1 (hdw 1 (by kernel_rfl))
         have hx2 : xv 2 = .agg #[.int .i64 15, .string ⟨#[]⟩, .string ⟨#[]⟩, .slice Aq mq Cq] := hphi 2 (hdw 2 (by kernel_rfl))
         have hx3 : xv 3 = .agg #[.int .i64 33, .string ⟨#[]⟩, .string ⟨#[]⟩, .slice none 0 0] := hphi 3 (hdw 3 (by kernel_rfl))
         obtain ⟨A5, C5, hx5, hf5⟩ : NdX (w.heap.size + 1) wp.heap.size (wp.heap.size + 1) ⟨bk, bx, by', bc⟩ (xv 5) W := hphi 5 (hdw 5 (by kernel_rfl))
         clear hphi hdw
         rw [hx5] at hK ⊢
         rw [hx1] at hK ⊢
         rw [hx2] at hK ⊢
         rw [hx3] at hK ⊢
         refine (if_pos (by rfl)).mpr ?_
         go_simp
         exact hK.out _ _ ((Below.refl _ _).alloc (Nat.le_refl _) _) (rowX4 W (w.heap.size + 1) wp.heap.size (wp.heap.size + 1) P (by have hh := HST.out.size; have hw := hW.size; have hq3 := HX3.out.lt; have hq4 := HX4.out.lt; omega) (by have hh := HST.out.size; have hw := hW.size; have hq3 := HX3.out.lt; have hq4 := HX4.out.lt; omega) (by have hh := HST.out.size; have hw := hW.size; have hq3 := HX3.out.lt; have hq4 := HX4.out.lt; omega) hP0 nk nx ny nc _ (mxR HFn.out hW hP0) 15 ⟨#[]⟩ ⟨#[]⟩ qc _ (mxR HFq.out hW hP0) 33 ⟨#[]⟩ ⟨#[]⟩ .nil _ mx_nil bk bx by' bc _ hf5)
        case s7 =>
         have hx0 : xv 0 = .string s := hphi 0 (hdw 0 (by kernel_rfl))
         obtain ⟨A6, C6, hx6, hf6⟩ : RowX (w.heap.size + 1) wp.heap.size (wp.heap.size + 1) (oneF ⟨nk, nx, ny, nc⟩ (oneF ⟨15, ⟨#[]⟩, ⟨#[]⟩, qc⟩ (oneF ⟨33, ⟨#[]⟩, ⟨#[]⟩, .nil⟩ (one ⟨bk, bx, by', bc⟩)))) (xv 6) W := hphi 6 (hdw 6 (by kernel_rfl))
         clear hphi hdw
         rw [hx6] at hK ⊢
         rw [hx0] at hK ⊢
         refine (if_pos (by rfl)).mpr ?_
         go_simp
         refine (node_any _ _ _ _ _ W).mono ?_
         rintro e W' ⟨rfl, hb⟩
         exact hK.out _ _ hb ⟨A6, C6, rfl, mx_later hf6 hb hP0⟩
        case s8 =>
         obtain ⟨A7, C7, hx7, hf7⟩ : NdX (w.heap.size + 1) wp.heap.size (wp.heap.size + 1) (Parse.node 7 s (oneF ⟨nk, nx, ny, nc⟩ (oneF ⟨15, ⟨#[]⟩, ⟨#[]⟩, qc⟩ (oneF ⟨33, ⟨#[]⟩, ⟨#[]⟩, .nil⟩ (one ⟨bk, bx, by', bc⟩))))) (xv 7) W := hphi 7 (hdw 7 (by kernel_rfl))
         rw [hx7] at hK ⊢
         refine (if_pos (by rfl)).mpr ?_
         have hds : dn 5 = true := hdw 5 (by kernel_rfl)
         have hbx := hg.2.1 hdi
         obtain ⟨b0, b1, b2, b3, hbx4⟩ := id hbx
         obtain ⟨g0, g1, g2, g3⟩ := hbx4.frz
         obtain ⟨y0, y1, y2, y3⟩ := hbx4.cells
         simp only [Parse.node] at hf7 hK ⊢
         go_simp
         exact hK.out undef _ ⟨Bes2.set4 _ _ _ _ _, GN.store (by decide) (hds) (finY_set hbx4 rfl hf7) (ps_set4 (hg.2.2.1 hds) (by omega) _ _ _ _)⟩ trivial
       case behind =>
        intro dn xv W hW hall hx hg a ha
        replace hW := hW.undrew
        simp only [fillA] at ha
        simp only [List.setIfInBounds_toArray, List.set_cons_succ, List.set_cons_zero, Nat.zero_add, Nat.reduceAdd] at ha
        subst ha
        have hF := hg.1 (hall 8 (by decide))
        have hps := hg.2.2.1 (hall 5 (by decide))
        have hbw := Bes2.back HST.out.bes hW (Nat.le_refl _)
        obtain ⟨A, C, hbx, hpost⟩ := finYRet (w := w) HSP.out hF hps hbw
        have HPO := Lib.hid hpost
        have HBX2 := Lib.hid hbx
        clear hx hF hps hbw hpost hg hall hW hbx
        go_wp2
        refine bodyPost_ret (results_cell_row rfl _ _ w.heap.size 24 _ (0, 0) _ rfl HBX2.out Tryz.underlying24 rfl hi_nd) rfl ?_
        exact HPO.out
     | false =>
      rw [he4, if_neg (by decide)] at hsp
      have HE4 := Lib.hid he4
      clear he4
      cases ht : tyR z d l4 with
      | bad p er =>
       rw [ht, Rd.bind_bad] at hsp
       have HSP := Lib.hid hsp
       have HT2 := Lib.hid ht
       clear hsp ht
       go_enter Tryz.func74, Tryz.ntmps74
       go_wp2_with fail
       refine (is_at HST.out.ps HU.out HBB.out).mono ?_
       rintro e w1 ⟨rfl, hb⟩
       replace HST := Lib.hid (HST.out.quiet hb)
       clear hb
       go_wp2_with fail
       refine (HBG2.out _ HST.out.ps).mono ?_
       rintro e w2 ⟨v, rfl, rfl, hps, hbe⟩
       replace HST := Lib.hid (HST.out.read hbe hps)
       clear hps hbe
       unfold tkV
       go_wp2_with fail
       refine (none_any _).mono ?_
       rintro e wo ⟨rfl, hb⟩
       replace HST := Lib.hid (HST.out.quiet hb)
       clear hb
       go_wp2_with fail
       refine (none_any _).mono ?_
       rintro e wp ⟨rfl, hb⟩
       replace HST := Lib.hid (HST.out.quiet hb)
       clear hb
       unfold e0
       have hps0 := HST.out.size
       have hba := (Below.refl wp.heap.size wp).alloc (Nat.le_refl _) (.cells #[.int .i64 33, .string ⟨#[]⟩, .string ⟨#[]⟩, .slice none 0 0] 24)
       have hsa : (wp.alloc (.cells #[.int .i64 33, .string ⟨#[]⟩, .string ⟨#[]⟩, .slice none 0 0] 24)).heap.size = wp.heap.size + 1 := by simp
       have HX3 : Hid (Box4 ((wp.alloc (.cells #[.int .i64 33, .string ⟨#[]⟩, .string ⟨#[]⟩, .slice none 0 0] 24)).alloc (.cells #[.int .i64 33, .string ⟨#[]⟩, .string ⟨#[]⟩, .slice none 0 0] 24)) wp.heap.size 24 (.int .i64 33) (.string ⟨#[]⟩) (.string ⟨#[]⟩) (.slice none 0 0)) := (box4_new wp _ _ _ _ _).later ((Below.refl _ _).alloc (Nat.le_refl _) _)
       have HX4 : Hid (Box4 ((wp.alloc (.cells #[.int .i64 33, .string ⟨#[]⟩, .string ⟨#[]⟩, .slice none 0 0] 24)).alloc (.cells #[.int .i64 33, .string ⟨#[]⟩, .string ⟨#[]⟩, .slice none 0 0] 24)) (wp.heap.size + 1) 24 (.int .i64 33) (.string ⟨#[]⟩) (.string ⟨#[]⟩) (.slice none 0 0)) := by
        have := box4_new (wp.alloc (.cells #[.int .i64 33, .string ⟨#[]⟩, .string ⟨#[]⟩, .slice none 0 0] 24)) 24 (.int .i64 33) (.string ⟨#[]⟩) (.string ⟨#[]⟩) (.slice none 0 0)
        rwa [hsa] at this
       replace HST := Lib.hid ((HST.out.quiet hba).quiet ((Below.refl _ _).alloc (Nat.le_refl _) (.cells #[.int .i64 33, .string ⟨#[]⟩, .string ⟨#[]⟩, .slice none 0 0] 24)))
       have hNPHX3 : wp.heap.size ≠ P := by omega
       have hNPHX4 : wp.heap.size + 1 ≠ P := by omega
       have hg3 := HX3.out.lt
       have hg4 := HX4.out.lt
       clear hba hsa
       go_wp2_with fail
       refine (is_at HST.out.ps HU2.out HE.out).mono ?_
       rintro e w5 ⟨rfl, hb⟩
       replace HST := Lib.hid (HST.out.quiet hb)
       replace HX3 := Lib.hid (HX3.out.later hb)
       replace HX4 := Lib.hid (HX4.out.later hb)
       clear hb
       go_wp2_with fail
       refine (take_any P z _ _ d _ HST.out.ps).mono ?_
       rintro e w6 ⟨v, rfl, rfl, hps, hbe⟩
       replace HST := Lib.hid (HST.out.read hbe hps)
       replace HX3 := Lib.hid (HX3.out.bes hbe hNPHX3)
       replace HX4 := Lib.hid (HX4.out.bes hbe hNPHX4)
       clear hps hbe
       unfold tkV
       have hgs := HST.out.size
       skip
       go_wp2_with fail
       refine (calls_ok (HPA.out _ _ HST.out.ps) HP.out).mono ?_
       rintro e wr ⟨v, rfl, hv, hps, hbe⟩
       obtain ⟨An, Cn, rfl, hf⟩ := mx_new (B0 := w.heap.size + 1) (g := wp.heap.size) (g' := (wp.heap.size + 1)) hv HST.out.size (by have hh3 := HX3.out.lt; have hh4 := HX4.out.lt; omega) (by have hh3 := HX3.out.lt; have hh4 := HX4.out.lt; omega)
       replace HST := Lib.hid (HST.out.read hbe hps)
       replace HX3 := Lib.hid (HX3.out.bes hbe hNPHX3)
       replace HX4 := Lib.hid (HX4.out.bes hbe hNPHX4)
       simp only at hf ⊢
       generalize hm : nc.len = mn at hf ⊢
       have Hmn := Lib.hid hm
       have HFn := Lib.hid hf
       clear hv hps hbe hf hm hgs
       obtain ⟨p0, p1, p2, p3⟩ := HX3.out.frz
       obtain ⟨c0, c1, c2, c3⟩ := HX3.out.cells
       have hz3 := HX3.out.lt
       have hz4 := HX4.out.lt
       replace HST := Lib.hid (HST.out.setg (y := wp.heap.size) (by omega) (.int .i64 nk) (.string nx) (.string ny) (.slice An mn Cn))
       replace HFn := Lib.hid (mx_setg HFn.out (x := wp.heap.size) (by omega) (.int .i64 nk) (.string nx) (.string ny) (.slice An mn Cn))
       replace HX3 := Lib.hid (HX3.out.set4 (.int .i64 nk) (.string nx) (.string ny) (.slice An mn Cn))
       replace HX4 := Lib.hid (HX4.out.setg (y := wp.heap.size) (by omega) (.int .i64 nk) (.string nx) (.string ny) (.slice An mn Cn))
       go_wp2_with fail
       refine (calls_ok (want_at HST.out.ps HU3.out (by decide)) HW.out).mono ?_
       rintro e ww ⟨v, rfl, rfl, hps, hbe⟩
       replace HST := Lib.hid (HST.out.read hbe hps)
       replace HFn := Lib.hid (mx_bes HFn.out hbe hP0)
       replace HX3 := Lib.hid (HX3.out.bes hbe hNPHX3)
       replace HX4 := Lib.hid (HX4.out.bes hbe hNPHX4)
       clear hps hbe
       clear p0 p1 p2 p3 c0 c1 c2 c3 hz3 hz4
       go_wp2_with fail
       refine (calls_ok (name_any P z l2 d _ HST.out.ps) HN.out).mono ?_
       rintro e wn ⟨v, rfl, rfl, hps, hbe⟩
       replace HST := Lib.hid (HST.out.read hbe hps)
       replace HFn := Lib.hid (mx_bes HFn.out hbe hP0)
       replace HX3 := Lib.hid (HX3.out.bes hbe hNPHX3)
       replace HX4 := Lib.hid (HX4.out.bes hbe hNPHX4)
       clear hps hbe
       go_wp2_with fail
       refine (calls_ok (HLI.out _ _ HST.out.ps) HL.out).mono ?_
       rintro e wl ⟨v, rfl, hv, hps, hbe⟩
       obtain ⟨Aq, Cq, rfl, hf⟩ := fv_mx (B0 := w.heap.size + 1) (g := wp.heap.size) (g' := (wp.heap.size + 1)) hv HST.out.size (by have hh3 := HX3.out.lt; have hh4 := HX4.out.lt; omega) (by have hh3 := HX3.out.lt; have hh4 := HX4.out.lt; omega)
       replace HST := Lib.hid (HST.out.read hbe hps)
       replace HFn := Lib.hid (mx_bes HFn.out hbe hP0)
       replace HX3 := Lib.hid (HX3.out.bes hbe hNPHX3)
       replace HX4 := Lib.hid (HX4.out.bes hbe hNPHX4)
       generalize hm : F.len qc = mq at hf ⊢
       have Hmq := Lib.hid hm
       have HFq := Lib.hid hf
       clear hv hps hbe hf hm
       go_wp2_with fail
       refine (node_any 15 ⟨#[]⟩ _ _ _ _).mono ?_
       rintro e wq ⟨rfl, hb⟩
       replace HST := Lib.hid (HST.out.quiet hb)
       replace HFn := Lib.hid (mx_later HFn.out hb hP0)
       replace HFq := Lib.hid (mx_later HFq.out hb hP0)
       replace HX3 := Lib.hid (HX3.out.later hb)
       replace HX4 := Lib.hid (HX4.out.later hb)
       clear hb
       unfold e0
       have HX6 := Lib.hid (box4_new wq 24 (.int .i64 15) (.string ⟨#[]⟩) (.string ⟨#[]⟩) (.slice Aq mq Cq))
       have hq3 := HX3.out.lt
       have hq4 := HX4.out.lt
       have hqR := HST.out.size
       have hNPHX6 : wq.heap.size ≠ P := by omega
       have hNR6 : wq.heap.size ≠ w.heap.size := by omega
       have hb := (Below.refl (wq).heap.size (wq)).alloc (Nat.le_refl _) (.cells #[.int .i64 15, .string ⟨#[]⟩, .string ⟨#[]⟩, .slice Aq mq Cq] 24)
       replace HST := Lib.hid (HST.out.quiet hb)
       replace HFn := Lib.hid (mx_later HFn.out hb hP0)
       replace HFq := Lib.hid (mx_later HFq.out hb hP0)
       replace HX3 := Lib.hid (HX3.out.later hb)
       replace HX4 := Lib.hid (HX4.out.later hb)
       clear hb
       go_wp2_with fail
       refine (is_at HST.out.ps HU4.out HE4.out).mono ?_
       rintro e wd ⟨rfl, hb⟩
       replace HST := Lib.hid (HST.out.quiet hb)
       replace HFn := Lib.hid (mx_later HFn.out hb hP0)
       replace HFq := Lib.hid (mx_later HFq.out hb hP0)
       replace HX3 := Lib.hid (HX3.out.later hb)
       replace HX4 := Lib.hid (HX4.out.later hb)
       replace HX6 := Lib.hid (HX6.out.later hb)
       clear hb
       go_wp2_with fail
       refine (calls_bad (HT.out _ _ HST.out.ps) HT2.out).mono ?_
       rintro e w12 ⟨rfl, hbe⟩
       have HE := Lib.hid (HST.out.bes.trans hbe)
       clear hbe
       go_wp2
       exact ⟨rfl, rpost_bad HSP.out HE.out⟩
      | ok m l5 =>
       obtain ⟨mk, mx, my, mc⟩ := m
       rw [ht, Rd.bind_ok] at hsp
       have HT2 := Lib.hid ht
       clear ht
       cases hb : blockR z (stmR z) d l5 with
       | bad p er =>
        rw [hb, Rd.bind_bad] at hsp
        have HSP := Lib.hid hsp
        have HB2 := Lib.hid hb
        clear hsp hb
        go_enter Tryz.func74, Tryz.ntmps74
        go_wp2_with fail
        refine (is_at HST.out.ps HU.out HBB.out).mono ?_
        rintro e w1 ⟨rfl, hb⟩
        replace HST := Lib.hid (HST.out.quiet hb)
        clear hb
        go_wp2_with fail
        refine (HBG2.out _ HST.out.ps).mono ?_
        rintro e w2 ⟨v, rfl, rfl, hps, hbe⟩
        replace HST := Lib.hid (HST.out.read hbe hps)
        clear hps hbe
        unfold tkV
        go_wp2_with fail
        refine (none_any _).mono ?_
        rintro e wo ⟨rfl, hb⟩
        replace HST := Lib.hid (HST.out.quiet hb)
        clear hb
        go_wp2_with fail
        refine (none_any _).mono ?_
        rintro e wp ⟨rfl, hb⟩
        replace HST := Lib.hid (HST.out.quiet hb)
        clear hb
        unfold e0
        have hps0 := HST.out.size
        have hba := (Below.refl wp.heap.size wp).alloc (Nat.le_refl _) (.cells #[.int .i64 33, .string ⟨#[]⟩, .string ⟨#[]⟩, .slice none 0 0] 24)
        have hsa : (wp.alloc (.cells #[.int .i64 33, .string ⟨#[]⟩, .string ⟨#[]⟩, .slice none 0 0] 24)).heap.size = wp.heap.size + 1 := by simp
        have HX3 : Hid (Box4 ((wp.alloc (.cells #[.int .i64 33, .string ⟨#[]⟩, .string ⟨#[]⟩, .slice none 0 0] 24)).alloc (.cells #[.int .i64 33, .string ⟨#[]⟩, .string ⟨#[]⟩, .slice none 0 0] 24)) wp.heap.size 24 (.int .i64 33) (.string ⟨#[]⟩) (.string ⟨#[]⟩) (.slice none 0 0)) := (box4_new wp _ _ _ _ _).later ((Below.refl _ _).alloc (Nat.le_refl _) _)
        have HX4 : Hid (Box4 ((wp.alloc (.cells #[.int .i64 33, .string ⟨#[]⟩, .string ⟨#[]⟩, .slice none 0 0] 24)).alloc (.cells #[.int .i64 33, .string ⟨#[]⟩, .string ⟨#[]⟩, .slice none 0 0] 24)) (wp.heap.size + 1) 24 (.int .i64 33) (.string ⟨#[]⟩) (.string ⟨#[]⟩) (.slice none 0 0)) := by
         have := box4_new (wp.alloc (.cells #[.int .i64 33, .string ⟨#[]⟩, .string ⟨#[]⟩, .slice none 0 0] 24)) 24 (.int .i64 33) (.string ⟨#[]⟩) (.string ⟨#[]⟩) (.slice none 0 0)
         rwa [hsa] at this
        replace HST := Lib.hid ((HST.out.quiet hba).quiet ((Below.refl _ _).alloc (Nat.le_refl _) (.cells #[.int .i64 33, .string ⟨#[]⟩, .string ⟨#[]⟩, .slice none 0 0] 24)))
        have hNPHX3 : wp.heap.size ≠ P := by omega
        have hNPHX4 : wp.heap.size + 1 ≠ P := by omega
        have hg3 := HX3.out.lt
        have hg4 := HX4.out.lt
        clear hba hsa
        go_wp2_with fail
        refine (is_at HST.out.ps HU2.out HE.out).mono ?_
        rintro e w5 ⟨rfl, hb⟩
        replace HST := Lib.hid (HST.out.quiet hb)
        replace HX3 := Lib.hid (HX3.out.later hb)
        replace HX4 := Lib.hid (HX4.out.later hb)
        clear hb
        go_wp2_with fail
        refine (take_any P z _ _ d _ HST.out.ps).mono ?_
        rintro e w6 ⟨v, rfl, rfl, hps, hbe⟩
        replace HST := Lib.hid (HST.out.read hbe hps)
        replace HX3 := Lib.hid (HX3.out.bes hbe hNPHX3)
        replace HX4 := Lib.hid (HX4.out.bes hbe hNPHX4)
        clear hps hbe
        unfold tkV
        have hgs := HST.out.size
        skip
        go_wp2_with fail
        refine (calls_ok (HPA.out _ _ HST.out.ps) HP.out).mono ?_
        rintro e wr ⟨v, rfl, hv, hps, hbe⟩
        obtain ⟨An, Cn, rfl, hf⟩ := mx_new (B0 := w.heap.size + 1) (g := wp.heap.size) (g' := (wp.heap.size + 1)) hv HST.out.size (by have hh3 := HX3.out.lt; have hh4 := HX4.out.lt; omega) (by have hh3 := HX3.out.lt; have hh4 := HX4.out.lt; omega)
        replace HST := Lib.hid (HST.out.read hbe hps)
        replace HX3 := Lib.hid (HX3.out.bes hbe hNPHX3)
        replace HX4 := Lib.hid (HX4.out.bes hbe hNPHX4)
        simp only at hf ⊢
        generalize hm : nc.len = mn at hf ⊢
        have Hmn := Lib.hid hm
        have HFn := Lib.hid hf
        clear hv hps hbe hf hm hgs
        obtain ⟨p0, p1, p2, p3⟩ := HX3.out.frz
        obtain ⟨c0, c1, c2, c3⟩ := HX3.out.cells
        have hz3 := HX3.out.lt
        have hz4 := HX4.out.lt
        replace HST := Lib.hid (HST.out.setg (y := wp.heap.size) (by omega) (.int .i64 nk) (.string nx) (.string ny) (.slice An mn Cn))
        replace HFn := Lib.hid (mx_setg HFn.out (x := wp.heap.size) (by omega) (.int .i64 nk) (.string nx) (.string ny) (.slice An mn Cn))
        replace HX3 := Lib.hid (HX3.out.set4 (.int .i64 nk) (.string nx) (.string ny) (.slice An mn Cn))
        replace HX4 := Lib.hid (HX4.out.setg (y := wp.heap.size) (by omega) (.int .i64 nk) (.string nx) (.string ny) (.slice An mn Cn))
        go_wp2_with fail
        refine (calls_ok (want_at HST.out.ps HU3.out (by decide)) HW.out).mono ?_
        rintro e ww ⟨v, rfl, rfl, hps, hbe⟩
        replace HST := Lib.hid (HST.out.read hbe hps)
        replace HFn := Lib.hid (mx_bes HFn.out hbe hP0)
        replace HX3 := Lib.hid (HX3.out.bes hbe hNPHX3)
        replace HX4 := Lib.hid (HX4.out.bes hbe hNPHX4)
        clear hps hbe
        clear p0 p1 p2 p3 c0 c1 c2 c3 hz3 hz4
        go_wp2_with fail
        refine (calls_ok (name_any P z l2 d _ HST.out.ps) HN.out).mono ?_
        rintro e wn ⟨v, rfl, rfl, hps, hbe⟩
        replace HST := Lib.hid (HST.out.read hbe hps)
        replace HFn := Lib.hid (mx_bes HFn.out hbe hP0)
        replace HX3 := Lib.hid (HX3.out.bes hbe hNPHX3)
        replace HX4 := Lib.hid (HX4.out.bes hbe hNPHX4)
        clear hps hbe
        go_wp2_with fail
        refine (calls_ok (HLI.out _ _ HST.out.ps) HL.out).mono ?_
        rintro e wl ⟨v, rfl, hv, hps, hbe⟩
        obtain ⟨Aq, Cq, rfl, hf⟩ := fv_mx (B0 := w.heap.size + 1) (g := wp.heap.size) (g' := (wp.heap.size + 1)) hv HST.out.size (by have hh3 := HX3.out.lt; have hh4 := HX4.out.lt; omega) (by have hh3 := HX3.out.lt; have hh4 := HX4.out.lt; omega)
        replace HST := Lib.hid (HST.out.read hbe hps)
        replace HFn := Lib.hid (mx_bes HFn.out hbe hP0)
        replace HX3 := Lib.hid (HX3.out.bes hbe hNPHX3)
        replace HX4 := Lib.hid (HX4.out.bes hbe hNPHX4)
        generalize hm : F.len qc = mq at hf ⊢
        have Hmq := Lib.hid hm
        have HFq := Lib.hid hf
        clear hv hps hbe hf hm
        go_wp2_with fail
        refine (node_any 15 ⟨#[]⟩ _ _ _ _).mono ?_
        rintro e wq ⟨rfl, hb⟩
        replace HST := Lib.hid (HST.out.quiet hb)
        replace HFn := Lib.hid (mx_later HFn.out hb hP0)
        replace HFq := Lib.hid (mx_later HFq.out hb hP0)
        replace HX3 := Lib.hid (HX3.out.later hb)
        replace HX4 := Lib.hid (HX4.out.later hb)
        clear hb
        unfold e0
        have HX6 := Lib.hid (box4_new wq 24 (.int .i64 15) (.string ⟨#[]⟩) (.string ⟨#[]⟩) (.slice Aq mq Cq))
        have hq3 := HX3.out.lt
        have hq4 := HX4.out.lt
        have hqR := HST.out.size
        have hNPHX6 : wq.heap.size ≠ P := by omega
        have hNR6 : wq.heap.size ≠ w.heap.size := by omega
        have hb := (Below.refl (wq).heap.size (wq)).alloc (Nat.le_refl _) (.cells #[.int .i64 15, .string ⟨#[]⟩, .string ⟨#[]⟩, .slice Aq mq Cq] 24)
        replace HST := Lib.hid (HST.out.quiet hb)
        replace HFn := Lib.hid (mx_later HFn.out hb hP0)
        replace HFq := Lib.hid (mx_later HFq.out hb hP0)
        replace HX3 := Lib.hid (HX3.out.later hb)
        replace HX4 := Lib.hid (HX4.out.later hb)
        clear hb
        go_wp2_with fail
        refine (is_at HST.out.ps HU4.out HE4.out).mono ?_
        rintro e wd ⟨rfl, hb⟩
        replace HST := Lib.hid (HST.out.quiet hb)
        replace HFn := Lib.hid (mx_later HFn.out hb hP0)
        replace HFq := Lib.hid (mx_later HFq.out hb hP0)
        replace HX3 := Lib.hid (HX3.out.later hb)
        replace HX4 := Lib.hid (HX4.out.later hb)
        replace HX6 := Lib.hid (HX6.out.later hb)
        clear hb
        have hgs := HST.out.size
        skip
        go_wp2_with fail
        refine (calls_ok (HT.out _ _ HST.out.ps) HT2.out).mono ?_
        rintro e wt ⟨v, rfl, hv, hps, hbe⟩
        obtain ⟨Am, Cm, rfl, hf⟩ := mx_new (B0 := w.heap.size + 1) (g := wp.heap.size) (g' := (wp.heap.size + 1)) hv HST.out.size (by have hh3 := HX3.out.lt; have hh4 := HX4.out.lt; omega) (by have hh3 := HX3.out.lt; have hh4 := HX4.out.lt; omega)
        replace HST := Lib.hid (HST.out.read hbe hps)
        replace HFn := Lib.hid (mx_bes HFn.out hbe hP0)
        replace HFq := Lib.hid (mx_bes HFq.out hbe hP0)
        replace HX3 := Lib.hid (HX3.out.bes hbe hNPHX3)
        replace HX4 := Lib.hid (HX4.out.bes hbe hNPHX4)
        replace HX6 := Lib.hid (HX6.out.bes hbe hNPHX6)
        simp only at hf ⊢
        generalize hm : mc.len = mm at hf ⊢
        have Hmm := Lib.hid hm
        have HFm := Lib.hid hf
        clear hv hps hbe hf hm hgs
        obtain ⟨p0, p1, p2, p3⟩ := HX4.out.frz
        obtain ⟨c0, c1, c2, c3⟩ := HX4.out.cells
        have hz3 := HX3.out.lt
        have hz4 := HX4.out.lt
        replace HST := Lib.hid (HST.out.setg (y := (wp.heap.size + 1)) (by omega) (.int .i64 mk) (.string mx) (.string my) (.slice Am mm Cm))
        replace HFn := Lib.hid (mx_setg HFn.out (x := (wp.heap.size + 1)) (by omega) (.int .i64 mk) (.string mx) (.string my) (.slice Am mm Cm))
        replace HFq := Lib.hid (mx_setg HFq.out (x := (wp.heap.size + 1)) (by omega) (.int .i64 mk) (.string mx) (.string my) (.slice Am mm Cm))
        replace HFm := Lib.hid (mx_setg HFm.out (x := (wp.heap.size + 1)) (by omega) (.int .i64 mk) (.string mx) (.string my) (.slice Am mm Cm))
        replace HX3 := Lib.hid (HX3.out.setg (y := (wp.heap.size + 1)) (by omega) (.int .i64 mk) (.string mx) (.string my) (.slice Am mm Cm))
        replace HX4 := Lib.hid (HX4.out.set4 (.int .i64 mk) (.string mx) (.string my) (.slice Am mm Cm))
        replace HX6 := Lib.hid (HX6.out.setg (y := (wp.heap.size + 1)) (by omega) (.int .i64 mk) (.string mx) (.string my) (.slice Am mm Cm))
        go_wp2
        clear p0 p1 p2 p3 c0 c1 c2 c3 hz3 hz4 hq3 hq4 hqR
        generalize ((((wt.setCell ⟨wp.heap.size + 1, 0, none⟩ (.int .i64 mk)).setCell ⟨wp.heap.size + 1, 1, none⟩ (.string mx)).setCell ⟨wp.heap.size + 1, 2, none⟩ (.string my)).setCell ⟨wp.heap.size + 1, 3, none⟩ (.slice Am mm Cm)) = wz at *
        refine region_ph [5, 8] (GN 5 8 P z d l5 l5 (FinYy w.heap.size wp.heap.size (wp.heap.size + 1) noneN) (BxA w.heap.size)) (Bes2 P (w.heap.size)) [Cd.is (.string s), Cd.is (.agg #[.int .i64 nk, .string nx, .string ny, .slice An mn Cn]), Cd.is (.agg #[.int .i64 15, .string ⟨#[]⟩, .string ⟨#[]⟩, .slice Aq mq Cq]), Cd.is (.agg #[.int .i64 mk, .string mx, .string my, .slice Am mm Cm]), Cd.is (.pointer (some ⟨P, 0, none⟩)), cNo, cNo, cNo, cNo] (by kernel_rfl) (by decide) (by kernel_rfl) (Bes2.refl _ _ _) (fun _ _ _ h k => h.trans k) (fun _ _ h => Bes2.of h) (GN.keep (FinYy.later hP0) BxA.later) ?start ?steps ?behind
        case start =>
         intro x
         exact ⟨fun h => (by cases h), fun _ => HST.out.bx, fun h => (by cases h), fun _ => HST.out.ps.drewN 1⟩
        case steps =>
         intro xv W hW a ha
         replace hW := hW.undrew
         simp only [fillA] at ha
         simp only [List.setIfInBounds_toArray, List.set_cons_succ, List.set_cons_zero, Nat.zero_add, Nat.reduceAdd] at ha
         subst ha
         refine ⟨?s0, ?s1, ?s2, ?s3, ?s4, ?s5, ?s6, ?s7, ?s8, trivial⟩
         all_goals intro dn hdi hdw hcl hphi hg K hK
         all_goals (try simp only [Act.put, List.setIfInBounds_toArray, List.set_cons_succ, List.set_cons_zero] at hK)
         case s0 =>
          clear hphi hdw
          refine (if_pos (by rfl)).mpr ?_
          go_simp
          exact hK.out _ _ (Below.refl _ _) rfl
         case s1 =>
          clear hphi hdw
          refine (if_pos (by rfl)).mpr ?_
          obtain ⟨q0, q1, q2, q3⟩ := (HX3.out.bes2 hW hNPHX3 (by omega)).cells
          go_simp
          exact hK.out _ _ (Below.refl _ _) rfl
         case s2 =>
          clear hphi hdw
          refine (if_pos (by rfl)).mpr ?_
          obtain ⟨q0, q1, q2, q3⟩ := (HX6.out.bes2 hW hNPHX6 (by omega)).cells
          go_simp
          exact hK.out _ _ (Below.refl _ _) rfl
         case s3 =>
          clear hphi hdw
          refine (if_pos (by rfl)).mpr ?_
          obtain ⟨q0, q1, q2, q3⟩ := (HX4.out.bes2 hW hNPHX4 (by omega)).cells
          go_simp
          exact hK.out _ _ (Below.refl _ _) rfl
         case s4 =>
          clear hphi hdw
          refine (if_pos (by rfl)).mpr ?_
          go_simp
          exact hK.out _ _ (Below.refl _ _) rfl
         case s5 =>
          have hx4 : xv 4 = .pointer (some ⟨P, 0, none⟩) := hphi 4 (hdw 4 (by kernel_rfl))
          clear hphi hdw
          rw [hx4] at hK ⊢
          refine (if_pos (by rfl)).mpr ?_
          go_simp
          refine (calls_bad (HBL.out W _ (hg.2.2.2 hdi)) HB2.out).mono ?_
          rintro e W' ⟨rfl, hbe⟩
          exact ⟨rfl, rpost_bad HSP.out (Bes2.back HST.out.bes (hW.trans (Bes2.bes hbe)) (Nat.le_refl _))⟩
         case s6 =>
          have hx1 : xv 1 = .agg #[.int .i64 nk, .string nx, .string ny, .slice An mn Cn] := hphi 1 (hdw 1 (by kernel_rfl))
          have hx2 : xv 2 = .agg #[.int .i64 15, .string ⟨#[]⟩, .string ⟨#[]⟩, .slice Aq mq Cq] := hphi 2 (hdw 2 (by kernel_rfl))
          have hx3 : xv 3 = .agg #[.int .i64 mk, .string mx, .string my, .slice Am mm Cm] := hphi 3 (hdw 3 (by kernel_rfl))
          have hno : False := hphi 5 (hdw 5 (by kernel_rfl))
          exact hno.elim
         case s7 =>
          have hno : False := hphi 6 (hdw 6 (by kernel_rfl))
          exact hno.elim
         case s8 =>
          have hno : False := hphi 7 (hdw 7 (by kernel_rfl))
          exact hno.elim
        case behind =>
         intro dn xv W hW hall hx hg a ha
         replace hW := hW.undrew
         simp only [fillA] at ha
         simp only [List.setIfInBounds_toArray, List.set_cons_succ, List.set_cons_zero, Nat.zero_add, Nat.reduceAdd] at ha
         subst ha
         exact (hx 5 (by decide) : False).elim
       | ok b l6 =>
        obtain ⟨bk, bx, by', bc⟩ := b
        rw [hb, Rd.bind_ok] at hsp
        have HB2 := Lib.hid hb
        clear hb
        have HSP := Lib.hid hsp
        clear hsp
        go_enter Tryz.func74, Tryz.ntmps74
        go_wp2_with fail
        refine (is_at HST.out.ps HU.out HBB.out).mono ?_
        rintro e w1 ⟨rfl, hb⟩
        replace HST := Lib.hid (HST.out.quiet hb)
        clear hb
        go_wp2_with fail
        refine (HBG2.out _ HST.out.ps).mono ?_
        rintro e w2 ⟨v, rfl, rfl, hps, hbe⟩
        replace HST := Lib.hid (HST.out.read hbe hps)
        clear hps hbe
        unfold tkV
        go_wp2_with fail
        refine (none_any _).mono ?_
        rintro e wo ⟨rfl, hb⟩
        replace HST := Lib.hid (HST.out.quiet hb)
        clear hb
        go_wp2_with fail
        refine (none_any _).mono ?_
        rintro e wp ⟨rfl, hb⟩
        replace HST := Lib.hid (HST.out.quiet hb)
        clear hb
        unfold e0
        have hps0 := HST.out.size
        have hba := (Below.refl wp.heap.size wp).alloc (Nat.le_refl _) (.cells #[.int .i64 33, .string ⟨#[]⟩, .string ⟨#[]⟩, .slice none 0 0] 24)
        have hsa : (wp.alloc (.cells #[.int .i64 33, .string ⟨#[]⟩, .string ⟨#[]⟩, .slice none 0 0] 24)).heap.size = wp.heap.size + 1 := by simp
        have HX3 : Hid (Box4 ((wp.alloc (.cells #[.int .i64 33, .string ⟨#[]⟩, .string ⟨#[]⟩, .slice none 0 0] 24)).alloc (.cells #[.int .i64 33, .string ⟨#[]⟩, .string ⟨#[]⟩, .slice none 0 0] 24)) wp.heap.size 24 (.int .i64 33) (.string ⟨#[]⟩) (.string ⟨#[]⟩) (.slice none 0 0)) := (box4_new wp _ _ _ _ _).later ((Below.refl _ _).alloc (Nat.le_refl _) _)
        have HX4 : Hid (Box4 ((wp.alloc (.cells #[.int .i64 33, .string ⟨#[]⟩, .string ⟨#[]⟩, .slice none 0 0] 24)).alloc (.cells #[.int .i64 33, .string ⟨#[]⟩, .string ⟨#[]⟩, .slice none 0 0] 24)) (wp.heap.size + 1) 24 (.int .i64 33) (.string ⟨#[]⟩) (.string ⟨#[]⟩) (.slice none 0 0)) := by
         have := box4_new (wp.alloc (.cells #[.int .i64 33, .string ⟨#[]⟩, .string ⟨#[]⟩, .slice none 0 0] 24)) 24 (.int .i64 33) (.string ⟨#[]⟩) (.string ⟨#[]⟩) (.slice none 0 0)
         rwa [hsa] at this
        replace HST := Lib.hid ((HST.out.quiet hba).quiet ((Below.refl _ _).alloc (Nat.le_refl _) (.cells #[.int .i64 33, .string ⟨#[]⟩, .string ⟨#[]⟩, .slice none 0 0] 24)))
        have hNPHX3 : wp.heap.size ≠ P := by omega
        have hNPHX4 : wp.heap.size + 1 ≠ P := by omega
        have hg3 := HX3.out.lt
        have hg4 := HX4.out.lt
        clear hba hsa
        go_wp2_with fail
        refine (is_at HST.out.ps HU2.out HE.out).mono ?_
        rintro e w5 ⟨rfl, hb⟩
        replace HST := Lib.hid (HST.out.quiet hb)
        replace HX3 := Lib.hid (HX3.out.later hb)
        replace HX4 := Lib.hid (HX4.out.later hb)
        clear hb
        go_wp2_with fail
        refine (take_any P z _ _ d _ HST.out.ps).mono ?_
        rintro e w6 ⟨v, rfl, rfl, hps, hbe⟩
        replace HST := Lib.hid (HST.out.read hbe hps)
        replace HX3 := Lib.hid (HX3.out.bes hbe hNPHX3)
        replace HX4 := Lib.hid (HX4.out.bes hbe hNPHX4)
        clear hps hbe
        unfold tkV
        have hgs := HST.out.size
        skip
        go_wp2_with fail
        refine (calls_ok (HPA.out _ _ HST.out.ps) HP.out).mono ?_
        rintro e wr ⟨v, rfl, hv, hps, hbe⟩
        obtain ⟨An, Cn, rfl, hf⟩ := mx_new (B0 := w.heap.size + 1) (g := wp.heap.size) (g' := (wp.heap.size + 1)) hv HST.out.size (by have hh3 := HX3.out.lt; have hh4 := HX4.out.lt; omega) (by have hh3 := HX3.out.lt; have hh4 := HX4.out.lt; omega)
        replace HST := Lib.hid (HST.out.read hbe hps)
        replace HX3 := Lib.hid (HX3.out.bes hbe hNPHX3)
        replace HX4 := Lib.hid (HX4.out.bes hbe hNPHX4)
        simp only at hf ⊢
        generalize hm : nc.len = mn at hf ⊢
        have Hmn := Lib.hid hm
        have HFn := Lib.hid hf
        clear hv hps hbe hf hm hgs
        obtain ⟨p0, p1, p2, p3⟩ := HX3.out.frz
        obtain ⟨c0, c1, c2, c3⟩ := HX3.out.cells
        have hz3 := HX3.out.lt
        have hz4 := HX4.out.lt
        replace HST := Lib.hid (HST.out.setg (y := wp.heap.size) (by omega) (.int .i64 nk) (.string nx) (.string ny) (.slice An mn Cn))
        replace HFn := Lib.hid (mx_setg HFn.out (x := wp.heap.size) (by omega) (.int .i64 nk) (.string nx) (.string ny) (.slice An mn Cn))
        replace HX3 := Lib.hid (HX3.out.set4 (.int .i64 nk) (.string nx) (.string ny) (.slice An mn Cn))
        replace HX4 := Lib.hid (HX4.out.setg (y := wp.heap.size) (by omega) (.int .i64 nk) (.string nx) (.string ny) (.slice An mn Cn))
        go_wp2_with fail
        refine (calls_ok (want_at HST.out.ps HU3.out (by decide)) HW.out).mono ?_
        rintro e ww ⟨v, rfl, rfl, hps, hbe⟩
        replace HST := Lib.hid (HST.out.read hbe hps)
        replace HFn := Lib.hid (mx_bes HFn.out hbe hP0)
        replace HX3 := Lib.hid (HX3.out.bes hbe hNPHX3)
        replace HX4 := Lib.hid (HX4.out.bes hbe hNPHX4)
        clear hps hbe
        clear p0 p1 p2 p3 c0 c1 c2 c3 hz3 hz4
        go_wp2_with fail
        refine (calls_ok (name_any P z l2 d _ HST.out.ps) HN.out).mono ?_
        rintro e wn ⟨v, rfl, rfl, hps, hbe⟩
        replace HST := Lib.hid (HST.out.read hbe hps)
        replace HFn := Lib.hid (mx_bes HFn.out hbe hP0)
        replace HX3 := Lib.hid (HX3.out.bes hbe hNPHX3)
        replace HX4 := Lib.hid (HX4.out.bes hbe hNPHX4)
        clear hps hbe
        go_wp2_with fail
        refine (calls_ok (HLI.out _ _ HST.out.ps) HL.out).mono ?_
        rintro e wl ⟨v, rfl, hv, hps, hbe⟩
        obtain ⟨Aq, Cq, rfl, hf⟩ := fv_mx (B0 := w.heap.size + 1) (g := wp.heap.size) (g' := (wp.heap.size + 1)) hv HST.out.size (by have hh3 := HX3.out.lt; have hh4 := HX4.out.lt; omega) (by have hh3 := HX3.out.lt; have hh4 := HX4.out.lt; omega)
        replace HST := Lib.hid (HST.out.read hbe hps)
        replace HFn := Lib.hid (mx_bes HFn.out hbe hP0)
        replace HX3 := Lib.hid (HX3.out.bes hbe hNPHX3)
        replace HX4 := Lib.hid (HX4.out.bes hbe hNPHX4)
        generalize hm : F.len qc = mq at hf ⊢
        have Hmq := Lib.hid hm
        have HFq := Lib.hid hf
        clear hv hps hbe hf hm
        go_wp2_with fail
        refine (node_any 15 ⟨#[]⟩ _ _ _ _).mono ?_
        rintro e wq ⟨rfl, hb⟩
        replace HST := Lib.hid (HST.out.quiet hb)
        replace HFn := Lib.hid (mx_later HFn.out hb hP0)
        replace HFq := Lib.hid (mx_later HFq.out hb hP0)
        replace HX3 := Lib.hid (HX3.out.later hb)
        replace HX4 := Lib.hid (HX4.out.later hb)
        clear hb
        unfold e0
        have HX6 := Lib.hid (box4_new wq 24 (.int .i64 15) (.string ⟨#[]⟩) (.string ⟨#[]⟩) (.slice Aq mq Cq))
        have hq3 := HX3.out.lt
        have hq4 := HX4.out.lt
        have hqR := HST.out.size
        have hNPHX6 : wq.heap.size ≠ P := by omega
        have hNR6 : wq.heap.size ≠ w.heap.size := by omega
        have hb := (Below.refl (wq).heap.size (wq)).alloc (Nat.le_refl _) (.cells #[.int .i64 15, .string ⟨#[]⟩, .string ⟨#[]⟩, .slice Aq mq Cq] 24)
        replace HST := Lib.hid (HST.out.quiet hb)
        replace HFn := Lib.hid (mx_later HFn.out hb hP0)
        replace HFq := Lib.hid (mx_later HFq.out hb hP0)
        replace HX3 := Lib.hid (HX3.out.later hb)
        replace HX4 := Lib.hid (HX4.out.later hb)
        clear hb
        go_wp2_with fail
        refine (is_at HST.out.ps HU4.out HE4.out).mono ?_
        rintro e wd ⟨rfl, hb⟩
        replace HST := Lib.hid (HST.out.quiet hb)
        replace HFn := Lib.hid (mx_later HFn.out hb hP0)
        replace HFq := Lib.hid (mx_later HFq.out hb hP0)
        replace HX3 := Lib.hid (HX3.out.later hb)
        replace HX4 := Lib.hid (HX4.out.later hb)
        replace HX6 := Lib.hid (HX6.out.later hb)
        clear hb
        have hgs := HST.out.size
        skip
        go_wp2_with fail
        refine (calls_ok (HT.out _ _ HST.out.ps) HT2.out).mono ?_
        rintro e wt ⟨v, rfl, hv, hps, hbe⟩
        obtain ⟨Am, Cm, rfl, hf⟩ := mx_new (B0 := w.heap.size + 1) (g := wp.heap.size) (g' := (wp.heap.size + 1)) hv HST.out.size (by have hh3 := HX3.out.lt; have hh4 := HX4.out.lt; omega) (by have hh3 := HX3.out.lt; have hh4 := HX4.out.lt; omega)
        replace HST := Lib.hid (HST.out.read hbe hps)
        replace HFn := Lib.hid (mx_bes HFn.out hbe hP0)
        replace HFq := Lib.hid (mx_bes HFq.out hbe hP0)
        replace HX3 := Lib.hid (HX3.out.bes hbe hNPHX3)
        replace HX4 := Lib.hid (HX4.out.bes hbe hNPHX4)
        replace HX6 := Lib.hid (HX6.out.bes hbe hNPHX6)
        simp only at hf ⊢
        generalize hm : mc.len = mm at hf ⊢
        have Hmm := Lib.hid hm
        have HFm := Lib.hid hf
        clear hv hps hbe hf hm hgs
        obtain ⟨p0, p1, p2, p3⟩ := HX4.out.frz
        obtain ⟨c0, c1, c2, c3⟩ := HX4.out.cells
        have hz3 := HX3.out.lt
        have hz4 := HX4.out.lt
        replace HST := Lib.hid (HST.out.setg (y := (wp.heap.size + 1)) (by omega) (.int .i64 mk) (.string mx) (.string my) (.slice Am mm Cm))
        replace HFn := Lib.hid (mx_setg HFn.out (x := (wp.heap.size + 1)) (by omega) (.int .i64 mk) (.string mx) (.string my) (.slice Am mm Cm))
        replace HFq := Lib.hid (mx_setg HFq.out (x := (wp.heap.size + 1)) (by omega) (.int .i64 mk) (.string mx) (.string my) (.slice Am mm Cm))
        replace HFm := Lib.hid (mx_setg HFm.out (x := (wp.heap.size + 1)) (by omega) (.int .i64 mk) (.string mx) (.string my) (.slice Am mm Cm))
        replace HX3 := Lib.hid (HX3.out.setg (y := (wp.heap.size + 1)) (by omega) (.int .i64 mk) (.string mx) (.string my) (.slice Am mm Cm))
        replace HX4 := Lib.hid (HX4.out.set4 (.int .i64 mk) (.string mx) (.string my) (.slice Am mm Cm))
        replace HX6 := Lib.hid (HX6.out.setg (y := (wp.heap.size + 1)) (by omega) (.int .i64 mk) (.string mx) (.string my) (.slice Am mm Cm))
        go_wp2
        clear p0 p1 p2 p3 c0 c1 c2 c3 hz3 hz4 hq3 hq4 hqR
        generalize ((((wt.setCell ⟨wp.heap.size + 1, 0, none⟩ (.int .i64 mk)).setCell ⟨wp.heap.size + 1, 1, none⟩ (.string mx)).setCell ⟨wp.heap.size + 1, 2, none⟩ (.string my)).setCell ⟨wp.heap.size + 1, 3, none⟩ (.slice Am mm Cm)) = wz at *
        refine region_ph [5, 8] (GN 5 8 P z d l5 l6 (FinYy w.heap.size wp.heap.size (wp.heap.size + 1) (Parse.node 7 s (oneF ⟨nk, nx, ny, nc⟩ (oneF ⟨15, ⟨#[]⟩, ⟨#[]⟩, qc⟩ (oneF ⟨mk, mx, my, mc⟩ (one ⟨bk, bx, by', bc⟩)))))) (BxA w.heap.size)) (Bes2 P (w.heap.size)) [Cd.is (.string s), Cd.is (.agg #[.int .i64 nk, .string nx, .string ny, .slice An mn Cn]), Cd.is (.agg #[.int .i64 15, .string ⟨#[]⟩, .string ⟨#[]⟩, .slice Aq mq Cq]), Cd.is (.agg #[.int .i64 mk, .string mx, .string my, .slice Am mm Cm]), Cd.is (.pointer (some ⟨P, 0, none⟩)), cNdY wp.heap.size (wp.heap.size + 1) hP0 ⟨bk, bx, by', bc⟩, cRowY wp.heap.size (wp.heap.size + 1) hP0 (oneF ⟨nk, nx, ny, nc⟩ (oneF ⟨15, ⟨#[]⟩, ⟨#[]⟩, qc⟩ (oneF ⟨mk, mx, my, mc⟩ (one ⟨bk, bx, by', bc⟩)))), cNdY wp.heap.size (wp.heap.size + 1) hP0 (Parse.node 7 s (oneF ⟨nk, nx, ny, nc⟩ (oneF ⟨15, ⟨#[]⟩, ⟨#[]⟩, qc⟩ (oneF ⟨mk, mx, my, mc⟩ (one ⟨bk, bx, by', bc⟩))))), Cd.any] (by kernel_rfl) (by decide) (by kernel_rfl) (Bes2.refl _ _ _) (fun _ _ _ h k => h.trans k) (fun _ _ h => Bes2.of h) (GN.keep (FinYy.later hP0) BxA.later) ?start ?steps ?behind
        case start =>
         intro x
         exact ⟨fun h => (by cases h), fun _ => HST.out.bx, fun h => (by cases h), fun _ => HST.out.ps.drewN 1⟩
        case steps =>
         intro xv W hW a ha
         replace hW := hW.undrew
         simp only [fillA] at ha
         simp only [List.setIfInBounds_toArray, List.set_cons_succ, List.set_cons_zero, Nat.zero_add, Nat.reduceAdd] at ha
         subst ha
         refine ⟨?s0, ?s1, ?s2, ?s3, ?s4, ?s5, ?s6, ?s7, ?s8, trivial⟩
         all_goals intro dn hdi hdw hcl hphi hg K hK
         all_goals (try simp only [Act.put, List.setIfInBounds_toArray, List.set_cons_succ, List.set_cons_zero] at hK)
         case s0 =>
          clear hphi hdw
          refine (if_pos (by rfl)).mpr ?_
          go_simp
          exact hK.out _ _ (Below.refl _ _) rfl
         case s1 =>
          clear hphi hdw
          refine (if_pos (by rfl)).mpr ?_
          obtain ⟨q0, q1, q2, q3⟩ := (HX3.out.bes2 hW hNPHX3 (by omega)).cells
          go_simp
          exact hK.out _ _ (Below.refl _ _) rfl
         case s2 =>
          clear hphi hdw
          refine (if_pos (by rfl)).mpr ?_
          obtain ⟨q0, q1, q2, q3⟩ := (HX6.out.bes2 hW hNPHX6 (by omega)).cells
          go_simp
          exact hK.out _ _ (Below.refl _ _) rfl
         case s3 =>
          clear hphi hdw
          refine (if_pos (by rfl)).mpr ?_
          obtain ⟨q0, q1, q2, q3⟩ := (HX4.out.bes2 hW hNPHX4 (by omega)).cells
          go_simp
          exact hK.out _ _ (Below.refl _ _) rfl
         case s4 =>
          clear hphi hdw
          refine (if_pos (by rfl)).mpr ?_
          go_simp
          exact hK.out _ _ (Below.refl _ _) rfl
         case s5 =>
          have hx4 : xv 4 = .pointer (some ⟨P, 0, none⟩) := hphi 4 (hdw 4 (by kernel_rfl))
          clear hphi hdw
          rw [hx4] at hK ⊢
          refine (if_pos (by rfl)).mpr ?_
          go_simp
          refine (calls_ok (HBL.out W _ (hg.2.2.2 hdi)) HB2.out).mono ?_
          rintro e W' ⟨v, rfl, hv, hps, hbe⟩
          exact hK.out _ _ ⟨Bes2.bes hbe, GN.call (by decide) hg (notYet hcl hdi (by kernel_rfl)) (fun h => h.bes hbe hRP) hps⟩ (mx_new hv (by have hh := HST.out.size; have hw := hW.size; have hq3 := HX3.out.lt; have hq4 := HX4.out.lt; omega) (by have hh := HST.out.size; have hw := hW.size; have hq3 := HX3.out.lt; have hq4 := HX4.out.lt; omega) (by have hh := HST.out.size; have hw := hW.size; have hq3 := HX3.out.lt; have hq4 := HX4.out.lt; omega))
         case s6 =>
          have hx1 : xv 1 = .agg #[.int .i64 nk, .string nx, .string ny, .slice An mn Cn] := hphi 1 (hdw 1 (by kernel_rfl))
          have hx2 : xv 2 = .agg #[.int .i64 15, .string ⟨#[]⟩, .string ⟨#[]⟩, .slice Aq mq Cq] := hphi 2 (hdw 2 (by kernel_rfl))
          have hx3 : xv 3 = .agg #[.int .i64 mk, .string mx, .string my, .slice Am mm Cm] := hphi 3 (hdw 3 (by kernel_rfl))
          obtain ⟨A5, C5, hx5, hf5⟩ : NdX (w.heap.size + 1) wp.heap.size (wp.heap.size + 1) ⟨bk, bx, by', bc⟩ (xv 5) W := hphi 5 (hdw 5 (by kernel_rfl))
          clear hphi hdw
          rw [hx5] at hK ⊢
          rw [hx1] at hK ⊢
          rw [hx2] at hK ⊢
          rw [hx3] at hK ⊢
          refine (if_pos (by rfl)).mpr ?_
          go_simp
          exact hK.out _ _ ((Below.refl _ _).alloc (Nat.le_refl _) _) (rowX4 W (w.heap.size + 1) wp.heap.size (wp.heap.size + 1) P (by have hh := HST.out.size; have hw := hW.size; have hq3 := HX3.out.lt; have hq4 := HX4.out.lt; omega) (by have hh := HST.out.size; have hw := hW.size; have hq3 := HX3.out.lt; have hq4 := HX4.out.lt; omega) (by have hh := HST.out.size; have hw := hW.size; have hq3 := HX3.out.lt; have hq4 := HX4.out.lt; omega) hP0 nk nx ny nc _ (mxR HFn.out hW hP0) 15 ⟨#[]⟩ ⟨#[]⟩ qc _ (mxR HFq.out hW hP0) mk mx my mc _ (mxR HFm.out hW hP0) bk bx by' bc _ hf5)
         case s7 =>
          have hx0 : xv 0 = .string s := hphi 0 (hdw 0 (by kernel_rfl))
          obtain ⟨A6, C6, hx6, hf6⟩ : RowX (w.heap.size + 1) wp.heap.size (wp.heap.size + 1) (oneF ⟨nk, nx, ny, nc⟩ (oneF ⟨15, ⟨#[]⟩, ⟨#[]⟩, qc⟩ (oneF ⟨mk, mx, my, mc⟩ (one ⟨bk, bx, by', bc⟩)))) (xv 6) W := hphi 6 (hdw 6 (by kernel_rfl))
          clear hphi hdw
          rw [hx6] at hK ⊢
          rw [hx0] at hK ⊢
          refine (if_pos (by rfl)).mpr ?_
          go_simp
          refine (node_any _ _ _ _ _ W).mono ?_
          rintro e W' ⟨rfl, hb⟩
          exact hK.out _ _ hb ⟨A6, C6, rfl, mx_later hf6 hb hP0⟩
         case s8 =>
          obtain ⟨A7, C7, hx7, hf7⟩ : NdX (w.heap.size + 1) wp.heap.size (wp.heap.size + 1) (Parse.node 7 s (oneF ⟨nk, nx, ny, nc⟩ (oneF ⟨15, ⟨#[]⟩, ⟨#[]⟩, qc⟩ (oneF ⟨mk, mx, my, mc⟩ (one ⟨bk, bx, by', bc⟩))))) (xv 7) W := hphi 7 (hdw 7 (by kernel_rfl))
          rw [hx7] at hK ⊢
          refine (if_pos (by rfl)).mpr ?_
          have hds : dn 5 = true := hdw 5 (by kernel_rfl)
          have hbx := hg.2.1 hdi
          obtain ⟨b0, b1, b2, b3, hbx4⟩ := id hbx
          obtain ⟨g0, g1, g2, g3⟩ := hbx4.frz
          obtain ⟨y0, y1, y2, y3⟩ := hbx4.cells
          simp only [Parse.node] at hf7 hK ⊢
          go_simp
          exact hK.out undef _ ⟨Bes2.set4 _ _ _ _ _, GN.store (by decide) (hds) (finY_set hbx4 rfl hf7) (ps_set4 (hg.2.2.1 hds) (by omega) _ _ _ _)⟩ trivial
        case behind =>
         intro dn xv W hW hall hx hg a ha
         replace hW := hW.undrew
         simp only [fillA] at ha
         simp only [List.setIfInBounds_toArray, List.set_cons_succ, List.set_cons_zero, Nat.zero_add, Nat.reduceAdd] at ha
         subst ha
         have hF := hg.1 (hall 8 (by decide))
         have hps := hg.2.2.1 (hall 5 (by decide))
         have hbw := Bes2.back HST.out.bes hW (Nat.le_refl _)
         obtain ⟨A, C, hbx, hpost⟩ := finYRet (w := w) HSP.out hF hps hbw
         have HPO := Lib.hid hpost
         have HBX2 := Lib.hid hbx
         clear hx hF hps hbw hpost hg hall hW hbx
         go_wp2
         refine bodyPost_ret (results_cell_row rfl _ _ w.heap.size 24 _ (0, 0) _ rfl HBX2.out Tryz.underlying24 rfl hi_nd) rfl ?_
         exact HPO.out

theorem func_any (P z : Nat) (l : List Tk) (d : Nat) (w : World) (h : PS w P z l d) (hd : d ≤ 300) :
  Calls Tryz.prog 74 #[.pointer (some ⟨P, 0, none⟩)] w (RPost NV w P z d (funcR z d l)) := by
 cases hr : beg z (isT (Parse.hd z l) [102, 117, 110, 99]) d l with
 | bad p er => exact func_bad P z l d w h hd p er hr
 | ok t l1 =>
  have hd2 : d + 1 ≤ 300 := by have := (beg_ok (isT_ne (by decide)) hr).2.1; omega
  cases he : isT (Parse.hd z l1) [40] with
  | false => exact func_plain P z l d w h hd2 t l1 hr he
  | true => exact func_recv P z l d w h hd2 t l1 hr he
end Go.Proofs.YtaiihnniblibaaaGreatDoor.Parse
