/-
 Layer 6 (parse): a file.
-/
import Derived.Test.YtaiihnniblibaaaGreatDoorParseFile1
namespace Go.Proofs.YtaiihnniblibaaaGreatDoor.Parse
open Go.ChangeShapes Go.WideShapes Go.ChangeAt Go.RowKit Tree MemT Mem
set_option linter.unusedVariables false

theorem OwnS.fs {w : World} {S S' : Nat → Prop} {v : Value} {L : List Nd} (h : OwnS w S v L) (hS : ∀ b, S b → S' b) (hg : ∀ g, v.ownBlock = some g → S' g) : Fs w S' v (ofL' L) := by
 obtain ⟨ps, h1, ho, hf⟩ := h
 rcases ho.2 with ⟨rfl, h0⟩ | ⟨g, cap, cur, rfl, hg0, hg2, q1, q2, q3, q4⟩
 ·rw [List.eq_nil_of_length_eq_zero h0]
  exact ⟨none, 0, rfl, by omega⟩
 ·have e : ofL' L = ofL' (ps.map (·.1)) := by rw [h1]
  rw [e]
  have hc := ho.cells (g := g) rfl
  have ad : ∀ j, (⟨g, 0, none⟩ : Addr).add j = ⟨g, j, none⟩ := fun j => by unfold Addr.add; split <;> simp_all
  refine fs_row' g (hg g rfl) ps 0 L.length cap (by rw [← h1]; simp) q1 q2 (fun j u hu => ?_) (fun p hp => (hf p hp).more hS) _ (.inr rfl)
  have := hc j u hu
  rwa [ad, ← Nat.zero_add j] at this
theorem appF_ofL : ∀ A B : List Nd, appF (ofL' A) (ofL' B) = ofL' (A ++ B)
 | [], B => rfl
 | n :: A, B => by simp only [ofL', oneF, appF, List.cons_append]; rw [appF_ofL A B]
/-- Where file stands: w: the world it was called in. -/
structure FS (w W : World) (P z X : Nat) (l : List Tk) (v : Value) (L : List Nd) : Prop where
 fat : FAt P z 0 (w.heap.size + 2) (w.heap.size + 3) X l v L W
 bes : Bes P w W
 cp : W.cell? ⟨w.heap.size, 0, none⟩ = some (.pointer (some ⟨P, 0, none⟩))
 bx : Box4 W (w.heap.size + 1) 24 (.int .i64 0) (.string ⟨#[]⟩) (.string ⟨#[]⟩) (.slice none 0 0)
 lt : P < w.heap.size
 len : L.length + l.length ≤ 10000000
section
variable {w W W' : World} {P z X : Nat} {l l2 : List Tk} {v v' : Value} {L L2 : List Nd}
theorem FS.move (h : FS w W P z X l v L) (hb : Bel2 P (w.heap.size + 2) (w.heap.size + 3) X W W') (hf : FAt P z 0 (w.heap.size + 2) (w.heap.size + 3) X l2 v' L2 W') (hl : L2.length + l2.length ≤ L.length + l.length) : FS w W' P z X l2 v' L2 := by
 have hlt := h.lt
 have hbl := h.bx.lt
 exact ⟨hf, Bel2.back h.bes hb (by omega) (by omega), (hb.cell (p := ⟨w.heap.size, 0, none⟩) (by show w.heap.size < W.heap.size; omega) (.inl (by show w.heap.size < _; omega)) (by show w.heap.size ≠ P; omega) (by show w.heap.size ≠ _; omega)).trans h.cp,
  (hb.block _ hbl (.inl (by omega)) (by omega) (by omega)).trans h.bx, h.lt, Nat.le_trans hl h.len⟩
theorem FS.later (h : FS w W P z X l v L) (hb : Below W.heap.size W W') : FS w W' P z X l v L := h.move (Bel2.of hb) (h.fat.later hb) (Nat.le_refl _)
/-- A new row of words. -/
theorem FS.words (h : FS w W P z X l v L) (us : List ByteArray) (T : TypeId) (cs : Array Value) (hcs : cs = (us.map Value.string).toArray) (hu : us.length ≤ 100) :
  FS w (W.alloc (.cells cs T)) P z W.heap.size l v L ∧ WordsX W.heap.size (W.alloc (.cells cs T)) (.slice (some ⟨W.heap.size, 0, none⟩) us.length us.length) us := by
 have hb : Below W.heap.size W (W.alloc (.cells cs T)) := (Below.refl _ _).alloc (Nat.le_refl _) _
 have k := h.later hb
 refine ⟨⟨h.fat.newX (Nat.le_refl _) hb (by simp), k.bes, k.cp, k.bx, k.lt, k.len⟩, _, _, rfl, hu, .inr ⟨rfl, fun j u hj => ?_⟩⟩
 rw [World.cell?_alloc_at _ _ _ _ rfl, hcs]
 simp [hj]
theorem rows_cases {V B0 : Nat} {R : Rd F} {e : Ending} (h : RowsPost P z V B0 X l L W R e W') : (∃ p er, R = .bad p er ∧ e = .panicked (pan p er) ∧ Bel2 P V B0 X W W') ∨ (∃ v' L2 l', R = .ok (ofL' L2) l' ∧ e = .returned (.tuple #[]) ∧ FAt P z 0 V B0 X l' v' (L ++ L2) W' ∧ L2.length + l'.length ≤ l.length ∧ Bel2 P V B0 X W W') := by
 cases R with
 | bad p er => exact .inl ⟨p, er, rfl, h.1, h.2⟩
 | ok c l' =>
  obtain ⟨v', L2, h1, h2, h3, h4, h5⟩ := h
  exact .inr ⟨v', L2, l', by rw [h2], h1, h3, h4, h5⟩
end
def mkFile (c : F) : Nd := node 1 ⟨#[]⟩ c
/-- A file, as a node. -/
def fileN (z : Nat) (l : List Tk) : Rd Nd := (fileR z l).bind fun c l => .ok (mkFile c) l
theorem filen_bad {z : Nat} {l : List Tk} {p : Nat} {er : Int} (h : fileR z l = .bad p er) : fileN z l = .bad p er := by unfold fileN; rw [h]; rfl
theorem filen_ok {z : Nat} {l l2 : List Tk} {c : F} (h : fileR z l = .ok c l2) : fileN z l = .ok (mkFile c) l2 := by unfold fileN; rw [h]; rfl

set_option maxHeartbeats 16000000 in
set_option maxRecDepth 100000 in
theorem file_any (P z : Nat) (l : List Tk) (w : World) (h : PS w P z l 0) :
  Calls Tryz.prog 28 #[.pointer (some ⟨P, 0, none⟩)] w (RPost NV w P z 0 (fileN z l)) := by
 have hlt := h.lt
 have hlen := h.len
 have HFS : Hid (FS w (((w.alloc (.cells #[.pointer (some ⟨P, 0, none⟩)] 42)).alloc ndZ).alloc (.cells #[.slice none 0 0] 22)) P z w.heap.size l (.slice none 0 0) []) := by
  have hb0 : Below w.heap.size w (((w.alloc (.cells #[.pointer (some ⟨P, 0, none⟩)] 42)).alloc ndZ).alloc (.cells #[.slice none 0 0] 22)) := (((Below.refl _ _).alloc (Nat.le_refl _) _).alloc (by simp) _).alloc (by simp; omega) _
  refine ⟨⟨OwnS.nil _ _, fun g e => (by cases e), ?_, h.later hb0, ⟨by omega, by omega, by omega, by simp, by simp; omega⟩⟩, Bes.of hb0 P, ?_, ?_, hlt, by simpa using hlen⟩
  ·have := heap_alloc_new ((w.alloc (.cells #[.pointer (some ⟨P, 0, none⟩)] 42)).alloc ndZ) (.cells #[.slice none 0 0] 22)
   rwa [show ((w.alloc (.cells #[.pointer (some ⟨P, 0, none⟩)] 42)).alloc ndZ).heap.size = w.heap.size + 2 by simp] at this
  ·simp [go_sem]
  ·have := (ndz_box (w.alloc (.cells #[.pointer (some ⟨P, 0, none⟩)] 42))).later ((Below.refl _ _).alloc (Nat.le_refl _) (.cells #[.slice none 0 0] 22))
   rwa [show (w.alloc (.cells #[.pointer (some ⟨P, 0, none⟩)] 42)).heap.size = w.heap.size + 1 by simp] at this
 have HU : Hid ((⟨#[112, 97, 99, 107, 97, 103, 101]⟩ : ByteArray).toList = [112, 97, 99, 107, 97, 103, 101]) := by show _ = _; rw [ByteArray.toList_eq]
 have HI : Hid (([(⟨#[105, 109, 112, 111, 114, 116]⟩ : ByteArray)]).map ByteArray.toList = wImp) := by show _ = _; simp only [List.map, ByteArray.toList_eq]; rfl
 have HD : Hid (([(⟨#[99, 111, 110, 115, 116]⟩ : ByteArray), ⟨#[118, 97, 114]⟩, ⟨#[116, 121, 112, 101]⟩, ⟨#[102, 117, 110, 99]⟩]).map ByteArray.toList = wDecl) := by show _ = _; simp only [List.map, ByteArray.toList_eq]; rfl
 have hsp : fileR z l = fileR z l := rfl
 conv at hsp => rhs; unfold fileR
 have HSP := Lib.hid hsp
 clear hsp
 have HBP : Hid (∀ W, w.heap.size + 2 < W → w.heap.size < w.heap.size + 3 ∧ w.heap.size ≠ P ∧ w.heap.size ≠ w.heap.size + 2 ∧ w.heap.size < W) := fun W hW => ⟨by omega, by omega, by omega, by omega⟩
 clear h hlen
 go_enter Tryz.func28, Tryz.ntmps28
 go_wp2_with fail
 refine (file1_any P z (w.heap.size + 2) (w.heap.size + 3) w.heap.size w.heap.size [] (.slice none 0 0) _ l _ _ HFS.out.fat HFS.out.len ⟨none, 0, rfl, by simp, .inl rfl⟩ ⟨by have := HFS.out.lt; have := HFS.out.bx.lt; omega, by have := HFS.out.fat.box.lt; omega⟩ HFS.out.cp (HBP.out _ HFS.out.fat.box.lt)).mono ?_
 intro e W1 hp
 rw [show (List.map ByteArray.toList ([] : List ByteArray)) = [] from rfl] at hp
 rcases rows_cases hp with ⟨p, er, hR, rfl, hb⟩ | ⟨v1, L1, l1, hR, rfl, hf, hl, hb⟩
 ·have hsp := HSP.out
  rw [hR, Rd.bind_bad] at hsp
  have HE := Lib.hid (Bel2.back HFS.out.bes hb (by omega) (by omega))
  have HS9 := Lib.hid (filen_bad hsp)
  clear hp hb hR hsp
  go_wp2
  exact ⟨rfl, rpost_bad HS9.out HE.out⟩
 have hsp := HSP.out
 rw [hR, Rd.bind_ok] at hsp
 replace HSP := Lib.hid hsp
 replace HFS := Lib.hid (HFS.out.move hb hf (by rw [List.length_append]; omega))
 clear hp hb hf hR hsp hl
 obtain ⟨bt1, hbt⟩ : ∃ bt, isT (Parse.hd z l1) [112, 97, 99, 107, 97, 103, 101] = bt := ⟨_, rfl⟩
 have HBT := Lib.hid hbt
 have hsp := HSP.out
 rw [hbt] at hsp
 clear hbt
 cases bt1 with
 | false =>
  rw [must_bad rfl, Rd.bind_bad] at hsp
  have HS9 := Lib.hid (filen_bad hsp)
  clear hsp
  go_wp2
  refine region_rel (fun W W' => Below W.heap.size W W') [Cd.is (.pointer (some ⟨P, 0, none⟩)), Cd.is (.pointer (some ⟨P, 0, none⟩)), Cd.is (.pointer (some ⟨P, 0, none⟩)), Cd.is (.pointer (some ⟨P, 0, none⟩)), Cd.is (.pointer (some ⟨P, 0, none⟩)), Cd.is (.pointer (some ⟨P, 0, none⟩)), Cd.is (.bool false), ⟨fun _ _ => False, fun _ _ _ _ h => h⟩] (by kernel_rfl) (by decide) (by kernel_rfl) (Below.refl _ _) (fun _ _ _ h k => h.trans (k.mono h.size)) ?steps ?behind
  case steps =>
   intro xv W hW a ha
   replace hW := undrew hW
   simp only [fillA] at ha
   simp only [List.setIfInBounds_toArray, List.set_cons_succ, List.set_cons_zero, Nat.zero_add, Nat.reduceAdd] at ha
   subst ha
   refine ⟨?s0, ?s1, ?s2, ?s3, ?s4, ?s5, ?s6, ?s7, trivial⟩
   all_goals intro hd K hK
   all_goals (try simp only [Act.put, List.setIfInBounds_toArray, List.set_cons_succ, List.set_cons_zero] at hK)
   case s0 =>
    clear hd
    refine (if_pos (by rfl)).mpr ?_
    have hbp := (hW.cell (p := ⟨w.heap.size, 0, none⟩) (by show w.heap.size < W1.heap.size; have := HFS.out.bx.lt; omega)).trans HFS.out.cp
    go_simp
    exact hK.out _ _ (Below.refl _ _) rfl
   case s1 =>
    have hx0 : xv 0 = .pointer (some ⟨P, 0, none⟩) := hd 0 (by kernel_rfl)
    clear hd
    rw [hx0] at hK ⊢
    refine (if_pos (by rfl)).mpr ?_
    go_simp
    exact hK.out _ _ (Below.refl _ _) rfl
   case s2 =>
    have hx1 : xv 1 = .pointer (some ⟨P, 0, none⟩) := hd 1 (by kernel_rfl)
    clear hd
    rw [hx1] at hK ⊢
    refine (if_pos (by rfl)).mpr ?_
    go_simp
    exact hK.out _ _ (Below.refl _ _) rfl
   case s3 =>
    clear hd
    refine (if_pos (by rfl)).mpr ?_
    have hbp := (hW.cell (p := ⟨w.heap.size, 0, none⟩) (by show w.heap.size < W1.heap.size; have := HFS.out.bx.lt; omega)).trans HFS.out.cp
    go_simp
    exact hK.out _ _ (Below.refl _ _) rfl
   case s4 =>
    have hx3 : xv 3 = .pointer (some ⟨P, 0, none⟩) := hd 3 (by kernel_rfl)
    clear hd
    rw [hx3] at hK ⊢
    refine (if_pos (by rfl)).mpr ?_
    go_simp
    exact hK.out _ _ (Below.refl _ _) rfl
   case s5 =>
    have hx4 : xv 4 = .pointer (some ⟨P, 0, none⟩) := hd 4 (by kernel_rfl)
    clear hd
    rw [hx4] at hK ⊢
    refine (if_pos (by rfl)).mpr ?_
    go_simp
    exact hK.out _ _ (Below.refl _ _) rfl
   case s6 =>
    have hx5 : xv 5 = .pointer (some ⟨P, 0, none⟩) := hd 5 (by kernel_rfl)
    clear hd
    rw [hx5] at hK ⊢
    refine (if_pos (by rfl)).mpr ?_
    go_simp
    refine (is_at (HFS.out.fat.ps.later hW) HU.out HBT.out).mono ?_
    rintro e W' ⟨rfl, hb⟩
    exact hK.out _ _ hb rfl
   case s7 =>
    have hx2 : xv 2 = .pointer (some ⟨P, 0, none⟩) := hd 2 (by kernel_rfl)
    have hx6 : xv 6 = .bool false := hd 6 (by kernel_rfl)
    clear hd
    rw [hx2] at hK ⊢
    rw [hx6] at hK ⊢
    refine (if_pos (by rfl)).mpr ?_
    go_simp
    refine (must_no P z _ 0 W (HFS.out.fat.ps.later hW)).mono ?_
    rintro e W' ⟨rfl, hb⟩
    exact ⟨rfl, rpost_bad HS9.out ((HFS.out.bes.then_ hW).then_ hb)⟩
  case behind =>
   intro xv W hW hx a ha
   replace hW := undrew hW
   simp only [fillA] at ha
   simp only [List.setIfInBounds_toArray, List.set_cons_succ, List.set_cons_zero, Nat.zero_add, Nat.reduceAdd] at ha
   subst ha
   exact (hx 7 (by decide) : False).elim
 | true =>
 rw [must_ok rfl, Rd.bind_ok] at hsp
 replace HSP := Lib.hid hsp
 clear hsp
 go_wp2
 refine region_rel (fun W W' => Below W.heap.size W W') [Cd.is (.pointer (some ⟨P, 0, none⟩)), Cd.is (.pointer (some ⟨P, 0, none⟩)), Cd.is (.pointer (some ⟨P, 0, none⟩)), Cd.is (.pointer (some ⟨P, 0, none⟩)), Cd.is (.pointer (some ⟨P, 0, none⟩)), Cd.is (.pointer (some ⟨P, 0, none⟩)), Cd.is (.bool true), Cd.any] (by kernel_rfl) (by decide) (by kernel_rfl) (Below.refl _ _) (fun _ _ _ h k => h.trans (k.mono h.size)) ?steps ?behind
 case steps =>
  intro xv W hW a ha
  replace hW := undrew hW
  simp only [fillA] at ha
  simp only [List.setIfInBounds_toArray, List.set_cons_succ, List.set_cons_zero, Nat.zero_add, Nat.reduceAdd] at ha
  subst ha
  refine ⟨?s0, ?s1, ?s2, ?s3, ?s4, ?s5, ?s6, ?s7, trivial⟩
  all_goals intro hd K hK
  all_goals (try simp only [Act.put, List.setIfInBounds_toArray, List.set_cons_succ, List.set_cons_zero] at hK)
  case s0 =>
   clear hd
   refine (if_pos (by rfl)).mpr ?_
   have hbp := (hW.cell (p := ⟨w.heap.size, 0, none⟩) (by show w.heap.size < W1.heap.size; have := HFS.out.bx.lt; omega)).trans HFS.out.cp
   go_simp
   exact hK.out _ _ (Below.refl _ _) rfl
  case s1 =>
   have hx0 : xv 0 = .pointer (some ⟨P, 0, none⟩) := hd 0 (by kernel_rfl)
   clear hd
   rw [hx0] at hK ⊢
   refine (if_pos (by rfl)).mpr ?_
   go_simp
   exact hK.out _ _ (Below.refl _ _) rfl
  case s2 =>
   have hx1 : xv 1 = .pointer (some ⟨P, 0, none⟩) := hd 1 (by kernel_rfl)
   clear hd
   rw [hx1] at hK ⊢
   refine (if_pos (by rfl)).mpr ?_
   go_simp
   exact hK.out _ _ (Below.refl _ _) rfl
  case s3 =>
   clear hd
   refine (if_pos (by rfl)).mpr ?_
   have hbp := (hW.cell (p := ⟨w.heap.size, 0, none⟩) (by show w.heap.size < W1.heap.size; have := HFS.out.bx.lt; omega)).trans HFS.out.cp
   go_simp
   exact hK.out _ _ (Below.refl _ _) rfl
  case s4 =>
   have hx3 : xv 3 = .pointer (some ⟨P, 0, none⟩) := hd 3 (by kernel_rfl)
   clear hd
   rw [hx3] at hK ⊢
   refine (if_pos (by rfl)).mpr ?_
   go_simp
   exact hK.out _ _ (Below.refl _ _) rfl
  case s5 =>
   have hx4 : xv 4 = .pointer (some ⟨P, 0, none⟩) := hd 4 (by kernel_rfl)
   clear hd
   rw [hx4] at hK ⊢
   refine (if_pos (by rfl)).mpr ?_
   go_simp
   exact hK.out _ _ (Below.refl _ _) rfl
  case s6 =>
   have hx5 : xv 5 = .pointer (some ⟨P, 0, none⟩) := hd 5 (by kernel_rfl)
   clear hd
   rw [hx5] at hK ⊢
   refine (if_pos (by rfl)).mpr ?_
   go_simp
   refine (is_at (HFS.out.fat.ps.later hW) HU.out HBT.out).mono ?_
   rintro e W' ⟨rfl, hb⟩
   exact hK.out _ _ hb rfl
  case s7 =>
   have hx2 : xv 2 = .pointer (some ⟨P, 0, none⟩) := hd 2 (by kernel_rfl)
   have hx6 : xv 6 = .bool true := hd 6 (by kernel_rfl)
   clear hd
   rw [hx2] at hK ⊢
   rw [hx6] at hK ⊢
   refine (if_pos (by rfl)).mpr ?_
   go_simp
   refine (must_yes P W).mono ?_
   rintro e W' ⟨rfl, rfl⟩
   exact hK.out _ _ (Below.refl _ _) trivial
 case behind =>
  intro xv W hW hx a ha
  replace hW := undrew hW
  simp only [fillA] at ha
  simp only [List.setIfInBounds_toArray, List.set_cons_succ, List.set_cons_zero, Nat.zero_add, Nat.reduceAdd] at ha
  subst ha
  replace HFS := Lib.hid (HFS.out.later hW)
  rename World => W11
  clear hx hW HBT
  have HIT : Hid (∀ W, PS W P z l1 0 → Calls Tryz.prog 47 #[.pointer (some ⟨P, 0, none⟩), .func (.func 48) #[.pointer (some ⟨P, 0, none⟩)] #[]] W (RPost NV W P z 0 (item z (declR z) 0 l1))) :=
   fun W hW => item_any P z (l1.length + 1) _ (declR z) l1 0 W hW (reads_of W ent_decl (decl_rd P z _)) (Nat.lt_succ_self _) (by omega)
  obtain ⟨a9, c9, rfl, -, -⟩ := HFS.out.fat.own.slice
  have hLL := HFS.out.len
  generalize hLs : [] ++ L1 = Lr at *
  have HLS := Lib.hid hLs
  clear hLs
  cases hr : item z (declR z) 0 l1 with
  | bad p2 er =>
   have hsp := HSP.out
   rw [hr, Rd.bind_bad] at hsp
   have HS9 := Lib.hid (filen_bad hsp)
   have HR := Lib.hid hr
   clear hsp hr
   go_wp2
   have HFA := Lib.hid HFS.out.fat
   refine region_ph [4, 6, 7, 8, 9, 10] (FG P z 0 (w.heap.size + 2) (w.heap.size + 3) w.heap.size l1 l1 zN (.slice a9 Lr.length c9) (Lr)) (Bel2 P (w.heap.size + 2) (w.heap.size + 3) w.heap.size) [Cd.is (.slice a9 Lr.length c9), Cd.is (.pointer (some ⟨P, 0, none⟩)), Cd.is (.pointer (some ⟨P, 0, none⟩)), Cd.is (.func (.func 48) #[.pointer (some ⟨P, 0, none⟩)] #[]), cNo2, Cd.is (.int .i64 (Lr.length : Int)), Cd.any, Cd.any, Cd.any, Cd.any, Cd.any] (by kernel_rfl) (by decide) (by kernel_rfl) (Bel2.refl _ _ _ _ _) (fun _ _ _ h k => h.trans k) (fun _ _ h => Bel2.of h) FG.keep ?start ?steps ?behind
   case start => exact fun x => FG.start (HFA.out.later ((Below.refl _ _).drew))
   case steps =>
    intro xv W hW a ha
    replace hW := hW.undrew
    simp only [fillA] at ha
    simp only [List.setIfInBounds_toArray, List.set_cons_succ, List.set_cons_zero, Nat.zero_add, Nat.reduceAdd] at ha
    subst ha
    refine ⟨?s0, ?s1, ?s2, ?s3, ?s4, ?s5, ?s6, ?s7, ?s8, ?s9, ?s10, trivial⟩
    all_goals intro dn hdi hdw hcl hphi hg K hK
    all_goals (try simp only [Act.put, List.setIfInBounds_toArray, List.set_cons_succ, List.set_cons_zero] at hK)
    case s0 =>
     have hb10 : dn 10 = false := notYet hcl hdi (by kernel_rfl)
     have hbc : W.cell? ⟨w.heap.size + 1 + 1, 0, none⟩ = _ := (hg.var hb10).cell
     clear hphi hdw
     refine (if_pos (by rfl)).mpr ?_
     go_simp
     exact hK.out _ _ (Below.refl _ _) rfl
    case s1 =>
     have hbp := (hW.cell (p := ⟨w.heap.size, 0, none⟩) (by show w.heap.size < W11.heap.size; have := HFS.out.bx.lt; omega) (.inl (by show w.heap.size < _; omega)) (by show w.heap.size ≠ P; omega) (by show w.heap.size ≠ _; omega)).trans HFS.out.cp
     clear hphi hdw
     refine (if_pos (by rfl)).mpr ?_
     go_simp
     exact hK.out _ _ (Below.refl _ _) rfl
    case s2 =>
     have hbp := (hW.cell (p := ⟨w.heap.size, 0, none⟩) (by show w.heap.size < W11.heap.size; have := HFS.out.bx.lt; omega) (.inl (by show w.heap.size < _; omega)) (by show w.heap.size ≠ P; omega) (by show w.heap.size ≠ _; omega)).trans HFS.out.cp
     clear hphi hdw
     refine (if_pos (by rfl)).mpr ?_
     go_simp
     exact hK.out _ _ (Below.refl _ _) rfl
    case s3 =>
     have hx2 : xv 2 = .pointer (some ⟨P, 0, none⟩) := hphi 2 (hdw 2 (by kernel_rfl))
     clear hphi hdw
     rw [hx2] at hK ⊢
     refine (if_pos (by rfl)).mpr ?_
     go_simp
     exact hK.out _ _ (Below.refl _ _) rfl
    case s4 =>
     have hx1 : xv 1 = .pointer (some ⟨P, 0, none⟩) := hphi 1 (hdw 1 (by kernel_rfl))
     have hx3 : xv 3 = .func (.func 48) #[.pointer (some ⟨P, 0, none⟩)] #[] := hphi 3 (hdw 3 (by kernel_rfl))
     clear hphi hdw
     rw [hx1] at hK ⊢
     rw [hx3] at hK ⊢
     refine (if_pos (by rfl)).mpr ?_
     go_simp
     refine (calls_bad (HIT.out W (hg.ps hdi)) HR.out).mono ?_
     rintro e W' ⟨rfl, hbe⟩
     exact ⟨rfl, rpost_bad HS9.out (Bel2.back HFS.out.bes (hW.trans (Bel2.bes hbe)) (by omega) (by omega))⟩
    case s5 =>
     have hx0 : xv 0 = .slice a9 Lr.length c9 := hphi 0 (hdw 0 (by kernel_rfl))
     clear hphi hdw
     rw [hx0] at hK ⊢
     refine (if_pos (by rfl)).mpr ?_
     go_simp
     exact hK.out _ _ (Below.refl _ _) rfl
    case s6 =>
     clear hphi hdw
     refine (if_pos (by rfl)).mpr ?_
     go_simp
     exact hK.out _ _ ⟨Bel2.of ((Below.refl _ _).alloc (Nat.le_refl _) _), hg.lay hdi⟩ trivial
    case s7 =>
     have hx0 : xv 0 = .slice a9 Lr.length c9 := hphi 0 (hdw 0 (by kernel_rfl))
     have h6 : dn 6 = true := hdw 6 (by kernel_rfl)
     have h8 : dn 8 = false := notYet hcl hdi (by kernel_rfl)
     have h9 : dn 9 = false := notYet hcl hdi (by kernel_rfl)
     have h10 : dn 10 = false := notYet hcl hdi (by kernel_rfl)
     obtain ⟨b, hx6, hB, hl, c0, c1, c2, c3⟩ := hg.laid h6 hdi
     have hbf := hg.before hdi
     clear hphi hdw
     rw [hx0] at hK ⊢
     rw [hx6] at hK ⊢
     refine (if_pos (by rfl)).mpr ?_
     refine wp_app_own _ _ rfl (Kd (w.heap.size + 3) W (.slice a9 Lr.length c9)) (.slice a9 Lr.length c9) Lr b 1 zN (.slice none 0 0) rfl rfl ⟨c0, c1, c2, c3⟩ hbf.1 nil_fs (fun b hb => ⟨hb.2.1, hb.2.2⟩) (by omega) ?_
     intro v' w' r1 r2 r3
     exact hK.out _ _ ⟨Bel2.own r2 hbf.2, hg.app hdi h8 h9 h10 r1 r2 r3⟩ trivial
    case s8 =>
     have hx5 : xv 5 = .int .i64 (Lr.length : Int) := hphi 5 (hdw 5 (by kernel_rfl))
     have h7 : dn 7 = true := hdw 7 (by kernel_rfl)
     obtain ⟨g, C, hx7, hB⟩ := hg.form h7
     clear hphi hdw
     rw [hx5] at hK ⊢
     rw [hx7] at hK ⊢
     refine (if_pos (by rfl)).mpr ?_
     have hlt5 : (Lr.length : Int) < (Lr.length : Int) + 1 := by omega
     go_simp
     exact hK.out (.pointer (some ⟨g, Lr.length * 4, none⟩)) _ ⟨Bel2.refl _ _ _ _ _, hg.addr h7 hx7⟩ trivial
    case s9 =>
     have hno : False := hphi 4 (hdw 4 (by kernel_rfl))
     exact hno.elim
    case s10 =>
     have h7 : dn 7 = true := hdw 7 (by kernel_rfl)
     obtain ⟨g, C, hx7, hB⟩ := hg.form h7
     have hbx := hg.var hdi
     have hbc : W.cell? ⟨w.heap.size + 1 + 1, 0, none⟩ = _ := hbx.cell
     have hbf : W.frozen? ⟨w.heap.size + 1 + 1, 0, none⟩ = _ := hbx.frz
     clear hphi hdw
     rw [hx7] at hK ⊢
     refine (if_pos (by rfl)).mpr ?_
     go_simp
     exact hK.out undef _ ⟨Bel2.grown (grown_set W (w.heap.size + 2) _), hg.set h7 hx7⟩ trivial
   case behind =>
    intro dn xv W hW hall hx hg a ha
    replace hW := hW.undrew
    simp only [fillA] at ha
    simp only [List.setIfInBounds_toArray, List.set_cons_succ, List.set_cons_zero, Nat.zero_add, Nat.reduceAdd] at ha
    subst ha
    exact (hx 4 (by decide) : False).elim
  | ok n l2 =>
   have hsp := HSP.out
   rw [hr, Rd.bind_ok] at hsp
   replace HSP := Lib.hid hsp
   have hdl : l2.length < l1.length := decl_item_dec z 0 l1 _ l2 hr
   have HR := Lib.hid hr
   obtain ⟨nk, nx, ny, nc⟩ := n
   clear hsp hr
   go_wp2
   have HFA := Lib.hid HFS.out.fat
   refine region_ph [4, 6, 7, 8, 9, 10] (FG P z 0 (w.heap.size + 2) (w.heap.size + 3) w.heap.size l1 l2 ⟨nk, nx, ny, nc⟩ (.slice a9 Lr.length c9) (Lr)) (Bel2 P (w.heap.size + 2) (w.heap.size + 3) w.heap.size) [Cd.is (.slice a9 Lr.length c9), Cd.is (.pointer (some ⟨P, 0, none⟩)), Cd.is (.pointer (some ⟨P, 0, none⟩)), Cd.is (.func (.func 48) #[.pointer (some ⟨P, 0, none⟩)] #[]), Cd.any, Cd.is (.int .i64 (Lr.length : Int)), Cd.any, Cd.any, Cd.any, Cd.any, Cd.any] (by kernel_rfl) (by decide) (by kernel_rfl) (Bel2.refl _ _ _ _ _) (fun _ _ _ h k => h.trans k) (fun _ _ h => Bel2.of h) FG.keep ?start ?steps ?behind
   case start => exact fun x => FG.start (HFA.out.later ((Below.refl _ _).drew))
   case steps =>
    intro xv W hW a ha
    replace hW := hW.undrew
    simp only [fillA] at ha
    simp only [List.setIfInBounds_toArray, List.set_cons_succ, List.set_cons_zero, Nat.zero_add, Nat.reduceAdd] at ha
    subst ha
    refine ⟨?s0, ?s1, ?s2, ?s3, ?s4, ?s5, ?s6, ?s7, ?s8, ?s9, ?s10, trivial⟩
    all_goals intro dn hdi hdw hcl hphi hg K hK
    all_goals (try simp only [Act.put, List.setIfInBounds_toArray, List.set_cons_succ, List.set_cons_zero] at hK)
    case s0 =>
     have hb10 : dn 10 = false := notYet hcl hdi (by kernel_rfl)
     have hbc : W.cell? ⟨w.heap.size + 1 + 1, 0, none⟩ = _ := (hg.var hb10).cell
     clear hphi hdw
     refine (if_pos (by rfl)).mpr ?_
     go_simp
     exact hK.out _ _ (Below.refl _ _) rfl
    case s1 =>
     have hbp := (hW.cell (p := ⟨w.heap.size, 0, none⟩) (by show w.heap.size < W11.heap.size; have := HFS.out.bx.lt; omega) (.inl (by show w.heap.size < _; omega)) (by show w.heap.size ≠ P; omega) (by show w.heap.size ≠ _; omega)).trans HFS.out.cp
     clear hphi hdw
     refine (if_pos (by rfl)).mpr ?_
     go_simp
     exact hK.out _ _ (Below.refl _ _) rfl
    case s2 =>
     have hbp := (hW.cell (p := ⟨w.heap.size, 0, none⟩) (by show w.heap.size < W11.heap.size; have := HFS.out.bx.lt; omega) (.inl (by show w.heap.size < _; omega)) (by show w.heap.size ≠ P; omega) (by show w.heap.size ≠ _; omega)).trans HFS.out.cp
     clear hphi hdw
     refine (if_pos (by rfl)).mpr ?_
     go_simp
     exact hK.out _ _ (Below.refl _ _) rfl
    case s3 =>
     have hx2 : xv 2 = .pointer (some ⟨P, 0, none⟩) := hphi 2 (hdw 2 (by kernel_rfl))
     clear hphi hdw
     rw [hx2] at hK ⊢
     refine (if_pos (by rfl)).mpr ?_
     go_simp
     exact hK.out _ _ (Below.refl _ _) rfl
    case s4 =>
     have hx1 : xv 1 = .pointer (some ⟨P, 0, none⟩) := hphi 1 (hdw 1 (by kernel_rfl))
     have hx3 : xv 3 = .func (.func 48) #[.pointer (some ⟨P, 0, none⟩)] #[] := hphi 3 (hdw 3 (by kernel_rfl))
     clear hphi hdw
     rw [hx1] at hK ⊢
     rw [hx3] at hK ⊢
     refine (if_pos (by rfl)).mpr ?_
     go_simp
     refine (calls_ok (HIT.out W (hg.ps hdi)) HR.out).mono ?_
     rintro e W' ⟨v4, rfl, hv, hps, hbe⟩
     exact hK.out _ _ ⟨Bel2.bes hbe, hg.call hdi hv hps hbe⟩ trivial
    case s5 =>
     have hx0 : xv 0 = .slice a9 Lr.length c9 := hphi 0 (hdw 0 (by kernel_rfl))
     clear hphi hdw
     rw [hx0] at hK ⊢
     refine (if_pos (by rfl)).mpr ?_
     go_simp
     exact hK.out _ _ (Below.refl _ _) rfl
    case s6 =>
     clear hphi hdw
     refine (if_pos (by rfl)).mpr ?_
     go_simp
     exact hK.out _ _ ⟨Bel2.of ((Below.refl _ _).alloc (Nat.le_refl _) _), hg.lay hdi⟩ trivial
    case s7 =>
     have hx0 : xv 0 = .slice a9 Lr.length c9 := hphi 0 (hdw 0 (by kernel_rfl))
     have h6 : dn 6 = true := hdw 6 (by kernel_rfl)
     have h8 : dn 8 = false := notYet hcl hdi (by kernel_rfl)
     have h9 : dn 9 = false := notYet hcl hdi (by kernel_rfl)
     have h10 : dn 10 = false := notYet hcl hdi (by kernel_rfl)
     obtain ⟨b, hx6, hB, hl, c0, c1, c2, c3⟩ := hg.laid h6 hdi
     have hbf := hg.before hdi
     clear hphi hdw
     rw [hx0] at hK ⊢
     rw [hx6] at hK ⊢
     refine (if_pos (by rfl)).mpr ?_
     refine wp_app_own _ _ rfl (Kd (w.heap.size + 3) W (.slice a9 Lr.length c9)) (.slice a9 Lr.length c9) Lr b 1 zN (.slice none 0 0) rfl rfl ⟨c0, c1, c2, c3⟩ hbf.1 nil_fs (fun b hb => ⟨hb.2.1, hb.2.2⟩) (by omega) ?_
     intro v' w' r1 r2 r3
     exact hK.out _ _ ⟨Bel2.own r2 hbf.2, hg.app hdi h8 h9 h10 r1 r2 r3⟩ trivial
    case s8 =>
     have hx5 : xv 5 = .int .i64 (Lr.length : Int) := hphi 5 (hdw 5 (by kernel_rfl))
     have h7 : dn 7 = true := hdw 7 (by kernel_rfl)
     obtain ⟨g, C, hx7, hB⟩ := hg.form h7
     clear hphi hdw
     rw [hx5] at hK ⊢
     rw [hx7] at hK ⊢
     refine (if_pos (by rfl)).mpr ?_
     have hlt5 : (Lr.length : Int) < (Lr.length : Int) + 1 := by omega
     go_simp
     exact hK.out (.pointer (some ⟨g, Lr.length * 4, none⟩)) _ ⟨Bel2.refl _ _ _ _ _, hg.addr h7 hx7⟩ trivial
    case s9 =>
     have h4 : dn 4 = true := hdw 4 (by kernel_rfl)
     have h8 : dn 8 = true := hdw 8 (by kernel_rfl)
     have h7 : dn 7 = true := hcl 8 7 h8 (by kernel_rfl)
     obtain ⟨g, C, hx7, hB⟩ := hg.form h7
     obtain ⟨An, Cn, hx4⟩ := hg.node h4
     have hx8 := hg.at8 h8 hx7
     clear hphi hdw
     rw [hx4] at hK ⊢
     rw [hx7] at hK ⊢
     rw [hx8] at hK ⊢
     refine (if_pos (by rfl)).mpr ?_
     obtain ⟨⟨kz, xz, yz, sz, z0, z1, z2, z3⟩, y0, y1, y2, y3⟩ := hg.cells h7 hx7
     have hput := hg.put (u := undef) h4 h7 hdi hx7 hx4
     unfold put4 at hput
     go_simp
     exact hK.out undef _ ⟨Bel2.own (put4_grown W g Lr.length _ _ _ _) (fun k e => by obtain rfl := Option.some.inj e; exact hB), hput⟩ trivial
    case s10 =>
     have h7 : dn 7 = true := hdw 7 (by kernel_rfl)
     obtain ⟨g, C, hx7, hB⟩ := hg.form h7
     have hbx := hg.var hdi
     have hbc : W.cell? ⟨w.heap.size + 1 + 1, 0, none⟩ = _ := hbx.cell
     have hbf : W.frozen? ⟨w.heap.size + 1 + 1, 0, none⟩ = _ := hbx.frz
     clear hphi hdw
     rw [hx7] at hK ⊢
     refine (if_pos (by rfl)).mpr ?_
     go_simp
     exact hK.out undef _ ⟨Bel2.grown (grown_set W (w.heap.size + 2) _), hg.set h7 hx7⟩ trivial
   case behind =>
    intro dn xv W hW hall hx hg a ha
    replace hW := hW.undrew
    simp only [fillA] at ha
    simp only [List.setIfInBounds_toArray, List.set_cons_succ, List.set_cons_zero, Nat.zero_add, Nat.reduceAdd] at ha
    subst ha
    have HFE := Lib.hid (hg.end_ fun i hi => hall i hi)
    have HWE := Lib.hid hW
    clear hx hg hall hW
    replace HFS := Lib.hid (HFS.out.move HWE.out HFE.out (by simp; omega))
    generalize xv 7 = v2 at *
    rename World => W2
    clear HFE HWE HFA HIT HR hLL hdl
    have hsz := HFS.out.fat.box.lt
    obtain ⟨hq1, hq2⟩ := HFS.out.words [⟨#[105, 109, 112, 111, 114, 116]⟩] 9 #[.string ⟨#[105, 109, 112, 111, 114, 116]⟩] rfl (by decide)
    replace HFS := Lib.hid hq1
    have HWD := Lib.hid hq2
    clear hq1 hq2
    go_wp2_with fail
    refine (file1_any P z (w.heap.size + 2) (w.heap.size + 3) W2.heap.size w.heap.size [⟨#[105, 109, 112, 111, 114, 116]⟩] _ _ l2 _ _ HFS.out.fat HFS.out.len HWD.out ⟨by have := HFS.out.lt; have := HFS.out.bx.lt; omega, by have := HFS.out.fat.box.lt; omega⟩ HFS.out.cp (HBP.out _ HFS.out.fat.box.lt)).mono ?_
    intro e W3 hp
    rw [HI.out] at hp
    rcases rows_cases hp with ⟨p, er, hR, rfl, hb⟩ | ⟨vb, Lb, lb, hR, rfl, hf, hl, hb⟩
    ·have hsp := HSP.out
     rw [hR, Rd.bind_bad] at hsp
     have HE := Lib.hid (Bel2.back HFS.out.bes hb (by omega) (by omega))
     have HS9 := Lib.hid (filen_bad hsp)
     clear hp hb hR hsp
     go_wp2
     exact ⟨rfl, rpost_bad HS9.out HE.out⟩
    have hsp := HSP.out
    rw [hR, Rd.bind_ok] at hsp
    replace HSP := Lib.hid hsp
    replace HFS := Lib.hid (HFS.out.move hb hf (by rw [List.length_append]; omega))
    clear hp hb hf hR hsp hl
    clear hsz HWD
    have hsz := HFS.out.fat.box.lt
    obtain ⟨hq1, hq2⟩ := HFS.out.words [⟨#[99, 111, 110, 115, 116]⟩, ⟨#[118, 97, 114]⟩, ⟨#[116, 121, 112, 101]⟩, ⟨#[102, 117, 110, 99]⟩] 9 #[.string ⟨#[99, 111, 110, 115, 116]⟩, .string ⟨#[118, 97, 114]⟩, .string ⟨#[116, 121, 112, 101]⟩, .string ⟨#[102, 117, 110, 99]⟩] rfl (by decide)
    replace HFS := Lib.hid hq1
    have HWD := Lib.hid hq2
    clear hq1 hq2
    go_wp2_with fail
    refine (file1_any P z (w.heap.size + 2) (w.heap.size + 3) W3.heap.size w.heap.size [⟨#[99, 111, 110, 115, 116]⟩, ⟨#[118, 97, 114]⟩, ⟨#[116, 121, 112, 101]⟩, ⟨#[102, 117, 110, 99]⟩] _ _ lb _ _ HFS.out.fat HFS.out.len HWD.out ⟨by have := HFS.out.lt; have := HFS.out.bx.lt; omega, by have := HFS.out.fat.box.lt; omega⟩ HFS.out.cp (HBP.out _ HFS.out.fat.box.lt)).mono ?_
    intro e W4 hp
    rw [HD.out] at hp
    rcases rows_cases hp with ⟨p, er, hR, rfl, hb⟩ | ⟨vc, Lc, lc, hR, rfl, hf, hl, hb⟩
    ·have hsp := HSP.out
     rw [hR, Rd.bind_bad] at hsp
     have HE := Lib.hid (Bel2.back HFS.out.bes hb (by omega) (by omega))
     have HS9 := Lib.hid (filen_bad hsp)
     clear hp hb hR hsp
     go_wp2
     exact ⟨rfl, rpost_bad HS9.out HE.out⟩
    have hsp := HSP.out
    rw [hR, Rd.bind_ok] at hsp
    replace HSP := Lib.hid hsp
    replace HFS := Lib.hid (HFS.out.move hb hf (by rw [List.length_append]; omega))
    clear hp hb hf hR hsp hl
    clear hsz HWD
    obtain ⟨bt4, hbt⟩ : ∃ bt, decide (lc.length = 0) = bt := ⟨_, rfl⟩
    have HBT := Lib.hid hbt
    have hsp := HSP.out
    rw [hbt] at hsp
    clear hbt
    cases bt4 with
    | false =>
     rw [must_bad rfl, Rd.bind_bad] at hsp
     have HS9 := Lib.hid (filen_bad hsp)
     clear hsp
     go_wp2
     refine region_rel (fun W W' => Below W.heap.size W W') [Cd.is (.pointer (some ⟨P, 0, none⟩)), Cd.is (.pointer (some ⟨P, 0, none⟩)), Cd.is (.pointer (some ⟨P, 0, none⟩)), Cd.is (.pointer (some ⟨P, 0, none⟩)), Cd.is (.pointer (some ⟨P, 0, none⟩)), Cd.is (.pointer (some ⟨P, 0, none⟩)), Cd.is (.bool false), ⟨fun _ _ => False, fun _ _ _ _ h => h⟩] (by kernel_rfl) (by decide) (by kernel_rfl) (Below.refl _ _) (fun _ _ _ h k => h.trans (k.mono h.size)) ?steps ?behind
     case steps =>
      intro xv W hW a ha
      replace hW := undrew hW
      simp only [fillA] at ha
      simp only [List.setIfInBounds_toArray, List.set_cons_succ, List.set_cons_zero, Nat.zero_add, Nat.reduceAdd] at ha
      subst ha
      refine ⟨?s0, ?s1, ?s2, ?s3, ?s4, ?s5, ?s6, ?s7, trivial⟩
      all_goals intro hd K hK
      all_goals (try simp only [Act.put, List.setIfInBounds_toArray, List.set_cons_succ, List.set_cons_zero] at hK)
      case s0 =>
       clear hd
       refine (if_pos (by rfl)).mpr ?_
       have hbp := (hW.cell (p := ⟨w.heap.size, 0, none⟩) (by show w.heap.size < W4.heap.size; have := HFS.out.bx.lt; omega)).trans HFS.out.cp
       go_simp
       exact hK.out _ _ (Below.refl _ _) rfl
      case s1 =>
       have hx0 : xv 0 = .pointer (some ⟨P, 0, none⟩) := hd 0 (by kernel_rfl)
       clear hd
       rw [hx0] at hK ⊢
       refine (if_pos (by rfl)).mpr ?_
       go_simp
       exact hK.out _ _ (Below.refl _ _) rfl
      case s2 =>
       have hx1 : xv 1 = .pointer (some ⟨P, 0, none⟩) := hd 1 (by kernel_rfl)
       clear hd
       rw [hx1] at hK ⊢
       refine (if_pos (by rfl)).mpr ?_
       go_simp
       exact hK.out _ _ (Below.refl _ _) rfl
      case s3 =>
       clear hd
       refine (if_pos (by rfl)).mpr ?_
       have hbp := (hW.cell (p := ⟨w.heap.size, 0, none⟩) (by show w.heap.size < W4.heap.size; have := HFS.out.bx.lt; omega)).trans HFS.out.cp
       go_simp
       exact hK.out _ _ (Below.refl _ _) rfl
      case s4 =>
       have hx3 : xv 3 = .pointer (some ⟨P, 0, none⟩) := hd 3 (by kernel_rfl)
       clear hd
       rw [hx3] at hK ⊢
       refine (if_pos (by rfl)).mpr ?_
       go_simp
       exact hK.out _ _ (Below.refl _ _) rfl
      case s5 =>
       have hx4 : xv 4 = .pointer (some ⟨P, 0, none⟩) := hd 4 (by kernel_rfl)
       clear hd
       rw [hx4] at hK ⊢
       refine (if_pos (by rfl)).mpr ?_
       go_simp
       exact hK.out _ _ (Below.refl _ _) rfl
      case s6 =>
       have hx5 : xv 5 = .pointer (some ⟨P, 0, none⟩) := hd 5 (by kernel_rfl)
       clear hd
       rw [hx5] at hK ⊢
       refine (if_pos (by rfl)).mpr ?_
       go_simp
       have hd9 := done_any P z _ 0 W (HFS.out.fat.ps.later hW)
       rw [HBT.out] at hd9
       refine hd9.mono ?_
       rintro e W' ⟨rfl, q, rfl⟩
       have hb : Below W.heap.size W (W.drewN q) := ⟨rfl, rfl, rfl, Nat.le_refl _, fun _ _ => rfl⟩
       exact hK.out _ _ hb rfl
      case s7 =>
       have hx2 : xv 2 = .pointer (some ⟨P, 0, none⟩) := hd 2 (by kernel_rfl)
       have hx6 : xv 6 = .bool false := hd 6 (by kernel_rfl)
       clear hd
       rw [hx2] at hK ⊢
       rw [hx6] at hK ⊢
       refine (if_pos (by rfl)).mpr ?_
       go_simp
       refine (must_no P z _ 0 W (HFS.out.fat.ps.later hW)).mono ?_
       rintro e W' ⟨rfl, hb⟩
       exact ⟨rfl, rpost_bad HS9.out ((HFS.out.bes.then_ hW).then_ hb)⟩
     case behind =>
      intro xv W hW hx a ha
      replace hW := undrew hW
      simp only [fillA] at ha
      simp only [List.setIfInBounds_toArray, List.set_cons_succ, List.set_cons_zero, Nat.zero_add, Nat.reduceAdd] at ha
      subst ha
      exact (hx 7 (by decide) : False).elim
    | true =>
    rw [must_ok rfl, Rd.bind_ok] at hsp
    replace HSP := Lib.hid hsp
    clear hsp
    go_wp2
    refine region_rel (fun W W' => Below W.heap.size W W') [Cd.is (.pointer (some ⟨P, 0, none⟩)), Cd.is (.pointer (some ⟨P, 0, none⟩)), Cd.is (.pointer (some ⟨P, 0, none⟩)), Cd.is (.pointer (some ⟨P, 0, none⟩)), Cd.is (.pointer (some ⟨P, 0, none⟩)), Cd.is (.pointer (some ⟨P, 0, none⟩)), Cd.is (.bool true), Cd.any] (by kernel_rfl) (by decide) (by kernel_rfl) (Below.refl _ _) (fun _ _ _ h k => h.trans (k.mono h.size)) ?steps ?behind
    case steps =>
     intro xv W hW a ha
     replace hW := undrew hW
     simp only [fillA] at ha
     simp only [List.setIfInBounds_toArray, List.set_cons_succ, List.set_cons_zero, Nat.zero_add, Nat.reduceAdd] at ha
     subst ha
     refine ⟨?s0, ?s1, ?s2, ?s3, ?s4, ?s5, ?s6, ?s7, trivial⟩
     all_goals intro hd K hK
     all_goals (try simp only [Act.put, List.setIfInBounds_toArray, List.set_cons_succ, List.set_cons_zero] at hK)
     case s0 =>
      clear hd
      refine (if_pos (by rfl)).mpr ?_
      have hbp := (hW.cell (p := ⟨w.heap.size, 0, none⟩) (by show w.heap.size < W4.heap.size; have := HFS.out.bx.lt; omega)).trans HFS.out.cp
      go_simp
      exact hK.out _ _ (Below.refl _ _) rfl
     case s1 =>
      have hx0 : xv 0 = .pointer (some ⟨P, 0, none⟩) := hd 0 (by kernel_rfl)
      clear hd
      rw [hx0] at hK ⊢
      refine (if_pos (by rfl)).mpr ?_
      go_simp
      exact hK.out _ _ (Below.refl _ _) rfl
     case s2 =>
      have hx1 : xv 1 = .pointer (some ⟨P, 0, none⟩) := hd 1 (by kernel_rfl)
      clear hd
      rw [hx1] at hK ⊢
      refine (if_pos (by rfl)).mpr ?_
      go_simp
      exact hK.out _ _ (Below.refl _ _) rfl
     case s3 =>
      clear hd
      refine (if_pos (by rfl)).mpr ?_
      have hbp := (hW.cell (p := ⟨w.heap.size, 0, none⟩) (by show w.heap.size < W4.heap.size; have := HFS.out.bx.lt; omega)).trans HFS.out.cp
      go_simp
      exact hK.out _ _ (Below.refl _ _) rfl
     case s4 =>
      have hx3 : xv 3 = .pointer (some ⟨P, 0, none⟩) := hd 3 (by kernel_rfl)
      clear hd
      rw [hx3] at hK ⊢
      refine (if_pos (by rfl)).mpr ?_
      go_simp
      exact hK.out _ _ (Below.refl _ _) rfl
     case s5 =>
      have hx4 : xv 4 = .pointer (some ⟨P, 0, none⟩) := hd 4 (by kernel_rfl)
      clear hd
      rw [hx4] at hK ⊢
      refine (if_pos (by rfl)).mpr ?_
      go_simp
      exact hK.out _ _ (Below.refl _ _) rfl
     case s6 =>
      have hx5 : xv 5 = .pointer (some ⟨P, 0, none⟩) := hd 5 (by kernel_rfl)
      clear hd
      rw [hx5] at hK ⊢
      refine (if_pos (by rfl)).mpr ?_
      go_simp
      have hd9 := done_any P z _ 0 W (HFS.out.fat.ps.later hW)
      rw [HBT.out] at hd9
      refine hd9.mono ?_
      rintro e W' ⟨rfl, q, rfl⟩
      have hb : Below W.heap.size W (W.drewN q) := ⟨rfl, rfl, rfl, Nat.le_refl _, fun _ _ => rfl⟩
      exact hK.out _ _ hb rfl
     case s7 =>
      have hx2 : xv 2 = .pointer (some ⟨P, 0, none⟩) := hd 2 (by kernel_rfl)
      have hx6 : xv 6 = .bool true := hd 6 (by kernel_rfl)
      clear hd
      rw [hx2] at hK ⊢
      rw [hx6] at hK ⊢
      refine (if_pos (by rfl)).mpr ?_
      go_simp
      refine (must_yes P W).mono ?_
      rintro e W' ⟨rfl, rfl⟩
      exact hK.out _ _ (Below.refl _ _) trivial
    case behind =>
     intro xv W hW hx a ha
     replace hW := undrew hW
     simp only [fillA] at ha
     simp only [List.setIfInBounds_toArray, List.set_cons_succ, List.set_cons_zero, Nat.zero_add, Nat.reduceAdd] at ha
     subst ha
     replace HFS := Lib.hid (HFS.out.later hW)
     rename World => W14
     clear hx hW HBT
     have HSE : Hid (fileR z l = .ok (ofL' (((Lr ++ [⟨nk, nx, ny, nc⟩]) ++ Lb) ++ Lc)) lc) := by
      show _ = _
      rw [HSP.out, ← HLS.out, appF_ofL, show oneF (⟨nk, nx, ny, nc⟩ : Nd) (ofL' (Lb ++ Lc)) = ofL' (⟨nk, nx, ny, nc⟩ :: (Lb ++ Lc)) from rfl, appF_ofL]
      simp
     obtain ⟨Le, hLe⟩ : ∃ Le, ((Lr ++ [⟨nk, nx, ny, nc⟩]) ++ Lb) ++ Lc = Le := ⟨_, rfl⟩
     rw [hLe] at HSE HFS
     clear hLe HSP HLS
     obtain ⟨aE, cE, rfl, -, -⟩ := HFS.out.fat.own.slice
     have hbc : W14.cell? ⟨w.heap.size + 1 + 1, 0, none⟩ = some (.slice aE Le.length cE) := HFS.out.fat.box.cell
     have HROW : Hid (Fs W14 (Mi (w.heap.size + 3) W14.heap.size) (.slice aE Le.length cE) (ofL' Le)) := OwnS.fs HFS.out.fat.own (fun b hb => ⟨hb.1, hb.2.1⟩) (fun g e => ⟨(HFS.out.fat.lo g e).1, HFS.out.fat.own.lt e⟩)
     go_wp2_with fail
     refine (node_any 1 ⟨#[]⟩ aE Le.length cE W14).mono ?_
     rintro e W5 ⟨rfl, hb⟩
     have HROW2 := Lib.hid (mi_more (mi_later HROW.out hb (Nat.le_refl _)) (Nat.le_refl _) hb.size)
     have HBX := Lib.hid (HFS.out.bx.later hb)
     have HPS := Lib.hid (HFS.out.fat.ps.later hb)
     have HBE := Lib.hid (HFS.out.bes.then_ hb)
     obtain ⟨g0, g1, g2, g3⟩ := HBX.out.frz
     obtain ⟨b0, b1, b2, b3⟩ := HBX.out.cells
     unfold e0
     clear hbc hb HFS
     go_wp2
     refine bodyPost_ret (results_cell_row rfl _ _ (w.heap.size + 1) 24 _ (0, 0) _ rfl (HBX.out.set4 _ _ _ _) Tryz.underlying24 rfl hi_nd) rfl ?_
     exact nret (by rw [filen_ok HSE.out]; rfl) (ofL'_len Le).symm (mi_set4 HROW2.out (.inl (by omega)) _ _ _ _) (by omega) (by rw [size_set4]; exact Nat.le_refl _) (ps_set4 HPS.out (by omega) _ _ _ _) ((((HBE.out.set (.inr (Nat.le_succ _)) _).set (.inr (Nat.le_succ _)) _).set (.inr (Nat.le_succ _)) _).set (.inr (Nat.le_succ _)) _)
end Go.Proofs.YtaiihnniblibaaaGreatDoor.Parse
