/-
 Layer 6 (parse): blocks, jumps; a branch; a loop.
-/
import Derived.Test.YtaiihnniblibaaaGreatDoorParseVar
namespace Go.Proofs.YtaiihnniblibaaaGreatDoor.Parse
open Go.ChangeShapes Go.WideShapes Go.ChangeAt Go.RowKit Tree MemT Mem
set_option linter.unusedVariables false

/-! The same, where the result's cell R is written, and g, g' are the variables. -/
section
variable {P R B0 g g' : Nat} {w w' W W' : World} {v : Value} {f : F} {n : Nd}
theorem mxR (h : Fs w (Mx B0 g g' w.heap.size) v f) (hb : Bes2 P R w w') (hP : P < B0) (hR : R < B0 := by omega) : Fs w' (Mx B0 g g' w'.heap.size) v f :=
 (h.keep fun b hb' => hb.block b hb'.2.1 (by have := hb'.1; omega) (by have := hb'.1; omega)).more fun b hb' => ⟨hb'.1, Nat.lt_of_lt_of_le hb'.2.1 hb.size, hb'.2.2⟩
def cNdY {P R : Nat} (g g' : Nat) (hP : P < R + 1) (n : Nd) : Cd (Bes2 P R) := ⟨NdX (R + 1) g g' n, fun v W W' h ⟨A, C, e, hf⟩ => ⟨A, C, e, mxR hf h hP (Nat.lt_succ_self _)⟩⟩
def cRowY {P R : Nat} (g g' : Nat) (hP : P < R + 1) (c : F) : Cd (Bes2 P R) := ⟨RowX (R + 1) g g' c, fun v W W' h ⟨A, C, e, hf⟩ => ⟨A, C, e, mxR hf h hP (Nat.lt_succ_self _)⟩⟩
def FinYy (R g g' : Nat) (n : Nd) (W : World) : Prop := ∃ A C, Box4 W R 24 (.int .i64 n.k) (.string n.x) (.string n.y) (.slice A n.c.len C) ∧ Fs W (Mx (R + 1) g g' W.heap.size) (.slice A n.c.len C) n.c
theorem FinYy.later (hP : P < R + 1) (W W' : World) (hb : Below W.heap.size W W') (h : FinYy R g g' n W) : FinYy R g g' n W' := by
 obtain ⟨A, C, h1, h2⟩ := h
 exact ⟨A, C, h1.later hb, mx_later h2 hb hP⟩
theorem finY_set {k : Int} {x y : ByteArray} {c : F} {A : Option Addr} {m C : Nat} {a b c0 d0 : Value} (hx : Box4 W R 24 a b c0 d0) (hm : m = c.len) (hf : Fs W (Mx (R + 1) g g' W.heap.size) (.slice A m C) c) :
  FinYy R g g' ⟨k, x, y, c⟩ ((((W.setCell ⟨R, 0, none⟩ (.int .i64 k)).setCell ⟨R, 1, none⟩ (.string x)).setCell ⟨R, 2, none⟩ (.string y)).setCell ⟨R, 3, none⟩ (.slice A m C)) := by
 subst hm
 exact ⟨A, C, hx.set4 _ _ _ _, mx_setg hf (.inr (.inr (Nat.lt_succ_self _))) _ _ _ _⟩
theorem finYRet {z d : Nat} {Rr : Rd Nd} {l : List Tk} (hR : Rr = .ok n l) (hf : FinYy w.heap.size g g' n W) (hps : PS W P z l d) (hb : Bes P w W) :
  ∃ A C, W.heap[w.heap.size]? = some (.cells #[.int .i64 n.k, .string n.x, .string n.y, .slice A n.c.len C] 24 (0, 0)) ∧ RPost NV w P z d Rr (.returned (.agg #[.int .i64 n.k, .string n.x, .string n.y, .slice A n.c.len C])) W := by
 obtain ⟨A, C, h1, h2⟩ := hf
 obtain ⟨k, x, y, c⟩ := n
 exact ⟨A, C, h1, nret hR rfl (mx_mi h2) (Nat.le_succ _) (Nat.le_refl _) hps hb⟩
end
theorem ent_stm : EnteredP 104 := by intro args w; simp [go_sem]
theorem ent_branch : EnteredP 114 := by intro args w; simp [go_sem]
set_option maxHeartbeats 4000000 in
set_option maxRecDepth 100000 in
theorem block_any (P z N : Nat) (st : Nat → List Tk → Rd Nd) (hst : RdOk 104 P z N st) (hdec : Dec st) (l : List Tk) (d : Nat) (w : World) (h : PS w P z l d) (hl : l.length ≤ N) (hd : d ≤ 300) :
  Calls Tryz.prog 95 #[.pointer (some ⟨P, 0, none⟩)] w (RPost NV w P z d (blockR z st d l)) := by
 have hlt := h.lt
 have HST := Lib.hid (Stt.start h)
 have HBR : Hid (∀ W, PS W P z l d → Calls Tryz.prog 90 #[.pointer (some ⟨P, 0, none⟩), .func (.func 104) #[.pointer (some ⟨P, 0, none⟩)] #[]] W (RPost FV W P z d (braces z st d l))) :=
  fun W hW => braces_any P z N _ st hdec l d W hW (reads_of W ent_stm hst) hl hd
 have hsp : blockR z st d l = blockR z st d l := rfl
 conv at hsp => rhs; unfold blockR
 have hPB : P < w.heap.size + 1 := by omega
 clear h hst hdec
 cases hr : braces z st d l with
 | bad p er =>
  rw [hr, Rd.bind_bad] at hsp
  have HSP := Lib.hid hsp
  have HR2 := Lib.hid hr
  clear hsp hr
  go_enter Tryz.func95, Tryz.ntmps95
  go_wp2_with fail
  refine (calls_bad (HBR.out _ HST.out.ps) HR2.out).mono ?_
  rintro e w1 ⟨rfl, hbe⟩
  have HE := Lib.hid (HST.out.bes.trans hbe)
  clear hbe
  go_wp2
  exact ⟨rfl, rpost_bad HSP.out HE.out⟩
 | ok c l2 =>
  rw [hr, Rd.bind_ok] at hsp
  have HSP := Lib.hid hsp
  have HR2 := Lib.hid hr
  clear hsp hr
  go_enter Tryz.func95, Tryz.ntmps95
  go_wp2_with fail
  refine (calls_ok (HBR.out _ HST.out.ps) HR2.out).mono ?_
  rintro e wn ⟨v, rfl, hv, hps, hbe⟩
  obtain ⟨Ac, Cc, rfl, hf, hst⟩ := fv_at HST.out hv hps hbe
  replace HST := Lib.hid hst
  generalize hm : F.len c = mc at hf ⊢
  have Hmc := Lib.hid hm
  have HFc := Lib.hid hf
  clear hv hps hbe hst hf hm
  go_wp2_with fail
  refine (node_any 17 ⟨#[]⟩ _ _ _ _).mono ?_
  rintro e w2 ⟨rfl, hb⟩
  replace HST := Lib.hid (HST.out.quiet hb)
  replace HFc := Lib.hid (fsq HFc.out hb)
  clear hb
  obtain ⟨⟨r0, r1, r2, r3, y0, y1, y2, y3⟩, g0, g1, g2, g3⟩ := HST.out.frz
  try unfold e0
  go_wp2
  have hfin := HST.out.ret HSP.out Hmc.out.symm HFc.out
  refine bodyPost_ret (results_cell_row rfl _ _ w.heap.size 24 _ (0, 0) _ rfl hfin.1 Tryz.underlying24 rfl hi_nd) rfl ?_
  exact hfin.2

set_option maxHeartbeats 4000000 in
set_option maxRecDepth 100000 in
theorem jump_any (P z : Nat) (k : Int) (l : List Tk) (hne : l ≠ []) (d : Nat) (w : World) (h : PS w P z l d) (hd : d ≤ 300) :
  Calls Tryz.prog 117 #[.pointer (some ⟨P, 0, none⟩), .int .i64 k] w (RPost NV w P z d (jumpR z k d l)) := by
 have hlt := h.lt
 have HST := Lib.hid (Stt.start h)
 have HBG : Hid (∀ W, PS W P z l d → Calls Tryz.prog 66 #[.pointer (some ⟨P, 0, none⟩), .bool true] W (RPost TV W P z d (beg z true d l))) :=
  fun W hW => begin_any true P z l d (fun _ => hne) (by omega) W hW
 have hsp : jumpR z k d l = jumpR z k d l := rfl
 conv at hsp => rhs; unfold jumpR
 have hPB : P < w.heap.size + 1 := by omega
 clear h hne
 cases hr : beg z true d l with
 | bad p er =>
  rw [hr, Rd.bind_bad] at hsp
  rw [hr] at HBG
  have HSP := Lib.hid hsp
  clear hsp hr
  go_enter Tryz.func117, Tryz.ntmps117
  go_wp2_with fail
  refine (calls_bad (HBG.out _ HST.out.ps) rfl).mono ?_
  rintro e w1 ⟨rfl, hbe⟩
  have HE := Lib.hid (HST.out.bes.trans hbe)
  clear hbe
  go_wp2
  exact ⟨rfl, rpost_bad HSP.out HE.out⟩
 | ok t l2 =>
  rw [hr, Rd.bind_ok] at hsp
  rw [hr] at HBG
  have HSP := Lib.hid hsp
  clear hsp hr
  go_enter Tryz.func117, Tryz.ntmps117
  go_wp2_with fail
  refine (calls_ok (HBG.out _ HST.out.ps) rfl).mono ?_
  rintro e w1 ⟨v, rfl, rfl, hps, hbe⟩
  replace HST := Lib.hid (HST.out.read hbe hps)
  clear hps hbe
  unfold tkV
  go_wp2_with fail
  refine (node_any k ⟨#[]⟩ _ _ _ _).mono ?_
  rintro e w2 ⟨rfl, hb⟩
  replace HST := Lib.hid (HST.out.quiet hb)
  clear hb
  obtain ⟨⟨r0, r1, r2, r3, y0, y1, y2, y3⟩, g0, g1, g2, g3⟩ := HST.out.frz
  try unfold e0
  go_wp2
  have hfin := HST.out.ret HSP.out rfl nil_fs
  refine bodyPost_ret (results_cell_row rfl _ _ w.heap.size 24 _ (0, 0) _ rfl hfin.1 Tryz.underlying24 rfl hi_nd) rfl ?_
  exact hfin.2

set_option maxHeartbeats 16000000 in
set_option maxRecDepth 100000 in
theorem loop_any (P z N : Nat) (st : Nat → List Tk → Rd Nd) (hst : RdOk 104 P z N st) (hdec : Dec st) (l : List Tk) (d : Nat) (w : World) (h : PS w P z l d) (hl : l.length ≤ N) (hd : d ≤ 300) :
  Calls Tryz.prog 115 #[.pointer (some ⟨P, 0, none⟩)] w (RPost NV w P z d (forR z st d l)) := by
 have hlt := h.lt
 have HST := Lib.hid (StX.start h)
 have HU : Hid ((⟨#[102, 111, 114]⟩ : ByteArray).toList = [102, 111, 114]) := by show _ = _; rw [ByteArray.toList_eq]
 have HU2 : Hid ((⟨#[123]⟩ : ByteArray).toList = [123]) := by show _ = _; rw [ByteArray.toList_eq]
 have hsp : forR z st d l = forR z st d l := rfl
 conv at hsp => rhs; unfold forR
 have hP0 : P < w.heap.size + 1 := by omega
 have hRP : w.heap.size ≠ P := by omega
 obtain ⟨bb, hbb⟩ : ∃ bb, isT (Parse.hd z l) [102, 111, 114] = bb := ⟨_, rfl⟩
 rw [hbb] at hsp
 have HBB := Lib.hid hbb
 have HBG : Hid (∀ W, PS W P z l d → Calls Tryz.prog 66 #[.pointer (some ⟨P, 0, none⟩), .bool bb] W (RPost TV W P z d (beg z bb d l))) :=
  fun W hW => begin_any _ P z l d (fun e => isT_ne (by decide) (hbb.trans e)) (by omega) W hW
 have hfb : bb = true → l ≠ [] := fun e => isT_ne (by decide) (hbb.trans e)
 have HX : Hid (∀ W l', PS W P z l' d → Calls Tryz.prog 71 #[.pointer (some ⟨P, 0, none⟩)] W (RPost NV W P z d (exR z d l'))) := fun W l' hW => ex_rd P z (l'.length + 1) W d l' (Nat.lt_succ_self _) hd hW
 have HBL : Hid (∀ W l', PS W P z l' d → l'.length ≤ N → Calls Tryz.prog 95 #[.pointer (some ⟨P, 0, none⟩)] W (RPost NV W P z d (blockR z st d l'))) := fun W l' hW hl' => block_any P z N st hst hdec l' d W hW hl' hd
 clear h hbb hst hdec
 cases hr : beg z bb d l with
 | bad p er =>
  rw [hr, Rd.bind_bad] at hsp
  rw [hr] at HBG
  have HSP := Lib.hid hsp
  clear hsp hr hfb
  go_enter Tryz.func115, Tryz.ntmps115
  go_wp2_with fail
  refine (is_at HST.out.ps HU.out HBB.out).mono ?_
  rintro e w1 ⟨rfl, hb⟩
  replace HST := Lib.hid (HST.out.quiet hb)
  clear hb
  go_wp2_with fail
  refine (calls_bad (HBG.out _ HST.out.ps) rfl).mono ?_
  rintro e w2 ⟨rfl, hbe⟩
  have HE := Lib.hid (HST.out.bes.trans hbe)
  clear hbe
  go_wp2
  exact ⟨rfl, rpost_bad HSP.out HE.out⟩
 | ok t l1 =>
  have hl1 : l1.length < l.length := lt_beg hfb _ _ hr
  rw [hr, Rd.bind_ok] at hsp
  rw [hr] at HBG
  clear hr hfb
  have HBG2 : Hid (∀ W, PS W P z l d → Calls Tryz.prog 66 #[.pointer (some ⟨P, 0, none⟩), .bool bb] W fun e w' => ∃ v, e = .returned v ∧ TV W w' v t ∧ PS w' P z l1 d ∧ Bes P W w') := fun W hW => calls_ok (HBG.out W hW) rfl
  clear HBG
  cases he : isT (Parse.hd z l1) [123] with
  | true =>
   rw [he, if_pos rfl, Rd.bind_ok] at hsp
   have HE := Lib.hid he
   clear he
   cases hb : blockR z st d l1 with
   | bad p er =>
    rw [hb, Rd.bind_bad] at hsp
    have HSP := Lib.hid hsp
    have HB := Lib.hid hb
    clear hsp hb
    go_enter Tryz.func115, Tryz.ntmps115
    go_wp2_with fail
    refine (is_at HST.out.ps HU.out HBB.out).mono ?_
    rintro e w1 ⟨rfl, hb⟩
    replace HST := Lib.hid (HST.out.quiet hb)
    clear hb
    go_wp2_with fail
    refine (HBG2.out _ HST.out.ps).mono ?_
    rintro e w2 ⟨v, rfl, rfl, hps, hbe⟩
    replace HST := Lib.hid (HST.out.read hbe hps)
    clear hps hbe
    unfold tkV
    go_wp2_with fail
    refine (none_any _).mono ?_
    rintro e wp ⟨rfl, hb⟩
    replace HST := Lib.hid (HST.out.quiet hb)
    clear hb
    unfold e0
    have hps0 := HST.out.size
    have HX3 := Lib.hid (box4_new wp 24 (.int .i64 33) (.string ⟨#[]⟩) (.string ⟨#[]⟩) (.slice none 0 0))
    have hb := (Below.refl (wp).heap.size (wp)).alloc (Nat.le_refl _) (.cells #[.int .i64 33, .string ⟨#[]⟩, .string ⟨#[]⟩, .slice none 0 0] 24)
    replace HST := Lib.hid (HST.out.quiet hb)
    clear hb
    have hg3 := HX3.out.lt
    have hNPHX3 : wp.heap.size ≠ P := by omega
    go_wp2_with fail
    refine (is_at HST.out.ps HU2.out HE.out).mono ?_
    rintro e wd ⟨rfl, hb⟩
    replace HST := Lib.hid (HST.out.quiet hb)
    replace HX3 := Lib.hid (HX3.out.later hb)
    clear hb
    go_wp2
    refine region_ph [2, 5] (GN 2 5 P z d l1 l1 (FinYy w.heap.size wp.heap.size wp.heap.size noneN) (BxA w.heap.size)) (Bes2 P (w.heap.size)) [Cd.is (.agg #[.int .i64 33, .string ⟨#[]⟩, .string ⟨#[]⟩, .slice none 0 0]), Cd.is (.pointer (some ⟨P, 0, none⟩)), cNo, cNo, cNo, cNo] (by kernel_rfl) (by decide) (by kernel_rfl) (Bes2.refl _ _ _) (fun _ _ _ h k => h.trans k) (fun _ _ h => Bes2.of h) (GN.keep (FinYy.later hP0) BxA.later) ?start ?steps ?behind
    case start =>
     intro x
     exact ⟨fun h => (by cases h), fun _ => HST.out.bx, fun h => (by cases h), fun _ => HST.out.ps.drewN 1⟩
    case steps =>
     intro xv W hW a ha
     replace hW := hW.undrew
     simp only [fillA] at ha
     simp only [List.setIfInBounds_toArray, List.set_cons_succ, List.set_cons_zero, Nat.zero_add, Nat.reduceAdd] at ha
     subst ha
     refine ⟨?s0, ?s1, ?s2, ?s3, ?s4, ?s5, trivial⟩
     all_goals intro dn hdi hdw hcl hphi hg K hK
     all_goals (try simp only [Act.put, List.setIfInBounds_toArray, List.set_cons_succ, List.set_cons_zero] at hK)
     case s0 =>
      clear hphi hdw
      refine (if_pos (by rfl)).mpr ?_
      obtain ⟨q0, q1, q2, q3⟩ := (HX3.out.bes2 hW hNPHX3 (by omega)).cells
      go_simp
      exact hK.out _ _ (Below.refl _ _) rfl
     case s1 =>
      clear hphi hdw
      refine (if_pos (by rfl)).mpr ?_
      go_simp
      exact hK.out _ _ (Below.refl _ _) rfl
     case s2 =>
      have hx1 : xv 1 = .pointer (some ⟨P, 0, none⟩) := hphi 1 (hdw 1 (by kernel_rfl))
      clear hphi hdw
      rw [hx1] at hK ⊢
      refine (if_pos (by rfl)).mpr ?_
      go_simp
      refine (calls_bad (HBL.out W _ (hg.2.2.2 hdi) (by omega)) HB.out).mono ?_
      rintro e W' ⟨rfl, hbe⟩
      exact ⟨rfl, rpost_bad HSP.out (Bes2.back HST.out.bes (hW.trans (Bes2.bes hbe)) (Nat.le_refl _))⟩
     case s3 =>
      have hx0 : xv 0 = .agg #[.int .i64 33, .string ⟨#[]⟩, .string ⟨#[]⟩, .slice none 0 0] := hphi 0 (hdw 0 (by kernel_rfl))
      have hno : False := hphi 2 (hdw 2 (by kernel_rfl))
      exact hno.elim
     case s4 =>
      have hno : False := hphi 3 (hdw 3 (by kernel_rfl))
      exact hno.elim
     case s5 =>
      have hno : False := hphi 4 (hdw 4 (by kernel_rfl))
      exact hno.elim
    case behind =>
     intro dn xv W hW hall hx hg a ha
     replace hW := hW.undrew
     simp only [fillA] at ha
     simp only [List.setIfInBounds_toArray, List.set_cons_succ, List.set_cons_zero, Nat.zero_add, Nat.reduceAdd] at ha
     subst ha
     exact (hx 2 (by decide) : False).elim
   | ok b l4 =>
    obtain ⟨bk, bx, by', bc⟩ := b
    rw [hb, Rd.bind_ok] at hsp
    have HSP := Lib.hid hsp
    have HB := Lib.hid hb
    clear hsp hb
    go_enter Tryz.func115, Tryz.ntmps115
    go_wp2_with fail
    refine (is_at HST.out.ps HU.out HBB.out).mono ?_
    rintro e w1 ⟨rfl, hb⟩
    replace HST := Lib.hid (HST.out.quiet hb)
    clear hb
    go_wp2_with fail
    refine (HBG2.out _ HST.out.ps).mono ?_
    rintro e w2 ⟨v, rfl, rfl, hps, hbe⟩
    replace HST := Lib.hid (HST.out.read hbe hps)
    clear hps hbe
    unfold tkV
    go_wp2_with fail
    refine (none_any _).mono ?_
    rintro e wp ⟨rfl, hb⟩
    replace HST := Lib.hid (HST.out.quiet hb)
    clear hb
    unfold e0
    have hps0 := HST.out.size
    have HX3 := Lib.hid (box4_new wp 24 (.int .i64 33) (.string ⟨#[]⟩) (.string ⟨#[]⟩) (.slice none 0 0))
    have hb := (Below.refl (wp).heap.size (wp)).alloc (Nat.le_refl _) (.cells #[.int .i64 33, .string ⟨#[]⟩, .string ⟨#[]⟩, .slice none 0 0] 24)
    replace HST := Lib.hid (HST.out.quiet hb)
    clear hb
    have hg3 := HX3.out.lt
    have hNPHX3 : wp.heap.size ≠ P := by omega
    go_wp2_with fail
    refine (is_at HST.out.ps HU2.out HE.out).mono ?_
    rintro e wd ⟨rfl, hb⟩
    replace HST := Lib.hid (HST.out.quiet hb)
    replace HX3 := Lib.hid (HX3.out.later hb)
    clear hb
    go_wp2
    refine region_ph [2, 5] (GN 2 5 P z d l1 l4 (FinYy w.heap.size wp.heap.size wp.heap.size (Parse.node 19 e0 (oneF ⟨33, ⟨#[]⟩, ⟨#[]⟩, .nil⟩ (one ⟨bk, bx, by', bc⟩)))) (BxA w.heap.size)) (Bes2 P (w.heap.size)) [Cd.is (.agg #[.int .i64 33, .string ⟨#[]⟩, .string ⟨#[]⟩, .slice none 0 0]), Cd.is (.pointer (some ⟨P, 0, none⟩)), cNdY wp.heap.size wp.heap.size hP0 ⟨bk, bx, by', bc⟩, cRowY wp.heap.size wp.heap.size hP0 (oneF ⟨33, ⟨#[]⟩, ⟨#[]⟩, .nil⟩ (one ⟨bk, bx, by', bc⟩)), cNdY wp.heap.size wp.heap.size hP0 (Parse.node 19 e0 (oneF ⟨33, ⟨#[]⟩, ⟨#[]⟩, .nil⟩ (one ⟨bk, bx, by', bc⟩))), Cd.any] (by kernel_rfl) (by decide) (by kernel_rfl) (Bes2.refl _ _ _) (fun _ _ _ h k => h.trans k) (fun _ _ h => Bes2.of h) (GN.keep (FinYy.later hP0) BxA.later) ?start ?steps ?behind
    case start =>
     intro x
     exact ⟨fun h => (by cases h), fun _ => HST.out.bx, fun h => (by cases h), fun _ => HST.out.ps.drewN 1⟩
    case steps =>
     intro xv W hW a ha
     replace hW := hW.undrew
     simp only [fillA] at ha
     simp only [List.setIfInBounds_toArray, List.set_cons_succ, List.set_cons_zero, Nat.zero_add, Nat.reduceAdd] at ha
     subst ha
     refine ⟨?s0, ?s1, ?s2, ?s3, ?s4, ?s5, trivial⟩
     all_goals intro dn hdi hdw hcl hphi hg K hK
     all_goals (try simp only [Act.put, List.setIfInBounds_toArray, List.set_cons_succ, List.set_cons_zero] at hK)
     case s0 =>
      clear hphi hdw
      refine (if_pos (by rfl)).mpr ?_
      obtain ⟨q0, q1, q2, q3⟩ := (HX3.out.bes2 hW hNPHX3 (by omega)).cells
      go_simp
      exact hK.out _ _ (Below.refl _ _) rfl
     case s1 =>
      clear hphi hdw
      refine (if_pos (by rfl)).mpr ?_
      go_simp
      exact hK.out _ _ (Below.refl _ _) rfl
     case s2 =>
      have hx1 : xv 1 = .pointer (some ⟨P, 0, none⟩) := hphi 1 (hdw 1 (by kernel_rfl))
      clear hphi hdw
      rw [hx1] at hK ⊢
      refine (if_pos (by rfl)).mpr ?_
      go_simp
      refine (calls_ok (HBL.out W _ (hg.2.2.2 hdi) (by omega)) HB.out).mono ?_
      rintro e W' ⟨v, rfl, hv, hps, hbe⟩
      exact hK.out _ _ ⟨Bes2.bes hbe, GN.call (by decide) hg (notYet hcl hdi (by kernel_rfl)) (fun h => h.bes hbe hRP) hps⟩ (mx_new hv (by have hh := HST.out.size; have hw := hW.size; have hq0 := HX3.out.lt; omega) (by have hh := HST.out.size; have hw := hW.size; have hq0 := HX3.out.lt; omega) (by have hh := HST.out.size; have hw := hW.size; have hq0 := HX3.out.lt; omega))
     case s3 =>
      have hx0 : xv 0 = .agg #[.int .i64 33, .string ⟨#[]⟩, .string ⟨#[]⟩, .slice none 0 0] := hphi 0 (hdw 0 (by kernel_rfl))
      obtain ⟨A2, C2, hx2, hf2⟩ : NdX (w.heap.size + 1) wp.heap.size wp.heap.size ⟨bk, bx, by', bc⟩ (xv 2) W := hphi 2 (hdw 2 (by kernel_rfl))
      clear hphi hdw
      rw [hx2] at hK ⊢
      rw [hx0] at hK ⊢
      refine (if_pos (by rfl)).mpr ?_
      go_simp
      exact hK.out _ _ ((Below.refl _ _).alloc (Nat.le_refl _) _) (rowX2 W (w.heap.size + 1) wp.heap.size wp.heap.size P (by have hh := HST.out.size; have hw := hW.size; have hq0 := HX3.out.lt; omega) (by have hh := HST.out.size; have hw := hW.size; have hq0 := HX3.out.lt; omega) (by have hh := HST.out.size; have hw := hW.size; have hq0 := HX3.out.lt; omega) hP0 33 ⟨#[]⟩ ⟨#[]⟩ .nil _ mx_nil bk bx by' bc _ hf2)
     case s4 =>
      obtain ⟨A3, C3, hx3, hf3⟩ : RowX (w.heap.size + 1) wp.heap.size wp.heap.size (oneF ⟨33, ⟨#[]⟩, ⟨#[]⟩, .nil⟩ (one ⟨bk, bx, by', bc⟩)) (xv 3) W := hphi 3 (hdw 3 (by kernel_rfl))
      clear hphi hdw
      rw [hx3] at hK ⊢
      refine (if_pos (by rfl)).mpr ?_
      go_simp
      refine (node_any _ _ _ _ _ W).mono ?_
      rintro e W' ⟨rfl, hb⟩
      exact hK.out _ _ hb ⟨A3, C3, rfl, mx_later hf3 hb hP0⟩
     case s5 =>
      obtain ⟨A4, C4, hx4, hf4⟩ : NdX (w.heap.size + 1) wp.heap.size wp.heap.size (Parse.node 19 e0 (oneF ⟨33, ⟨#[]⟩, ⟨#[]⟩, .nil⟩ (one ⟨bk, bx, by', bc⟩))) (xv 4) W := hphi 4 (hdw 4 (by kernel_rfl))
      rw [hx4] at hK ⊢
      refine (if_pos (by rfl)).mpr ?_
      have hds : dn 2 = true := hdw 2 (by kernel_rfl)
      have hbx := hg.2.1 hdi
      obtain ⟨b0, b1, b2, b3, hbx4⟩ := id hbx
      obtain ⟨g0, g1, g2, g3⟩ := hbx4.frz
      obtain ⟨y0, y1, y2, y3⟩ := hbx4.cells
      simp only [Parse.node] at hf4 hK ⊢
      go_simp
      exact hK.out undef _ ⟨Bes2.set4 _ _ _ _ _, GN.store (by decide) (hds) (finY_set hbx4 rfl hf4) (ps_set4 (hg.2.2.1 hds) (by omega) _ _ _ _)⟩ trivial
    case behind =>
     intro dn xv W hW hall hx hg a ha
     replace hW := hW.undrew
     simp only [fillA] at ha
     simp only [List.setIfInBounds_toArray, List.set_cons_succ, List.set_cons_zero, Nat.zero_add, Nat.reduceAdd] at ha
     subst ha
     have hF := hg.1 (hall 5 (by decide))
     have hps := hg.2.2.1 (hall 2 (by decide))
     have hbw := Bes2.back HST.out.bes hW (Nat.le_refl _)
     obtain ⟨A, C, hbx, hpost⟩ := finYRet (w := w) HSP.out hF hps hbw
     have HPO := Lib.hid hpost
     have HBX2 := Lib.hid hbx
     clear hx hF hps hbw hpost hg hall hW hbx
     go_wp2
     refine bodyPost_ret (results_cell_row rfl _ _ w.heap.size 24 _ (0, 0) _ rfl HBX2.out Tryz.underlying24 rfl hi_nd) rfl ?_
     exact HPO.out
  | false =>
   rw [he, if_neg (by decide)] at hsp
   have HE := Lib.hid he
   clear he
   cases hx : exR z d l1 with
   | bad p er =>
    rw [hx, Rd.bind_bad] at hsp
    have HSP := Lib.hid hsp
    have HX2 := Lib.hid hx
    clear hsp hx
    go_enter Tryz.func115, Tryz.ntmps115
    go_wp2_with fail
    refine (is_at HST.out.ps HU.out HBB.out).mono ?_
    rintro e w1 ⟨rfl, hb⟩
    replace HST := Lib.hid (HST.out.quiet hb)
    clear hb
    go_wp2_with fail
    refine (HBG2.out _ HST.out.ps).mono ?_
    rintro e w2 ⟨v, rfl, rfl, hps, hbe⟩
    replace HST := Lib.hid (HST.out.read hbe hps)
    clear hps hbe
    unfold tkV
    go_wp2_with fail
    refine (none_any _).mono ?_
    rintro e wp ⟨rfl, hb⟩
    replace HST := Lib.hid (HST.out.quiet hb)
    clear hb
    unfold e0
    have hps0 := HST.out.size
    have HX3 := Lib.hid (box4_new wp 24 (.int .i64 33) (.string ⟨#[]⟩) (.string ⟨#[]⟩) (.slice none 0 0))
    have hb := (Below.refl (wp).heap.size (wp)).alloc (Nat.le_refl _) (.cells #[.int .i64 33, .string ⟨#[]⟩, .string ⟨#[]⟩, .slice none 0 0] 24)
    replace HST := Lib.hid (HST.out.quiet hb)
    clear hb
    have hg3 := HX3.out.lt
    have hNPHX3 : wp.heap.size ≠ P := by omega
    go_wp2_with fail
    refine (is_at HST.out.ps HU2.out HE.out).mono ?_
    rintro e w4 ⟨rfl, hb⟩
    replace HST := Lib.hid (HST.out.quiet hb)
    replace HX3 := Lib.hid (HX3.out.later hb)
    clear hb
    go_wp2_with fail
    refine (calls_bad (HX.out _ _ HST.out.ps) HX2.out).mono ?_
    rintro e w5 ⟨rfl, hbe⟩
    have HE := Lib.hid (HST.out.bes.trans hbe)
    clear hbe
    go_wp2
    exact ⟨rfl, rpost_bad HSP.out HE.out⟩
   | ok n l3 =>
    obtain ⟨nk, nx, ny, nc⟩ := n
    have hl3 : l3.length < l1.length := exR_dec z _ _ _ _ hx
    rw [hx, Rd.bind_ok] at hsp
    have HX2 := Lib.hid hx
    clear hx
    cases hb : blockR z st d l3 with
    | bad p er =>
     rw [hb, Rd.bind_bad] at hsp
     have HSP := Lib.hid hsp
     have HB := Lib.hid hb
     clear hsp hb
     go_enter Tryz.func115, Tryz.ntmps115
     go_wp2_with fail
     refine (is_at HST.out.ps HU.out HBB.out).mono ?_
     rintro e w1 ⟨rfl, hb⟩
     replace HST := Lib.hid (HST.out.quiet hb)
     clear hb
     go_wp2_with fail
     refine (HBG2.out _ HST.out.ps).mono ?_
     rintro e w2 ⟨v, rfl, rfl, hps, hbe⟩
     replace HST := Lib.hid (HST.out.read hbe hps)
     clear hps hbe
     unfold tkV
     go_wp2_with fail
     refine (none_any _).mono ?_
     rintro e wp ⟨rfl, hb⟩
     replace HST := Lib.hid (HST.out.quiet hb)
     clear hb
     unfold e0
     have hps0 := HST.out.size
     have HX3 := Lib.hid (box4_new wp 24 (.int .i64 33) (.string ⟨#[]⟩) (.string ⟨#[]⟩) (.slice none 0 0))
     have hb := (Below.refl (wp).heap.size (wp)).alloc (Nat.le_refl _) (.cells #[.int .i64 33, .string ⟨#[]⟩, .string ⟨#[]⟩, .slice none 0 0] 24)
     replace HST := Lib.hid (HST.out.quiet hb)
     clear hb
     have hg3 := HX3.out.lt
     have hNPHX3 : wp.heap.size ≠ P := by omega
     go_wp2_with fail
     refine (is_at HST.out.ps HU2.out HE.out).mono ?_
     rintro e w4 ⟨rfl, hb⟩
     replace HST := Lib.hid (HST.out.quiet hb)
     replace HX3 := Lib.hid (HX3.out.later hb)
     clear hb
     have hgs := HST.out.size
     skip
     go_wp2_with fail
     refine (calls_ok (HX.out _ _ HST.out.ps) HX2.out).mono ?_
     rintro e wx ⟨v, rfl, hv, hps, hbe⟩
     obtain ⟨An, Cn, rfl, hf⟩ := mx_new (B0 := w.heap.size + 1) (g := wp.heap.size) (g' := wp.heap.size) hv HST.out.size (by have hh3 := HX3.out.lt; omega) (by have hh3 := HX3.out.lt; omega)
     replace HST := Lib.hid (HST.out.read hbe hps)
     replace HX3 := Lib.hid (HX3.out.bes hbe hNPHX3)
     simp only at hf ⊢
     generalize hm : nc.len = mn at hf ⊢
     have Hmn := Lib.hid hm
     have HFn := Lib.hid hf
     clear hv hps hbe hf hm hgs
     obtain ⟨p0, p1, p2, p3⟩ := HX3.out.frz
     obtain ⟨c0, c1, c2, c3⟩ := HX3.out.cells
     have hw3 := HX3.out.lt
     replace HST := Lib.hid (HST.out.setg (y := wp.heap.size) (by omega) (.int .i64 nk) (.string nx) (.string ny) (.slice An mn Cn))
     replace HFn := Lib.hid (mx_setg HFn.out (x := wp.heap.size) (by omega) (.int .i64 nk) (.string nx) (.string ny) (.slice An mn Cn))
     replace HX3 := Lib.hid (HX3.out.set4 (.int .i64 nk) (.string nx) (.string ny) (.slice An mn Cn))
     have hsz3 := HX3.out.lt
     go_wp2
     clear p0 p1 p2 p3 c0 c1 c2 c3
     generalize ((((wx.setCell ⟨wp.heap.size, 0, none⟩ (.int .i64 nk)).setCell ⟨wp.heap.size, 1, none⟩ (.string nx)).setCell ⟨wp.heap.size, 2, none⟩ (.string ny)).setCell ⟨wp.heap.size, 3, none⟩ (.slice An mn Cn)) = wd at *
     refine region_ph [2, 5] (GN 2 5 P z d l3 l3 (FinYy w.heap.size wp.heap.size wp.heap.size noneN) (BxA w.heap.size)) (Bes2 P (w.heap.size)) [Cd.is (.agg #[.int .i64 nk, .string nx, .string ny, .slice An mn Cn]), Cd.is (.pointer (some ⟨P, 0, none⟩)), cNo, cNo, cNo, cNo] (by kernel_rfl) (by decide) (by kernel_rfl) (Bes2.refl _ _ _) (fun _ _ _ h k => h.trans k) (fun _ _ h => Bes2.of h) (GN.keep (FinYy.later hP0) BxA.later) ?start ?steps ?behind
     case start =>
      intro x
      exact ⟨fun h => (by cases h), fun _ => HST.out.bx, fun h => (by cases h), fun _ => HST.out.ps.drewN 1⟩
     case steps =>
      intro xv W hW a ha
      replace hW := hW.undrew
      simp only [fillA] at ha
      simp only [List.setIfInBounds_toArray, List.set_cons_succ, List.set_cons_zero, Nat.zero_add, Nat.reduceAdd] at ha
      subst ha
      refine ⟨?s0, ?s1, ?s2, ?s3, ?s4, ?s5, trivial⟩
      all_goals intro dn hdi hdw hcl hphi hg K hK
      all_goals (try simp only [Act.put, List.setIfInBounds_toArray, List.set_cons_succ, List.set_cons_zero] at hK)
      case s0 =>
       clear hphi hdw
       refine (if_pos (by rfl)).mpr ?_
       obtain ⟨q0, q1, q2, q3⟩ := (HX3.out.bes2 hW hNPHX3 (by omega)).cells
       go_simp
       exact hK.out _ _ (Below.refl _ _) rfl
      case s1 =>
       clear hphi hdw
       refine (if_pos (by rfl)).mpr ?_
       go_simp
       exact hK.out _ _ (Below.refl _ _) rfl
      case s2 =>
       have hx1 : xv 1 = .pointer (some ⟨P, 0, none⟩) := hphi 1 (hdw 1 (by kernel_rfl))
       clear hphi hdw
       rw [hx1] at hK ⊢
       refine (if_pos (by rfl)).mpr ?_
       go_simp
       refine (calls_bad (HBL.out W _ (hg.2.2.2 hdi) (by omega)) HB.out).mono ?_
       rintro e W' ⟨rfl, hbe⟩
       exact ⟨rfl, rpost_bad HSP.out (Bes2.back HST.out.bes (hW.trans (Bes2.bes hbe)) (Nat.le_refl _))⟩
      case s3 =>
       have hx0 : xv 0 = .agg #[.int .i64 nk, .string nx, .string ny, .slice An mn Cn] := hphi 0 (hdw 0 (by kernel_rfl))
       have hno : False := hphi 2 (hdw 2 (by kernel_rfl))
       exact hno.elim
      case s4 =>
       have hno : False := hphi 3 (hdw 3 (by kernel_rfl))
       exact hno.elim
      case s5 =>
       have hno : False := hphi 4 (hdw 4 (by kernel_rfl))
       exact hno.elim
     case behind =>
      intro dn xv W hW hall hx hg a ha
      replace hW := hW.undrew
      simp only [fillA] at ha
      simp only [List.setIfInBounds_toArray, List.set_cons_succ, List.set_cons_zero, Nat.zero_add, Nat.reduceAdd] at ha
      subst ha
      exact (hx 2 (by decide) : False).elim
    | ok b l4 =>
     obtain ⟨bk, bx, by', bc⟩ := b
     rw [hb, Rd.bind_ok] at hsp
     have HSP := Lib.hid hsp
     have HB := Lib.hid hb
     clear hsp hb
     go_enter Tryz.func115, Tryz.ntmps115
     go_wp2_with fail
     refine (is_at HST.out.ps HU.out HBB.out).mono ?_
     rintro e w1 ⟨rfl, hb⟩
     replace HST := Lib.hid (HST.out.quiet hb)
     clear hb
     go_wp2_with fail
     refine (HBG2.out _ HST.out.ps).mono ?_
     rintro e w2 ⟨v, rfl, rfl, hps, hbe⟩
     replace HST := Lib.hid (HST.out.read hbe hps)
     clear hps hbe
     unfold tkV
     go_wp2_with fail
     refine (none_any _).mono ?_
     rintro e wp ⟨rfl, hb⟩
     replace HST := Lib.hid (HST.out.quiet hb)
     clear hb
     unfold e0
     have hps0 := HST.out.size
     have HX3 := Lib.hid (box4_new wp 24 (.int .i64 33) (.string ⟨#[]⟩) (.string ⟨#[]⟩) (.slice none 0 0))
     have hb := (Below.refl (wp).heap.size (wp)).alloc (Nat.le_refl _) (.cells #[.int .i64 33, .string ⟨#[]⟩, .string ⟨#[]⟩, .slice none 0 0] 24)
     replace HST := Lib.hid (HST.out.quiet hb)
     clear hb
     have hg3 := HX3.out.lt
     have hNPHX3 : wp.heap.size ≠ P := by omega
     go_wp2_with fail
     refine (is_at HST.out.ps HU2.out HE.out).mono ?_
     rintro e w4 ⟨rfl, hb⟩
     replace HST := Lib.hid (HST.out.quiet hb)
     replace HX3 := Lib.hid (HX3.out.later hb)
     clear hb
     have hgs := HST.out.size
     skip
     go_wp2_with fail
     refine (calls_ok (HX.out _ _ HST.out.ps) HX2.out).mono ?_
     rintro e wx ⟨v, rfl, hv, hps, hbe⟩
     obtain ⟨An, Cn, rfl, hf⟩ := mx_new (B0 := w.heap.size + 1) (g := wp.heap.size) (g' := wp.heap.size) hv HST.out.size (by have hh3 := HX3.out.lt; omega) (by have hh3 := HX3.out.lt; omega)
     replace HST := Lib.hid (HST.out.read hbe hps)
     replace HX3 := Lib.hid (HX3.out.bes hbe hNPHX3)
     simp only at hf ⊢
     generalize hm : nc.len = mn at hf ⊢
     have Hmn := Lib.hid hm
     have HFn := Lib.hid hf
     clear hv hps hbe hf hm hgs
     obtain ⟨p0, p1, p2, p3⟩ := HX3.out.frz
     obtain ⟨c0, c1, c2, c3⟩ := HX3.out.cells
     have hw3 := HX3.out.lt
     replace HST := Lib.hid (HST.out.setg (y := wp.heap.size) (by omega) (.int .i64 nk) (.string nx) (.string ny) (.slice An mn Cn))
     replace HFn := Lib.hid (mx_setg HFn.out (x := wp.heap.size) (by omega) (.int .i64 nk) (.string nx) (.string ny) (.slice An mn Cn))
     replace HX3 := Lib.hid (HX3.out.set4 (.int .i64 nk) (.string nx) (.string ny) (.slice An mn Cn))
     have hsz3 := HX3.out.lt
     go_wp2
     clear p0 p1 p2 p3 c0 c1 c2 c3
     generalize ((((wx.setCell ⟨wp.heap.size, 0, none⟩ (.int .i64 nk)).setCell ⟨wp.heap.size, 1, none⟩ (.string nx)).setCell ⟨wp.heap.size, 2, none⟩ (.string ny)).setCell ⟨wp.heap.size, 3, none⟩ (.slice An mn Cn)) = wd at *
     refine region_ph [2, 5] (GN 2 5 P z d l3 l4 (FinYy w.heap.size wp.heap.size wp.heap.size (Parse.node 19 e0 (oneF ⟨nk, nx, ny, nc⟩ (one ⟨bk, bx, by', bc⟩)))) (BxA w.heap.size)) (Bes2 P (w.heap.size)) [Cd.is (.agg #[.int .i64 nk, .string nx, .string ny, .slice An mn Cn]), Cd.is (.pointer (some ⟨P, 0, none⟩)), cNdY wp.heap.size wp.heap.size hP0 ⟨bk, bx, by', bc⟩, cRowY wp.heap.size wp.heap.size hP0 (oneF ⟨nk, nx, ny, nc⟩ (one ⟨bk, bx, by', bc⟩)), cNdY wp.heap.size wp.heap.size hP0 (Parse.node 19 e0 (oneF ⟨nk, nx, ny, nc⟩ (one ⟨bk, bx, by', bc⟩))), Cd.any] (by kernel_rfl) (by decide) (by kernel_rfl) (Bes2.refl _ _ _) (fun _ _ _ h k => h.trans k) (fun _ _ h => Bes2.of h) (GN.keep (FinYy.later hP0) BxA.later) ?start ?steps ?behind
     case start =>
      intro x
      exact ⟨fun h => (by cases h), fun _ => HST.out.bx, fun h => (by cases h), fun _ => HST.out.ps.drewN 1⟩
     case steps =>
      intro xv W hW a ha
      replace hW := hW.undrew
      simp only [fillA] at ha
      simp only [List.setIfInBounds_toArray, List.set_cons_succ, List.set_cons_zero, Nat.zero_add, Nat.reduceAdd] at ha
      subst ha
      refine ⟨?s0, ?s1, ?s2, ?s3, ?s4, ?s5, trivial⟩
      all_goals intro dn hdi hdw hcl hphi hg K hK
      all_goals (try simp only [Act.put, List.setIfInBounds_toArray, List.set_cons_succ, List.set_cons_zero] at hK)
      case s0 =>
       clear hphi hdw
       refine (if_pos (by rfl)).mpr ?_
       obtain ⟨q0, q1, q2, q3⟩ := (HX3.out.bes2 hW hNPHX3 (by omega)).cells
       go_simp
       exact hK.out _ _ (Below.refl _ _) rfl
      case s1 =>
       clear hphi hdw
       refine (if_pos (by rfl)).mpr ?_
       go_simp
       exact hK.out _ _ (Below.refl _ _) rfl
      case s2 =>
       have hx1 : xv 1 = .pointer (some ⟨P, 0, none⟩) := hphi 1 (hdw 1 (by kernel_rfl))
       clear hphi hdw
       rw [hx1] at hK ⊢
       refine (if_pos (by rfl)).mpr ?_
       go_simp
       refine (calls_ok (HBL.out W _ (hg.2.2.2 hdi) (by omega)) HB.out).mono ?_
       rintro e W' ⟨v, rfl, hv, hps, hbe⟩
       exact hK.out _ _ ⟨Bes2.bes hbe, GN.call (by decide) hg (notYet hcl hdi (by kernel_rfl)) (fun h => h.bes hbe hRP) hps⟩ (mx_new hv (by have hh := HST.out.size; have hw := hW.size; have hq0 := HX3.out.lt; omega) (by have hh := HST.out.size; have hw := hW.size; have hq0 := HX3.out.lt; omega) (by have hh := HST.out.size; have hw := hW.size; have hq0 := HX3.out.lt; omega))
      case s3 =>
       have hx0 : xv 0 = .agg #[.int .i64 nk, .string nx, .string ny, .slice An mn Cn] := hphi 0 (hdw 0 (by kernel_rfl))
       obtain ⟨A2, C2, hx2, hf2⟩ : NdX (w.heap.size + 1) wp.heap.size wp.heap.size ⟨bk, bx, by', bc⟩ (xv 2) W := hphi 2 (hdw 2 (by kernel_rfl))
       clear hphi hdw
       rw [hx2] at hK ⊢
       rw [hx0] at hK ⊢
       refine (if_pos (by rfl)).mpr ?_
       go_simp
       exact hK.out _ _ ((Below.refl _ _).alloc (Nat.le_refl _) _) (rowX2 W (w.heap.size + 1) wp.heap.size wp.heap.size P (by have hh := HST.out.size; have hw := hW.size; have hq0 := HX3.out.lt; omega) (by have hh := HST.out.size; have hw := hW.size; have hq0 := HX3.out.lt; omega) (by have hh := HST.out.size; have hw := hW.size; have hq0 := HX3.out.lt; omega) hP0 nk nx ny nc _ (mxR HFn.out hW hP0) bk bx by' bc _ hf2)
      case s4 =>
       obtain ⟨A3, C3, hx3, hf3⟩ : RowX (w.heap.size + 1) wp.heap.size wp.heap.size (oneF ⟨nk, nx, ny, nc⟩ (one ⟨bk, bx, by', bc⟩)) (xv 3) W := hphi 3 (hdw 3 (by kernel_rfl))
       clear hphi hdw
       rw [hx3] at hK ⊢
       refine (if_pos (by rfl)).mpr ?_
       go_simp
       refine (node_any _ _ _ _ _ W).mono ?_
       rintro e W' ⟨rfl, hb⟩
       exact hK.out _ _ hb ⟨A3, C3, rfl, mx_later hf3 hb hP0⟩
      case s5 =>
       obtain ⟨A4, C4, hx4, hf4⟩ : NdX (w.heap.size + 1) wp.heap.size wp.heap.size (Parse.node 19 e0 (oneF ⟨nk, nx, ny, nc⟩ (one ⟨bk, bx, by', bc⟩))) (xv 4) W := hphi 4 (hdw 4 (by kernel_rfl))
       rw [hx4] at hK ⊢
       refine (if_pos (by rfl)).mpr ?_
       have hds : dn 2 = true := hdw 2 (by kernel_rfl)
       have hbx := hg.2.1 hdi
       obtain ⟨b0, b1, b2, b3, hbx4⟩ := id hbx
       obtain ⟨g0, g1, g2, g3⟩ := hbx4.frz
       obtain ⟨y0, y1, y2, y3⟩ := hbx4.cells
       simp only [Parse.node] at hf4 hK ⊢
       go_simp
       exact hK.out undef _ ⟨Bes2.set4 _ _ _ _ _, GN.store (by decide) (hds) (finY_set hbx4 rfl hf4) (ps_set4 (hg.2.2.1 hds) (by omega) _ _ _ _)⟩ trivial
     case behind =>
      intro dn xv W hW hall hx hg a ha
      replace hW := hW.undrew
      simp only [fillA] at ha
      simp only [List.setIfInBounds_toArray, List.set_cons_succ, List.set_cons_zero, Nat.zero_add, Nat.reduceAdd] at ha
      subst ha
      have hF := hg.1 (hall 5 (by decide))
      have hps := hg.2.2.1 (hall 2 (by decide))
      have hbw := Bes2.back HST.out.bes hW (Nat.le_refl _)
      obtain ⟨A, C, hbx, hpost⟩ := finYRet (w := w) HSP.out hF hps hbw
      have HPO := Lib.hid hpost
      have HBX2 := Lib.hid hbx
      clear hx hF hps hbw hpost hg hall hW hbx
      go_wp2
      refine bodyPost_ret (results_cell_row rfl _ _ w.heap.size 24 _ (0, 0) _ rfl HBX2.out Tryz.underlying24 rfl hi_nd) rfl ?_
      exact HPO.out
end Go.Proofs.YtaiihnniblibaaaGreatDoor.Parse
