/-
  Layer 7 (doc): the law DocWraps. Written by gen_docwraps.py.
-/
import Derived.Test.YtllpdccpenghgaaDocKnown
import Derived.Test.YtllpdccpenghgaaDocAlike
namespace Go.Proofs.Ytllpdccpenghgaa.Doc
open Go.ChangeShapes Go.WideShapes Go.ChangeAt Go.RowKit Mem
set_option linter.unusedVariables false

theorem own_caps {w : World} {base n : Nat} {E : TypeId} {a : Option Addr} {C : Nat} {vs : List Value} (h : w.ownsRow base E 2 (.slice a n C) n vs) : n ≤ C ∧ C ≤ maxLen := by
  rcases h.2 with ⟨e, h0⟩ | ⟨g, cap, cur, e, _, _, h3, h4, _⟩
  · injection e with _ _ e3; omega
  · injection e with _ _ e3; omega
/-- What Plain leaves, as it is read. -/
def PlPost (l : List Pc) (n : Nat) (w : World) (e : Ending) (w' : World) : Prop := (∃ (A : Option Addr) (C : Nat), e = .returned (.slice A n C) ∧ n ≤ C ∧ C ≤ maxLen ∧ RdP w' A l) ∧ Below w.heap.size w w'
theorem pl_of {l : List Pc} {n : Nat} {w : World} {f : Nat} {args : Array Value} (hn : l.length = n) (h : Calls Try.prog f args w (PlainPost l w)) : Calls Try.prog f args w (PlPost l n w) := by
  refine h.mono ?_
  rintro e w' ⟨A, C, rfl, ho, hb⟩
  obtain ⟨h1, h2⟩ := own_caps ho
  have h3 := RdP.of_own ho
  rw [hn] at h1 ⊢
  exact ⟨⟨A, C, rfl, h1, h2, h3⟩, hb⟩
theorem rd_at {w : World} {g off : Nat} {l : List Pc} (h : RdP w (some ⟨g, off, none⟩) l) {i : Nat} {p : Pc} (hp : l[i]? = some p) : w.cell? ⟨g, off + i * 2, none⟩ = some (.int .i64 p.1) ∧ w.cell? ⟨g, off + i * 2 + 1, none⟩ = some (.string p.2) := by
  rcases h with h | ⟨g', off', e, _, hc⟩
  · subst h; simp at hp
  · injection e with e
    injection e with e1 e2
    subst e1; subst e2
    exact hc i p hp
theorem pcs_nest (nd : Nd) : pcs1 (nestN nd) = ((5, emp) : Pc) :: (pcs1 nd ++ [((6, emp) : Pc)]) := by
  have := pcs_wrap 5 nd
  exact this
theorem pcs_group (nd : Nd) : pcs1 (groupN nd) = ((7, emp) : Pc) :: (pcs1 nd ++ [((8, emp) : Pc)]) := by
  have := pcs_wrap 7 nd
  exact this
theorem lo_later {w W : World} {v : Value} {g : G} (h : Gs w (Lo w.heap.size) v g) (hb : Below w.heap.size w W) : Gs W (Lo W.heap.size) v g := (h.below hb (Nat.le_refl _)).up hb.size
set_option maxHeartbeats 16000000 in
set_option maxRecDepth 100000 in
theorem docWraps_any (k : Int) (x : ByteArray) (A : Option Addr) (n C : Nat) (c : G) (w : World) (hs : Gs w (Lo w.heap.size) (.slice A n C) c) :
    Calls Try.prog 7 #[.agg #[.int .i64 k, .string x, .slice A n C]] w fun e w' => e = .returned (.bool true) ∧ Below w.heap.size w w' := by
  have b1' := (Below.refl w.heap.size w).alloc (Nat.le_refl _) (.cells #[.int .i64 k, .string x, .slice A n C] 24)
  have hx1 := heap_alloc_new w (.cells #[.int .i64 k, .string x, .slice A n C] 24)
  obtain ⟨p0, p1, p2⟩ := cl3 hx1
  have HF := Lib.hid (few_any k x A n C c _ (lo_later hs b1'))
  have HB1 := Lib.hid b1'
  have HX1 := Lib.hid hx1
  have HS := Lib.hid hs
  clear b1' hx1 hs
  go_enter Try.func7, Try.ntmps7
  go_wp2_with fail
  refine HF.out.mono ?_
  rintro e w2 ⟨⟨fb, rfl, hfb⟩, hb2⟩
  have HB2 := Lib.hid (HB1.out.trans (hb2.mono HB1.out.size))
  have hx2 := (hb2.block w.heap.size (lt_of HX1.out)).trans HX1.out
  have HX2 := Lib.hid hx2
  clear hb2 p0 p1 p2 HX1 HF
  cases fb with
  | false =>
    go_wp2_with fail
    refine (known_any w2).mono ?_
    rintro e w3 ⟨rfl, hb3⟩
    have HB3 := Lib.hid (HB2.out.trans (hb3.mono HB2.out.size))
    clear hb3
    go_wp2
    go_ret
    exact ⟨rfl, HB3.out⟩
  | true =>
    have hsz := hfb rfl
    have HBT := Lib.hid (built_any c.size (by omega) XF k x A n C c w2 (Nat.le_refl _) (xf w2) (lo_later HS.out HB2.out))
    obtain ⟨p0, p1, p2⟩ := cl3 hx2
    have hnd := b1_size k x c
    have hok := okN_b1 k x c
    obtain ⟨dn, hdn⟩ : ∃ dn, b1 k x c = dn := ⟨_, rfl⟩
    rw [hdn] at HBT hnd hok
    clear hx2 hdn hfb
    go_wp2_with fail
    refine HBT.out.mono ?_
    rintro e w3 ⟨sd, rfl, hg3, hb3⟩
    obtain ⟨kd, xd, cd⟩ := dn
    dsimp only at hg3 hnd hok ⊢
    obtain ⟨Ad, Ce, rfl, _, _⟩ := hg3.slice
    obtain ⟨nd, hnd2⟩ : ∃ nd, cd.len = nd := ⟨_, rfl⟩
    rw [hnd2] at hg3 ⊢
    have hb4 := (Below.refl w3.heap.size w3).alloc (Nat.le_refl _) (.cells #[.int .i64 kd, .string xd, .slice Ad nd Ce] 29)
    have hx4 := heap_alloc_new w3 (.cells #[.int .i64 kd, .string xd, .slice Ad nd Ce] 29)
    have HG4 := Lib.hid (hg3.dxB hb4)
    have HB4 := Lib.hid (HB2.out.trans ((hb3.trans (hb4.mono hb3.size)).mono HB2.out.size))
    obtain ⟨wd, hwd⟩ : ∃ wd, w3.alloc (.cells #[.int .i64 kd, .string xd, .slice Ad nd Ce] 29) = wd := ⟨_, rfl⟩
    have HWD := Lib.hid hwd
    rw [hwd] at HG4 HB4 hx4
    have HXD := Lib.hid hx4
    have hgd : w3.heap.size < wd.heap.size := lt_of hx4
    obtain ⟨gd, hgde⟩ : ∃ gd, w3.heap.size = gd := ⟨_, rfl⟩
    have HGDE := Lib.hid hgde
    rw [hgde] at HXD hgd
    obtain ⟨l, hl⟩ : ∃ l, pcs1 (⟨kd, xd, cd⟩ : Nd) = l := ⟨_, rfl⟩
    have hll : l.length ≤ 100000 := by
      have h1 := one_len kd xd cd.len (pcs cd)
      have h2 := pcs_len cd
      have h3 : l.length ≤ (pcs cd).length + 2 := by rw [← hl]; exact h1
      simp only [nsize] at hnd
      omega
    obtain ⟨m, hm⟩ : ∃ m, l.length = m := ⟨_, rfl⟩
    have hm2 : (((5, emp) : Pc) :: (l ++ [((6, emp) : Pc)])).length = m + 2 ∧ (((7, emp) : Pc) :: (l ++ [((8, emp) : Pc)])).length = m + 2 := by rw [← hm]; simp
    have HPL : Hid (∀ W, Below wd.heap.size wd W → Calls Try.prog 15 #[.agg #[.int .i64 kd, .string xd, .slice Ad nd Ce]] W (PlPost l m W)) := fun W hW => pl_of hm (hl ▸ plain_any ⟨kd, xd, cd⟩ (.slice Ad nd Ce) W (by omega) (HG4.out.dxB hW).toDb hok)
    have HNE : Hid (∀ W, Below wd.heap.size wd W → Calls Try.prog 22 #[.agg #[.int .i64 kd, .string xd, .slice Ad nd Ce]] W (DkPost 5 1 (.cons kd xd cd .nil) W)) := fun W hW => dk_of rfl (nest_any (⟨kd, xd, cd⟩ : Nd) (.slice Ad nd Ce) W (xf W) (HG4.out.dxB hW))
    have HGR : Hid (∀ W, Below wd.heap.size wd W → Calls Try.prog 23 #[.agg #[.int .i64 kd, .string xd, .slice Ad nd Ce]] W (DkPost 7 1 (.cons kd xd cd .nil) W)) := fun W hW => dk_of rfl (group_any (⟨kd, xd, cd⟩ : Nd) (.slice Ad nd Ce) W (xf W) (HG4.out.dxB hW))
    have hw1 := wrap_size 5 (⟨kd, xd, cd⟩ : Nd)
    have hw2 := wrap_size 7 (⟨kd, xd, cd⟩ : Nd)
    have HPN : Hid (∀ W A C, Gs W (Dx XF W) (.slice A 1 C) (.cons kd xd cd .nil) → Calls Try.prog 15 #[.agg #[.int .i64 5, .string ⟨#[]⟩, .slice A 1 C]] W (PlPost (((5, emp) : Pc) :: (l ++ [((6, emp) : Pc)])) (m + 2) W)) := fun W A C hg => pl_of hm2.1 (by
      have := plain_any (nestN ⟨kd, xd, cd⟩) (.slice A 1 C) W (Nat.le_trans hw1 (by omega)) hg.toDb (okN_nest hok)
      rw [pcs_nest, hl] at this
      exact this)
    have HPG : Hid (∀ W A C, Gs W (Dx XF W) (.slice A 1 C) (.cons kd xd cd .nil) → Calls Try.prog 15 #[.agg #[.int .i64 7, .string ⟨#[]⟩, .slice A 1 C]] W (PlPost (((7, emp) : Pc) :: (l ++ [((8, emp) : Pc)])) (m + 2) W)) := fun W A C hg => pl_of hm2.2 (by
      have := plain_any (groupN ⟨kd, xd, cd⟩) (.slice A 1 C) W (Nat.le_trans hw2 (by omega)) hg.toDb (okN_group hok)
      rw [pcs_group, hl] at this
      exact this)
    have HM := Lib.hid hm
    rw [hm] at hll
    clear hm2 hm
    clear hg3 hnd hok hb3 hb4 hx4 hwd hnd2 hl hw1 hw2 HBT p0 p1 p2 hsz
    go_wp2
    rw [HWD.out]
    refine region_rel (fun W W' => Below W.heap.size W W') [Cd.is (Value.agg #[.int .i64 kd, .string xd, .slice Ad nd Ce]), ⟨fun v W => ∃ (A : Option Addr) (C : Nat), v = Value.slice A (m) C ∧ m ≤ C ∧ C ≤ maxLen ∧ RdP W A (l), fun v W W' hU h => by obtain ⟨A, C, e, h1, h2, h3⟩ := h; exact ⟨A, C, e, h1, h2, h3.below hU⟩⟩, Cd.is (Value.agg #[.int .i64 kd, .string xd, .slice Ad nd Ce]), ⟨fun v W => ∃ (A : Option Addr) (C : Nat), v = Value.agg #[.int .i64 5, .string ⟨#[]⟩, .slice A 1 C] ∧ Gs W (Dx XF W) (.slice A 1 C) (.cons kd xd cd .nil), fun v W W' hU h => by obtain ⟨A, C, e, hg⟩ := h; exact ⟨A, C, e, hg.dxB hU⟩⟩, ⟨fun v W => ∃ (A : Option Addr) (C : Nat), v = Value.slice A (m + 2) C ∧ m + 2 ≤ C ∧ C ≤ maxLen ∧ RdP W A (((5, emp) : Pc) :: (l ++ [((6, emp) : Pc)])), fun v W W' hU h => by obtain ⟨A, C, e, h1, h2, h3⟩ := h; exact ⟨A, C, e, h1, h2, h3.below hU⟩⟩, Cd.is (Value.agg #[.int .i64 kd, .string xd, .slice Ad nd Ce]), ⟨fun v W => ∃ (A : Option Addr) (C : Nat), v = Value.agg #[.int .i64 7, .string ⟨#[]⟩, .slice A 1 C] ∧ Gs W (Dx XF W) (.slice A 1 C) (.cons kd xd cd .nil), fun v W W' hU h => by obtain ⟨A, C, e, hg⟩ := h; exact ⟨A, C, e, hg.dxB hU⟩⟩, ⟨fun v W => ∃ (A : Option Addr) (C : Nat), v = Value.slice A (m + 2) C ∧ m + 2 ≤ C ∧ C ≤ maxLen ∧ RdP W A (((7, emp) : Pc) :: (l ++ [((8, emp) : Pc)])), fun v W W' hU h => by obtain ⟨A, C, e, h1, h2, h3⟩ := h; exact ⟨A, C, e, h1, h2, h3.below hU⟩⟩, ⟨fun v W => ∃ (A : Option Addr) (C : Nat), v = Value.slice A (m) C ∧ m ≤ C ∧ C ≤ maxLen ∧ RdP W A (l), fun v W W' hU h => by obtain ⟨A, C, e, h1, h2, h3⟩ := h; exact ⟨A, C, e, h1, h2, h3.below hU⟩⟩, ⟨fun v W => ∃ (A : Option Addr) (C : Nat), v = Value.slice A (m + 2) C ∧ m + 2 ≤ C ∧ C ≤ maxLen ∧ RdP W A (((5, emp) : Pc) :: (l ++ [((6, emp) : Pc)])), fun v W W' hU h => by obtain ⟨A, C, e, h1, h2, h3⟩ := h; exact ⟨A, C, e, h1, h2, h3.below hU⟩⟩, ⟨fun v W => ∃ (A : Option Addr) (C : Nat), v = Value.slice A (m + 2) C ∧ m + 2 ≤ C ∧ C ≤ maxLen ∧ RdP W A (((7, emp) : Pc) :: (l ++ [((8, emp) : Pc)])), fun v W W' hU h => by obtain ⟨A, C, e, h1, h2, h3⟩ := h; exact ⟨A, C, e, h1, h2, h3.below hU⟩⟩] (by kernel_rfl) (by decide) (by kernel_rfl) (Below.refl _ _) (fun _ _ _ h k => h.trans (k.mono h.size)) ?steps ?behind
    case steps =>
      intro xv W hW a ha
      replace hW : Below wd.heap.size wd W := ⟨hW.os, hW.tape, hW.output, hW.size, hW.block⟩
      simp only [fillA] at ha
      simp only [List.setIfInBounds_toArray, List.set_cons_succ, List.set_cons_zero, Nat.zero_add, Nat.reduceAdd] at ha
      subst ha
      refine ⟨fun hd K hK => ?s0, fun hd K hK => ?s1, fun hd K hK => ?s2, fun hd K hK => ?s3, fun hd K hK => ?s4, fun hd K hK => ?s5, fun hd K hK => ?s6, fun hd K hK => ?s7, fun hd K hK => ?s8, fun hd K hK => ?s9, fun hd K hK => ?s10, trivial⟩
      case s0 =>
        clear hd
        simp only [Act.put, List.setIfInBounds_toArray, List.set_cons_succ, List.set_cons_zero] at hK
        refine (if_pos (by rfl)).mpr ?_
        obtain ⟨hq0, hq1, hq2⟩ := cl3 ((hW.block gd hgd).trans HXD.out)
        go_simp
        exact hK.out _ _ (Below.refl _ _) rfl
      case s1 =>
        have hx0 : xv 0 = Value.agg #[.int .i64 kd, .string xd, .slice Ad nd Ce] := hd 0 (by kernel_rfl)
        clear hd
        simp only [Act.put, List.setIfInBounds_toArray, List.set_cons_succ, List.set_cons_zero] at hK
        rw [hx0] at hK ⊢
        refine (if_pos (by rfl)).mpr ?_
        go_simp
        go_at_call 15
        refine (HPL.out W hW).mono ?_
        rintro e w' ⟨⟨A, C, rfl, h1, h2, h3⟩, hb⟩
        exact hK.out _ _ hb ⟨A, C, rfl, h1, h2, h3⟩
      case s2 =>
        clear hd
        simp only [Act.put, List.setIfInBounds_toArray, List.set_cons_succ, List.set_cons_zero] at hK
        refine (if_pos (by rfl)).mpr ?_
        obtain ⟨hq0, hq1, hq2⟩ := cl3 ((hW.block gd hgd).trans HXD.out)
        go_simp
        exact hK.out _ _ (Below.refl _ _) rfl
      case s3 =>
        have hx2 : xv 2 = Value.agg #[.int .i64 kd, .string xd, .slice Ad nd Ce] := hd 2 (by kernel_rfl)
        clear hd
        simp only [Act.put, List.setIfInBounds_toArray, List.set_cons_succ, List.set_cons_zero] at hK
        rw [hx2] at hK ⊢
        refine (if_pos (by rfl)).mpr ?_
        go_simp
        go_at_call 22
        refine (HNE.out W hW).mono ?_
        rintro e w' ⟨⟨A, C, rfl, hg⟩, hb⟩
        exact hK.out _ _ hb ⟨A, C, rfl, hg⟩
      case s4 =>
        have hx3 : ∃ (A : Option Addr) (C : Nat), xv 3 = Value.agg #[.int .i64 5, .string ⟨#[]⟩, .slice A 1 C] ∧ Gs W (Dx XF W) (.slice A 1 C) (.cons kd xd cd .nil) := hd 3 (by kernel_rfl)
        clear hd
        simp only [Act.put, List.setIfInBounds_toArray, List.set_cons_succ, List.set_cons_zero] at hK
        refine (if_pos (by rfl)).mpr ?_
        obtain ⟨A, C, e3, hgs⟩ := hx3
        rw [e3] at hK ⊢
        go_simp
        go_at_call 15
        refine (HPN.out W A C hgs).mono ?_
        rintro e w' ⟨⟨A, C, rfl, h1, h2, h3⟩, hb⟩
        exact hK.out _ _ hb ⟨A, C, rfl, h1, h2, h3⟩
      case s5 =>
        clear hd
        simp only [Act.put, List.setIfInBounds_toArray, List.set_cons_succ, List.set_cons_zero] at hK
        refine (if_pos (by rfl)).mpr ?_
        obtain ⟨hq0, hq1, hq2⟩ := cl3 ((hW.block gd hgd).trans HXD.out)
        go_simp
        exact hK.out _ _ (Below.refl _ _) rfl
      case s6 =>
        have hx5 : xv 5 = Value.agg #[.int .i64 kd, .string xd, .slice Ad nd Ce] := hd 5 (by kernel_rfl)
        clear hd
        simp only [Act.put, List.setIfInBounds_toArray, List.set_cons_succ, List.set_cons_zero] at hK
        rw [hx5] at hK ⊢
        refine (if_pos (by rfl)).mpr ?_
        go_simp
        go_at_call 23
        refine (HGR.out W hW).mono ?_
        rintro e w' ⟨⟨A, C, rfl, hg⟩, hb⟩
        exact hK.out _ _ hb ⟨A, C, rfl, hg⟩
      case s7 =>
        have hx6 : ∃ (A : Option Addr) (C : Nat), xv 6 = Value.agg #[.int .i64 7, .string ⟨#[]⟩, .slice A 1 C] ∧ Gs W (Dx XF W) (.slice A 1 C) (.cons kd xd cd .nil) := hd 6 (by kernel_rfl)
        clear hd
        simp only [Act.put, List.setIfInBounds_toArray, List.set_cons_succ, List.set_cons_zero] at hK
        refine (if_pos (by rfl)).mpr ?_
        obtain ⟨A, C, e6, hgs⟩ := hx6
        rw [e6] at hK ⊢
        go_simp
        go_at_call 15
        refine (HPG.out W A C hgs).mono ?_
        rintro e w' ⟨⟨A, C, rfl, h1, h2, h3⟩, hb⟩
        exact hK.out _ _ hb ⟨A, C, rfl, h1, h2, h3⟩
      case s8 =>
        have hx1 : ∃ (A : Option Addr) (C : Nat), xv 1 = Value.slice A (m) C ∧ m ≤ C ∧ C ≤ maxLen ∧ RdP W A (l) := hd 1 (by kernel_rfl)
        clear hd
        simp only [Act.put, List.setIfInBounds_toArray, List.set_cons_succ, List.set_cons_zero] at hK
        refine (if_pos (by rfl)).mpr ?_
        obtain ⟨A, C, e1, h1, h2, h3⟩ := hx1
        rw [e1] at hK ⊢
        go_simp
        exact hK.out _ _ (Below.refl _ _) ⟨A, C, rfl, h1, h2, h3⟩
      case s9 =>
        have hx4 : ∃ (A : Option Addr) (C : Nat), xv 4 = Value.slice A (m + 2) C ∧ m + 2 ≤ C ∧ C ≤ maxLen ∧ RdP W A (((5, emp) : Pc) :: (l ++ [((6, emp) : Pc)])) := hd 4 (by kernel_rfl)
        clear hd
        simp only [Act.put, List.setIfInBounds_toArray, List.set_cons_succ, List.set_cons_zero] at hK
        refine (if_pos (by rfl)).mpr ?_
        obtain ⟨A, C, e1, h1, h2, h3⟩ := hx4
        rw [e1] at hK ⊢
        go_simp
        exact hK.out _ _ (Below.refl _ _) ⟨A, C, rfl, h1, h2, h3⟩
      case s10 =>
        have hx7 : ∃ (A : Option Addr) (C : Nat), xv 7 = Value.slice A (m + 2) C ∧ m + 2 ≤ C ∧ C ≤ maxLen ∧ RdP W A (((7, emp) : Pc) :: (l ++ [((8, emp) : Pc)])) := hd 7 (by kernel_rfl)
        clear hd
        simp only [Act.put, List.setIfInBounds_toArray, List.set_cons_succ, List.set_cons_zero] at hK
        refine (if_pos (by rfl)).mpr ?_
        obtain ⟨A, C, e1, h1, h2, h3⟩ := hx7
        rw [e1] at hK ⊢
        go_simp
        exact hK.out _ _ (Below.refl _ _) ⟨A, C, rfl, h1, h2, h3⟩
    case behind =>
      intro xv W hW hx a ha
      replace hW : Below wd.heap.size wd W := ⟨hW.os, hW.tape, hW.output, hW.size, hW.block⟩
      simp only [fillA] at ha
      simp only [List.setIfInBounds_toArray, List.set_cons_succ, List.set_cons_zero, Nat.zero_add, Nat.reduceAdd] at ha
      subst ha
      obtain ⟨A1, C1, e8, hc1, hm1, hr1⟩ : ∃ (A : Option Addr) (C : Nat), xv 8 = Value.slice A (m) C ∧ m ≤ C ∧ C ≤ maxLen ∧ RdP W A (l) := hx 8 (by decide)
      obtain ⟨A2, C2, e9, hc2, hm2, hr2⟩ : ∃ (A : Option Addr) (C : Nat), xv 9 = Value.slice A (m + 2) C ∧ m + 2 ≤ C ∧ C ≤ maxLen ∧ RdP W A (((5, emp) : Pc) :: (l ++ [((6, emp) : Pc)])) := hx 9 (by decide)
      obtain ⟨A3, C3, e10, hc3, hm3, hr3⟩ : ∃ (A : Option Addr) (C : Nat), xv 10 = Value.slice A (m + 2) C ∧ m + 2 ≤ C ∧ C ≤ maxLen ∧ RdP W A (((7, emp) : Pc) :: (l ++ [((8, emp) : Pc)])) := hx 10 (by decide)
      rw [e8, e9, e10]
      have HB5 := Lib.hid (HB4.out.trans (hW.mono HB4.out.size))
      have HK := Lib.hid (known_any W)
      clear hx hW e8 e9 e10 HPL HNE HGR HPN HPG HXD
      have hA2 : ∃ g off, A2 = some ⟨g, off, none⟩ := by
        rcases hr2 with h | ⟨g, off, e, _⟩
        · cases h
        · exact ⟨g, off, e⟩
      have hA3 : ∃ g off, A3 = some ⟨g, off, none⟩ := by
        rcases hr3 with h | ⟨g, off, e, _⟩
        · cases h
        · exact ⟨g, off, e⟩
      obtain ⟨g2, o2, rfl⟩ := hA2
      obtain ⟨g3, o3, rfl⟩ := hA3
      go_wp2_with fail
      refine HK.out.mono ?_
      rintro e w9 ⟨rfl, hb9⟩
      have hr1' := hr1.below hb9
      have hr2' := hr2.below hb9
      have hr3' := hr3.below hb9
      have hm2' := hr2'.mid
      have hm3' := hr3'.mid
      have z2 := (rd_at hr2' (i := 0) rfl).1
      have z3 := (rd_at hr3' (i := 0) rfl).1
      have y2 := (rd_at hr2' (i := m + 1) (p := ((6, emp) : Pc)) (by rw [List.getElem?_cons_succ, ← HM.out]; simp)).1
      have y3 := (rd_at hr3' (i := m + 1) (p := ((8, emp) : Pc)) (by rw [List.getElem?_cons_succ, ← HM.out]; simp)).1
      simp only [Nat.zero_mul, Nat.add_zero] at z2 z3
      have HB9 := Lib.hid (HB5.out.trans (hb9.mono HB5.out.size))
      have HA1 := Lib.hid (fun W hW => alike_any (some ⟨g2, o2 + 2, none⟩) A1 m (C2 - 1) C1 l W HM.out (by omega) (by omega) hc1 (hm2'.below hW) (hr1'.below hW) : ∀ W, Below w9.heap.size w9 W → _)
      have HA2 := Lib.hid (fun W hW => alike_any (some ⟨g3, o3 + 2, none⟩) A1 m (C3 - 1) C1 l W HM.out (by omega) (by omega) hc1 (hm3'.below hW) (hr1'.below hW) : ∀ W, Below w9.heap.size w9 W → _)
      unfold maxLen at hm1 hm2 hm3
      clear hb9 hr1 hr2 hr3 hr1' hr2' hr3' hm2' hm3' HK
      go_wp2_with fail
      refine (HA1.out w9 (Below.refl _ _)).mono ?_
      rintro e w10 ⟨rfl, hb10⟩
      have HA3 := Lib.hid (HA2.out w10 hb10)
      have HB10 := Lib.hid (HB9.out.trans (hb10.mono HB9.out.size))
      clear hb10 z2 z3 y2 y3
      go_wp2_with fail
      refine HA3.out.mono ?_
      rintro e w11 ⟨rfl, hb11⟩
      have HB11 := Lib.hid (HB10.out.trans (hb11.mono HB10.out.size))
      clear hb11
      go_wp2
      go_ret
      exact ⟨rfl, HB11.out⟩
end Go.Proofs.Ytllpdccpenghgaa.Doc
