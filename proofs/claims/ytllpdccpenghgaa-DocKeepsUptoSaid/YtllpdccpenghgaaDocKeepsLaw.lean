/-
  Layer 7 (doc): the law DocKeeps. Written by gen_dockeeps.py.
-/
import Derived.Test.YtllpdccpenghgaaDocIs
import Derived.Test.YtllpdccpenghgaaDocBulk
namespace Go.Proofs.Ytllpdccpenghgaa.Doc
open Go.ChangeShapes Go.WideShapes Go.ChangeAt Go.RowKit Mem
set_option linter.unusedVariables false

/-- Pieces as they are read stay, if their block does. -/
theorem RdP.keep {w w' : World} {a : Option Addr} {l : List Pc} (h : RdP w a l) (hs : w.heap.size ≤ w'.heap.size) (hk : ∀ g off, a = some ⟨g, off, none⟩ → g < w.heap.size → w'.heap[g]? = w.heap[g]?) : RdP w' a l := by
  rcases h with h | ⟨g, off, e, hg, hc⟩
  · exact .inl h
  · have e2 := hk g off e hg
    exact .inr ⟨g, off, e, Nat.lt_of_lt_of_le hg hs, fun i p hp => ⟨(World.cell?_of_block (a := ⟨g, off + i * 2, none⟩) e2).trans (hc i p hp).1, (World.cell?_of_block (a := ⟨g, off + i * 2 + 1, none⟩) e2).trans (hc i p hp).2⟩⟩
/-- What Plain leaves, as it is read, with where it may lie. -/
def PnPost (l : List Pc) (n : Nat) (w : World) (e : Ending) (w' : World) : Prop := (∃ (A : Option Addr) (C : Nat), e = .returned (.slice A n C) ∧ n ≤ C ∧ C ≤ maxLen ∧ RdP w' A l ∧ ∀ g off, A = some ⟨g, off, none⟩ → w.heap.size ≤ g) ∧ Below w.heap.size w w'
theorem pn_of {l : List Pc} {n : Nat} {w : World} {f : Nat} {args : Array Value} (hn : l.length = n) (h : Calls Try.prog f args w (PlainPost l w)) : Calls Try.prog f args w (PnPost l n w) := by
  refine h.mono ?_
  rintro e w' ⟨A, C, rfl, ho, hb⟩
  obtain ⟨h1, h2⟩ := own_caps ho
  have h3 := RdP.of_own ho
  have h4 : ∀ g off, A = some ⟨g, off, none⟩ → w.heap.size ≤ g := fun g off e => (ho.lt g (by rw [e]; rfl)).1
  rw [hn] at h1 ⊢
  exact ⟨⟨A, C, rfl, h1, h2, h3, h4⟩, hb⟩
/-- What Plain leaves, as a block of its own. -/
def PoPost (l : List Pc) (n : Nat) (w : World) (e : Ending) (w' : World) : Prop := (∃ (A : Option Addr) (C : Nat), e = .returned (.slice A n C) ∧ n ≤ C ∧ C ≤ maxLen ∧ (n = 0 ∨ ∃ g cs, A = some ⟨g, 0, none⟩ ∧ w.heap.size ≤ g ∧ w'.heap[g]? = some (Obj.cells cs 47 (0, 0)) ∧ ∀ i p, l[i]? = some p → cs[i * 2 + 1]? = some (.string p.2))) ∧ Below w.heap.size w w'
theorem po_of {l : List Pc} {n : Nat} {w : World} {f : Nat} {args : Array Value} (hn : l.length = n) (h : Calls Try.prog f args w (PlainPost l w)) : Calls Try.prog f args w (PoPost l n w) := by
  refine h.mono ?_
  rintro e w' ⟨A, C, rfl, ho, hb⟩
  obtain ⟨h1, h2⟩ := own_caps ho
  have h3 : n = 0 ∨ ∃ g cs, A = some ⟨g, 0, none⟩ ∧ w.heap.size ≤ g ∧ w'.heap[g]? = some (Obj.cells cs 47 (0, 0)) ∧ ∀ i p, l[i]? = some p → cs[i * 2 + 1]? = some (.string p.2) := by
    rcases ho.2 with ⟨e, h0⟩ | ⟨g, cap, cur, e, hg, hc, h3, h4, h5, h6⟩
    · exact .inl (by omega)
    · injection e with e1 _ _
      refine .inr ⟨g, cur, e1, hg, hc, fun i p hp => ?_⟩
      have h7 := MemT.flat_at (f := pcC) (sz := 2) pcC_len l i p hp 1 _ rfl
      rw [← h6] at h7
      rw [List.getElem?_take] at h7
      split at h7
      · simpa using h7
      · cases h7
  rw [hn] at h1 ⊢
  exact ⟨⟨A, C, rfl, h1, h2, h3⟩, hb⟩
/-- Two documents put into a row of three. -/
theorem puts2 {W : World} {g : Nat} {a0 a1 a2 a3 a4 a5 a6 a7 a8 : Value} (h : W.heap[g]? = some (Obj.cells #[a0, a1, a2, a3, a4, a5, a6, a7, a8] 29 (0, 0))) (b0 b1 b2 b3 b4 b5 : Value) :
    ∃ W9, (((((W.setCell ⟨g, 0, none⟩ b0).setCell ⟨g, 1, none⟩ b1).setCell ⟨g, 2, none⟩ b2).setCell ⟨g, 3, none⟩ b3).setCell ⟨g, 4, none⟩ b4).setCell ⟨g, 5, none⟩ b5 = W9 ∧ (∀ k, k ≠ g → W9.heap[k]? = W.heap[k]?) ∧ Below g W W9 := by
  refine ⟨_, rfl, fun k hk => ?_, ((((((Below.refl g W).setCell (p := ⟨g, 0, none⟩) (Nat.le_refl _) b0).setCell (p := ⟨g, 1, none⟩) (Nat.le_refl _) b1).setCell (p := ⟨g, 2, none⟩) (Nat.le_refl _) b2).setCell (p := ⟨g, 3, none⟩) (Nat.le_refl _) b3).setCell (p := ⟨g, 4, none⟩) (Nat.le_refl _) b4).setCell (p := ⟨g, 5, none⟩) (Nat.le_refl _) b5⟩
  rw [Below.heap_setCell _ _ _ _ (by exact hk), Below.heap_setCell _ _ _ _ (by exact hk), Below.heap_setCell _ _ _ _ (by exact hk), Below.heap_setCell _ _ _ _ (by exact hk), Below.heap_setCell _ _ _ _ (by exact hk), Below.heap_setCell _ _ _ _ (by exact hk)]
theorem cl9 {W : World} {g : Nat} {a0 a1 a2 a3 a4 a5 a6 a7 a8 : Value} {T : TypeId} (h : W.heap[g]? = some (Obj.cells #[a0, a1, a2, a3, a4, a5, a6, a7, a8] T (0, 0))) :
    (W.cell? ⟨g, 0, none⟩ = some a0 ∧ W.cell? ⟨g, 1, none⟩ = some a1 ∧ W.cell? ⟨g, 2, none⟩ = some a2) ∧ (W.cell? ⟨g, 3, none⟩ = some a3 ∧ W.cell? ⟨g, 4, none⟩ = some a4 ∧ W.cell? ⟨g, 5, none⟩ = some a5) ∧ (W.cell? ⟨g, 6, none⟩ = some a6 ∧ W.cell? ⟨g, 7, none⟩ = some a7 ∧ W.cell? ⟨g, 8, none⟩ = some a8) := by
  refine ⟨⟨?_, ?_, ?_⟩, ⟨?_, ?_, ?_⟩, ?_, ?_, ?_⟩ <;> simp [World.cell?, h]
/-- The loop that writes into the pieces: what it has still ahead is as it was. -/
structure LI (w16 : World) (A : Option Addr) (m : Nat) (l : List Pc) (i : Nat) (wr : World) : Prop where
  bel : Below w16.heap.size w16 wr
  row : m = 0 ∨ ∃ gm cs, A = some ⟨gm, 0, none⟩ ∧ w16.heap.size ≤ gm ∧ wr.heap[gm]? = some (Obj.cells cs 47 (0, 0)) ∧ ∀ j p, i ≤ j → l[j]? = some p → cs[j * 2 + 1]? = some (.string p.2)
theorem LI.at_ {w16 wr : World} {A : Option Addr} {m i : Nat} {l : List Pc} (h : LI w16 A m l i wr) (hm : l.length = m) (hi : i < m) : ∃ gm cs p, A = some ⟨gm, 0, none⟩ ∧ w16.heap.size ≤ gm ∧ wr.heap[gm]? = some (Obj.cells cs 47 (0, 0)) ∧ l[i]? = some p ∧ cs[i * 2 + 1]? = some (.string p.2) := by
  obtain ⟨gm, cs, e, h1, h2, h3⟩ := h.row.resolve_left (by omega)
  have hp : l[i]? = some (l[i]'(by omega)) := List.getElem?_eq_getElem _
  exact ⟨gm, cs, _, e, h1, h2, hp, h3 i _ (Nat.le_refl _) hp⟩
theorem LI.put {w16 wr : World} {m i gm : Nat} {cs : Array Value} {l : List Pc} (h : LI w16 (some ⟨gm, 0, none⟩) m l i wr) (hcs : wr.heap[gm]? = some (Obj.cells cs 47 (0, 0))) (hg : w16.heap.size ≤ gm) (hi : i < m) {v : Value} : LI w16 (some ⟨gm, 0, none⟩) m l (i + 1) (wr.setCell ⟨gm, i * 2 + 1, none⟩ v) := by
  refine ⟨h.bel.trans ((Below.refl _ _).setCell (p := ⟨gm, i * 2 + 1, none⟩) hg v), .inr ⟨gm, _, rfl, hg, set_at hcs (i * 2 + 1) v, fun j p hj hp => ?_⟩⟩
  obtain ⟨g2, cs2, e, _, h2, h3⟩ := h.row.resolve_left (by omega)
  injection e with e; injection e with e1 e2
  subst e1
  rw [hcs] at h2
  injection h2 with h2; injection h2 with h2
  subst h2
  rw [Array.getElem?_setIfInBounds_ne (by omega)]
  exact h3 j p (by omega) hp
/-- How long a piece's text may be. -/
theorem plOne_txt {k : Int} {x : ByteArray} {l : List Pc} {M : Nat} (hx : x.size ≤ M) (hl : ∀ p ∈ l, p.2.size ≤ M) : ∀ p ∈ plOne k x l, p.2.size ≤ M := by
  have h5 : ∀ p ∈ wopn k, p.2.size ≤ M := by
    unfold wopn; split
    · intro p hp; rw [List.mem_singleton.1 hp]; exact Nat.zero_le _
    · intro p hp; cases hp
  have h6 : ∀ p ∈ wcls k, p.2.size ≤ M := by
    unfold wcls; split
    · intro p hp; rw [List.mem_singleton.1 hp]; exact Nat.zero_le _
    · intro p hp; cases hp
  intro p hp
  unfold plOne at hp
  split at hp
  · split at hp
    · cases hp
    · rw [List.mem_singleton.1 hp]; exact hx
  · split at hp
    · rw [List.mem_singleton.1 hp]; exact Nat.zero_le _
    · rcases List.mem_append.1 hp with hp | hp
      · exact h5 p hp
      · rcases List.mem_append.1 hp with hp | hp
        · exact hl p hp
        · exact h6 p hp
theorem plP_txt {M : Nat} : ∀ c : G, txt c ≤ M → ∀ p ∈ plP c, p.2.size ≤ M
  | .nil, _ => fun p hp => by cases hp
  | .cons k x c r, h => fun p hp => by
    simp only [txt] at h
    simp only [plP] at hp
    rcases List.mem_append.1 hp with hp | hp
    · exact plOne_txt (by omega) (plP_txt c (by omega)) p hp
    · exact plP_txt r (by omega) p hp
set_option maxHeartbeats 32000000 in
set_option maxRecDepth 100000 in
theorem docKeeps_any (k : Int) (x : ByteArray) (A : Option Addr) (n C : Nat) (c : G) (w : World) (hs : Gs w (Lo w.heap.size) (.slice A n C) c) (htx : x.size + txt c ≤ 1048576) :
    Calls Try.prog 5 #[.agg #[.int .i64 k, .string x, .slice A n C]] w fun e w' => e = .returned (.bool true) ∧ Below w.heap.size w w' := by
  have b1' := (Below.refl w.heap.size w).alloc (Nat.le_refl _) (.cells #[.int .i64 k, .string x, .slice A n C] 24)
  have hx1 := heap_alloc_new w (.cells #[.int .i64 k, .string x, .slice A n C] 24)
  obtain ⟨p0, p1, p2⟩ := cl3 hx1
  have HF := Lib.hid (few_any k x A n C c _ (lo_later hs b1'))
  have HB1 := Lib.hid b1'
  have HX1 := Lib.hid hx1
  have HS := Lib.hid hs
  have HTX := Lib.hid htx
  clear b1' hx1 hs htx
  go_enter Try.func5, Try.ntmps5
  go_wp2_with fail
  refine HF.out.mono ?_
  rintro e w2 ⟨⟨fb, rfl, hfb⟩, hb2⟩
  have HB2 := Lib.hid (HB1.out.trans (hb2.mono HB1.out.size))
  have hx2 := (hb2.block w.heap.size (lt_of HX1.out)).trans HX1.out
  clear hb2 p0 p1 p2 HX1 HF
  cases fb with
  | false =>
    go_wp2_with fail
    refine (known_any w2).mono ?_
    rintro e w3 ⟨rfl, hb3⟩
    have HB3 := Lib.hid (HB2.out.trans (hb3.mono HB2.out.size))
    clear hb3
    go_wp2
    go_ret
    exact ⟨rfl, HB3.out⟩
  | true =>
    have HBT := Lib.hid (built_is (X := XF) (k := k) (x := x) (xf w2) (hfb rfl) (lo_later HS.out HB2.out))
    obtain ⟨p0, p1, p2⟩ := cl3 hx2
    have htp : ∀ p ∈ plOne k x (plP c), p.2.size ≤ 1048576 := plOne_txt (by have := HTX.out; omega) (plP_txt c (by have := HTX.out; omega))
    obtain ⟨l, hl⟩ : ∃ l, plOne k x (plP c) = l := ⟨_, rfl⟩
    rw [hl] at htp HBT
    have HTP := Lib.hid htp
    clear hfb htp hl hx2 HTX HS
    go_wp2_with fail
    refine HBT.out.mono ?_
    rintro e w3 ⟨⟨kd, xd, Ad, nd, Cq, rfl, hd3⟩, hb3⟩
    have hb4 := (Below.refl w3.heap.size w3).alloc (Nat.le_refl _) (.cells #[.int .i64 kd, .string xd, .slice Ad nd Cq] 29)
    have hx4 := heap_alloc_new w3 (.cells #[.int .i64 kd, .string xd, .slice Ad nd Cq] 29)
    have HD := Lib.hid (hd3.later hb4)
    have HB4 := Lib.hid (HB2.out.trans ((hb3.trans (hb4.mono hb3.size)).mono HB2.out.size))
    have hll := hd3.len
    obtain ⟨m, hm⟩ : ∃ m, l.length = m := ⟨_, rfl⟩
    have HM := Lib.hid hm
    rw [hm] at hll
    obtain ⟨wd, hwd⟩ : ∃ wd, w3.alloc (.cells #[.int .i64 kd, .string xd, .slice Ad nd Cq] 29) = wd := ⟨_, rfl⟩
    have HWD := Lib.hid hwd
    rw [hwd] at HD HB4 hx4
    obtain ⟨gd, hgde⟩ : ∃ gd, w3.heap.size = gd := ⟨_, rfl⟩
    rw [hgde] at hx4
    have HXD := Lib.hid hx4
    have HGDE := Lib.hid hgde
    obtain ⟨z0, z1, z2⟩ := cl3 hx4
    have HC := Lib.hid (pn_of hm (plain_own HD.out (by omega)))
    clear hd3 hb3 hb4 hx4 hwd hgde hm p0 p1 p2 HBT
    go_wp2_with (rw [HWD.out, HGDE.out])
    refine HC.out.mono ?_
    rintro e w4 ⟨⟨A4, C4, rfl, hc4, hm4, hr4, hg4⟩, hb⟩
    have HB4' := Lib.hid (HB4.out.trans (hb.mono HB4.out.size))
    have hxd := (hb.block _ (lt_of HXD.out)).trans HXD.out
    have hd4 := HD.out.later hb
    replace HD := Lib.hid hd4
    replace HXD := Lib.hid hxd
    have HR4 := Lib.hid hr4
    have HA4 : Hid (∀ g off, A4 = some ⟨g, off, none⟩ → g < w4.heap.size ∨ l = []) := fun g off e => by
      rcases hr4 with h | ⟨g', off', e', hg', _⟩
      · exact .inr h
      · rw [e] at e'; injection e' with e'; injection e' with e1 e2; subst e1; exact .inl hg'
    clear hb hxd hd4 hr4 hg4 z0 z1 z2 HC HB4
    go_wp2
    refine region_rel (fun W W' => Below W.heap.size W W') [Cd.is (Value.agg #[.int .i64 kd, .string xd, .slice Ad nd Cq]), ⟨fun v W => ∃ (kt : Int) (xt : ByteArray) (At : Option Addr) (nt Ct : Nat), v = Value.agg #[.int .i64 kt, .string xt, .slice At nt Ct] ∧ IsD XF W 1 [((1, ⟨#[120]⟩) : Pc)] kt xt At nt Ct, fun v W W' hU h => by obtain ⟨kt, xt, At, nt, Ct, e, hd⟩ := h; exact ⟨kt, xt, At, nt, Ct, e, hd.later hU⟩⟩, Cd.is (Value.agg #[.int .i64 kd, .string xd, .slice Ad nd Cq]), ⟨fun v W => ∃ (g : Nat) (kt : Int) (xt : ByteArray) (At : Option Addr) (nt Ct : Nat), v = Value.slice (some ⟨g, 0, none⟩) 3 3 ∧ w4.heap.size ≤ g ∧ W.heap[g]? = some (Obj.cells #[.int .i64 kd, .string xd, .slice Ad nd Cq, .int .i64 kt, .string xt, .slice At nt Ct, .int .i64 kd, .string xd, .slice Ad nd Cq] 29 (0, 0)) ∧ IsD (fun b => b = g) W 1 [((1, ⟨#[120]⟩) : Pc)] kt xt At nt Ct, fun v W W' hU h => by obtain ⟨g, kt, xt, At, nt, Ct, e, hg, hc, hd⟩ := h; exact ⟨g, kt, xt, At, nt, Ct, e, hg, (hU.block g (lt_of hc)).trans hc, hd.later hU⟩⟩, ⟨fun v W => ∃ (g : Nat) (kt : Int) (xt : ByteArray) (At : Option Addr) (nt Ct : Nat), v = Value.slice (some ⟨g, 0, none⟩) 3 3 ∧ w4.heap.size ≤ g ∧ W.heap[g]? = some (Obj.cells #[.int .i64 kd, .string xd, .slice Ad nd Cq, .int .i64 kt, .string xt, .slice At nt Ct, .int .i64 kd, .string xd, .slice Ad nd Cq] 29 (0, 0)) ∧ IsD (fun b => b = g) W 1 [((1, ⟨#[120]⟩) : Pc)] kt xt At nt Ct, fun v W W' hU h => by obtain ⟨g, kt, xt, At, nt, Ct, e, hg, hc, hd⟩ := h; exact ⟨g, kt, xt, At, nt, Ct, e, hg, (hU.block g (lt_of hc)).trans hc, hd.later hU⟩⟩] (by kernel_rfl) (by decide) (by kernel_rfl) (Below.refl _ _) (fun _ _ _ h k => h.trans (k.mono h.size)) ?steps ?behind
    case steps =>
      intro xv W hW a ha
      replace hW : Below w4.heap.size w4 W := ⟨hW.os, hW.tape, hW.output, hW.size, hW.block⟩
      simp only [fillA] at ha
      simp only [List.setIfInBounds_toArray, List.set_cons_succ, List.set_cons_zero, Nat.zero_add, Nat.reduceAdd] at ha
      subst ha
      refine ⟨fun hd K hK => ?s0, fun hd K hK => ?s1, fun hd K hK => ?s2, fun hd K hK => ?s3, fun hd K hK => ?s4, trivial⟩
      case s0 =>
        clear hd
        simp only [Act.put, List.setIfInBounds_toArray, List.set_cons_succ, List.set_cons_zero] at hK
        refine (if_pos (by rfl)).mpr ?_
        obtain ⟨hq0, hq1, hq2⟩ := cl3 ((hW.block gd (lt_of HXD.out)).trans HXD.out)
        go_simp
        exact hK.out _ _ (Below.refl _ _) rfl
      case s1 =>
        clear hd
        simp only [Act.put, List.setIfInBounds_toArray, List.set_cons_succ, List.set_cons_zero] at hK
        refine (if_pos (by rfl)).mpr ?_
        go_simp
        go_at_call 19
        refine (text_is XF W (x := ⟨#[120]⟩) (ne_of (l := [120]) (by simp))).mono ?_
        rintro e w' ⟨⟨kt, xt, At, nt, Ct, rfl, hd⟩, hb⟩
        exact hK.out _ _ hb ⟨kt, xt, At, nt, Ct, rfl, hd⟩
      case s2 =>
        clear hd
        simp only [Act.put, List.setIfInBounds_toArray, List.set_cons_succ, List.set_cons_zero] at hK
        refine (if_pos (by rfl)).mpr ?_
        obtain ⟨hq0, hq1, hq2⟩ := cl3 ((hW.block gd (lt_of HXD.out)).trans HXD.out)
        go_simp
        exact hK.out _ _ (Below.refl _ _) rfl
      case s3 =>
        have hx0 : xv 0 = Value.agg #[.int .i64 kd, .string xd, .slice Ad nd Cq] := hd 0 (by kernel_rfl)
        have hx1 : ∃ (kt : Int) (xt : ByteArray) (At : Option Addr) (nt Ct : Nat), xv 1 = Value.agg #[.int .i64 kt, .string xt, .slice At nt Ct] ∧ IsD XF W 1 [((1, ⟨#[120]⟩) : Pc)] kt xt At nt Ct := hd 1 (by kernel_rfl)
        have hx2 : xv 2 = Value.agg #[.int .i64 kd, .string xd, .slice Ad nd Cq] := hd 2 (by kernel_rfl)
        clear hd
        simp only [Act.put, List.setIfInBounds_toArray, List.set_cons_succ, List.set_cons_zero] at hK
        rw [hx0] at hK ⊢
        rw [hx2] at hK ⊢
        refine (if_pos (by rfl)).mpr ?_
        obtain ⟨kt, xt, At, nt, Ct, e1, hdt⟩ := hx1
        rw [e1] at hK ⊢
        go_simp
        exact hK.out _ _ ((Below.refl _ _).alloc (Nat.le_refl _) _) ⟨W.heap.size, kt, xt, At, nt, Ct, rfl, hW.size, heap_alloc_new _ _, hdt.out ((Below.refl _ _).alloc (Nat.le_refl _) _) (fun b hb => .inr (by omega))⟩
      case s4 =>
        have hx3 : ∃ (g : Nat) (kt : Int) (xt : ByteArray) (At : Option Addr) (nt Ct : Nat), xv 3 = Value.slice (some ⟨g, 0, none⟩) 3 3 ∧ w4.heap.size ≤ g ∧ W.heap[g]? = some (Obj.cells #[.int .i64 kd, .string xd, .slice Ad nd Cq, .int .i64 kt, .string xt, .slice At nt Ct, .int .i64 kd, .string xd, .slice Ad nd Cq] 29 (0, 0)) ∧ IsD (fun b => b = g) W 1 [((1, ⟨#[120]⟩) : Pc)] kt xt At nt Ct := hd 3 (by kernel_rfl)
        clear hd
        simp only [Act.put, List.setIfInBounds_toArray, List.set_cons_succ, List.set_cons_zero] at hK
        refine (if_pos (by rfl)).mpr ?_
        obtain ⟨g, kt, xt, At, nt, Ct, e1, hg, hc, hdt⟩ := hx3
        rw [e1] at hK ⊢
        go_simp
        exact hK.out _ _ (Below.refl _ _) ⟨g, kt, xt, At, nt, Ct, rfl, hg, hc, hdt⟩
    case behind =>
      intro xv W hW hx a ha
      replace hW : Below w4.heap.size w4 W := ⟨hW.os, hW.tape, hW.output, hW.size, hW.block⟩
      simp only [fillA] at ha
      simp only [List.setIfInBounds_toArray, List.set_cons_succ, List.set_cons_zero, Nat.zero_add, Nat.reduceAdd] at ha
      subst ha
      obtain ⟨g, kt, xt, At, nt, Ct, e4, hg, hc, hdt⟩ : ∃ (g : Nat) (kt : Int) (xt : ByteArray) (At : Option Addr) (nt Ct : Nat), xv 4 = Value.slice (some ⟨g, 0, none⟩) 3 3 ∧ w4.heap.size ≤ g ∧ W.heap[g]? = some (Obj.cells #[.int .i64 kd, .string xd, .slice Ad nd Cq, .int .i64 kt, .string xt, .slice At nt Ct, .int .i64 kd, .string xd, .slice Ad nd Cq] 29 (0, 0)) ∧ IsD (fun b => b = g) W 1 [((1, ⟨#[120]⟩) : Pc)] kt xt At nt Ct := hx 4 (by decide)
      rw [e4]
      clear hx e4
      have hxd := (hW.block _ (lt_of HXD.out)).trans HXD.out
      have hgd : gd < w4.heap.size := lt_of HXD.out
      have hd5 : IsD (fun b => b = g) W 800 l kd xd Ad nd Cq := HD.out.out hW (fun b hb => .inr (by omega))
      have hr5 := HR4.out.below hW
      have hne : g ≠ gd := by omega
      have HNE := Lib.hid hne
      have HN4 : Hid (∀ g' off, A4 = some ⟨g', off, none⟩ → l = [] ∨ g' ≠ g) := fun g' off e => (HA4.out g' off e).elim (fun h => .inr (by omega)) .inl
      replace HD := Lib.hid hd5
      replace HXD := Lib.hid hxd
      replace HR4 := Lib.hid hr5
      have HT := Lib.hid hdt
      have HXG := Lib.hid hc
      have HB5 := Lib.hid (HB4'.out.trans (hW.mono HB4'.out.size))
      have HGW : Hid (w.heap.size ≤ g) := Nat.le_trans HB4'.out.size hg
      clear hW hxd hgd hd5 hr5 hne hg hc hdt HA4 HB4'
      have hDs : Ds (fun b => b = g) W [.int .i64 kd, .string xd, .slice Ad nd Cq, .int .i64 kt, .string xt, .slice At nt Ct, .int .i64 kd, .string xd, .slice Ad nd Cq] [l, [((1, ⟨#[120]⟩) : Pc)], l] 1601 := Ds.cons HD.out (Ds.cons HT.out (Ds.cons HD.out Ds.nil))
      have hcs : ∀ j u, [Value.int .i64 kd, .string xd, .slice Ad nd Cq, .int .i64 kt, .string xt, .slice At nt Ct, .int .i64 kd, .string xd, .slice Ad nd Cq][j]? = some u → W.cell? ⟨g, 0 + j, none⟩ = some u := fun j u hu => by
        simp only [World.cell?, HXG.out, Nat.zero_add]
        simpa using hu
      have hXg : ∀ b, (fun b => b = g) b → b < W.heap.size := fun b hb => by have := lt_of HXG.out; dsimp only at hb; omega
      have HC := Lib.hid (row_ds (A := some ⟨g, 0, none⟩) (n := 3) (C := 3) hXg hDs rfl (by omega) (.inr ⟨g, 0, rfl, hcs⟩) (by omega) (by unfold maxLen; omega))
      have HDS := Lib.hid hDs
      have HCS := Lib.hid hcs
      obtain ⟨lr, hlr⟩ : ∃ lr, ([l, [((1, ⟨#[120]⟩) : Pc)], l] : List (List Pc)).flatten = lr := ⟨_, rfl⟩
      rw [hlr] at HC
      have hlrl : lr.length ≤ 5000 := by
        rw [← hlr]
        simp only [List.flatten_cons, List.flatten_nil, List.length_append, List.length_nil, List.length_singleton, HM.out]
        omega
      obtain ⟨mr, hmr⟩ : ∃ mr, lr.length = mr := ⟨_, rfl⟩
      rw [hmr] at hlrl
      have HMR := Lib.hid hmr
      clear hDs hcs hXg hlr hmr
      go_wp2_with fail
      refine HC.out.mono ?_
      rintro e w6 ⟨⟨kr, xr, Ar, nr, Cr, rfl, hdr⟩, hb⟩
      have ha := (Below.refl w6.heap.size w6).alloc (Nat.le_refl _) (.cells #[.int .i64 kr, .string xr, .slice Ar nr Cr] 29)
      have hxr := heap_alloc_new w6 (.cells #[.int .i64 kr, .string xr, .slice Ar nr Cr] 29)
      have hbb := hb.trans (ha.mono hb.size)
      have hdr' := hdr.later ha
      obtain ⟨gr, hgr⟩ : ∃ gr, w6.heap.size = gr := ⟨_, rfl⟩
      obtain ⟨w7, hw7⟩ : ∃ w7, w6.alloc (.cells #[.int .i64 kr, .string xr, .slice Ar nr Cr] 29) = w7 := ⟨_, rfl⟩
      have HW7 := Lib.hid hw7
      have HGR := Lib.hid hgr
      rw [hw7] at hbb hdr' hxr
      rw [hgr] at hxr
      have hg6 := hb.size
      have hgr0 : g < gr := by have := lt_of HXG.out; omega
      have HB7 := Lib.hid (HB5.out.trans (hbb.mono HB5.out.size))
      have HXR := Lib.hid hxr
      have HDR := Lib.hid hdr'
      have hd7 := HD.out.later hbb
      have ht7 := HT.out.later hbb
      have hr7 := HR4.out.below hbb
      have hx7 := (hbb.block _ (lt_of HXD.out)).trans HXD.out
      have hc7 := (hbb.block _ (lt_of HXG.out)).trans HXG.out
      replace HD := Lib.hid hd7
      replace HT := Lib.hid ht7
      replace HR4 := Lib.hid hr7
      replace HXD := Lib.hid hx7
      replace HXG := Lib.hid hc7
      have HL := Lib.hid (line_is (fun b => b = g) w7)
      clear hdr hb ha hxr hbb hdr' hw7 hgr hg6 hd7 ht7 hr7 hx7 hc7 HC HDS HCS HB5
      go_wp2_with (rw [HW7.out, HGR.out])
      refine HL.out.mono ?_
      rintro e w8 ⟨⟨kl, xl, Al, nl, Cl, rfl, hdl⟩, hb⟩
      have HBw8 := Lib.hid (HB7.out.trans (hb.mono HB7.out.size))
      have hq := HD.out.later hb
      replace HD := Lib.hid hq
      clear hq
      have hq := HT.out.later hb
      replace HT := Lib.hid hq
      clear hq
      have hq := HR4.out.below hb
      replace HR4 := Lib.hid hq
      clear hq
      have hq := (hb.block _ (lt_of HXD.out)).trans HXD.out
      replace HXD := Lib.hid hq
      clear hq
      have hq := (hb.block _ (lt_of HXG.out)).trans HXG.out
      replace HXG := Lib.hid hq
      clear hq
      have hq := (hb.block _ (lt_of HXR.out)).trans HXR.out
      replace HXR := Lib.hid hq
      clear hq
      have hq := HDR.out.later hb
      replace HDR := Lib.hid hq
      clear hq
      have hDs : Ds (fun b => b = g) w8 [.int .i64 kd, .string xd, .slice Ad nd Cq, .int .i64 kt, .string xt, .slice At nt Ct, .int .i64 kd, .string xd, .slice Ad nd Cq] [l, [((1, ⟨#[120]⟩) : Pc)], l] 1601 := Ds.cons HD.out (Ds.cons HT.out (Ds.cons HD.out Ds.nil))
      have hcs : ∀ j u, [Value.int .i64 kd, .string xd, .slice Ad nd Cq, .int .i64 kt, .string xt, .slice At nt Ct, .int .i64 kd, .string xd, .slice Ad nd Cq][j]? = some u → w8.cell? ⟨g, 0 + j, none⟩ = some u := fun j u hu => by
        simp only [World.cell?, HXG.out, Nat.zero_add]
        simpa using hu
      have hXg : ∀ b, (fun b => b = g) b → b < w8.heap.size := fun b hb => by have := lt_of HXG.out; dsimp only at hb; omega
      have HC := Lib.hid (join_ds (A := some ⟨g, 0, none⟩) (n := 3) (C := 3) hXg hdl hDs rfl (by omega) (.inr ⟨g, 0, rfl, lt_of HXG.out, hcs⟩) (by omega) (by unfold maxLen; omega))
      obtain ⟨lj, hlj⟩ : ∃ lj, jnP [((2, emp) : Pc)] ([l, [((1, ⟨#[120]⟩) : Pc)], l] : List (List Pc)) = lj := ⟨_, rfl⟩
      rw [hlj] at HC
      have hljl : lj.length ≤ 6000 := by
        rw [← hlj]
        simp only [jnP, List.flatMap_cons, List.flatMap_nil, List.length_append, List.length_nil, List.length_singleton, HM.out]
        omega
      obtain ⟨mj, hmj⟩ : ∃ mj, lj.length = mj := ⟨_, rfl⟩
      rw [hmj] at hljl
      have HMJ := Lib.hid hmj
      clear hDs hcs hXg hlj hmj hb hdl HL HB7
      go_wp2_with fail
      refine HC.out.mono ?_
      rintro e w9 ⟨⟨kj, xj, Aj, nj, Cj, rfl, hdj⟩, hb⟩
      have ha := (Below.refl w9.heap.size w9).alloc (Nat.le_refl _) (.cells #[.int .i64 kj, .string xj, .slice Aj nj Cj] 29)
      have hxj := heap_alloc_new w9 (.cells #[.int .i64 kj, .string xj, .slice Aj nj Cj] 29)
      have hs89 := hb.size
      replace hb := hb.trans (ha.mono hb.size)
      have hdj' := hdj.later ha
      obtain ⟨gj, hgj⟩ : ∃ gj, w9.heap.size = gj := ⟨_, rfl⟩
      obtain ⟨w10, hw10⟩ : ∃ w10, w9.alloc (.cells #[.int .i64 kj, .string xj, .slice Aj nj Cj] 29) = w10 := ⟨_, rfl⟩
      have HW10 := Lib.hid hw10
      have HGJ := Lib.hid hgj
      rw [hw10] at hb hdj' hxj
      have hgj0 : g < gj := by
        have h1 := lt_of HXG.out
        omega
      rw [hgj] at hxj
      have HXJ := Lib.hid hxj
      have HDJ := Lib.hid hdj'
      have HBw10 := Lib.hid (HBw8.out.trans (hb.mono HBw8.out.size))
      have hq := HD.out.later hb
      replace HD := Lib.hid hq
      clear hq
      have hq := HT.out.later hb
      replace HT := Lib.hid hq
      clear hq
      have hq := HR4.out.below hb
      replace HR4 := Lib.hid hq
      clear hq
      have hq := (hb.block _ (lt_of HXD.out)).trans HXD.out
      replace HXD := Lib.hid hq
      clear hq
      have hq := (hb.block _ (lt_of HXG.out)).trans HXG.out
      replace HXG := Lib.hid hq
      clear hq
      have hq := (hb.block _ (lt_of HXR.out)).trans HXR.out
      replace HXR := Lib.hid hq
      clear hq
      have hq := HDR.out.later hb
      replace HDR := Lib.hid hq
      clear hq
      clear hb ha hdj hdj' hxj hw10 hgj hs89 HC HBw8
      go_wp2
      rw [HW10.out, HGJ.out]
      refine region_rel (fun W W' => Below W.heap.size W W') [Cd.is (Value.agg #[.int .i64 kr, .string xr, .slice Ar nr Cr]), ⟨fun v W => ∃ (A : Option Addr) (C : Nat), v = Value.slice A mr C ∧ mr ≤ C ∧ C ≤ maxLen ∧ RdP W A lr ∧ ∀ g' off, A = some ⟨g', off, none⟩ → g < g', fun v W W' hU h => by obtain ⟨A, C, e, h1, h2, h3, h4⟩ := h; exact ⟨A, C, e, h1, h2, h3.below hU, h4⟩⟩, Cd.is (Value.agg #[.int .i64 kj, .string xj, .slice Aj nj Cj]), ⟨fun v W => ∃ (A : Option Addr) (C : Nat), v = Value.slice A mj C ∧ mj ≤ C ∧ C ≤ maxLen ∧ RdP W A lj ∧ ∀ g' off, A = some ⟨g', off, none⟩ → g < g', fun v W W' hU h => by obtain ⟨A, C, e, h1, h2, h3, h4⟩ := h; exact ⟨A, C, e, h1, h2, h3.below hU, h4⟩⟩, ⟨fun v W => ∃ (A : Option Addr) (C : Nat), v = Value.slice A mr C ∧ mr ≤ C ∧ C ≤ maxLen ∧ RdP W A lr ∧ ∀ g' off, A = some ⟨g', off, none⟩ → g < g', fun v W W' hU h => by obtain ⟨A, C, e, h1, h2, h3, h4⟩ := h; exact ⟨A, C, e, h1, h2, h3.below hU, h4⟩⟩, ⟨fun v W => ∃ (A : Option Addr) (C : Nat), v = Value.slice A mj C ∧ mj ≤ C ∧ C ≤ maxLen ∧ RdP W A lj ∧ ∀ g' off, A = some ⟨g', off, none⟩ → g < g', fun v W W' hU h => by obtain ⟨A, C, e, h1, h2, h3, h4⟩ := h; exact ⟨A, C, e, h1, h2, h3.below hU, h4⟩⟩] (by kernel_rfl) (by decide) (by kernel_rfl) (Below.refl _ _) (fun _ _ _ h k => h.trans (k.mono h.size)) ?steps ?behind
      case steps =>
        intro xv W hW a ha
        replace hW : Below w10.heap.size w10 W := ⟨hW.os, hW.tape, hW.output, hW.size, hW.block⟩
        simp only [fillA] at ha
        simp only [List.setIfInBounds_toArray, List.set_cons_succ, List.set_cons_zero, Nat.zero_add, Nat.reduceAdd] at ha
        subst ha
        refine ⟨fun hd K hK => ?s0, fun hd K hK => ?s1, fun hd K hK => ?s2, fun hd K hK => ?s3, fun hd K hK => ?s4, fun hd K hK => ?s5, trivial⟩
        case s0 =>
          clear hd
          simp only [Act.put, List.setIfInBounds_toArray, List.set_cons_succ, List.set_cons_zero] at hK
          refine (if_pos (by rfl)).mpr ?_
          obtain ⟨hq0, hq1, hq2⟩ := cl3 ((hW.block _ (lt_of HXR.out)).trans HXR.out)
          go_simp
          exact hK.out _ _ (Below.refl _ _) rfl
        case s1 =>
          have hx0 : xv 0 = Value.agg #[.int .i64 kr, .string xr, .slice Ar nr Cr] := hd 0 (by kernel_rfl)
          clear hd
          simp only [Act.put, List.setIfInBounds_toArray, List.set_cons_succ, List.set_cons_zero] at hK
          rw [hx0] at hK ⊢
          refine (if_pos (by rfl)).mpr ?_
          go_simp
          go_at_call 15
          refine (pn_of HMR.out (plain_own (HDR.out.later hW) (by omega))).mono ?_
          rintro e w' ⟨⟨A, C, rfl, h1, h2, h3, h4⟩, hb⟩
          exact hK.out _ _ hb ⟨A, C, rfl, h1, h2, h3, fun g' off e => by have h5 := h4 g' off e; have h6 := hW.size; have h7 := lt_of HXG.out; omega⟩
        case s2 =>
          clear hd
          simp only [Act.put, List.setIfInBounds_toArray, List.set_cons_succ, List.set_cons_zero] at hK
          refine (if_pos (by rfl)).mpr ?_
          obtain ⟨hq0, hq1, hq2⟩ := cl3 ((hW.block _ (lt_of HXJ.out)).trans HXJ.out)
          go_simp
          exact hK.out _ _ (Below.refl _ _) rfl
        case s3 =>
          have hx2 : xv 2 = Value.agg #[.int .i64 kj, .string xj, .slice Aj nj Cj] := hd 2 (by kernel_rfl)
          clear hd
          simp only [Act.put, List.setIfInBounds_toArray, List.set_cons_succ, List.set_cons_zero] at hK
          rw [hx2] at hK ⊢
          refine (if_pos (by rfl)).mpr ?_
          go_simp
          go_at_call 15
          refine (pn_of HMJ.out (plain_own (HDJ.out.later hW) (by omega))).mono ?_
          rintro e w' ⟨⟨A, C, rfl, h1, h2, h3, h4⟩, hb⟩
          exact hK.out _ _ hb ⟨A, C, rfl, h1, h2, h3, fun g' off e => by have h5 := h4 g' off e; have h6 := hW.size; have h7 := lt_of HXG.out; omega⟩
        case s4 =>
          have hx1 : ∃ (A : Option Addr) (C : Nat), xv 1 = Value.slice A mr C ∧ mr ≤ C ∧ C ≤ maxLen ∧ RdP W A lr ∧ ∀ g' off, A = some ⟨g', off, none⟩ → g < g' := hd 1 (by kernel_rfl)
          clear hd
          simp only [Act.put, List.setIfInBounds_toArray, List.set_cons_succ, List.set_cons_zero] at hK
          refine (if_pos (by rfl)).mpr ?_
          obtain ⟨A, C, e1, h1, h2, h3, h4⟩ := hx1
          rw [e1] at hK ⊢
          go_simp
          exact hK.out _ _ (Below.refl _ _) ⟨A, C, rfl, h1, h2, h3, h4⟩
        case s5 =>
          have hx3 : ∃ (A : Option Addr) (C : Nat), xv 3 = Value.slice A mj C ∧ mj ≤ C ∧ C ≤ maxLen ∧ RdP W A lj ∧ ∀ g' off, A = some ⟨g', off, none⟩ → g < g' := hd 3 (by kernel_rfl)
          clear hd
          simp only [Act.put, List.setIfInBounds_toArray, List.set_cons_succ, List.set_cons_zero] at hK
          refine (if_pos (by rfl)).mpr ?_
          obtain ⟨A, C, e1, h1, h2, h3, h4⟩ := hx3
          rw [e1] at hK ⊢
          go_simp
          exact hK.out _ _ (Below.refl _ _) ⟨A, C, rfl, h1, h2, h3, h4⟩
      case behind =>
        intro xv W hW hx a ha
        replace hW : Below w10.heap.size w10 W := ⟨hW.os, hW.tape, hW.output, hW.size, hW.block⟩
        simp only [fillA] at ha
        simp only [List.setIfInBounds_toArray, List.set_cons_succ, List.set_cons_zero, Nat.zero_add, Nat.reduceAdd] at ha
        subst ha
        obtain ⟨A8, C8, e8, hc8, hm8, hr8, hg8⟩ : ∃ (A : Option Addr) (C : Nat), xv 4 = Value.slice A mr C ∧ mr ≤ C ∧ C ≤ maxLen ∧ RdP W A lr ∧ ∀ g' off, A = some ⟨g', off, none⟩ → g < g' := hx 4 (by decide)
        obtain ⟨A9, C9, e9, hc9, hm9, hr9, hg9⟩ : ∃ (A : Option Addr) (C : Nat), xv 5 = Value.slice A mj C ∧ mj ≤ C ∧ C ≤ maxLen ∧ RdP W A lj ∧ ∀ g' off, A = some ⟨g', off, none⟩ → g < g' := hx 5 (by decide)
        rw [e8, e9]
        clear hx e8 e9
        have hb := hW
        have HRW := Lib.hid hr8
        have HRJ := Lib.hid hr9
        clear hr8 hr9
        have HBW := Lib.hid (HBw10.out.trans (hb.mono HBw10.out.size))
        have hq := HD.out.later hb
        replace HD := Lib.hid hq
        clear hq
        have hq := HT.out.later hb
        replace HT := Lib.hid hq
        clear hq
        have hq := HR4.out.below hb
        replace HR4 := Lib.hid hq
        clear hq
        have hq := (hb.block _ (lt_of HXD.out)).trans HXD.out
        replace HXD := Lib.hid hq
        clear hq
        have hq := (hb.block _ (lt_of HXG.out)).trans HXG.out
        replace HXG := Lib.hid hq
        clear hq
        have hq := (hb.block _ (lt_of HXR.out)).trans HXR.out
        replace HXR := Lib.hid hq
        clear hq
        have hq := HDR.out.later hb
        replace HDR := Lib.hid hq
        clear hq
        have hq := (hb.block _ (lt_of HXJ.out)).trans HXJ.out
        replace HXJ := Lib.hid hq
        clear hq
        have hq := HDJ.out.later hb
        replace HDJ := Lib.hid hq
        clear hq
        clear hb hW HBw10 HW7 HGR HW10 HGJ
        have HH := Lib.hid (hard_is XF W)
        go_wp2_with fail
        refine HH.out.mono ?_
        rintro e w12 ⟨⟨k1, x1, A1, n1, C1, rfl, hd1⟩, hb⟩
        have HBw12 := Lib.hid (HBW.out.trans (hb.mono HBW.out.size))
        have hq := HD.out.later hb
        replace HD := Lib.hid hq
        clear hq
        have hq := HR4.out.below hb
        replace HR4 := Lib.hid hq
        clear hq
        have hq := (hb.block _ (lt_of HXD.out)).trans HXD.out
        replace HXD := Lib.hid hq
        clear hq
        have hq := (hb.block _ (lt_of HXG.out)).trans HXG.out
        replace HXG := Lib.hid hq
        clear hq
        have hq := (hb.block _ (lt_of HXR.out)).trans HXR.out
        replace HXR := Lib.hid hq
        clear hq
        have hq := HDR.out.later hb
        replace HDR := Lib.hid hq
        clear hq
        have hq := (hb.block _ (lt_of HXJ.out)).trans HXJ.out
        replace HXJ := Lib.hid hq
        clear hq
        have hq := HDJ.out.later hb
        replace HDJ := Lib.hid hq
        clear hq
        have hq := HRW.out.below hb
        replace HRW := Lib.hid hq
        clear hq
        have hq := HRJ.out.below hb
        replace HRJ := Lib.hid hq
        clear hq
        replace HH := Lib.hid (hard_is XF w12)
        clear hb hd1 HBW HT
        go_wp2_with fail
        refine HH.out.mono ?_
        rintro e w13 ⟨⟨k2, x2, A2, n2, C2, rfl, hd2⟩, hb⟩
        have HBw13 := Lib.hid (HBw12.out.trans (hb.mono HBw12.out.size))
        have hq := HD.out.later hb
        replace HD := Lib.hid hq
        clear hq
        have hq := HR4.out.below hb
        replace HR4 := Lib.hid hq
        clear hq
        have hq := (hb.block _ (lt_of HXD.out)).trans HXD.out
        replace HXD := Lib.hid hq
        clear hq
        have hq := (hb.block _ (lt_of HXG.out)).trans HXG.out
        replace HXG := Lib.hid hq
        clear hq
        have hq := (hb.block _ (lt_of HXR.out)).trans HXR.out
        replace HXR := Lib.hid hq
        clear hq
        have hq := HDR.out.later hb
        replace HDR := Lib.hid hq
        clear hq
        have hq := (hb.block _ (lt_of HXJ.out)).trans HXJ.out
        replace HXJ := Lib.hid hq
        clear hq
        have hq := HDJ.out.later hb
        replace HDJ := Lib.hid hq
        clear hq
        have hq := HRW.out.below hb
        replace HRW := Lib.hid hq
        clear hq
        have hq := HRJ.out.below hb
        replace HRJ := Lib.hid hq
        clear hq
        obtain ⟨⟨y0, y1, y2⟩, ⟨y3, y4, y5⟩, _⟩ := cl9 HXG.out
        have f0 := frz HXG.out 0
        have f1 := frz HXG.out 1
        have f2 := frz HXG.out 2
        have f3 := frz HXG.out 3
        have f4 := frz HXG.out 4
        have f5 := frz HXG.out 5
        obtain ⟨W9, hW9, hoth, hb9⟩ := puts2 HXG.out (.int .i64 k1) (.string x1) (.slice A1 n1 C1) (.int .i64 k2) (.string x2) (.slice A2 n2 C2)
        have HW9 := Lib.hid hW9
        have HBw9 := Lib.hid (HBw13.out.trans (hb9.mono HGW.out))
        have qd := HD.out.dx (fun b hb => hoth b hb.2)
        have qr := HDR.out.dx (fun b hb => hoth b hb.2)
        have qj := HDJ.out.dx (fun b hb => hoth b hb.2)
        have q4 : RdP W9 A4 l := by
          by_cases hl0 : l = []
          · exact .inl hl0
          · exact HR4.out.keep hb9.size (fun g' off e _ => hoth g' ((HN4.out g' off e).resolve_left hl0))
        have qw := HRW.out.keep hb9.size (fun g' off e _ => hoth g' (by have := hg8 g' off e; omega))
        have qjj := HRJ.out.keep hb9.size (fun g' off e _ => hoth g' (by have := hg9 g' off e; omega))
        have qxd := (hoth gd HNE.out.symm).trans HXD.out
        have qxr := (hoth gr (by omega)).trans HXR.out
        have qxj := (hoth gj (by omega)).trans HXJ.out
        have hXg : ∀ b, (fun b => b = g) b → b < W9.heap.size := fun b hb => by have h1 := lt_of HXG.out; have h2 := hb9.size; dsimp only at hb; omega
        replace HD := Lib.hid qd
        replace HDR := Lib.hid qr
        replace HDJ := Lib.hid qj
        replace HR4 := Lib.hid q4
        replace HRW := Lib.hid qw
        replace HRJ := Lib.hid qjj
        replace HXD := Lib.hid qxd
        replace HXR := Lib.hid qxr
        replace HXJ := Lib.hid qxj
        obtain ⟨z0, z1, z2⟩ := cl3 qxd
        have HC := Lib.hid (nest_is hXg HD.out)
        clear qd qr qj q4 qw qjj qxd qxr qxj hW9 hoth hb9 hb hd2 HH HBw12 HBw13 HN4 hg8 hg9 hgr0 hgj0
        go_wp2_with (rw [HW9.out])
        refine HC.out.mono ?_
        rintro e w14 ⟨⟨k3, x3, A3, n3, C3, rfl, hd3⟩, hb⟩
        have HBw14 := Lib.hid (HBw9.out.trans (hb.mono HBw9.out.size))
        have hq := HD.out.later hb
        replace HD := Lib.hid hq
        clear hq
        have hq := HR4.out.below hb
        replace HR4 := Lib.hid hq
        clear hq
        have hq := (hb.block _ (lt_of HXD.out)).trans HXD.out
        replace HXD := Lib.hid hq
        clear hq
        have hq := (hb.block _ (lt_of HXR.out)).trans HXR.out
        replace HXR := Lib.hid hq
        clear hq
        have hq := HDR.out.later hb
        replace HDR := Lib.hid hq
        clear hq
        have hq := (hb.block _ (lt_of HXJ.out)).trans HXJ.out
        replace HXJ := Lib.hid hq
        clear hq
        have hq := HDJ.out.later hb
        replace HDJ := Lib.hid hq
        clear hq
        have hq := HRW.out.below hb
        replace HRW := Lib.hid hq
        clear hq
        have hq := HRJ.out.below hb
        replace HRJ := Lib.hid hq
        clear hq
        have hXg2 : ∀ b, (fun b => b = g) b → b < w14.heap.size := fun b hb' => Nat.lt_of_lt_of_le (hXg b hb') hb.size
        have ha := (Below.refl w14.heap.size w14).alloc (Nat.le_refl _) (.cells #[.int .i64 kd, .string xd, .slice Ad nd Cq, .int .i64 kd, .string xd, .slice Ad nd Cq] 29)
        replace HC := Lib.hid (show Calls Try.prog 16 #[.slice (some ⟨w14.heap.size, 0, none⟩) 2 2] (w14.alloc (.cells #[.int .i64 kd, .string xd, .slice Ad nd Cq, .int .i64 kd, .string xd, .slice Ad nd Cq] 29)) (IdPost (fun b => b = g) 1601 ([l, l] : List (List Pc)).flatten _) from row_new hXg2 (Ds.cons HD.out (Ds.cons HD.out Ds.nil)) rfl (by omega))
        have HAA := Lib.hid ha
        clear hb ha hd3 z0 z1 z2 HW9 HBw9 hXg
        obtain ⟨z0, z1, z2⟩ := cl3 HXD.out
        go_wp2_with fail
        refine HC.out.mono ?_
        rintro e w15 ⟨⟨k4, x4, Aq, n4, Cr4, rfl, hd4⟩, hb⟩
        replace hb := HAA.out.trans (hb.mono HAA.out.size)
        replace HC := Lib.hid (group_is (fun b hb' => Nat.lt_of_lt_of_le (hXg2 b hb') hb.size) hd4)
        clear z0 z1 z2 HAA hXg2
        have HBw15 := Lib.hid (HBw14.out.trans (hb.mono HBw14.out.size))
        have hq := HD.out.later hb
        replace HD := Lib.hid hq
        clear hq
        have hq := HR4.out.below hb
        replace HR4 := Lib.hid hq
        clear hq
        have hq := (hb.block _ (lt_of HXD.out)).trans HXD.out
        replace HXD := Lib.hid hq
        clear hq
        have hq := (hb.block _ (lt_of HXR.out)).trans HXR.out
        replace HXR := Lib.hid hq
        clear hq
        have hq := HDR.out.later hb
        replace HDR := Lib.hid hq
        clear hq
        have hq := (hb.block _ (lt_of HXJ.out)).trans HXJ.out
        replace HXJ := Lib.hid hq
        clear hq
        have hq := HDJ.out.later hb
        replace HDJ := Lib.hid hq
        clear hq
        have hq := HRW.out.below hb
        replace HRW := Lib.hid hq
        clear hq
        have hq := HRJ.out.below hb
        replace HRJ := Lib.hid hq
        clear hq
        clear hb hd4 HBw14
        go_wp2_with fail
        refine HC.out.mono ?_
        rintro e w16 ⟨⟨k5, x5, A5, n5, C5, rfl, hd5⟩, hb⟩
        have HBw16 := Lib.hid (HBw15.out.trans (hb.mono HBw15.out.size))
        have hq := HD.out.later hb
        replace HD := Lib.hid hq
        clear hq
        have hq := HR4.out.below hb
        replace HR4 := Lib.hid hq
        clear hq
        have hq := (hb.block _ (lt_of HXD.out)).trans HXD.out
        replace HXD := Lib.hid hq
        clear hq
        have hq := (hb.block _ (lt_of HXR.out)).trans HXR.out
        replace HXR := Lib.hid hq
        clear hq
        have hq := HDR.out.later hb
        replace HDR := Lib.hid hq
        clear hq
        have hq := (hb.block _ (lt_of HXJ.out)).trans HXJ.out
        replace HXJ := Lib.hid hq
        clear hq
        have hq := HDJ.out.later hb
        replace HDJ := Lib.hid hq
        clear hq
        have hq := HRW.out.below hb
        replace HRW := Lib.hid hq
        clear hq
        have hq := HRJ.out.below hb
        replace HRJ := Lib.hid hq
        clear hq
        obtain ⟨z0, z1, z2⟩ := cl3 HXD.out
        replace HC := Lib.hid (po_of HM.out (plain_own HD.out (by omega)))
        clear hb hd5 HBw15
        go_wp2_with fail
        refine HC.out.mono ?_
        rintro e w17 ⟨⟨A10, C10, rfl, hc10, hm10, ho10⟩, hb⟩
        have HLI : Hid (LI w16 A10 m l 0 w17) := ⟨hb, ho10.imp id (fun ⟨gm, cs, e, h1, h2, h3⟩ => ⟨gm, cs, e, h1, h2, fun j p _ hp => h3 j p hp⟩)⟩
        clear hb ho10 z0 z1 z2 HC
        unfold maxLen at hm10
        go_wp2
        go_loopw [11] (fun s11 wr => ∃ (i : Nat), i ≤ m ∧ s11 = .int .i64 (i : Int) ∧ Hid (LI w16 A10 m l i wr)) (fun s11 _ => m - (intOf s11).toNat)
        case atStart => exact ⟨0, Nat.zero_le _, rfl, HLI.out⟩
        case round =>
          obtain ⟨i, hi, rfl, hLI⟩ := hrel
          by_cases hlt : i < m
          · obtain ⟨gm, cs, p, rfl, hgm, hcs, hp, hcp⟩ := hLI.out.at_ HM.out hlt
            have hlt1 : (i : Int) < (m : Int) := by omega
            have hlt0 : (0 : Int) ≤ (i : Int) := by omega
            have u1 : wr.cell? ⟨gm, i * 2 + 1, none⟩ = some (.string p.2) := by simp only [World.cell?, hcs]; exact hcp
            have f1 := frz hcs (i * 2 + 1)
            have hsz := HTP.out p (List.mem_of_getElem? hp)
            obtain ⟨xs, hxs⟩ : ∃ xs, p.2 = xs := ⟨_, rfl⟩
            rw [hxs] at u1 hsz
            have hnz : ¬ 9223372036854775807 < xs.size + 1 := by omega
            have HNX : Hid (LI w16 (some ⟨gm, 0, none⟩) m l (i + 1) (wr.setCell ⟨gm, i * 2 + 1, none⟩ (.string (xs ++ ⟨#[63]⟩)))) := hLI.out.put hcs hgm hlt
            clear hcs hp hcp hLI hxs hsz
            go_wp2
            go_roundw
            case rel => exact ⟨i + 1, by omega, by go_num, HNX.out⟩
            case measure => simp [intOf]; omega
          · obtain rfl : i = m := by omega
            have hlt1 : ¬ (i : Int) < (i : Int) := by omega
            have hb := hLI.out.bel
            clear HLI hLI hlt hi
            have HBwr := Lib.hid (HBw16.out.trans (hb.mono HBw16.out.size))
            have hq := HD.out.later hb
            replace HD := Lib.hid hq
            clear hq
            have hq := HR4.out.below hb
            replace HR4 := Lib.hid hq
            clear hq
            have hq := (hb.block _ (lt_of HXD.out)).trans HXD.out
            replace HXD := Lib.hid hq
            clear hq
            have hq := (hb.block _ (lt_of HXR.out)).trans HXR.out
            replace HXR := Lib.hid hq
            clear hq
            have hq := HDR.out.later hb
            replace HDR := Lib.hid hq
            clear hq
            have hq := (hb.block _ (lt_of HXJ.out)).trans HXJ.out
            replace HXJ := Lib.hid hq
            clear hq
            have hq := HDJ.out.later hb
            replace HDJ := Lib.hid hq
            clear hq
            have hq := HRW.out.below hb
            replace HRW := Lib.hid hq
            clear hq
            have hq := HRJ.out.below hb
            replace HRJ := Lib.hid hq
            clear hq
            have HK := Lib.hid (known_any wr)
            clear hb HBw16
            go_wp2_with fail
            refine HK.out.mono ?_
            rintro e w18 ⟨rfl, hb⟩
            have HBw18 := Lib.hid (HBwr.out.trans (hb.mono HBwr.out.size))
            have hq := HD.out.later hb
            replace HD := Lib.hid hq
            clear hq
            have hq := HR4.out.below hb
            replace HR4 := Lib.hid hq
            clear hq
            have hq := (hb.block _ (lt_of HXD.out)).trans HXD.out
            replace HXD := Lib.hid hq
            clear hq
            have hq := (hb.block _ (lt_of HXR.out)).trans HXR.out
            replace HXR := Lib.hid hq
            clear hq
            have hq := HDR.out.later hb
            replace HDR := Lib.hid hq
            clear hq
            have hq := (hb.block _ (lt_of HXJ.out)).trans HXJ.out
            replace HXJ := Lib.hid hq
            clear hq
            have hq := HDJ.out.later hb
            replace HDJ := Lib.hid hq
            clear hq
            have hq := HRW.out.below hb
            replace HRW := Lib.hid hq
            clear hq
            have hq := HRJ.out.below hb
            replace HRJ := Lib.hid hq
            clear hq
            clear hb HBwr HK
            obtain ⟨z0, z1, z2⟩ := cl3 HXD.out
            have HC := Lib.hid (plain_is HD.out (by omega) HM.out)
            go_wp2_with fail
            refine HC.out.mono ?_
            rintro e w19 ⟨⟨A', C', rfl, hc', hm', hr'⟩, hb⟩
            clear z0 z1 z2 HC
            have HBw19 := Lib.hid (HBw18.out.trans (hb.mono HBw18.out.size))
            have hq := HD.out.later hb
            replace HD := Lib.hid hq
            clear hq
            have hq := HR4.out.below hb
            replace HR4 := Lib.hid hq
            clear hq
            have hq := (hb.block _ (lt_of HXD.out)).trans HXD.out
            replace HXD := Lib.hid hq
            clear hq
            have hq := (hb.block _ (lt_of HXR.out)).trans HXR.out
            replace HXR := Lib.hid hq
            clear hq
            have hq := HDR.out.later hb
            replace HDR := Lib.hid hq
            clear hq
            have hq := (hb.block _ (lt_of HXJ.out)).trans HXJ.out
            replace HXJ := Lib.hid hq
            clear hq
            have hq := HDJ.out.later hb
            replace HDJ := Lib.hid hq
            clear hq
            have hq := HRW.out.below hb
            replace HRW := Lib.hid hq
            clear hq
            have hq := HRJ.out.below hb
            replace HRJ := Lib.hid hq
            clear hq
            have HC := Lib.hid (alike_any A' A4 _ C' C4 l w19 HM.out (by omega) hc' hc4 hr' HR4.out)
            unfold maxLen at hm'
            clear hb hr' HBw18
            go_wp2_with fail
            refine HC.out.mono ?_
            rintro e w20 ⟨rfl, hb⟩
            clear HC
            have HBw20 := Lib.hid (HBw19.out.trans (hb.mono HBw19.out.size))
            have hq := HD.out.later hb
            replace HD := Lib.hid hq
            clear hq
            have hq := HR4.out.below hb
            replace HR4 := Lib.hid hq
            clear hq
            have hq := (hb.block _ (lt_of HXD.out)).trans HXD.out
            replace HXD := Lib.hid hq
            clear hq
            have hq := (hb.block _ (lt_of HXR.out)).trans HXR.out
            replace HXR := Lib.hid hq
            clear hq
            have hq := HDR.out.later hb
            replace HDR := Lib.hid hq
            clear hq
            have hq := (hb.block _ (lt_of HXJ.out)).trans HXJ.out
            replace HXJ := Lib.hid hq
            clear hq
            have hq := HDJ.out.later hb
            replace HDJ := Lib.hid hq
            clear hq
            have hq := HRW.out.below hb
            replace HRW := Lib.hid hq
            clear hq
            have hq := HRJ.out.below hb
            replace HRJ := Lib.hid hq
            clear hq
            clear hb HBw19 hc' hm'
            obtain ⟨z0, z1, z2⟩ := cl3 HXR.out
            have HC := Lib.hid (plain_is HDR.out (by omega) HMR.out)
            go_wp2_with fail
            refine HC.out.mono ?_
            rintro e w21 ⟨⟨A', C', rfl, hc', hm', hr'⟩, hb⟩
            clear z0 z1 z2 HC
            have HBw21 := Lib.hid (HBw20.out.trans (hb.mono HBw20.out.size))
            have hq := HD.out.later hb
            replace HD := Lib.hid hq
            clear hq
            have hq := HR4.out.below hb
            replace HR4 := Lib.hid hq
            clear hq
            have hq := (hb.block _ (lt_of HXD.out)).trans HXD.out
            replace HXD := Lib.hid hq
            clear hq
            have hq := (hb.block _ (lt_of HXR.out)).trans HXR.out
            replace HXR := Lib.hid hq
            clear hq
            have hq := HDR.out.later hb
            replace HDR := Lib.hid hq
            clear hq
            have hq := (hb.block _ (lt_of HXJ.out)).trans HXJ.out
            replace HXJ := Lib.hid hq
            clear hq
            have hq := HDJ.out.later hb
            replace HDJ := Lib.hid hq
            clear hq
            have hq := HRW.out.below hb
            replace HRW := Lib.hid hq
            clear hq
            have hq := HRJ.out.below hb
            replace HRJ := Lib.hid hq
            clear hq
            have HC := Lib.hid (alike_any A' A8 _ C' C8 lr w21 HMR.out (by omega) hc' hc8 hr' HRW.out)
            unfold maxLen at hm'
            clear hb hr' HBw20
            go_wp2_with fail
            refine HC.out.mono ?_
            rintro e w22 ⟨rfl, hb⟩
            clear HC
            have HBw22 := Lib.hid (HBw21.out.trans (hb.mono HBw21.out.size))
            have hq := HD.out.later hb
            replace HD := Lib.hid hq
            clear hq
            have hq := HR4.out.below hb
            replace HR4 := Lib.hid hq
            clear hq
            have hq := (hb.block _ (lt_of HXD.out)).trans HXD.out
            replace HXD := Lib.hid hq
            clear hq
            have hq := (hb.block _ (lt_of HXR.out)).trans HXR.out
            replace HXR := Lib.hid hq
            clear hq
            have hq := HDR.out.later hb
            replace HDR := Lib.hid hq
            clear hq
            have hq := (hb.block _ (lt_of HXJ.out)).trans HXJ.out
            replace HXJ := Lib.hid hq
            clear hq
            have hq := HDJ.out.later hb
            replace HDJ := Lib.hid hq
            clear hq
            have hq := HRW.out.below hb
            replace HRW := Lib.hid hq
            clear hq
            have hq := HRJ.out.below hb
            replace HRJ := Lib.hid hq
            clear hq
            clear hb HBw21 hc' hm'
            obtain ⟨z0, z1, z2⟩ := cl3 HXJ.out
            have HC := Lib.hid (plain_is HDJ.out (by omega) HMJ.out)
            go_wp2_with fail
            refine HC.out.mono ?_
            rintro e w23 ⟨⟨A', C', rfl, hc', hm', hr'⟩, hb⟩
            clear z0 z1 z2 HC
            have HBw23 := Lib.hid (HBw22.out.trans (hb.mono HBw22.out.size))
            have hq := HD.out.later hb
            replace HD := Lib.hid hq
            clear hq
            have hq := HR4.out.below hb
            replace HR4 := Lib.hid hq
            clear hq
            have hq := (hb.block _ (lt_of HXD.out)).trans HXD.out
            replace HXD := Lib.hid hq
            clear hq
            have hq := (hb.block _ (lt_of HXR.out)).trans HXR.out
            replace HXR := Lib.hid hq
            clear hq
            have hq := HDR.out.later hb
            replace HDR := Lib.hid hq
            clear hq
            have hq := (hb.block _ (lt_of HXJ.out)).trans HXJ.out
            replace HXJ := Lib.hid hq
            clear hq
            have hq := HDJ.out.later hb
            replace HDJ := Lib.hid hq
            clear hq
            have hq := HRW.out.below hb
            replace HRW := Lib.hid hq
            clear hq
            have hq := HRJ.out.below hb
            replace HRJ := Lib.hid hq
            clear hq
            have HC := Lib.hid (alike_any A' A9 _ C' C9 lj w23 HMJ.out (by omega) hc' hc9 hr' HRJ.out)
            unfold maxLen at hm'
            clear hb hr' HBw22
            go_wp2_with fail
            refine HC.out.mono ?_
            rintro e w24 ⟨rfl, hb⟩
            clear HC
            have HBw24 := Lib.hid (HBw23.out.trans (hb.mono HBw23.out.size))
            have hq := HD.out.later hb
            replace HD := Lib.hid hq
            clear hq
            have hq := HR4.out.below hb
            replace HR4 := Lib.hid hq
            clear hq
            have hq := (hb.block _ (lt_of HXD.out)).trans HXD.out
            replace HXD := Lib.hid hq
            clear hq
            have hq := (hb.block _ (lt_of HXR.out)).trans HXR.out
            replace HXR := Lib.hid hq
            clear hq
            have hq := HDR.out.later hb
            replace HDR := Lib.hid hq
            clear hq
            have hq := (hb.block _ (lt_of HXJ.out)).trans HXJ.out
            replace HXJ := Lib.hid hq
            clear hq
            have hq := HDJ.out.later hb
            replace HDJ := Lib.hid hq
            clear hq
            have hq := HRW.out.below hb
            replace HRW := Lib.hid hq
            clear hq
            have hq := HRJ.out.below hb
            replace HRJ := Lib.hid hq
            clear hq
            clear hb HBw23 hc' hm'
            go_wp2
            go_ret
            exact ⟨rfl, HBw24.out⟩
end Go.Proofs.Ytllpdccpenghgaa.Doc
