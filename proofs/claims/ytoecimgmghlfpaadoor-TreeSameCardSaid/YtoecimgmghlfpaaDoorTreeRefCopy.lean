/-
  Layer 5 (tree): the document's Copy: the same tree, of new memory. Written by gen_treerefcopy.py.
-/
import Derived.Test.YtoecimgmghlfpaaDoorTreeOwn
import Derived.Test.YtoecimgmghlfpaaDoorMemRel3
namespace Go.Proofs.YtoecimgmghlfpaaDoor.Tree
open Go.ChangeShapes Go.WideShapes Go.ChangeAt Go.RowKit Mem
set_option linter.unusedVariables false

/-- The blocks from one on that are there. -/
def Rng (B : Nat) (W : World) : Nat → Prop := fun b => B ≤ b ∧ b < W.heap.size
theorem rng_later {B : Nat} {W W' : World} {v : Value} {f : F} (h : Fs W (Rng B W) v f) (hb : Below W.heap.size W W') : Fs W' (Rng B W') v f :=
  (h.keep fun b hb' => hb.block b hb'.2).more fun b hb' => ⟨hb'.1, Nat.lt_of_lt_of_le hb'.2 hb.size⟩
/-- The blocks that the Kids of a new row may lie in. -/
def CS (w W : World) (v : Value) : Nat → Prop := fun b => w.heap.size + 3 ≤ b ∧ b < W.heap.size ∧ some b ≠ v.ownBlock
/-- What holds at each round: vb: what the variable holds; v: the row. -/
structure CAt (w W : World) (k : Int) (x y : ByteArray) (A : Option Addr) (n C : Nat) (vb v : Value) (L : List Nd) : Prop where
  bel : Below w.heap.size w W
  b1 : Boxed W w.heap.size k x y (.slice A n C)
  b2 : Boxed W (w.heap.size + 1) 0 ⟨#[]⟩ ⟨#[]⟩ (.slice none 0 0)
  b3 : Boxed W (w.heap.size + 2) k x y vb
  o : OwnS W (CS w W v) v L
  d : ∀ g, v.ownBlock = some g → w.heap.size + 3 ≤ g
theorem set_grown (w : World) (g i : Nat) (v : Value) : w.grownBy (w.setCell ⟨g, i, none⟩ v) (some g) := by
  have h := (Below.refl 0 w).setCell (p := ⟨g, i, none⟩) (Nat.zero_le _) v
  refine ⟨h.os, h.tape, h.output, h.size, fun k _ hne => ?_⟩
  exact Below.heap_setCell _ _ _ _ (fun e => hne (by rw [e]))
section
variable {w W W' : World} {k : Int} {x y : ByteArray} {A : Option Addr} {n C : Nat} {vb v v' : Value} {L : List Nd} {nd : Nd}
theorem CAt.sS (h : CAt w W k x y A n C vb v L) : ∀ b, CS w W v b → b < W.heap.size ∧ some b ≠ v.ownBlock := fun b hb => ⟨hb.2.1, hb.2.2⟩
theorem CAt.later (h : CAt w W k x y A n C vb v L) (hb : Below W.heap.size W W') : CAt w W' k x y A n C vb v L :=
  ⟨h.bel.trans (hb.mono h.bel.size), h.b1.below hb h.b1.lt, h.b2.below hb h.b2.lt, h.b3.below hb h.b3.lt, (h.o.later hb fun b hb' => hb'.2.1).more fun b hb' => ⟨hb'.1, Nat.lt_of_lt_of_le hb'.2.1 hb.size, hb'.2.2⟩, h.d⟩
theorem CAt.app (h : CAt w W k x y A n C vb v L) (ho : OwnS W' (CS w W v) v' (L ++ [nd])) (hg : W.grownBy W' v.ownBlock) (hv : v'.ownBlock = v.ownBlock ∨ v'.ownBlock = some W.heap.size) : CAt w W' k x y A n C vb v' (L ++ [nd]) := by
  have q1 := h.b1.lt; have q2 := h.b2.lt; have q3 := h.b3.lt
  refine ⟨h.bel.trans (below_grown hg h.bel.size fun g e => Nat.le_trans (by omega) (h.d g e)), (hg.block _ q1 fun e => by have := h.d _ e.symm; omega).trans h.b1, (hg.block _ q2 fun e => by have := h.d _ e.symm; omega).trans h.b2, (hg.block _ q3 fun e => by have := h.d _ e.symm; omega).trans h.b3, ho.more fun b hb => ⟨hb.1, Nat.lt_of_lt_of_le hb.2.1 hg.size, fun e => ?_⟩, fun g e => ?_⟩
  · rcases hv with hv | hv
    · exact hb.2.2 (e.trans hv)
    · rw [hv] at e
      obtain rfl := Option.some.inj e
      exact Nat.lt_irrefl _ hb.2.1
  · rcases hv with hv | hv
    · exact h.d g (hv ▸ e)
    · rw [hv] at e
      obtain rfl := Option.some.inj e
      omega
theorem CAt.set (h : CAt w W k x y A n C vb v L) : CAt w (W.setCell ⟨w.heap.size + 2, 3, none⟩ v) k x y A n C v v L := by
  have hg := set_grown W (w.heap.size + 2) 3 v
  refine ⟨h.bel.setCell (p := ⟨w.heap.size + 2, 3, none⟩) (show w.heap.size ≤ w.heap.size + 2 by omega) _, (Below.heap_setCell _ _ _ _ (show w.heap.size ≠ w.heap.size + 2 by omega)).trans h.b1, (Below.heap_setCell _ _ _ _ (show w.heap.size + 1 ≠ w.heap.size + 2 by omega)).trans h.b2, ?_, (h.o.grown hg (.inr fun e => by have := h.d _ e; omega) fun b hb => ⟨hb.2.1, fun e => by have := Option.some.inj e; have := hb.1; omega⟩).more fun b hb => ⟨hb.1, Nat.lt_of_lt_of_le hb.2.1 hg.size, hb.2.2⟩, h.d⟩
  have := set_at h.b3 3 v
  unfold Boxed
  simpa using this
theorem rng_cs {wr W : World} (h : CAt w wr k x y A n C vb v L) (hb : Below wr.heap.size wr W) {b : Nat} (hb' : Rng wr.heap.size W b) : CS w W v b :=
  ⟨Nat.le_trans h.b3.lt hb'.1, hb'.2, fun e => by have := h.o.lt e.symm; have := hb'.1; omega⟩
end

/-- A tree of new memory: its row is the call's own, its Kids' blocks are new, and none of them is the row's. -/
def NewT (w W : World) (v : Value) (L : List Nd) : Prop := OwnS W (fun b => w.heap.size ≤ b ∧ b < W.heap.size ∧ some b ≠ v.ownBlock) v L ∧ ∀ g, v.ownBlock = some g → w.heap.size ≤ g
theorem NewT.fs {w W : World} {v : Value} {L : List Nd} (h : NewT w W v L) : Fs W (Rng w.heap.size W) v (ofL L) :=
  h.1.fs (fun b hb => ⟨hb.1, hb.2.1⟩) fun g e => ⟨h.2 g e, h.1.lt e⟩
def CopySpec (N : Nat) : Prop := ∀ (k : Int) (x y : ByteArray) (A : Option Addr) (n C : Nat) (c : F) (w : World), c.size ≤ N → c.size ≤ 100000 → Fs w (Lo w.heap.size) (.slice A n C) c →
  Calls Tryd.prog 14 #[.agg #[.int .i64 k, .string x, .string y, .slice A n C]] w fun e w' => Below w.heap.size w w' ∧ ∃ (Ar : Option Addr) (nr Cr : Nat), e = .returned (.agg #[.int .i64 k, .string x, .string y, .slice Ar nr Cr]) ∧ NewT w w' (.slice Ar nr Cr) (toL c)

theorem toL_drop_take {c : F} {i : Nat} {k : Int} {x y : ByteArray} {kc r : F} (h : c.drop i = .cons k x y kc r) : (toL c)[i]? = some ⟨k, x, y, kc⟩ := by
  induction i generalizing c with
  | zero => rw [show c = .cons k x y kc r from h]; rfl
  | succ i ih =>
    cases c with
    | nil => simp [F.drop] at h
    | cons k' x' y' c' r' => exact ih (c := r') h

set_option maxRecDepth 100000 in
set_option maxHeartbeats 16000000 in
theorem copy_step (N : Nat) (ih : ∀ M, M < N → CopySpec M) : CopySpec N := by
  intro k x y A n C c w hN hbig hf
  have HIH := Lib.hid ih
  obtain ⟨A', C', e, hnC, hCm⟩ := hf.slice
  injection e with q1 q2 q3
  subst q1; subst q2; subst q3
  have b1 := below3 w (.cells #[.int .i64 k, .string x, .string y, .slice A c.len C] 24) (.cells #[.int .i64 0, .string ⟨#[]⟩, .string ⟨#[]⟩, .slice none 0 0] 24) (.cells #[.int .i64 k, .string x, .string y, .slice none 0 0] 24)
  have HM : Hid (CAt w (((w.alloc (.cells #[.int .i64 k, .string x, .string y, .slice A c.len C] 24)).alloc (.cells #[.int .i64 0, .string ⟨#[]⟩, .string ⟨#[]⟩, .slice none 0 0] 24)).alloc (.cells #[.int .i64 k, .string x, .string y, .slice none 0 0] 24)) k x y A c.len C (.slice none 0 0) (.slice none 0 0) ((toL c).take 0)) := by
    refine ⟨b1, ?_, ?_, ?_, OwnS.nil _ _, fun g e => by cases e⟩
    · exact (Below.heap_alloc _ _ _ (by simp <;> omega)).trans ((Below.heap_alloc _ _ _ (by simp)).trans (heap_alloc_new _ _))
    · have e : w.heap.size + 1 = (w.alloc (.cells #[.int .i64 k, .string x, .string y, .slice A c.len C] 24)).heap.size := by simp
      rw [e]
      exact (Below.heap_alloc _ _ _ (by simp)).trans (heap_alloc_new _ _)
    · have e : w.heap.size + 2 = ((w.alloc (.cells #[.int .i64 k, .string x, .string y, .slice A c.len C] 24)).alloc (.cells #[.int .i64 0, .string ⟨#[]⟩, .string ⟨#[]⟩, .slice none 0 0] 24)).heap.size := by simp
      rw [e]
      exact heap_alloc_new _ _
  obtain ⟨n, hn⟩ : ∃ n, c.len = n := ⟨_, rfl⟩
  have HLN : Hid (n ≤ 100000) := by show n ≤ _; have := F.len_le_size c; omega
  rw [hn] at HM hf hnC ⊢
  have HF := Lib.hid hf
  have HN := Lib.hid hn
  have hCm' : C ≤ 9223372036854775807 := hCm
  clear ih hf b1 hn
  go_enter Tryd.func14, Tryd.ntmps14
  go_wp2
  go_loopw [4] (fun s4 wr => ∃ (i ln C0 : Nat) (A0 : Option Addr), i ≤ n ∧ s4 = .int .i64 (i : Int) ∧ Hid (CAt w wr k x y A n C (.slice A0 ln C0) (.slice A0 ln C0) ((toL c).take i))) (fun s4 _ => n - (intOf s4).toNat)
  case atStart => exact ⟨0, 0, 0, none, Nat.zero_le _, rfl, HM.out⟩
  case round =>
    clear HM
    obtain ⟨i, ln, C0, A0, hi, rfl, HM⟩ := hrel
    obtain ⟨p0, p1, p2, p3⟩ := HM.out.b1.cells
    by_cases hlt : i < n
    · have hlt' : (i : Int) < (n : Int) := by omega
      have hi0 : (0 : Int) ≤ (i : Int) := by omega
      obtain ⟨kk, kx, ky, kc, kr, hdr, hdr2⟩ := F.drop_cons (n := i) (f := c) (by rw [HN.out]; exact hlt)
      have hfw := HF.out.below HM.out.bel (Nat.le_refl _)
      obtain ⟨b0, off0, s0, rfl, hb0, _, hat⟩ := hfw.at_ hdr
      obtain ⟨Ak, Ck, rfl, hk1, hk2⟩ := hat.kids.slice
      have hnd := toL_drop_take hdr
      have hsz := size_drop hdr
      have HTK : Hid ((toL c).take (i + 1) = (toL c).take i ++ [⟨kk, kx, ky, kc⟩]) := by show _ = _; rw [List.take_add_one, hnd]; rfl
      have hlb : b0 < wr.heap.size := Nat.lt_of_lt_of_le hb0 HM.out.bel.size
      obtain ⟨kn, hkn⟩ : ∃ kn, kc.len = kn := ⟨_, rfl⟩
      rw [hkn] at hat hk1
      have HND : Hid (∀ W, Below wr.heap.size wr W → W.cell? ⟨b0, off0 + i * 4, none⟩ = some (.int .i64 kk) ∧ W.cell? ⟨b0, off0 + i * 4 + 1, none⟩ = some (.string kx) ∧ W.cell? ⟨b0, off0 + i * 4 + 2, none⟩ = some (.string ky) ∧ W.cell? ⟨b0, off0 + i * 4 + 3, none⟩ = some (.slice Ak kn Ck)) := fun W hW =>
        ⟨(hW.cell (p := ⟨b0, off0 + i * 4, none⟩) hlb).trans hat.c0, (hW.cell (p := ⟨b0, off0 + i * 4 + 1, none⟩) hlb).trans hat.c1, (hW.cell (p := ⟨b0, off0 + i * 4 + 2, none⟩) hlb).trans hat.c2, (hW.cell (p := ⟨b0, off0 + i * 4 + 3, none⟩) hlb).trans hat.c3⟩
      have hkl := F.len_le_size kc
      have HKF : Hid (∀ W, Below wr.heap.size wr W → Fs W (Lo W.heap.size) (.slice Ak kn Ck) kc) := fun W hW => (hat.kids.below hW HM.out.bel.size).up (Nat.le_trans HM.out.bel.size hW.size)
      have HC : Hid (∀ W, Below wr.heap.size wr W → Calls Tryd.prog 14 #[.agg #[.int .i64 kk, .string kx, .string ky, .slice Ak kn Ck]] W fun e w' => Below W.heap.size W w' ∧ ∃ (Ar : Option Addr) (nr Cr : Nat), e = .returned (.agg #[.int .i64 kk, .string kx, .string ky, .slice Ar nr Cr]) ∧ Fs w' (Rng W.heap.size w') (.slice Ar nr Cr) kc) := fun W hW =>
        (HIH.out kc.size (by omega) kk kx ky Ak kn Ck kc W (Nat.le_refl _) (by omega) ((HKF.out W hW))).mono fun e w' ⟨hb, Ar, nr, Cr, he, hnw⟩ => ⟨hb, Ar, nr, Cr, he, by have := hnw.fs; rwa [ofL_toL] at this⟩
      obtain ⟨L, hL⟩ : ∃ L, (toL c).take i = L := ⟨_, rfl⟩
      rw [hL] at HM HTK
      have HLL : Hid (L.length ≤ 1000000) := by show L.length ≤ _; rw [← hL, List.length_take, toL_len, HN.out]; have := HLN.out; omega
      clear hdr hdr2 hfw hat hnd hsz hL hkn hkl hk2
      go_wp2
      refine region_rel3 [0, 1, 2, 3, 4, 5, 6, 7, 8, 9] 9 11 (fun W W' => Below W.heap.size W W') (fun W => Below wr.heap.size wr W) (fun v' W => CAt w W k x y (some ⟨b0, off0, none⟩) n C (.slice A0 ln C0) v' (L ++ [⟨kk, kx, ky, kc⟩])) (fun v' W => CAt w W k x y (some ⟨b0, off0, none⟩) n C v' v' (L ++ [⟨kk, kx, ky, kc⟩])) [Cd.any, Cd.any, Cd.any, Cd.any, Cd.any, Cd.any, Cd.any, ⟨fun v W => ∃ (Ar : Option Addr) (nr Cr : Nat), v = .agg #[.int .i64 kk, .string kx, .string ky, .slice Ar nr Cr] ∧ Fs W (Rng wr.heap.size W) (.slice Ar nr Cr) kc, fun v W W' hU h => by obtain ⟨Ar, nr, Cr, e, hf⟩ := h; exact ⟨Ar, nr, Cr, e, rng_later hf hU⟩⟩, ⟨fun v W => ∃ (b : Nat) (Ar : Option Addr) (nr Cr : Nat), v = .slice (some ⟨b, 0, none⟩) 1 1 ∧ wr.heap.size ≤ b ∧ b < W.heap.size ∧ W.cell? ⟨b, 0, none⟩ = some (.int .i64 kk) ∧ W.cell? ⟨b, 1, none⟩ = some (.string kx) ∧ W.cell? ⟨b, 2, none⟩ = some (.string ky) ∧ W.cell? ⟨b, 3, none⟩ = some (.slice Ar nr Cr) ∧ Fs W (Rng wr.heap.size W) (.slice Ar nr Cr) kc, fun v W W' hU h => by obtain ⟨b, Ar, nr, Cr, e, h1, h2, c0, c1, c2, c3, hf⟩ := h; exact ⟨b, Ar, nr, Cr, e, h1, Nat.lt_of_lt_of_le h2 hU.size, (hU.cell (p := ⟨b, 0, none⟩) h2).trans c0, (hU.cell (p := ⟨b, 1, none⟩) h2).trans c1, (hU.cell (p := ⟨b, 2, none⟩) h2).trans c2, (hU.cell (p := ⟨b, 3, none⟩) h2).trans c3, rng_later hf hU⟩⟩, Cd.any, Cd.any, Cd.any] [(fun v => v = Value.pointer (some ⟨w.heap.size + 2, 3, none⟩)), (fun v => v = Value.slice A0 ln C0), (fun v => v = Value.pointer (some ⟨w.heap.size, 3, none⟩)), (fun v => v = Value.slice (some ⟨b0, off0, none⟩) n C), (fun v => v = Value.int .i64 (i : Int)), (fun v => v = Value.pointer (some ⟨b0, off0 + i * 4, none⟩)), (fun v => v = Value.agg #[.int .i64 kk, .string kx, .string ky, .slice Ak kn Ck]), (fun _ => True), (fun _ => True), (fun _ => True), (fun v => v = Value.pointer (some ⟨w.heap.size + 2, 3, none⟩)), (fun _ => True)] (by kernel_rfl) (by decide) (by kernel_rfl) (by kernel_rfl) (by kernel_rfl) (by decide) (by decide) (by decide) ((Below.refl _ _).drew) (fun _ _ hU hS => hS.trans (hU.mono hS.size)) (fun _ _ _ hU hS => hS.later hU) (fun _ _ _ hU hS => hS.later hU) ?steps ?behind
      case steps =>
        intro xv W a ha
        simp only [fillA] at ha
        simp only [List.setIfInBounds_toArray, List.set_cons_succ, List.set_cons_zero, Nat.zero_add, Nat.reduceAdd] at ha
        subst ha
        refine ⟨fun hI hS1 hS2 hd he K hK => ?s0, fun hI hS1 hS2 hd he K hK => ?s1, fun hI hS1 hS2 hd he K hK => ?s2, fun hI hS1 hS2 hd he K hK => ?s3, fun hI hS1 hS2 hd he K hK => ?s4, fun hI hS1 hS2 hd he K hK => ?s5, fun hI hS1 hS2 hd he K hK => ?s6, fun hI hS1 hS2 hd he K hK => ?s7, fun hI hS1 hS2 hd he K hK => ?s8, fun hI hS1 hS2 hd he K hK => ?s9, fun hI hS1 hS2 hd he K hK => ?s10, fun hI hS1 hS2 hd he K hK => ?s11, trivial⟩
        case s0 =>
          clear hd he hS1 hS2
          simp only [Act.put, List.setIfInBounds_toArray, List.set_cons_succ, List.set_cons_zero] at hK
          refine (if_pos (by rfl)).mpr ?_
          go_simp
          exact hK.out _ _ (fun _ _ => ⟨Below.refl _ _, trivial⟩) (fun e => absurd e (by decide)) (fun e => absurd e (by decide)) rfl
        case s1 =>
          have hx0 : xv 0 = Value.pointer (some ⟨w.heap.size + 2, 3, none⟩) := hd 0 (by kernel_rfl)
          have hSW := hS1 (.inl (by kernel_rfl))
          clear hd he hS1 hS2
          simp only [Act.put, List.setIfInBounds_toArray, List.set_cons_succ, List.set_cons_zero] at hK
          rw [hx0] at hK ⊢
          refine (if_pos (by rfl)).mpr ?_
          obtain ⟨hq0, hq1, hq2, hq3⟩ := (HM.out.later hSW).b3.cells
          go_simp
          exact hK.out _ _ (fun _ _ => ⟨Below.refl _ _, trivial⟩) (fun e => absurd e (by decide)) (fun e => absurd e (by decide)) rfl
        case s2 =>
          clear hd he hS1 hS2
          simp only [Act.put, List.setIfInBounds_toArray, List.set_cons_succ, List.set_cons_zero] at hK
          refine (if_pos (by rfl)).mpr ?_
          go_simp
          exact hK.out _ _ (fun _ _ => ⟨Below.refl _ _, trivial⟩) (fun e => absurd e (by decide)) (fun e => absurd e (by decide)) rfl
        case s3 =>
          have hx2 : xv 2 = Value.pointer (some ⟨w.heap.size, 3, none⟩) := hd 2 (by kernel_rfl)
          have hSW := hS1 (.inl (by kernel_rfl))
          clear hd he hS1 hS2
          simp only [Act.put, List.setIfInBounds_toArray, List.set_cons_succ, List.set_cons_zero] at hK
          rw [hx2] at hK ⊢
          refine (if_pos (by rfl)).mpr ?_
          obtain ⟨hq0, hq1, hq2, hq3⟩ := (HM.out.later hSW).b1.cells
          go_simp
          exact hK.out _ _ (fun _ _ => ⟨Below.refl _ _, trivial⟩) (fun e => absurd e (by decide)) (fun e => absurd e (by decide)) rfl
        case s4 =>
          clear hd he hS1 hS2
          simp only [Act.put, List.setIfInBounds_toArray, List.set_cons_succ, List.set_cons_zero] at hK
          refine (if_pos (by rfl)).mpr ?_
          go_simp
          exact hK.out _ _ (fun _ _ => ⟨Below.refl _ _, trivial⟩) (fun e => absurd e (by decide)) (fun e => absurd e (by decide)) rfl
        case s5 =>
          have hx3 : xv 3 = Value.slice (some ⟨b0, off0, none⟩) n C := hd 3 (by kernel_rfl)
          have hx4 : xv 4 = Value.int .i64 (i : Int) := hd 4 (by kernel_rfl)
          clear hd he hS1 hS2
          simp only [Act.put, List.setIfInBounds_toArray, List.set_cons_succ, List.set_cons_zero] at hK
          rw [hx3] at hK ⊢
          rw [hx4] at hK ⊢
          refine (if_pos (by rfl)).mpr ?_
          go_simp
          exact hK.out _ _ (fun _ _ => ⟨Below.refl _ _, trivial⟩) (fun e => absurd e (by decide)) (fun e => absurd e (by decide)) rfl
        case s6 =>
          have hx5 : xv 5 = Value.pointer (some ⟨b0, off0 + i * 4, none⟩) := hd 5 (by kernel_rfl)
          have hSW := hS1 (.inl (by kernel_rfl))
          clear hd he hS1 hS2
          simp only [Act.put, List.setIfInBounds_toArray, List.set_cons_succ, List.set_cons_zero] at hK
          rw [hx5] at hK ⊢
          refine (if_pos (by rfl)).mpr ?_
          obtain ⟨hq0, hq1, hq2, hq3⟩ := HND.out W hSW
          go_simp
          exact hK.out _ _ (fun _ _ => ⟨Below.refl _ _, trivial⟩) (fun e => absurd e (by decide)) (fun e => absurd e (by decide)) rfl
        case s7 =>
          have hx6 : xv 6 = Value.agg #[.int .i64 kk, .string kx, .string ky, .slice Ak kn Ck] := hd 6 (by kernel_rfl)
          have hSW := hS1 (.inl (by kernel_rfl))
          clear hd he hS1 hS2
          simp only [Act.put, List.setIfInBounds_toArray, List.set_cons_succ, List.set_cons_zero] at hK
          rw [hx6] at hK ⊢
          refine (if_pos (by rfl)).mpr ?_
          go_simp
          go_at_call 14
          refine (HC.out W hSW).mono ?_
          rintro e w' ⟨hb, Ar, nr, Cr, rfl, hf⟩
          exact hK.out _ _ (fun _ _ => ⟨hb, Ar, nr, Cr, rfl, hf.more fun b hb' => ⟨Nat.le_trans hSW.size hb'.1, hb'.2⟩⟩) (fun e => absurd e (by decide)) (fun e => absurd e (by decide)) trivial
        case s8 =>
          have he7 : ∃ (Ar : Option Addr) (nr Cr : Nat), xv 7 = .agg #[.int .i64 kk, .string kx, .string ky, .slice Ar nr Cr] ∧ Fs W (Rng wr.heap.size W) (.slice Ar nr Cr) kc := he (.inl (by kernel_rfl)) 7 (by kernel_rfl)
          have hSW := hS1 (.inl (by kernel_rfl))
          clear hd he hS1 hS2
          simp only [Act.put, List.setIfInBounds_toArray, List.set_cons_succ, List.set_cons_zero] at hK
          refine (if_pos (by rfl)).mpr ?_
          obtain ⟨Ar, nr, Cr, e7, hf⟩ := he7
          rw [e7] at hK ⊢
          go_simp
          have hb := below1 W (.cells #[.int .i64 kk, .string kx, .string ky, .slice Ar nr Cr] 24)
          have hbx := boxed_new W kk kx ky (.slice Ar nr Cr)
          obtain ⟨z0, z1, z2, z3⟩ := hbx.cells
          exact hK.out _ _ (fun _ _ => ⟨hb, W.heap.size, Ar, nr, Cr, rfl, hSW.size, by simp, z0, z1, z2, z3, rng_later hf hb⟩) (fun e => absurd e (by decide)) (fun e => absurd e (by decide)) trivial
        case s9 =>
          have hx1 : xv 1 = Value.slice A0 ln C0 := hd 1 (by kernel_rfl)
          have he8 : ∃ (b : Nat) (Ar : Option Addr) (nr Cr : Nat), xv 8 = .slice (some ⟨b, 0, none⟩) 1 1 ∧ wr.heap.size ≤ b ∧ b < W.heap.size ∧ W.cell? ⟨b, 0, none⟩ = some (.int .i64 kk) ∧ W.cell? ⟨b, 1, none⟩ = some (.string kx) ∧ W.cell? ⟨b, 2, none⟩ = some (.string ky) ∧ W.cell? ⟨b, 3, none⟩ = some (.slice Ar nr Cr) ∧ Fs W (Rng wr.heap.size W) (.slice Ar nr Cr) kc := he (.inr rfl) 8 (by kernel_rfl)
          have hSW := hS1 (.inr rfl)
          clear hd he hS1 hS2
          simp only [Act.put, List.setIfInBounds_toArray, List.set_cons_succ, List.set_cons_zero] at hK
          rw [hx1] at hK ⊢
          refine (if_pos (by rfl)).mpr ?_
          obtain ⟨b, Ar, nr, Cr, e8, h1, h2, c0, c1, c2, c3, hf⟩ := he8
          have HMW := HM.out.later hSW
          rw [e8] at hK ⊢
          refine wp_app_own _ _ rfl (CS w W (.slice A0 ln C0)) (.slice A0 ln C0) L b 1 ⟨kk, kx, ky, kc⟩ (.slice Ar nr Cr) rfl rfl ⟨c0, c1, c2, c3⟩ HMW.o (hf.more fun b' hb' => rng_cs HM.out hSW hb') HMW.sS HLL.out ?_
          intro v' w' r1 r2 r3
          exact hK.out _ _ (fun e => absurd rfl e) (fun _ => HMW.app r1 r2 r3) (fun e => absurd e (by decide)) trivial
        case s10 =>
          clear hd he hS1 hS2
          simp only [Act.put, List.setIfInBounds_toArray, List.set_cons_succ, List.set_cons_zero] at hK
          refine (if_pos (by rfl)).mpr ?_
          go_simp
          exact hK.out _ _ (fun _ _ => ⟨Below.refl _ _, trivial⟩) (fun e => absurd e (by decide)) (fun e => absurd e (by decide)) rfl
        case s11 =>
          have hx10 : xv 10 = Value.pointer (some ⟨w.heap.size + 2, 3, none⟩) := hd 10 (by kernel_rfl)
          have hS2W := hS2 rfl
          clear hd he hS1 hS2
          simp only [Act.put] at hK
          rw [hx10] at hK ⊢
          refine (if_pos (by rfl)).mpr ?_
          obtain ⟨a9, c9, e9, _, _⟩ := hS2W.o.slice
          obtain ⟨m9, hm9⟩ : ∃ m, (L ++ [(⟨kk, kx, ky, kc⟩ : Nd)]).length = m := ⟨_, rfl⟩
          rw [hm9] at e9
          clear hm9
          obtain ⟨y0, y1, y2, y3⟩ := frz hS2W.b3
          obtain ⟨x0, x1, x2, x3⟩ := hS2W.b3.cells
          have hset := hS2W.set
          rw [e9] at hK hset ⊢
          go_simp
          exact hK.out undef _ (fun _ e => absurd rfl e) (fun e => absurd e (by decide)) (fun _ => hset) trivial
      case behind =>
        intro xv W hW hx a ha
        simp only [fillA] at ha
        simp only [List.setIfInBounds_toArray, List.set_cons_succ, List.set_cons_zero, Nat.zero_add, Nat.reduceAdd] at ha
        subst ha
        have HX : Hid (∃ (A1 : Option Addr) (n1 C1 : Nat), CAt w W k x y (some ⟨b0, off0, none⟩) n C (.slice A1 n1 C1) (.slice A1 n1 C1) ((toL c).take (i + 1))) := by
          obtain ⟨a9, c9, e9, _, _⟩ := hW.o.slice
          rw [e9] at hW
          exact ⟨a9, _, c9, by rw [HTK.out]; exact hW⟩
        obtain ⟨A1, n1, C1, hM2⟩ := HX.out
        have HM2 := Lib.hid hM2
        clear hx hW hM2 HX
        go_wp2
        go_roundw
        case rel => exact ⟨i + 1, n1, C1, A1, by omega, by go_num, HM2.out⟩
        case measure => simp [intOf]; omega
    · have hlt' : ¬ (i : Int) < (n : Int) := by omega
      obtain rfl : i = n := by omega
      obtain ⟨z0, z1, z2, z3⟩ := HM.out.b3.cells
      obtain ⟨y0, y1, y2, y3⟩ := frz HM.out.b2
      obtain ⟨x0, x1, x2, x3⟩ := HM.out.b2.cells
      have HT : Hid ((toL c).take i = toL c) := by show _ = _; rw [List.take_of_length_le]; rw [toL_len, HN.out]; exact Nat.le_refl _
      clear hlt
      go_wp2
      refine bodyPost_ret (results_cell_row rfl _ _ (w.heap.size + 1) 24 _ (0, 0) _ rfl (box_new HM.out.b2) Tryd.underlying24 rfl hi_node) rfl ?_
      have hbb := box_below wr (w.heap.size + 1) (.int .i64 k) (.string x) (.string y) (.slice A0 ln C0)
      have hoth : ∀ b, b ≠ w.heap.size + 1 → (((((wr.setCell ⟨w.heap.size + 1, 0, none⟩ (.int .i64 k)).setCell ⟨w.heap.size + 1, 1, none⟩ (.string x)).setCell ⟨w.heap.size + 1, 2, none⟩ (.string y)).setCell ⟨w.heap.size + 1, 3, none⟩ (.slice A0 ln C0))).heap[b]? = wr.heap[b]? := fun b hb => set4_other _ _ _ _ _ _ _ hb
      have hgr : wr.grownBy (((((wr.setCell ⟨w.heap.size + 1, 0, none⟩ (.int .i64 k)).setCell ⟨w.heap.size + 1, 1, none⟩ (.string x)).setCell ⟨w.heap.size + 1, 2, none⟩ (.string y)).setCell ⟨w.heap.size + 1, 3, none⟩ (.slice A0 ln C0))) (some (w.heap.size + 1)) := ⟨hbb.os, hbb.tape, hbb.output, hbb.size, fun b _ hne => hoth b fun e => hne (by rw [e])⟩
      have hM := HM.out
      rw [HT.out] at hM
      refine ⟨hM.bel.trans (hbb.mono (Nat.le_succ _)), A0, ln, C0, rfl, ?_, fun g e => Nat.le_trans (by omega) (hM.d g e)⟩
      exact (hM.o.grown hgr (.inr fun e => by have := hM.d _ e; omega) fun b hb => ⟨hb.2.1, fun e => by have := Option.some.inj e; have := hb.1; omega⟩).more fun b hb => ⟨Nat.le_trans (by omega) hb.1, Nat.lt_of_lt_of_le hb.2.1 hbb.size, hb.2.2⟩
theorem copy_any (N : Nat) : CopySpec N := by
  induction N using Nat.strongRecOn with
  | _ N ih => exact copy_step N ih
end Go.Proofs.YtoecimgmghlfpaaDoor.Tree
