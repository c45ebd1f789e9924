/-
  Layer 5 (tree): the program's Copy: the same tree, of new memory.
-/
import Derived.Test.YtoecimgmghlfpaaDoorTreeCopyAt
namespace Go.Proofs.YtoecimgmghlfpaaDoor.Tree
open Go.ChangeShapes Go.WideShapes Go.ChangeAt Go.RowKit Mem
set_option linter.unusedVariables false

theorem OwnS.frz {w : World} {S : Nat → Prop} {g n c : Nat} {L : List Nd} (h : OwnS w S (.slice (some ⟨g, 0, none⟩) n c) L) (j : Nat) : w.frozen? ⟨g, j, none⟩ = false := by
  obtain ⟨ps, _, ho, _⟩ := h
  obtain ⟨_, _, e, _, _⟩ := own_slice' ho
  injection e with _ e2 _
  rw [← e2] at ho
  exact ho.frozenAt j
def TCopyPost (w : World) (k : Int) (x y : ByteArray) (c : F) (e : Ending) (w' : World) : Prop := Below w.heap.size w w' ∧ ∃ (Ar : Option Addr) (nr Cr : Nat), e = .returned (.agg #[.int .i64 k, .string x, .string y, .slice Ar nr Cr]) ∧ Fs w' (Rng w.heap.size w') (.slice Ar nr Cr) c
/-- The row's block is cells that are not frozen. -/
def TF (W : World) (v : Value) : Prop := ∀ g, v.ownBlock = some g → ∃ vals, W.heap[g]? = some (.cells vals 24 (0, 0))
theorem TF.below {W W' : World} {v : Value} (h : TF W v) (hb : Below W.heap.size W W') : TF W' v := fun g e => by
  obtain ⟨vals, q⟩ := h g e
  exact ⟨vals, (hb.block g (lt_of_block q)).trans q⟩
theorem TF.set {W : World} {v : Value} (h : TF W v) (b off : Nat) (u : Value) : TF (W.setCell ⟨b, off, none⟩ u) v := fun g e => by
  obtain ⟨vals, q⟩ := h g e
  by_cases hb : g = b
  · subst hb
    exact ⟨_, set_at q off u⟩
  · exact ⟨vals, (Below.heap_setCell _ _ _ _ hb).trans q⟩
theorem OwnS.tf {w : World} {S : Nat → Prop} {v : Value} {L : List Nd} (h : OwnS w S v L) : TF w v := fun g e => by
  obtain ⟨ps, h1, ho, hf⟩ := h
  rcases ho.2 with ⟨e0, h0⟩ | ⟨g', cap, cur, hv, hg0, hg, q1, q2, q3, q4⟩
  · rw [e0] at e; cases e
  · rw [hv] at e
    obtain rfl := Option.some.inj e
    exact ⟨_, hg⟩
def TCopyPostF (w : World) (k : Int) (x y : ByteArray) (c : F) (e : Ending) (w' : World) : Prop := Below w.heap.size w w' ∧ ∃ (Ar : Option Addr) (nr Cr : Nat), e = .returned (.agg #[.int .i64 k, .string x, .string y, .slice Ar nr Cr]) ∧ Fs w' (Rng w.heap.size w') (.slice Ar nr Cr) c ∧ TF w' (.slice Ar nr Cr)
def TCopySpecF (N : Nat) : Prop := ∀ (k : Int) (x y : ByteArray) (A : Option Addr) (n C : Nat) (c : F) (w : World), c.size ≤ N → c.size ≤ 100000 → Fs w (Lo w.heap.size) (.slice A n C) c →
  Calls Tryd.prog 7 #[.agg #[.int .i64 k, .string x, .string y, .slice A n C]] w fun e w' => TCopyPostF w k x y c e w'
def TCopySpec (N : Nat) : Prop := ∀ (k : Int) (x y : ByteArray) (A : Option Addr) (n C : Nat) (c : F) (w : World), c.size ≤ N → c.size ≤ 100000 → Fs w (Lo w.heap.size) (.slice A n C) c →
  Calls Tryd.prog 7 #[.agg #[.int .i64 k, .string x, .string y, .slice A n C]] w fun e w' => TCopyPost w k x y c e w'

set_option maxRecDepth 100000 in
set_option maxHeartbeats 16000000 in
theorem tcopy_step (N : Nat) (ih : ∀ M, M < N → TCopySpec M) : TCopySpecF N := by
  intro k x y A n C c w hN hbig hf
  have HIH := Lib.hid ih
  have b1 := below2 w (.cells #[.int .i64 k, .string x, .string y, .slice A n C] 24) (.cells #[.int .i64 0, .string ⟨#[]⟩, .string ⟨#[]⟩, .slice none 0 0] 24)
  have HCL := Lib.hid (clone_any w.heap.size A n C c _ (hf.below b1 (Nat.le_refl _)) b1.size (Nat.le_trans (F.len_le_size c) (by omega)))
  have HX1 : Hid (Boxed ((w.alloc (.cells #[.int .i64 k, .string x, .string y, .slice A n C] 24)).alloc (.cells #[.int .i64 0, .string ⟨#[]⟩, .string ⟨#[]⟩, .slice none 0 0] 24)) w.heap.size k x y (.slice A n C)) := (Below.heap_alloc _ _ _ (by simp)).trans (heap_alloc_new _ _)
  have HX2 : Hid (Boxed ((w.alloc (.cells #[.int .i64 k, .string x, .string y, .slice A n C] 24)).alloc (.cells #[.int .i64 0, .string ⟨#[]⟩, .string ⟨#[]⟩, .slice none 0 0] 24)) (w.heap.size + 1) 0 ⟨#[]⟩ ⟨#[]⟩ (.slice none 0 0)) := by
    have e : w.heap.size + 1 = (w.alloc (.cells #[.int .i64 k, .string x, .string y, .slice A n C] 24)).heap.size := by simp
    rw [e]
    exact heap_alloc_new _ _
  have HS2 : Hid (((w.alloc (.cells #[.int .i64 k, .string x, .string y, .slice A n C] 24)).alloc (.cells #[.int .i64 0, .string ⟨#[]⟩, .string ⟨#[]⟩, .slice none 0 0] 24)).heap.size = w.heap.size + 2) := by show _ = _; simp
  have HBB := Lib.hid b1
  clear ih hf b1
  go_enter Tryd.func7, Tryd.ntmps7
  go_wp2_with fail
  refine HCL.out.mono ?_
  rintro e w3 ⟨hb3, At, nt, Ct, rfl, ho3, hd3⟩
  have hx1 := HX1.out.below hb3 HX1.out.lt
  have hx2 := HX2.out.below hb3 HX2.out.lt
  have HM : Hid (CpAt w (w3.setCell ⟨w.heap.size, 3, none⟩ (.slice At nt Ct)) k x y (.slice At nt Ct) c (.slice At nt Ct) c) := by
    have hs := hb3.size
    have hs2 := HS2.out
    have hgr := set_grown w3 w.heap.size 3 (.slice At nt Ct)
    refine ⟨(HBB.out.trans (hb3.mono HBB.out.size)).setCell (p := ⟨w.heap.size, 3, none⟩) (Nat.le_refl _) _, ?_, (Below.heap_setCell _ _ _ _ (show w.heap.size + 1 ≠ w.heap.size by omega)).trans hx2, ho3.grown hgr (.inr fun e => by have := hd3 _ e; omega) fun b hb => ?_, fun g e => by have := hd3 g e; omega, Nat.le_trans (by omega) hgr.size, fun W' S' _ _ h => h⟩
    · have := set_at hx1 3 (.slice At nt Ct)
      unfold Boxed
      simpa using this
    · have hb' : b < w.heap.size := hb
      exact ⟨by omega, fun e => by have := Option.some.inj e; omega⟩
  have HTF0 : Hid (TF (w3.setCell ⟨w.heap.size, 3, none⟩ (.slice At nt Ct)) (.slice At nt Ct)) := ho3.tf.set _ _ _
  obtain ⟨y0, y1, y2, y3⟩ := frz hx1
  obtain ⟨x0', x1', x2', x3'⟩ := hx1.cells
  obtain ⟨p0, p1, p2, p3⟩ := HM.out.b1.cells
  clear hx1 hx2 ho3 hd3 hb3 HCL HX1 HX2 HS2 HBB
  go_wp2
  clear p0 p1 p2 p3 x0' x1' x2' x3' y0 y1 y2 y3
  go_loopg [3] (c.size + 1) (fun p s3 wr => ∃ (A : Option Addr) (n C : Nat) (f : F), f.size < p ∧ f.size ≤ N ∧ f.size ≤ 100000 ∧ s3 = .slice A n C ∧ Hid (CpAt w wr k x y (.slice At nt Ct) c (.slice A n C) f) ∧ Hid (TF wr (.slice At nt Ct)))
  case atStart => exact ⟨At, nt, Ct, c, by omega, hN, hbig, rfl, HM.out, HTF0.out⟩
  case round =>
    clear HM hN hbig HTF0
    obtain ⟨A1, n1, C1, f, hsz, hN, hbig, rfl, HM, HTF⟩ := hrel
    cases hfe : f with
    | nil =>
      rw [hfe] at HM
      obtain ⟨a', c', e, _, _⟩ := HM.out.o.slice
      injection e with e1 e2 e3
      have hn0 : n1 = 0 := e2
      subst hn0
      have hfs := HM.out.fin
      obtain ⟨p0, p1, p2, p3⟩ := HM.out.b1.cells
      obtain ⟨y0, y1, y2, y3⟩ := frz HM.out.b2
      obtain ⟨x0', x1', x2', x3'⟩ := HM.out.b2.cells
      have HFS := Lib.hid hfs
      clear e1 e2 e3 hfe hfs
      go_wp2
      refine bodyPost_ret (results_cell_row rfl _ _ (w.heap.size + 1) 24 _ (0, 0) _ rfl (box_new HM.out.b2) Tryd.underlying24 rfl hi_node) rfl ?_
      have hbb := box_below wr (w.heap.size + 1) (.int .i64 k) (.string x) (.string y) (.slice At nt Ct)
      exact ⟨HM.out.bel.trans (hbb.mono (Nat.le_succ _)), At, nt, Ct, rfl, (HFS.out.keep fun b hb => set4_other _ _ _ _ _ _ _ (by have := hb.1; omega)).more fun b hb => ⟨Nat.le_trans (by omega) hb.1, Nat.lt_of_lt_of_le hb.2 hbb.size⟩, (((HTF.out.set _ _ _).set _ _ _).set _ _ _).set _ _ _⟩
    | cons k0 x0 y0 c0 r =>
      rw [hfe] at HM hsz hN hbig
      have hnd0 : (toL (.cons k0 x0 y0 c0 r))[0]? = some ⟨k0, x0, y0, c0⟩ := rfl
      have hlen : n1 = r.len + 1 := by
        obtain ⟨a', c', e, _, _⟩ := HM.out.o.slice
        injection e with e1 e2 e3
        rw [e2, toL_len]; rfl
      have hcap : n1 ≤ C1 ∧ C1 ≤ 9223372036854775807 := by
        obtain ⟨a', c', e, h1, h2⟩ := HM.out.o.slice
        injection e with e1 e2 e3
        exact ⟨by omega, by rw [e3]; exact h2⟩
      obtain ⟨hnC, hCm⟩ := hcap
      obtain ⟨g, s0, rfl, hgl, d0, d1, d2, d3, hf0⟩ := HM.out.o.at_ hnd0
      obtain ⟨A0, C0, rfl, _, _⟩ := hf0.slice
      simp only [F.size] at hsz hN hbig
      obtain ⟨n0, hn0⟩ : ∃ n0, c0.len = n0 := ⟨_, rfl⟩
      rw [hn0] at d3 hf0
      have hl0 := F.len_le_size c0
      have hlr := F.len_le_size r
      have HCL := Lib.hid (clone_any w.heap.size A0 n0 C0 c0 wr hf0 HM.out.bel.size (by omega))
      have d3' : wr.cell? ⟨g, 3, none⟩ = some (.slice A0 n0 C0) := by simpa using d3
      obtain ⟨A', n', C', hsl, en, eC, hA'⟩ := tail_slice g 0 n1 C1 (by omega) hnC
      have hn' : n' = r.len := by omega
      have hCm' : C' ≤ 9223372036854775807 := by omega
      have hnC' : n' ≤ C' := by omega
      have hn1 : (0 : Int) < (n1 : Int) := by omega
      have hA2 : Hid (n' = 0 ∨ A' = some ⟨g, 4, none⟩) := by rcases hA' with h | h; exact .inl (by omega); exact .inr (by rw [h])
      have hn'b : n' ≤ 100000 := by omega
      have HNR := Lib.hid hn'
      have HLN := Lib.hid hlen
      clear hfe hnd0 d0 d1 d2 d3 hf0 hn0 hl0 hA' en eC hn' hlr hlen
      go_wp2_with fail
      refine HCL.out.mono ?_
      rintro e w4 ⟨hb4, A4, n4, C4, rfl, ho4, hd4⟩
      have HI := Lib.hid (HM.out.start hb4 ho4 hd4)
      have HTI := Lib.hid ((HTF.out.below hb4).set g 3 (.slice A4 n4 C4))
      have hz := HM.out.o.later hb4 fun b hb => Nat.lt_of_lt_of_le hb HM.out.bel.size
      have hzf := hz.frz 3
      have hzc := (hb4.cell (p := ⟨g, 3, none⟩) hgl).trans d3'
      have HGL := Lib.hid hgl
      clear hb4 ho4 hd4 hz HCL HM hgl d3'
      go_wp2
      clear hzf hzc
      go_loopw [30] (fun s30 W => ∃ i : Nat, i ≤ n' ∧ s30 = .int .i64 (i : Int) ∧ Hid (CiAt w W wr.heap.size g n1 C1 k x y (.slice At nt Ct) c (.slice A4 n4 C4) (.cons k0 x0 y0 c0 r) c0 i) ∧ Hid (TF W (.slice At nt Ct))) (fun s30 _ => n' - (intOf s30).toNat)
      case atStart => exact ⟨0, Nat.zero_le _, rfl, HI.out, HTI.out⟩
      case round =>
        clear HI HTI HTF
        obtain ⟨i, hi, rfl, HI, HTI⟩ := hrel
        rename World => W
        by_cases hlt : i < n'
        · obtain rfl := hA2.out.resolve_left (by omega)
          have hlt' : (i : Int) < (n' : Int) := by omega
          have hi0 : (0 : Int) ≤ (i : Int) := by omega
          have hi1 : (i : Int) + 1 < (n1 : Int) := by have := HLN.out; have := HNR.out; omega
          obtain ⟨⟨kk, kx, ky, kc⟩, hnd⟩ : ∃ nd, (toL (.cons k0 x0 y0 c0 r))[i + 1]? = some nd := ⟨_, List.getElem?_eq_getElem (by rw [toL_len]; have := HNR.out; simp only [F.len]; omega)⟩
          obtain ⟨s, e0, e1, e2, e3, hfk, _⟩ := HI.out.at_ hnd
          have hfk := hfk (Nat.lt_succ_self _)
          dsimp only at e0 e1 e2 hfk
          obtain ⟨Ak, Ck, rfl, _, _⟩ := hfk.slice
          obtain ⟨kn, hkn⟩ : ∃ kn, kc.len = kn := ⟨_, rfl⟩
          rw [hkn] at e3 hfk
          rw [show (i + 1) * 4 = 4 + i * 4 by omega] at e0 e1 e2 e3
          have hmem := toL_size _ (List.mem_of_getElem? hnd)
          dsimp only [F.size] at hmem
          have b5 := below1 W (.cells #[.int .i64 kk, .string kx, .string ky, .slice Ak kn Ck] 24)
          have HC := Lib.hid (HIH.out kc.size (by omega) kk kx ky Ak kn Ck kc _ (Nat.le_refl _) (by omega) (((hfk.below b5 HI.out.bel.size).up (Nat.le_trans HI.out.bel.size b5.size))))
          have HI5 := Lib.hid (HI.out.later b5)
          have HT5 := Lib.hid (HTI.out.below b5)
          have HND := Lib.hid hnd
          have HBL : Hid (W.heap.size ≤ (W.alloc (.cells #[.int .i64 kk, .string kx, .string ky, .slice Ak kn Ck] 24)).heap.size) := b5.size
          clear hnd hfk hkn hmem b5
          go_wp2_with fail
          refine HC.out.mono ?_
          rintro e w6 ⟨hb6, Ar, nr, Cr, rfl, hf6⟩
          have hI6 := HI5.out.later hb6
          obtain ⟨s6, u0, u1, u2, u3, _, _⟩ := hI6.at_ HND.out
          obtain ⟨z0, z1, z2, z3⟩ := hI6.frz4 (i + 1)
          have HP := hI6.put HND.out (hf6.more fun b hb => ⟨Nat.le_trans HI5.out.hN hb.1, hb.2, fun e => by have := HI5.out.o0.lt e.symm; have := hb.1; omega⟩)
          unfold put4 at HP
          have HT6 := Lib.hid (HT5.out.below hb6)
          have HP2 := Lib.hid HP
          clear hI6 HP hf6 hb6 HI HI5 HC e0 e1 e2 e3
          go_wp2
          go_roundw
          case rel => exact ⟨i + 1, by omega, by go_num, HP2.out, (((HT6.out.set _ _ _).set _ _ _).set _ _ _).set _ _ _⟩
          case measure => simp [intOf]; omega
        · have hlt' : ¬ (i : Int) < (n' : Int) := by omega
          obtain ⟨s, e0, e1, e2, e3, _, hs⟩ := HI.out.at_ (j := 0) (nd := ⟨k0, x0, y0, c0⟩) rfl
          obtain rfl := hs rfl
          have e3' : W.cell? ⟨g, 3, none⟩ = some (.slice A4 n4 C4) := by simpa using e3
          have HD := Lib.hid (HI.out.done (by have := HNR.out; omega))
          clear e0 e1 e2 e3 hs hlt
          go_wp2
          go_roundg (c0.size + 1)
          case measure => omega
          case rel => exact ⟨A4, n4, C4, c0, by omega, by omega, by omega, rfl, HD.out, HTI.out⟩
theorem TCopySpecF.plain {N : Nat} (h : TCopySpecF N) : TCopySpec N := fun k x y A n C c w h1 h2 h3 => (h k x y A n C c w h1 h2 h3).mono fun e w' hp => by
  obtain ⟨hb, Ar, nr, Cr, e1, hf, _⟩ := hp
  exact ⟨hb, Ar, nr, Cr, e1, hf⟩
theorem tcopyF_any (N : Nat) : TCopySpecF N := by
  induction N using Nat.strongRecOn with
  | _ N ih => exact tcopy_step N fun M hM => (ih M hM).plain
theorem tcopy_any (N : Nat) : TCopySpec N := (tcopyF_any N).plain
end Go.Proofs.YtoecimgmghlfpaaDoor.Tree
