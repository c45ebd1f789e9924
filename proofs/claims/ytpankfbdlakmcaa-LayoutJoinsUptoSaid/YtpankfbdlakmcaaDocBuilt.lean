/-
  Layer 7 (doc): Built: a plan's document.
-/
import Derived.Test.YtpankfbdlakmcaaDocJoin
import Derived.Test.YtpankfbdlakmcaaDocOpen
namespace Go.Proofs.Ytpankfbdlakmcaa.Doc
open Go.ChangeShapes Go.WideShapes Go.ChangeAt Go.RowKit Mem
set_option linter.unusedVariables false

/-- A row of documents of one's own; their parts lie in none of X, nor in the row itself. -/
structure JB (X : Nat → Prop) (W2 : World) (B : Nat) (v : Value) (cur : List Nv) (W : World) : Prop where
  own : W.ownsRow B 32 3 v cur.length (cur.flatMap ndC)
  kids : ∀ p ∈ cur, Gs W (Dx (fun b => X b ∨ v.ownBlock = some b) W) p.2 p.1.c
  bel : Below B W2 W
  big : B ≤ W.heap.size
section
variable {X : Nat → Prop} {W2 W W' : World} {B : Nat} {v v' : Value} {cur : List Nv}
theorem JB.form (h : JB X W2 B v cur W) : ∃ a c, v = .slice a cur.length c ∧ cur.length ≤ c ∧ c ≤ maxLen := by
  rcases h.own.2 with ⟨e, h0⟩ | ⟨g, cap, c, e, _, _, h3, h4, _⟩
  · exact ⟨none, 0, by rw [e, h0], by omega, by unfold maxLen; omega⟩
  · exact ⟨_, _, e, h3, h4⟩
theorem JB.later (h : JB X W2 B v cur W) (hb : Below W.heap.size W W') : JB X W2 B v cur W' := ⟨own_below' h.own hb, fun p hp => (h.kids p hp).dxB hb, h.bel.trans (hb.mono h.big), Nat.le_trans h.big hb.size⟩
theorem JB.add (h : JB X W2 B v cur W) (hX : ∀ b, X b → b < B) {k : Int} {x : ByteArray} {c : G} {s : Value} (hs : Gs W (Dx (fun b => X b ∨ v.ownBlock = some b) W) s c) {ca : Array Value} (hown : W'.ownsRow B 32 3 v' (cur.length + 1) (cur.flatMap ndC ++ [.int .i64 k, .string x, s]))
    (hgrow : (W.alloc (.cells ca 32)).grownBy W' v.ownBlock) (hbel : ∀ B', (∀ b, v.ownBlock = some b → B' ≤ b) → B' ≤ W.heap.size → Below B' W W') (hat : v'.ownBlock = v.ownBlock ∨ v'.ownBlock = some (W.heap.size + 1)) : JB X W2 B v' (cur ++ [(⟨k, x, c⟩, s)]) W' := by
  have hb := hbel B (fun b hb => (h.own.lt b hb).1) h.big
  have ba := (Below.refl W.heap.size W).alloc (Nat.le_refl _) (.cells ca 32)
  have hkeep : ∀ {s : Value} {c : G}, Gs W (Dx (fun b => X b ∨ v.ownBlock = some b) W) s c → Gs W' (Dx (fun b => X b ∨ v'.ownBlock = some b) W') s c := fun {s c} hs => by
    have e1 : ∀ b, Dx (fun b => X b ∨ v.ownBlock = some b) W b → W'.heap[b]? = W.heap[b]? := fun b hb' => (hgrow.block b (by have := hb'.1.lt; simp; omega) (fun e => hb'.2 (.inr e.symm))).trans (ba.block b hb'.1.lt)
    refine (hs.keep e1).more fun b hb' => ⟨?_, ?_⟩
    · obtain ⟨cs, fz, e⟩ := hb'.1
      exact ⟨cs, fz, (e1 b hb').trans e⟩
    · rintro (h1 | h1)
      · exact hb'.2 (.inl h1)
      · rcases hat with e | e
        · exact hb'.2 (.inr (e ▸ h1))
        · rw [e] at h1
          injection h1 with h1
          have := hb'.1.lt
          omega
  refine ⟨?_, fun p hp => ?_, h.bel.trans hb, Nat.le_trans h.big hb.size⟩
  · rw [List.length_append, List.length_singleton, List.flatMap_append]
    simpa [ndC] using hown
  · rcases List.mem_append.1 hp with hp | hp
    · exact hkeep (h.kids p hp)
    · rw [List.mem_singleton.1 hp]; exact hkeep hs
theorem JB.gs (h : JB X W2 B v cur W) (hX : ∀ b, X b → b < B) {a : Option Addr} {C : Nat} (hv : v = .slice a cur.length C) : Gs W (Dx X W) (.slice a cur.length C) (ofL (cur.map (·.1))) := by
  have hk : ∀ p ∈ cur, Gs W (Dx X W) p.2 p.1.c := fun p hp => (h.kids p hp).more fun b hb' => ⟨hb'.1, fun h => hb'.2 (.inl h)⟩
  rcases h.own.2 with ⟨e, h0⟩ | hne
  · have hc : cur = [] := List.eq_nil_of_length_eq_zero h0
    subst hc
    rw [e] at hv
    injection hv with e1 e2 e3
    subst e1; subst e3
    exact ⟨none, 0, rfl, by omega⟩
  · obtain ⟨g, cap, c, e, _⟩ := hne
    have hne : Value.slice a cur.length C ≠ .slice none 0 0 := by rw [← hv, e]; intro h; cases h
    obtain ⟨g, rfl, hg, hnc, hcm, hrow⟩ := RowC.of_own (hv ▸ h.own) hne
    exact RowC.gs cur 0 cur.length C rfl hnc (by unfold maxLen at hcm; omega) ⟨⟨_, _, hrow.1.choose_spec⟩, fun h => by have := hX _ h; omega⟩ (fun i p hp => by simp only [Nat.zero_add]; exact hrow.2 i p hp) hk _ (.inr rfl)
end
theorem bL_take {f : G} {i : Nat} {k : Int} {x : ByteArray} {c r : G} (h : f.drop i = .cons k x c r) : (bL f).take (i + 1) = (bL f).take i ++ [b1 k x c] := by
  have : (bL f)[i]? = some (b1 k x c) := by
    revert h
    revert i
    induction f with
    | nil => intro i h; rw [G.drop_nil] at h; cases h
    | cons k' x' c' r' _ ih =>
      intro i h
      match i, h with
      | 0, h =>
        simp only [G.drop, G.cons.injEq] at h
        obtain ⟨rfl, rfl, rfl, rfl⟩ := h
        rfl
      | i + 1, h => simp only [bL, List.getElem?_cons_succ]; exact ih h
  rw [List.take_add_one, this]; rfl
/-- The end of Built: what a call answered is put into the result. -/
theorem put_end {X : Nat → Prop} {nd : Nd} {w w3 : World} {s : Value} {z0 z1 z2 : Value} {R : Nat} (hx3 : w3.heap[R]? = some (Obj.cells #[z0, z1, z2] 32 (0, 0))) (hR : w.heap.size ≤ R) (hb : Below w.heap.size w w3) (hs : Gs w3 (Dx (fun b => X b ∨ b = R) w3) s nd.c) : ∃ W,
    ((w3.setCell ⟨R, 0, none⟩ (.int .i64 nd.k)).setCell ⟨R, 1, none⟩ (.string nd.x)).setCell ⟨R, 2, none⟩ s = W ∧ W.heap[R]? = some (Obj.cells #[.int .i64 nd.k, .string nd.x, s] 32 (0, 0)) ∧ DocPost X nd w (.returned (.agg #[.int .i64 nd.k, .string nd.x, s])) W := by
  obtain ⟨W, hW, hfin, hoth, hbW⟩ := fin3 hx3 (.int .i64 nd.k) (.string nd.x) s
  exact ⟨W, hW, hfin, _, rfl, (hs.dx (fun b hb => hoth b (fun e => hb.2 (.inr e)))).more (fun b hb => ⟨hb.1, fun h => hb.2 (.inl h)⟩), hb.trans (hbW.mono hR)⟩
def BSpec (N : Nat) : Prop := ∀ (X : Nat → Prop) (k : Int) (x : ByteArray) (A : Option Addr) (n C : Nat) (c : G) (w : World), c.size ≤ N → (∀ b, X b → b < w.heap.size) → Gs w (Lo w.heap.size) (.slice A n C) c →
  Calls Try.prog 12 #[.agg #[.int .i64 k, .string x, .slice A n C]] w (DocPost X (b1 k x c) w)
theorem hX_more {X : Nat → Prop} {w W : World} {R : Nat} (hX : ∀ b, X b → b < w.heap.size) (hb : w.heap.size ≤ W.heap.size) (hR : R < W.heap.size) : ∀ b, (X b ∨ b = R) → b < W.heap.size := by
  rintro b (h | rfl)
  · have := hX b h; omega
  · exact hR
set_option maxHeartbeats 16000000 in
set_option maxRecDepth 100000 in
theorem built_step (N : Nat) (hNb : N ≤ 1000) (ih : ∀ M, M < N → BSpec M) : BSpec N := by
  intro X k x A n C c w hN hX hs
  have hcl : n = c.len := by obtain ⟨_, _, e, _, _⟩ := hs.slice; injection e
  have hn : n ≤ 1000 := by have := G.len_le_size c; omega
  have b1' := (Below.refl w.heap.size w).alloc (Nat.le_refl _) (.cells #[.int .i64 k, .string x, .slice A n C] 24)
  have hx1 := heap_alloc_new w (.cells #[.int .i64 k, .string x, .slice A n C] 24)
  have hz1 : (w.alloc (.cells #[.int .i64 k, .string x, .slice A n C] 24)).heap.size = w.heap.size + 1 := World.size_alloc _ _
  obtain ⟨w1, hw1⟩ : ∃ w1, w.alloc (.cells #[.int .i64 k, .string x, .slice A n C] 24) = w1 := ⟨_, rfl⟩
  rw [hw1] at b1' hx1 hz1
  have b2 := (Below.refl w1.heap.size w1).alloc (Nat.le_refl _) (.cells #[.int .i64 0, .string ⟨#[]⟩, .slice none 0 0] 32)
  have hx2 := heap_alloc_new w1 (.cells #[.int .i64 0, .string ⟨#[]⟩, .slice none 0 0] 32)
  have hz2 : (w1.alloc (.cells #[.int .i64 0, .string ⟨#[]⟩, .slice none 0 0] 32)).heap.size = w1.heap.size + 1 := World.size_alloc _ _
  obtain ⟨W2, hw2⟩ : ∃ W2, w1.alloc (.cells #[.int .i64 0, .string ⟨#[]⟩, .slice none 0 0] 32) = W2 := ⟨_, rfl⟩
  rw [hw2] at b2 hx2 hz2
  have hx1' := (b2.block w.heap.size (by omega)).trans hx1
  rw [hz1] at hx2 hz2
  have HW : Hid ((w.alloc (.cells #[.int .i64 k, .string x, .slice A n C] 24)).alloc (.cells #[.int .i64 0, .string ⟨#[]⟩, .slice none 0 0] 32) = W2) := by show _ = _; rw [hw1, hw2]
  have HBW := Lib.hid (b1'.trans (b2.mono (by omega)))
  have HX1 := Lib.hid hx1'
  have HX2 := Lib.hid hx2
  have HS := Lib.hid hs
  have HCL := Lib.hid hcl
  have HXX := Lib.hid hX
  have HIH := Lib.hid ih
  have HX' : Hid (∀ b, (X b ∨ b = w.heap.size + 1) → b < W2.heap.size) := hX_more hX (by omega) (by omega)
  obtain ⟨p0, p1, p2⟩ := cl3 hx1'
  clear b1' hx1 hw1 b2 hx2 hw2 hx1' hs hcl hz1 ih
  by_cases k1 : k = 1
  · subst k1
    obtain ⟨nr, hnr⟩ : ∃ nr, textN x = nr := ⟨_, rfl⟩
    have HBE : Hid (b1 1 x c = nr) := by show _ = _; rw [← hnr]; rfl
    have HC := Lib.hid (text_any (fun b => X b ∨ b = w.heap.size + 1) x W2)
    rw [hnr] at HC
    have HXR := HX2
    have HBB := HBW
    clear hnr
    rw [← HW.out] at p0 p1 p2
    go_enter Try.func12, Try.ntmps12
    go_wp2_with fail
    rw [HW.out]
    refine HC.out.mono ?_
    rintro e w3 ⟨s3, rfl, hs3, hb3⟩
    clear p0 p1 p2
    obtain ⟨A3, C3, rfl, _, _⟩ := hs3.slice
    have hx3 := (hb3.block (w.heap.size + 1) (by omega)).trans HXR.out
    obtain ⟨z0, z1, z2⟩ := cl3 hx3
    have f0 := frz hx3 0
    have f1 := frz hx3 1
    have f2 := frz hx3 2
    obtain ⟨kr, xr, cr⟩ := nr
    dsimp only at hs3 HBE ⊢
    obtain ⟨W, hW, hfin, hP⟩ := put_end (X := X) (nd := ⟨kr, xr, cr⟩) (w := w) hx3 (by omega) (HBB.out.trans (hb3.mono HBB.out.size)) hs3
    dsimp only at hW hfin hP
    have HFIN := Lib.hid hfin
    have HW3 := Lib.hid hW
    have HP := Lib.hid hP
    clear hs3 hb3 hx3 hW hfin hP
    go_wp2
    rw [HW3.out]
    refine bodyPost_ret (results_cell_row rfl _ _ (w.heap.size + 1) 32 _ (0, 0) _ rfl HFIN.out Try.underlying32 rfl doc_size) rfl ?_
    rw [HBE.out]
    exact HP.out
  have k1' : (k == 1) = false := by simpa using k1
  by_cases k2 : k = 2
  · subst k2
    obtain ⟨nr, hnr⟩ : ∃ nr, (⟨2, emp, .nil⟩ : Nd) = nr := ⟨_, rfl⟩
    have HBE : Hid (b1 2 x c = nr) := by show _ = _; rw [← hnr]; rfl
    have HC := Lib.hid (line_any (fun b => X b ∨ b = w.heap.size + 1) W2)
    rw [hnr] at HC
    have HXR := HX2
    have HBB := HBW
    clear hnr
    rw [← HW.out] at p0 p1 p2
    go_enter Try.func12, Try.ntmps12
    go_wp2_with fail
    rw [HW.out]
    refine HC.out.mono ?_
    rintro e w3 ⟨s3, rfl, hs3, hb3⟩
    clear p0 p1 p2
    obtain ⟨A3, C3, rfl, _, _⟩ := hs3.slice
    have hx3 := (hb3.block (w.heap.size + 1) (by omega)).trans HXR.out
    obtain ⟨z0, z1, z2⟩ := cl3 hx3
    have f0 := frz hx3 0
    have f1 := frz hx3 1
    have f2 := frz hx3 2
    obtain ⟨kr, xr, cr⟩ := nr
    dsimp only at hs3 HBE ⊢
    obtain ⟨W, hW, hfin, hP⟩ := put_end (X := X) (nd := ⟨kr, xr, cr⟩) (w := w) hx3 (by omega) (HBB.out.trans (hb3.mono HBB.out.size)) hs3
    dsimp only at hW hfin hP
    have HFIN := Lib.hid hfin
    have HW3 := Lib.hid hW
    have HP := Lib.hid hP
    clear hs3 hb3 hx3 hW hfin hP
    go_wp2
    rw [HW3.out]
    refine bodyPost_ret (results_cell_row rfl _ _ (w.heap.size + 1) 32 _ (0, 0) _ rfl HFIN.out Try.underlying32 rfl doc_size) rfl ?_
    rw [HBE.out]
    exact HP.out
  have k2' : (k == 2) = false := by simpa using k2
  by_cases k3 : k = 3
  · subst k3
    obtain ⟨nr, hnr⟩ : ∃ nr, (⟨3, emp, .nil⟩ : Nd) = nr := ⟨_, rfl⟩
    have HBE : Hid (b1 3 x c = nr) := by show _ = _; rw [← hnr]; rfl
    have HC := Lib.hid (soft_any (fun b => X b ∨ b = w.heap.size + 1) W2)
    rw [hnr] at HC
    have HXR := HX2
    have HBB := HBW
    clear hnr
    rw [← HW.out] at p0 p1 p2
    go_enter Try.func12, Try.ntmps12
    go_wp2_with fail
    rw [HW.out]
    refine HC.out.mono ?_
    rintro e w3 ⟨s3, rfl, hs3, hb3⟩
    clear p0 p1 p2
    obtain ⟨A3, C3, rfl, _, _⟩ := hs3.slice
    have hx3 := (hb3.block (w.heap.size + 1) (by omega)).trans HXR.out
    obtain ⟨z0, z1, z2⟩ := cl3 hx3
    have f0 := frz hx3 0
    have f1 := frz hx3 1
    have f2 := frz hx3 2
    obtain ⟨kr, xr, cr⟩ := nr
    dsimp only at hs3 HBE ⊢
    obtain ⟨W, hW, hfin, hP⟩ := put_end (X := X) (nd := ⟨kr, xr, cr⟩) (w := w) hx3 (by omega) (HBB.out.trans (hb3.mono HBB.out.size)) hs3
    dsimp only at hW hfin hP
    have HFIN := Lib.hid hfin
    have HW3 := Lib.hid hW
    have HP := Lib.hid hP
    clear hs3 hb3 hx3 hW hfin hP
    go_wp2
    rw [HW3.out]
    refine bodyPost_ret (results_cell_row rfl _ _ (w.heap.size + 1) 32 _ (0, 0) _ rfl HFIN.out Try.underlying32 rfl doc_size) rfl ?_
    rw [HBE.out]
    exact HP.out
  have k3' : (k == 3) = false := by simpa using k3
  by_cases k4 : k = 4
  · subst k4
    obtain ⟨nr, hnr⟩ : ∃ nr, (⟨4, emp, .nil⟩ : Nd) = nr := ⟨_, rfl⟩
    have HBE : Hid (b1 4 x c = nr) := by show _ = _; rw [← hnr]; rfl
    have HC := Lib.hid (hard_any (fun b => X b ∨ b = w.heap.size + 1) W2)
    rw [hnr] at HC
    have HXR := HX2
    have HBB := HBW
    clear hnr
    rw [← HW.out] at p0 p1 p2
    go_enter Try.func12, Try.ntmps12
    go_wp2_with fail
    rw [HW.out]
    refine HC.out.mono ?_
    rintro e w3 ⟨s3, rfl, hs3, hb3⟩
    clear p0 p1 p2
    obtain ⟨A3, C3, rfl, _, _⟩ := hs3.slice
    have hx3 := (hb3.block (w.heap.size + 1) (by omega)).trans HXR.out
    obtain ⟨z0, z1, z2⟩ := cl3 hx3
    have f0 := frz hx3 0
    have f1 := frz hx3 1
    have f2 := frz hx3 2
    obtain ⟨kr, xr, cr⟩ := nr
    dsimp only at hs3 HBE ⊢
    obtain ⟨W, hW, hfin, hP⟩ := put_end (X := X) (nd := ⟨kr, xr, cr⟩) (w := w) hx3 (by omega) (HBB.out.trans (hb3.mono HBB.out.size)) hs3
    dsimp only at hW hfin hP
    have HFIN := Lib.hid hfin
    have HW3 := Lib.hid hW
    have HP := Lib.hid hP
    clear hs3 hb3 hx3 hW hfin hP
    go_wp2
    rw [HW3.out]
    refine bodyPost_ret (results_cell_row rfl _ _ (w.heap.size + 1) 32 _ (0, 0) _ rfl HFIN.out Try.underlying32 rfl doc_size) rfl ?_
    rw [HBE.out]
    exact HP.out
  have k4' : (k == 4) = false := by simpa using k4
  obtain ⟨i0, hi0, hzr, hisz, hby⟩ := info_parts doc_info
  have HJ0 : Hid (JB (fun b => X b ∨ b = w.heap.size + 1) W2 (w.heap.size + 1 + 1) (.slice none 0 0) [] W2) := ⟨World.ownsRow_nil _ _ _ _, (fun p hp => by cases hp), Below.refl _ _, by omega⟩
  have HXB : Hid (∀ b, (X b ∨ b = w.heap.size + 1) → b < w.heap.size + 1 + 1) := fun b hb => hb.elim (fun h => by have := HXX.out b h; omega) (fun h => by omega)
  have HBE0 : Hid (b1 k x c = wrapN k (rowN (bL c))) := by
    show _ = _
    unfold b1 builtN
    rw [if_neg k1, if_neg (by omega)]
  rw [← HW.out] at p0 p1 p2
  go_enter Try.func12, Try.ntmps12
  go_wp2
  rw [HW.out]
  go_loopw [3, 4] (fun s3 s4 wr => ∃ (i : Nat) (cur : List Nv), i ≤ n ∧ s4 = .int .i64 (i : Int) ∧ Hid (JB (fun b => X b ∨ b = w.heap.size + 1) W2 (w.heap.size + 1 + 1) s3 cur wr) ∧ Hid (cur.map (·.1) = (bL c).take i)) (fun _ s4 _ => n - (intOf s4).toNat)
  case atStart => exact ⟨0, [], Nat.zero_le _, rfl, HJ0.out, rfl⟩
  case round =>
    obtain ⟨i, cur, hi, rfl, hJ, hE⟩ := hrel
    have hcl : cur.length ≤ i := by
      have h1 := congrArg List.length hE.out
      rw [List.length_map, List.length_take] at h1
      omega
    obtain ⟨av, cv, hv, hvc, hvm⟩ := hJ.out.form
    subst hv
    have hbw := HBW.out.trans (hJ.out.bel.mono (by omega))
    have hbox := (hJ.out.bel.block w.heap.size (by omega)).trans HX1.out
    have hbig := hJ.out.big
    obtain ⟨p0, p1, p2⟩ := cl3 hbox
    by_cases hlt : i < n
    · obtain ⟨k', x', c', r', hd, hd2⟩ := G.drop_cons (n := i) (f := c) (by rw [← HCL.out]; exact hlt)
      obtain ⟨b, off, s, hA, hbS, _, hat⟩ := HS.out.at_ hd
      subst hA
      obtain ⟨As, Cs, rfl, _, _⟩ := hat.kids.slice
      have hbl : b < w.heap.size := hbS
      have y0 := (hbw.cell (p := ⟨b, off + i * 3, none⟩) hbl).trans hat.c0
      have y1 := (hbw.cell (p := ⟨b, off + i * 3 + 1, none⟩) hbl).trans hat.c1
      have y2 := (hbw.cell (p := ⟨b, off + i * 3 + 2, none⟩) hbl).trans hat.c2
      have hsz := G.kid_size hd
      have hlt1 : (i : Int) < (n : Int) := by omega
      have hlt0 : (0 : Int) ≤ (i : Int) := by omega
      have hkids : Gs wr (Lo wr.heap.size) (.slice As c'.len Cs) c' := (hat.kids.below hbw (Nat.le_refl _)).up hbw.size
      have HC := Lib.hid (HIH.out c'.size (by omega) (fun b => (X b ∨ b = w.heap.size + 1) ∨ (Value.slice av cur.length cv).ownBlock = some b) k' x' As c'.len Cs c' wr (Nat.le_refl _) (fun b hb => by
        rcases hb with hb | hb
        · have := HXB.out b hb; omega
        · exact (hJ.out.own.lt b hb).2) hkids)
      have HE2 : Hid ((cur.map (·.1)) ++ [b1 k' x' c'] = (bL c).take (i + 1)) := by show _ = _; rw [bL_take hd, hE.out]
      generalize c'.len = lc at *
      obtain ⟨nr, hnr⟩ : ∃ nr, b1 k' x' c' = nr := ⟨_, rfl⟩
      rw [hnr] at HC HE2
      clear hd hd2 hat hbS hbl hkids hsz hbw hbox hnr
      go_wp2_with fail
      refine HC.out.mono ?_
      rintro e w3 ⟨s3, rfl, hs3, hb3⟩
      obtain ⟨A3, C3, rfl, _, _⟩ := hs3.slice
      have HJ3 := Lib.hid (hJ.out.later hb3)
      have HS3 := Lib.hid hs3
      obtain ⟨kr, xr, cr⟩ := nr
      dsimp only at HS3 ⊢
      generalize cr.len = lr at *
      have HE3 : Hid ((cur ++ [((⟨kr, xr, cr⟩, .slice A3 lr C3) : Nv)]).map (·.1) = (bL c).take (i + 1)) := by show _ = _; rw [← HE2.out]; simp
      clear hs3 hb3 p0 p1 p2 y0 y1 y2 hJ hE hbig HC
      go_wp2_with (at_builtin; refine MemT.app_cells w3 rfl _ _ rfl Try.underlying30 hi0 hzr hisz hby rfl (by decide) (w.heap.size + 1 + 1) (.slice av cur.length cv) cur.length (cur.flatMap ndC) [.int .i64 kr, .string xr, .slice A3 lr C3] rfl HJ3.out.own rfl (by simp [Value.oneCell']) w3.heap.size rfl rfl (by omega) (by omega) HJ3.out.big ?_; intro v' w4 hown hgrow hbel hat2; have HJ4 := Lib.hid (HJ3.out.add HXB.out HS3.out hown hgrow hbel hat2); clear hown hgrow hbel hat2)
      go_roundw
      case rel => exact ⟨i + 1, _, by omega, by go_num, HJ4.out, HE3.out⟩
      case measure => simp [intOf]; omega
    · obtain rfl : i = n := by omega
      have hlt1 : ¬ (i : Int) < (i : Int) := by omega
      have hEE := hE.out
      rw [List.take_of_length_le (by rw [bL_len, HCL.out]; exact Nat.le_refl _)] at hEE
      have hgs := hJ.out.gs HXB.out rfl
      have HRW := Lib.hid (row_any (X := fun b => X b ∨ b = w.heap.size + 1) av cur.length cv _ wr (fun b hb => by have := HXB.out b hb; omega) hgs (by omega) hvm)
      rw [toL_ofL, hEE] at HRW
      have HXR0 := Lib.hid ((hJ.out.bel.block (w.heap.size + 1) (by omega)).trans HX2.out)
      have HBB0 := Lib.hid hbw
      clear hgs hJ hE hEE hbw hbox
      by_cases k5 : k = 5
      · subst k5
        obtain ⟨n1, hn1⟩ : ∃ n1, rowN (bL c) = n1 := ⟨_, rfl⟩
        rw [hn1] at HRW
        have HN1 := Lib.hid hn1
        clear hn1
        go_wp2_with fail
        refine HRW.out.mono ?_
        rintro e w5 ⟨s5, rfl, hs5, hb5⟩
        have HC := Lib.hid (nest_any n1 s5 w5 (fun b hb => by have := HXB.out b hb; have := hb5.size; omega) hs5)
        have HXR := Lib.hid ((hb5.block (w.heap.size + 1) (by omega)).trans HXR0.out)
        have HBB := Lib.hid (HBB0.out.trans (hb5.mono HBB0.out.size))
        obtain ⟨A5, C5, rfl, _, _⟩ := hs5.slice
        obtain ⟨nr, hnr⟩ : ∃ nr, nestN n1 = nr := ⟨_, rfl⟩
        rw [hnr] at HC
        have HBE : Hid (b1 5 x c = nr) := by show _ = _; rw [HBE0.out, HN1.out, ← hnr]; rfl
        have hs5z := hb5.size
        obtain ⟨k9, x9, c9⟩ := n1
        dsimp only at HC ⊢
        generalize c9.len = l9 at *
        clear hs5 hb5 hnr p0 p1 p2
        go_wp2_with fail
        refine HC.out.mono ?_
        rintro e w3 ⟨s3, rfl, hs3, hb3⟩
        obtain ⟨A3, C3, rfl, _, _⟩ := hs3.slice
        have hx3 := (hb3.block (w.heap.size + 1) (by omega)).trans HXR.out
        obtain ⟨z0, z1, z2⟩ := cl3 hx3
        have f0 := frz hx3 0
        have f1 := frz hx3 1
        have f2 := frz hx3 2
        obtain ⟨kr, xr, cr⟩ := nr
        dsimp only at hs3 HBE ⊢
        obtain ⟨W, hW, hfin, hP⟩ := put_end (X := X) (nd := ⟨kr, xr, cr⟩) (w := w) hx3 (by omega) (HBB.out.trans (hb3.mono HBB.out.size)) hs3
        dsimp only at hW hfin hP
        have HFIN := Lib.hid hfin
        have HW3 := Lib.hid hW
        have HP := Lib.hid hP
        clear hs3 hb3 hx3 hW hfin hP
        go_wp2
        rw [HW3.out]
        refine bodyPost_ret (results_cell_row rfl _ _ (w.heap.size + 1) 32 _ (0, 0) _ rfl HFIN.out Try.underlying32 rfl doc_size) rfl ?_
        rw [HBE.out]
        exact HP.out
      have k5' : (k == 5) = false := by simpa using k5
      by_cases k7 : k = 7
      · subst k7
        obtain ⟨n1, hn1⟩ : ∃ n1, rowN (bL c) = n1 := ⟨_, rfl⟩
        rw [hn1] at HRW
        have HN1 := Lib.hid hn1
        clear hn1
        go_wp2_with fail
        refine HRW.out.mono ?_
        rintro e w5 ⟨s5, rfl, hs5, hb5⟩
        have HC := Lib.hid (group_any n1 s5 w5 (fun b hb => by have := HXB.out b hb; have := hb5.size; omega) hs5)
        have HXR := Lib.hid ((hb5.block (w.heap.size + 1) (by omega)).trans HXR0.out)
        have HBB := Lib.hid (HBB0.out.trans (hb5.mono HBB0.out.size))
        obtain ⟨A5, C5, rfl, _, _⟩ := hs5.slice
        obtain ⟨nr, hnr⟩ : ∃ nr, groupN n1 = nr := ⟨_, rfl⟩
        rw [hnr] at HC
        have HBE : Hid (b1 7 x c = nr) := by show _ = _; rw [HBE0.out, HN1.out, ← hnr]; rfl
        have hs5z := hb5.size
        obtain ⟨k9, x9, c9⟩ := n1
        dsimp only at HC ⊢
        generalize c9.len = l9 at *
        clear hs5 hb5 hnr p0 p1 p2
        go_wp2_with fail
        refine HC.out.mono ?_
        rintro e w3 ⟨s3, rfl, hs3, hb3⟩
        obtain ⟨A3, C3, rfl, _, _⟩ := hs3.slice
        have hx3 := (hb3.block (w.heap.size + 1) (by omega)).trans HXR.out
        obtain ⟨z0, z1, z2⟩ := cl3 hx3
        have f0 := frz hx3 0
        have f1 := frz hx3 1
        have f2 := frz hx3 2
        obtain ⟨kr, xr, cr⟩ := nr
        dsimp only at hs3 HBE ⊢
        obtain ⟨W, hW, hfin, hP⟩ := put_end (X := X) (nd := ⟨kr, xr, cr⟩) (w := w) hx3 (by omega) (HBB.out.trans (hb3.mono HBB.out.size)) hs3
        dsimp only at hW hfin hP
        have HFIN := Lib.hid hfin
        have HW3 := Lib.hid hW
        have HP := Lib.hid hP
        clear hs3 hb3 hx3 hW hfin hP
        go_wp2
        rw [HW3.out]
        refine bodyPost_ret (results_cell_row rfl _ _ (w.heap.size + 1) 32 _ (0, 0) _ rfl HFIN.out Try.underlying32 rfl doc_size) rfl ?_
        rw [HBE.out]
        exact HP.out
      have k7' : (k == 7) = false := by simpa using k7
      obtain ⟨nr, hnr⟩ : ∃ nr, rowN (bL c) = nr := ⟨_, rfl⟩
      rw [hnr] at HRW
      have HBE : Hid (b1 k x c = nr) := by show _ = _; rw [HBE0.out, ← hnr]; unfold wrapN; rw [if_neg k5, if_neg k7]
      have HXR := HXR0
      have HBB := HBB0
      clear hnr
      go_wp2_with fail
      refine HRW.out.mono ?_
      rintro e w3 ⟨s3, rfl, hs3, hb3⟩
      clear p0 p1 p2
      obtain ⟨A3, C3, rfl, _, _⟩ := hs3.slice
      have hx3 := (hb3.block (w.heap.size + 1) (by omega)).trans HXR.out
      obtain ⟨z0, z1, z2⟩ := cl3 hx3
      have f0 := frz hx3 0
      have f1 := frz hx3 1
      have f2 := frz hx3 2
      obtain ⟨kr, xr, cr⟩ := nr
      dsimp only at hs3 HBE ⊢
      obtain ⟨W, hW, hfin, hP⟩ := put_end (X := X) (nd := ⟨kr, xr, cr⟩) (w := w) hx3 (by omega) (HBB.out.trans (hb3.mono HBB.out.size)) hs3
      dsimp only at hW hfin hP
      have HFIN := Lib.hid hfin
      have HW3 := Lib.hid hW
      have HP := Lib.hid hP
      clear hs3 hb3 hx3 hW hfin hP
      go_wp2
      rw [HW3.out]
      refine bodyPost_ret (results_cell_row rfl _ _ (w.heap.size + 1) 32 _ (0, 0) _ rfl HFIN.out Try.underlying32 rfl doc_size) rfl ?_
      rw [HBE.out]
      exact HP.out
theorem built_any : ∀ N, N ≤ 1000 → BSpec N := fun N => Nat.strongRecOn N fun N ih hN => built_step N hN fun M hM => ih M hM (by omega)
end Go.Proofs.Ytpankfbdlakmcaa.Doc
