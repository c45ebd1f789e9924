/-
  Layer 7 (doc): Plain: the pieces, counted and listed.
-/
import Derived.Test.YtpankfbdlakmcaaDocEach
namespace Go.Proofs.Ytpankfbdlakmcaa.Doc
open Go.ChangeShapes Go.WideShapes Go.ChangeAt Go.RowKit Mem
set_option linter.unusedVariables false

/-- A piece's cells. -/
def pcC (p : Pc) : List Value := [.int .i64 p.1, .string p.2]
theorem pcC_len (p : Pc) : (pcC p).length = 2 := rfl
theorem piece_info : (Try.prog.info? 45).map (fun i => (i.zero, i.size, i.bytes)) = some (some (.agg #[.int .i64 0, .string ⟨#[]⟩]), 2, 24) := by kernel_rfl
theorem QK.own {W W' : World} {base n size : Nat} {E : TypeId} {v : Value} {vs : List Value} (h : QK W W') (hE : E ≠ 88) (ho : W.ownsRow base E size v n vs) : W'.ownsRow base E size v n vs := by
  refine ⟨ho.1, ?_⟩
  rcases ho.2 with hn | ⟨b, cap, cur, e, h1, h2, h3⟩
  · exact .inl hn
  · exact .inr ⟨b, cap, cur, e, h1, h.block b cur E (0, 0) h2 hE, h3⟩

theorem cl2 {W : World} {g : Nat} {a b : Value} {T : TypeId} (h : W.heap[g]? = some (Obj.cells #[a, b] T (0, 0))) : W.cell? ⟨g, 0, none⟩ = some a ∧ W.cell? ⟨g, 1, none⟩ = some b := by
  refine ⟨?_, ?_⟩ <;> simp [World.cell?, h]

/-! ### Counting -/
def CntI (z : Nat) (W : World) (pre : List Pc) : Prop := W.heap[z]? = some (Obj.cells #[.int .i64 (pre.length : Int)] 3 (0, 0))
set_option maxRecDepth 100000 in
theorem count_sink (z B0 : Nat) (hB : B0 ≤ z) (full : List Pc) (hf : full.length ≤ 10000000) : Sink B0 (CntI z) full 34 #[.pointer (some ⟨z, 0, none⟩)] := by
  refine ⟨fun W W' pre h hk => hk.block z _ _ _ h (by decide), fun W pre p h hr => ?_, enters_of Try.func34 (by kernel_rfl) rfl⟩
  obtain ⟨rest, hr⟩ := hr
  have hl : pre.length ≤ 10000000 := by have := congrArg List.length hr; simp only [List.length_append] at this; omega
  obtain ⟨k, x⟩ := p
  show Calls _ _ #[.agg #[.int .i64 k, .string x], .pointer (some ⟨z, 0, none⟩)] _ _
  have hb := (Below.refl W.heap.size W).alloc (Nat.le_refl _) (.cells #[.int .i64 k, .string x] 45)
  have h1 : (W.alloc (.cells #[.int .i64 k, .string x] 45)).heap[z]? = _ := (hb.block z (lt_of h)).trans h
  have hc := cl0 h1
  have hfz := frz h1 0
  have hn : ((pre ++ [((k, x) : Pc)]).length : Int) = (pre.length : Int) + 1 := by simp
  have H1 : Hid (CntI z ((W.alloc (.cells #[.int .i64 k, .string x] 45)).setCell ⟨z, 0, none⟩ (.int .i64 ((pre.length : Int) + 1))) (pre ++ [(k, x)])) := by
    show _ = _
    rw [hn]
    exact set_at h1 0 _
  have H2 : Hid (Kept B0 W ((W.alloc (.cells #[.int .i64 k, .string x] 45)).setCell ⟨z, 0, none⟩ (.int .i64 ((pre.length : Int) + 1)))) := (Kept.ofB hb).trans (Kept.set h1 (.inl rfl) hB _)
  clear hn hr h h1 hb
  go_enter Try.func34, Try.ntmps34
  go_wp2
  go_end0
  exact ⟨rfl, H1.out, H2.out⟩

/-! ### The list -/
def LstI (B0 z : Nat) (W : World) (pre : List Pc) : Prop := ∃ v, W.heap[z]? = some (Obj.cells #[v] 42 (0, 0)) ∧ W.ownsRow B0 45 2 v pre.length (pre.flatMap pcC)
theorem list_after {z B0 n C : Nat} {a : Option Addr} {vs cs : List Value} {ca : Array Value} {W W1 w2 : World} {v' : Value} (hB : B0 ≤ z) (hzl : z < W.heap.size) (hb : Below W.heap.size W W1) (hs1 : W1.heap.size = W.heap.size + 1)
    (hz : W1.heap[z]? = some (Obj.cells #[.slice a n C] 42 (0, 0))) (ho : W1.ownsRow B0 45 2 (.slice a n C) n vs) (hown : w2.ownsRow B0 45 2 v' (n + 1) (vs ++ cs)) (hgrow : (W1.alloc (.cells ca 45)).grownBy w2 (Value.slice a n C).ownBlock) :
    ∃ g c, v' = .slice (some ⟨g, 0, none⟩) (n + 1) c ∧ w2.cell? ⟨z, 0, none⟩ = some (.slice a n C) ∧ w2.frozen? ⟨z, 0, none⟩ = false ∧ (w2.setCell ⟨z, 0, none⟩ (.slice (some ⟨g, 0, none⟩) (n + 1) c)).heap[z]? = some (Obj.cells #[.slice (some ⟨g, 0, none⟩) (n + 1) c] 42 (0, 0)) ∧
      (w2.setCell ⟨z, 0, none⟩ (.slice (some ⟨g, 0, none⟩) (n + 1) c)).ownsRow B0 45 2 (.slice (some ⟨g, 0, none⟩) (n + 1) c) (n + 1) (vs ++ cs) ∧ Kept B0 W (w2.setCell ⟨z, 0, none⟩ (.slice (some ⟨g, 0, none⟩) (n + 1) c)) := by
  have hb2 := (Below.refl W1.heap.size W1).alloc (Nat.le_refl _) (.cells ca 45)
  have hz2 : w2.heap[z]? = some (Obj.cells #[.slice a n C] 42 (0, 0)) := (hgrow.block z (by simp; omega) (fun e => by
    rcases ho.2 with ⟨e2, _⟩ | ⟨b, cap, cur, e2, _, h2, _⟩
    · rw [e2] at e; cases e
    · rw [e2] at e
      have e : z = b := by simpa [Value.ownBlock] using e
      subst e
      rw [hz] at h2
      cases h2)).trans ((hb2.block z (by omega)).trans hz)
  obtain ⟨g', c', rfl⟩ : ∃ g c, v' = .slice (some ⟨g, 0, none⟩) (n + 1) c := by
    rcases hown.2 with ⟨_, h0⟩ | ⟨b, cap, cur, e, _⟩
    · omega
    · exact ⟨_, _, e⟩
  have hkg : Kept B0 W1 w2 := (Kept.ofB hb2).trans (Kept.row hgrow (ho.alloc _) (by decide) (Nat.le_refl _))
  have hset := set_at hz2 0 (.slice (some ⟨g', 0, none⟩) (n + 1) c')
  simp only [List.setIfInBounds_toArray, List.set_cons_zero] at hset
  refine ⟨g', c', rfl, cl0 hz2, frz hz2 0, hset, ⟨hown.1, ?_⟩, ((Kept.ofB hb).trans hkg).trans (Kept.set hz2 (by decide) hB _)⟩
  rcases hown.2 with hn | ⟨b, cap, cur, e, h1, h2, h3⟩
  · exact .inl hn
  · refine .inr ⟨b, cap, cur, e, h1, ((grownBy_setCell' w2 z _).block b (lt_of h2) (fun e2 => ?_)).trans h2, h3⟩
    injection e2 with e2
    subst e2
    rw [hz2] at h2
    cases h2
set_option maxRecDepth 100000 in
set_option maxHeartbeats 1000000 in
theorem list_sink (z B0 : Nat) (hB : B0 ≤ z) (full : List Pc) (hf : full.length ≤ 1000000) : Sink B0 (LstI B0 z) full 35 #[.pointer (some ⟨z, 0, none⟩)] := by
  refine ⟨fun W W' pre h hk => ?_, fun W pre p h hr => ?_, enters_of Try.func35 (by kernel_rfl) rfl⟩
  · obtain ⟨v, h1, h2⟩ := h
    exact ⟨v, hk.block z _ _ _ h1 (by decide), hk.own (by decide) h2⟩
  obtain ⟨rest, hr⟩ := hr
  have hl : pre.length ≤ 1000000 := by have := congrArg List.length hr; simp only [List.length_append] at this; omega
  obtain ⟨k, x⟩ := p
  show Calls _ _ #[.agg #[.int .i64 k, .string x], .pointer (some ⟨z, 0, none⟩)] _ _
  obtain ⟨v, hz, ho⟩ := h
  obtain ⟨a, C, hv, _, _⟩ : ∃ a C, v = .slice a pre.length C ∧ pre.length ≤ C ∧ C ≤ maxLen := by
    rcases ho.2 with ⟨e, h0⟩ | ⟨b, cap, cur, e, _, _, h3, h4, _⟩
    · exact ⟨none, 0, by rw [e, h0], by omega, by unfold maxLen; omega⟩
    · exact ⟨_, _, e, h3, h4⟩
  have hb := (Below.refl W.heap.size W).alloc (Nat.le_refl _) (.cells #[.int .i64 k, .string x] 45)
  have hx : (W.alloc (.cells #[.int .i64 k, .string x] 45)).heap[W.heap.size]? = some (Obj.cells #[.int .i64 k, .string x] 45 (0, 0)) := heap_alloc_new _ _
  have hz1 : (W.alloc (.cells #[.int .i64 k, .string x] 45)).heap[z]? = _ := (hb.block z (lt_of hz)).trans hz
  have ho1 := own_below' ho hb
  have hs1 : (W.alloc (.cells #[.int .i64 k, .string x] 45)).heap.size = W.heap.size + 1 := World.size_alloc _ _
  obtain ⟨hc0, hc1⟩ := cl2 hx
  obtain ⟨i0, hi0, hzr, hsz, hby⟩ := info_parts piece_info
  have HB := Lib.hid hb
  have HO := Lib.hid ho1
  have HZ := Lib.hid hz1
  have HV := Lib.hid hv
  have hzl : z < W.heap.size := lt_of hz
  have HR : Hid ((pre ++ [((k, x) : Pc)]).length = pre.length + 1 ∧ (pre ++ [((k, x) : Pc)]).flatMap pcC = pre.flatMap pcC ++ [.int .i64 k, .string x]) := ⟨by simp, by simp [pcC]⟩
  clear hr ho ho1 hb hx hz hz1
  clear hv
  obtain ⟨n, hn⟩ : ∃ n, pre.length = n := ⟨_, rfl⟩
  obtain ⟨vs, hvs⟩ : ∃ vs, pre.flatMap pcC = vs := ⟨_, rfl⟩
  have HN := Lib.hid hn
  have HVS := Lib.hid hvs
  rw [hn, hvs] at HO HR
  rw [hn] at HV hl
  clear hn hvs
  go_enter Try.func35, Try.ntmps35
  have hcz := cl0 HZ.out
  rw [HV.out] at hcz HZ HO
  go_wp2_with (at_builtin; refine MemT.app_cells (W.alloc (.cells #[.int .i64 k, .string x] 45)) rfl _ _ rfl Try.underlying42 hi0 hzr hsz hby rfl (by decide) B0 (.slice a n C) n vs [.int .i64 k, .string x] rfl HO.out rfl (by simp [Value.oneCell']) (W.heap.size + 1) hs1.symm rfl (by omega) (by omega) (by omega) ?_; intro v' w2 hown hgrow hbel hat; obtain ⟨g', c', hv', hcz2, hfz2, hset, hrow, hk2⟩ := list_after hB hzl HB.out hs1 HZ.out HO.out hown hgrow; subst hv'; have HSET := Lib.hid hset; have HROW := Lib.hid hrow; have HK2 := Lib.hid hk2; clear hown hgrow hbel hat hset hrow hk2)
  go_end0
  exact ⟨rfl, ⟨_, HSET.out, by rw [HR.out.1, HR.out.2]; exact HROW.out⟩, HK2.out⟩

theorem below_of_gr {w w' : World} (h : w.grownBy w' none) : Below w.heap.size w w' := (Below.refl _ _).grown h (Nat.le_refl _) (fun k e => by cases e)
/-! ### Plain -/
theorem cl3 {W : World} {g : Nat} {a b c : Value} {T : TypeId} (h : W.heap[g]? = some (Obj.cells #[a, b, c] T (0, 0))) : W.cell? ⟨g, 0, none⟩ = some a ∧ W.cell? ⟨g, 1, none⟩ = some b ∧ W.cell? ⟨g, 2, none⟩ = some c := by
  refine ⟨?_, ?_, ?_⟩ <;> simp [World.cell?, h]
/-- What Plain leaves: a row of pieces of its own. -/
def PlainPost (l : List Pc) (w : World) (e : Ending) (w' : World) : Prop := ∃ A C, e = .returned (.slice A l.length C) ∧ w'.ownsRow w.heap.size 45 2 (.slice A l.length C) l.length (l.flatMap pcC) ∧ Below w.heap.size w w'
set_option maxRecDepth 100000 in
set_option maxHeartbeats 4000000 in
theorem plain_any (nd : Nd) (s : Value) (w : World) (hN : nsize nd ≤ 100000) (hs : Gs w (Db w) s nd.c) (hok : okN nd) :
    Calls Try.prog 18 #[.agg #[.int .i64 nd.k, .string nd.x, s]] w (PlainPost (pcs1 nd) w) := by
  have hlen : (pcs1 nd).length ≤ 1000000 := by
    have h1 := one_len nd.k nd.x nd.c.len (pcs nd.c)
    have h2 := pcs_len nd.c
    unfold nsize at hN
    show (one _ _ _ _).length ≤ _
    omega
  obtain ⟨A, C, hsl, hnC, hC⟩ := hs.slice
  have hb1 := (Below.refl w.heap.size w).alloc (Nat.le_refl _) (.cells #[.int .i64 nd.k, .string nd.x, s] 32)
  have hx1 : (w.alloc (.cells #[.int .i64 nd.k, .string nd.x, s] 32)).heap[w.heap.size]? = some (Obj.cells #[.int .i64 nd.k, .string nd.x, s] 32 (0, 0)) := heap_alloc_new _ _
  have hz1 : (w.alloc (.cells #[.int .i64 nd.k, .string nd.x, s] 32)).heap.size = w.heap.size + 1 := World.size_alloc _ _
  have hs1 := hs.dbB hb1
  obtain ⟨w1, hw1⟩ : ∃ w1, w.alloc (.cells #[.int .i64 nd.k, .string nd.x, s] 32) = w1 := ⟨_, rfl⟩
  rw [hw1] at hb1 hx1 hz1 hs1
  have hb2 := (Below.refl w1.heap.size w1).alloc (Nat.le_refl _) (.cells #[.int .i64 0] 3)
  have hx2 : (w1.alloc (.cells #[.int .i64 0] 3)).heap[w1.heap.size]? = some (Obj.cells #[.int .i64 0] 3 (0, 0)) := heap_alloc_new _ _
  have hz2 : (w1.alloc (.cells #[.int .i64 0] 3)).heap.size = w1.heap.size + 1 := World.size_alloc _ _
  have hs2 := hs1.dbB hb2
  obtain ⟨w2, hw2⟩ : ∃ w2, w1.alloc (.cells #[.int .i64 0] 3) = w2 := ⟨_, rfl⟩
  rw [hw2] at hb2 hx2 hz2 hs2
  have hx1' := (hb2.block w.heap.size (by omega)).trans hx1
  obtain ⟨q0, q1, q2⟩ := cl3 hx1'
  have HE1 := Lib.hid (each_any nd s w2 (count_sink w1.heap.size w.heap.size (by omega) (pcs1 nd) (by omega)) (by omega) hs2 hok hx2)
  have HB2 := Lib.hid (hb1.trans (hb2.mono (by omega)))
  have HX1 := Lib.hid hx1'
  have HS2 := Lib.hid hs2
  have HW : Hid ((w.alloc (.cells #[.int .i64 nd.k, .string nd.x, s] 32)).alloc (.cells #[.int .i64 0] 3) = w2) := by show _ = _; rw [hw1, hw2]
  have HOK := Lib.hid hok
  have HNN := Lib.hid hN
  obtain ⟨i0, hi0, hzr, hisz, hby⟩ := info_parts piece_info
  clear hb1 hx1 hs1 hw1 hb2 hx2 hs2 hw2 hx1' hs hok
  obtain ⟨k, x, c⟩ := nd
  dsimp only at HE1 HW HX1 q0 q1 q2 hsl ⊢
  rw [hz1] at HE1 hz2
  subst hsl
  clear hz1
  rw [← HW.out] at q0 q1 q2
  go_enter Try.func18, Try.ntmps18
  go_wp2_with fail
  rw [HW.out]
  refine HE1.out.mono ?_
  rintro e w3 ⟨rfl, hi, hk⟩
  obtain ⟨n, hn⟩ : ∃ n, (pcs1 (⟨k, x, c⟩ : Nd)).length = n := ⟨_, rfl⟩
  have hi2 : w3.heap[w.heap.size + 1]? = some (Obj.cells #[.int .i64 (n : Int)] 3 (0, 0)) := by rw [← hn]; exact hi
  have hcn := cl0 hi2
  have hx3 := hk.obj HX1.out doc_not
  obtain ⟨r0, r1, r2⟩ := cl3 hx3
  have hbw : w.heap.size ≤ w3.heap.size := Nat.le_trans HB2.out.size hk.size
  have hz3 : w.heap.size + 2 ≤ w3.heap.size := by have := hk.size; omega
  have HK3 := Lib.hid ((Kept.ofB HB2.out : Kept w.heap.size w w2).trans hk)
  have HX3 := Lib.hid hx3
  have HS3 := Lib.hid (hk.ds HS2.out)
  have HNE := Lib.hid hn
  have hn1 : n ≤ 1000000 := by omega
  clear hi hi2 hx3 hk q0 q1 q2 HE1 HW HS2 HX1 hn
  go_wp2_with (at_make; refine wpList_make_own _ rfl _ _ 42 rfl w.heap.size 45 i0 _ 2 Try.underlying42 hi0 hzr hisz _ _ _ n rfl rfl rfl (by rw [hby]; omega) (by unfold maxLen; omega) hbw ?_; intro w4 hown hgr; have hb4 := below_of_gr hgr; have hb5 := (Below.refl w4.heap.size w4).alloc (Nat.le_refl _) (.cells #[.slice (some ⟨w3.heap.size, 0, none⟩) 0 n] 42); have hx5 := heap_alloc_new w4 (.cells #[.slice (some ⟨w3.heap.size, 0, none⟩) 0 n] 42); have hb35 := hb4.trans (hb5.mono hb4.size); have hx6 := (hb35.block w.heap.size (by omega)).trans HX3.out; obtain ⟨u0, u1, u2⟩ := cl3 hx6; have HE2 := Lib.hid (each_any ⟨k, x, c⟩ (.slice A c.len C) (w4.alloc (.cells #[.slice (some ⟨w3.heap.size, 0, none⟩) 0 n] 42)) (list_sink w4.heap.size w.heap.size (by have := hb4.size; omega) (pcs1 ⟨k, x, c⟩) (by rw [HNE.out]; exact hn1)) (by have := HNN.out; omega) (HS3.out.dbB hb35) HOK.out ⟨_, hx5, own_below' hown hb5⟩); have HB5 := Lib.hid hb35; clear hown hgr hb4 hb5 hx5 hb35 hx6 r0 r1 r2 hcn)
  refine HE2.out.mono ?_
  rintro e w6 ⟨rfl, ⟨v, hz6, ho6⟩, hk6⟩
  obtain ⟨a6, c6, hv6⟩ : ∃ a c2, v = .slice a (pcs1 (⟨k, x, c⟩ : Nd)).length c2 := by
    rcases ho6.2 with ⟨e, h0⟩ | ⟨b, cap, cur, e, _⟩
    · exact ⟨none, 0, by rw [e, h0]⟩
    · exact ⟨_, _, e⟩
  subst hv6
  have hc6 := cl0 hz6
  have HP : Hid (PlainPost (pcs1 (⟨k, x, c⟩ : Nd)) w (.returned (.slice a6 (pcs1 (⟨k, x, c⟩ : Nd)).length c6)) w6) := ⟨a6, c6, rfl, ho6, (((HK3.out.later HB5.out).trans hk6).below (Nat.le_refl _))⟩
  clear hz6 ho6 hk6 u0 u1 u2 HE2
  generalize (pcs1 (⟨k, x, c⟩ : Nd)).length = m at *
  go_wp2
  go_ret
  exact HP.out
end Go.Proofs.Ytpankfbdlakmcaa.Doc
