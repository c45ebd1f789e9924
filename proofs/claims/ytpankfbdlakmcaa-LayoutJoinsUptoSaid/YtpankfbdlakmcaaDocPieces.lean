/-
  Layer 7 (doc): the document's own pieces of a plan; its size; Few.
-/
import Derived.Test.YtpankfbdlakmcaaDocJoin
import Derived.Test.YtpankfbdlakmcaaDocOpen
namespace Go.Proofs.Ytpankfbdlakmcaa.Doc
open Go.ChangeShapes Go.WideShapes Go.ChangeAt Go.RowKit Mem
set_option linter.unusedVariables false

theorem rpiece_info : (Try.prog.info? 54).map (fun i => (i.zero, i.size, i.bytes)) = some (some (.agg #[.int .i64 0, .string ⟨#[]⟩]), 2, 24) := by kernel_rfl
theorem pc_one (l : List Pc) : ∀ u ∈ l.flatMap pcC, u.oneCell' = true := fun u hu => by
  obtain ⟨p, _, hu⟩ := List.mem_flatMap.1 hu
  simp only [pcC, List.mem_cons, List.not_mem_nil, or_false] at hu
  rcases hu with rfl | rfl <;> rfl
/-- append of all of another row of pieces. -/
theorem app_pcs (w : World) {ops : Array Oper} {rest : List Oper} {o : Oper} {a : Act} {Q : Exit → Act → World → Prop} (hgd : o.guard = none) (s x : Operand)
    (ho : o.op = .call { callee := .builtin .append, args := #[s, x], argTypes := #[36, 36] })
    (base : Nat) (v : Value) (l : List Pc) (hs : a.eval s = v) (hown : w.ownsRow base 54 2 v l.length (l.flatMap pcC)) (base2 : Nat) (v2 : Value) (l2 : List Pc) (hx : a.eval x = v2) (hown2 : w.ownsRow base2 54 2 v2 l2.length (l2.flatMap pcC))
    (h63 : l.length + l2.length ≤ 1000000) (hbase : base ≤ w.heap.size)
    (h : ∀ v' w', w'.ownsRow base 54 2 v' (l ++ l2).length ((l ++ l2).flatMap pcC) → Below base w w' → wpList Try.prog ops Q rest (a.put o.dst v') w') :
    wpList Try.prog ops Q (o :: rest) a w := by
  obtain ⟨i0, hi0, hz0, hz1, hz2⟩ := info_parts rpiece_info
  have hT := Try.underlying36
  rcases hown2.2 with ⟨rfl, h0⟩ | ⟨g, cap, cur, rfl, q1, q2, q3, q4, q5, q6⟩
  · have hl2 : l2 = [] := List.eq_nil_of_length_eq_zero h0
    subst hl2
    have hrun : (Builtin.append_ #[36, 36] o.type #[v, .slice none 0 0]).run Try.prog w = .ok v w := by
      rcases hown.2 with ⟨rfl, hh⟩ | ⟨g, cap, cur, rfl, _, _, hnc, _⟩
      · simp [Builtin.append_, run_underlying hT, sizeOf, typeInfo, hi0, Builtin.lenOf, Builtin.firstCells]
      · simp [Builtin.append_, run_underlying hT, sizeOf, typeInfo, hi0, Builtin.lenOf, Builtin.firstCells, hnc, storeCells]
    refine wpList_plain hgd fun K hK => ?_
    unfold Oper.wp execOp
    simp only [ho, resolve, invoke, builtin, Sem.run_bind, Sem.run_pure, Result.andThen_ok, List.map_toArray, List.map_cons, List.map_nil, hs, hx, hrun]
    exact hK _ _ (h v w (by simpa using hown) (Below.refl _ _))
  · refine wpList_append_own_at (P := Try.prog) w hgd s x 36 ho base 54 i0 _ 2 24 hT hi0 hz0 hz1 hz2 rfl (by decide) v l.length (l.flatMap pcC) hs hown ⟨g, 0, none⟩ l2.length cap (l2.flatMap pcC) hx (MemT.flat_len pcC_len l2) ?_ (pc_one l2) (by unfold maxLen; omega) (by omega) hbase fun v' w' h1 h2 _ h4 => h v' w' (by rw [List.length_append, List.flatMap_append]; exact h1) ((Below.refl base w).grown h2 hbase (fun k e => (hown.lt k e).1))
    intro j u hj
    have e2 : (⟨g, 0, none⟩ : Addr).add j = ⟨g, j, none⟩ := by unfold Addr.add; split <;> simp_all
    rw [e2]
    rw [← q6, List.getElem?_take] at hj
    split at hj
    · simpa [World.cell?, q2] using hj
    · cases hj
theorem own_base' {w : World} {base base' size n : Nat} {E : TypeId} {v : Value} {vs : List Value} (h : w.ownsRow base E size v n vs) (hb : base' ≤ base) : w.ownsRow base' E size v n vs := by
  refine ⟨h.1, ?_⟩
  rcases h.2 with hn | ⟨g, cap, cur, e, h1, h2⟩
  · exact .inl hn
  · exact .inr ⟨g, cap, cur, e, by omega, h2⟩
/-- What Pieces leaves. -/
def RpPost (l : List Pc) (w : World) (e : Ending) (w' : World) : Prop := ∃ a C, e = .returned (.slice a l.length C) ∧ w'.ownsRow w.heap.size 54 2 (.slice a l.length C) l.length (l.flatMap pcC) ∧ Below w.heap.size w w'
/-- A row of pieces of one's own, in a world behind W2. -/
structure LR (W2 : World) (B : Nat) (l : List Pc) (v : Value) (W : World) : Prop where
  own : W.ownsRow B 54 2 v l.length (l.flatMap pcC)
  bel : Below B W2 W
  big : B ≤ W.heap.size
section
variable {W2 W W' : World} {B : Nat} {l : List Pc} {v v' : Value}
theorem LR.form (h : LR W2 B l v W) : ∃ a c, v = .slice a l.length c ∧ l.length ≤ c ∧ c ≤ maxLen := by
  rcases h.own.2 with ⟨e, h0⟩ | ⟨g, cap, c, e, _, _, h3, h4, _⟩
  · exact ⟨none, 0, by rw [e, h0], by omega, by unfold maxLen; omega⟩
  · exact ⟨_, _, e, h3, h4⟩
theorem LR.later (h : LR W2 B l v W) (hb : Below W.heap.size W W') : LR W2 B l v W' := ⟨own_below' h.own hb, h.bel.trans (hb.mono h.big), Nat.le_trans h.big hb.size⟩
theorem LR.add (h : LR W2 B l v W) {k : Int} {x : ByteArray} (hown : W'.ownsRow B 54 2 v' (l.length + 1) (l.flatMap pcC ++ [.int .i64 k, .string x]))
    (hbel : ∀ B', (∀ b, v.ownBlock = some b → B' ≤ b) → B' ≤ W.heap.size → Below B' W W') : LR W2 B (l ++ [(k, x)]) v' W' := by
  have hb := hbel B (fun b hb => (h.own.lt b hb).1) h.big
  refine ⟨?_, h.bel.trans hb, Nat.le_trans h.big hb.size⟩
  rw [List.length_append, List.length_singleton, List.flatMap_append]
  simpa [pcC] using hown
end
theorem bd_next {acc lp e : List Pc} {m : Nat} (h1 : lp.length ≤ 2 * (m - acc.length)) (h2 : acc.length < m) (h3 : e.length ≤ acc.length) : (acc ++ lp).length + e.length ≤ 2 * m := by rw [List.length_append]; omega
theorem bd_more {acc lp e : List Pc} (h3 : e.length ≤ acc.length) : e.length ≤ (acc ++ lp).length := by rw [List.length_append]; omega
theorem ms_next {i n : Nat} (h : i < n) : n - (intOf (.int .i64 ((i : Int) + 1))).toNat < n - (intOf (.int .i64 (i : Int))).toNat := by simp [intOf]; omega
def PSpec (N : Nat) : Prop := ∀ (k : Int) (x : ByteArray) (A : Option Addr) (n C : Nat) (c : G) (m : Nat) (z : Int) (w : World), c.size ≤ N → z = (m : Int) → 1 ≤ m → m ≤ 1000 → Gs w (Lo w.heap.size) (.slice A n C) c →
  Calls Try.prog 14 #[.agg #[.int .i64 k, .string x, .slice A n C], .int .i64 z] w (RpPost (rp1 k x c m) w)
theorem rp_one {w : World} {k : Int} {x : ByteArray} : (w.alloc (.cells #[.int .i64 k, .string x] 54)).ownsRow w.heap.size 54 2 (.slice (some ⟨w.heap.size, 0, none⟩) 1 1) [((k, x) : Pc)].length ([((k, x) : Pc)].flatMap pcC) :=
  ⟨rfl, .inr ⟨w.heap.size, 1, _, rfl, Nat.le_refl _, heap_alloc_new _ _, Nat.le_refl _, by unfold maxLen; omega, rfl, rfl⟩⟩
set_option maxHeartbeats 8000000 in
set_option maxRecDepth 100000 in
theorem pieces_step (N : Nat) (ih : ∀ M, M < N → PSpec M) : PSpec N := by
  intro k x A n C c m z w hN hz hm1 hm2 hs
  subst hz
  have hcl : n = c.len := by obtain ⟨_, _, e, _, _⟩ := hs.slice; injection e
  have HNM : Hid (n ≤ 9223372036854775807) := by
    show _ ≤ _
    obtain ⟨_, _, e, h1, h2⟩ := hs.slice; injection e with _ e1 e2; omega
  have b1 := (Below.refl w.heap.size w).alloc (Nat.le_refl _) (.cells #[.int .i64 k, .string x, .slice A n C] 24)
  have hx1 := heap_alloc_new w (.cells #[.int .i64 k, .string x, .slice A n C] 24)
  have hz1 : (w.alloc (.cells #[.int .i64 k, .string x, .slice A n C] 24)).heap.size = w.heap.size + 1 := World.size_alloc _ _
  obtain ⟨q0, q1, q2⟩ := cl3 hx1
  have HIH := Lib.hid ih
  have HS := Lib.hid hs
  have HB1 := Lib.hid b1
  have HX1 := Lib.hid hx1
  have HCL := Lib.hid hcl
  clear ih hs b1 hx1 hcl
  by_cases k1 : k = 1
  · subst k1
    by_cases hx : x.toList = []
    · have hx2 : (x.toList == []) = true := by simpa using hx
      have he : rp1 1 x c m = [] := by unfold rp1 rpOne; rw [if_pos rfl, if_pos hx]
      rw [he]
      clear he hx
      go_enter Try.func14, Try.ntmps14
      go_wp2
      go_ret
      exact ⟨none, 0, rfl, World.ownsRow_nil _ _ _ _, HB1.out⟩
    · have hx2 : (x.toList == []) = false := by simpa using hx
      have he : rp1 1 x c m = [((1, x) : Pc)] := by unfold rp1 rpOne; rw [if_pos rfl, if_neg hx]
      rw [he]
      clear he hx
      have hown := rp_one (w := w.alloc (.cells #[.int .i64 1, .string x, .slice A n C] 24)) (k := 1) (x := x)
      have hb2 := HB1.out.trans (((Below.refl _ (w.alloc (.cells #[.int .i64 1, .string x, .slice A n C] 24))).alloc (Nat.le_refl _) (.cells #[.int .i64 1, .string x] 54)).mono (by omega : w.heap.size ≤ _))
      rw [hz1] at hown
      go_enter Try.func14, Try.ntmps14
      go_wp2
      go_ret
      exact ⟨_, _, rfl, own_base' hown (Nat.le_succ _), hb2⟩
  · have k1' : (k == 1) = false := by simpa using k1
    by_cases k2 : k = 2
    · subst k2
      have he : rp1 2 x c m = [((2, emp) : Pc)] := by unfold rp1 rpOne; rw [if_neg (by decide), if_pos (by decide)]
      rw [he]
      clear he
      have hown := rp_one (w := (w.alloc (.cells #[.int .i64 2, .string x, .slice A n C] 24))) (k := 2) (x := ⟨#[]⟩)
      have hb2 := HB1.out.trans (((Below.refl _ (w.alloc (.cells #[.int .i64 2, .string x, .slice A n C] 24))).alloc (Nat.le_refl _) (.cells #[.int .i64 2, .string ⟨#[]⟩] 54)).mono (by omega : w.heap.size ≤ _))
      rw [hz1] at hown
      go_enter Try.func14, Try.ntmps14
      go_wp2
      go_ret
      exact ⟨_, _, rfl, own_base' hown (Nat.le_succ _), hb2⟩
    by_cases k3 : k = 3
    · subst k3
      have he : rp1 3 x c m = [((3, emp) : Pc)] := by unfold rp1 rpOne; rw [if_neg (by decide), if_pos (by decide)]
      rw [he]
      clear he
      have hown := rp_one (w := (w.alloc (.cells #[.int .i64 3, .string x, .slice A n C] 24))) (k := 3) (x := ⟨#[]⟩)
      have hb2 := HB1.out.trans (((Below.refl _ (w.alloc (.cells #[.int .i64 3, .string x, .slice A n C] 24))).alloc (Nat.le_refl _) (.cells #[.int .i64 3, .string ⟨#[]⟩] 54)).mono (by omega : w.heap.size ≤ _))
      rw [hz1] at hown
      go_enter Try.func14, Try.ntmps14
      go_wp2
      go_ret
      exact ⟨_, _, rfl, own_base' hown (Nat.le_succ _), hb2⟩
    by_cases k4 : k = 4
    · subst k4
      have he : rp1 4 x c m = [((4, emp) : Pc)] := by unfold rp1 rpOne; rw [if_neg (by decide), if_pos (by decide)]
      rw [he]
      clear he
      have hown := rp_one (w := (w.alloc (.cells #[.int .i64 4, .string x, .slice A n C] 24))) (k := 4) (x := ⟨#[]⟩)
      have hb2 := HB1.out.trans (((Below.refl _ (w.alloc (.cells #[.int .i64 4, .string x, .slice A n C] 24))).alloc (Nat.le_refl _) (.cells #[.int .i64 4, .string ⟨#[]⟩] 54)).mono (by omega : w.heap.size ≤ _))
      rw [hz1] at hown
      go_enter Try.func14, Try.ntmps14
      go_wp2
      go_ret
      exact ⟨_, _, rfl, own_base' hown (Nat.le_succ _), hb2⟩
    have k2' : (k == 2) = false := by simpa using k2
    have k3' : (k == 3) = false := by simpa using k3
    have k4' : (k == 4) = false := by simpa using k4
    obtain ⟨i0, hi0, hzr, hisz, hby⟩ := info_parts rpiece_info
    by_cases k5 : k = 5
    · subst k5
      have HL0 : Hid (LR (w.alloc (.cells #[.int .i64 5, .string x, .slice A n C] 24)) (w.heap.size + 1) [] (.slice none 0 0) (w.alloc (.cells #[.int .i64 5, .string x, .slice A n C] 24))) := ⟨World.ownsRow_nil _ _ _ _, Below.refl _ _, by rw [hz1]; exact Nat.le_refl _⟩
      have hwo : wopn 5 = [((5, emp) : Pc)] := by unfold wopn; rw [if_pos (by decide)]
      have hwc : wcls 5 = [((6, emp) : Pc)] := by unfold wcls; rw [if_pos (by decide)]; rfl
      obtain ⟨L0, hL0⟩ : ∃ L0, rpL c m (wopn 5) = L0 := ⟨_, rfl⟩
      have he : rp1 5 x c m = L0 ++ wcls 5 := by unfold rp1 rpOne; rw [hL0, if_neg (by decide), if_neg (by decide)]
      have HE := Lib.hid he
      have HWC := Lib.hid hwc
      rw [hwo] at hL0
      have HL00 := Lib.hid hL0
      clear he hwc hwo hL0
      go_enter Try.func14, Try.ntmps14
      go_wp2_with (at_builtin; refine MemT.app_cells (w.alloc (.cells #[.int .i64 5, .string x, .slice A n C] 24)) rfl _ _ rfl Try.underlying36 hi0 hzr hisz hby rfl (by decide) (w.heap.size + 1) (.slice none 0 0) 0 [] [.int .i64 5, .string ⟨#[]⟩] rfl HL0.out.own rfl (by simp [Value.oneCell']) (w.heap.size + 1) hz1.symm rfl (by omega) (by omega) HL0.out.big ?_; intro v' w2 hown hgrow hbel hat2; have HLS := Lib.hid (HL0.out.add hown hbel); clear hown hgrow hbel hat2)
      rename_i v0 w2
      go_loopw [5, 6] (fun s5 s6 wr => ∃ (i : Nat) (acc : List Pc), i ≤ n ∧ s6 = .int .i64 (i : Int) ∧ Hid (LR (w.alloc (.cells #[.int .i64 5, .string x, .slice A n C] 24)) (w.heap.size + 1) acc s5 wr) ∧ Hid (rpL (c.drop i) m acc = L0) ∧ acc.length + [((5, emp) : Pc)].length ≤ 2 * m ∧ [((5, emp) : Pc)].length ≤ acc.length) (fun _ s6 _ => n - (intOf s6).toNat)
      case atStart => exact ⟨0, [((5, emp) : Pc)], Nat.zero_le _, rfl, HLS.out, HL00.out, by simp; omega, Nat.le_refl _⟩
      case round =>
        obtain ⟨i, acc, hi, rfl, hL, hE, hb1, hb2⟩ := hrel
        obtain ⟨av, cv, hv, _, _⟩ := hL.out.form
        subst hv
        have hbw := HB1.out.trans (hL.out.bel.mono (Nat.le_succ _))
        obtain ⟨p0, p1, p2⟩ := cl3 ((hL.out.bel.block w.heap.size (Nat.lt_succ_self _)).trans HX1.out)
        by_cases hgo : i < n ∧ acc.length < m
        · obtain ⟨hlt, hlm⟩ := hgo
          have HLT : Hid (i < n ∧ acc.length < m) := ⟨hlt, hlm⟩
          obtain ⟨k', x', c', r', hd, hd2⟩ := G.drop_cons (n := i) (f := c) (by rw [← HCL.out]; exact hlt)
          obtain ⟨b, off, s, hA, hbS, _, hat⟩ := HS.out.at_ hd
          subst hA
          obtain ⟨As, Cs, rfl, _, _⟩ := hat.kids.slice
          have hbl : b < w.heap.size := hbS
          have y0 := (hbw.cell (p := ⟨b, off + i * 3, none⟩) hbl).trans hat.c0
          have y1 := (hbw.cell (p := ⟨b, off + i * 3 + 1, none⟩) hbl).trans hat.c1
          have y2 := (hbw.cell (p := ⟨b, off + i * 3 + 2, none⟩) hbl).trans hat.c2
          have hsz := G.kid_size hd
          have hlt1 : (i : Int) < (n : Int) := by omega
          have hlt0 : (0 : Int) ≤ (i : Int) := by omega
          have HWI : Hid (wrap64 ((i : Int) + 1) = (i : Int) + 1) := by show _ = _; have := HNM.out; unfold wrap64; omega
          have hlm1 : (acc.length : Int) < (m : Int) := by omega
          have hkids : Gs wr (Lo wr.heap.size) (.slice As c'.len Cs) c' := (hat.kids.below hbw (Nat.le_refl _)).up hbw.size
          have HC := Lib.hid (HIH.out c'.size (by omega) k' x' As c'.len Cs c' (m - acc.length) ((m : Int) - (acc.length : Int)) wr (Nat.le_refl _) (by omega) (by omega) (by omega) hkids)
          have hlen := rp1_len k' x' c' (m - acc.length) (by omega)
          have HE2 : Hid (rpL (c.drop (i + 1)) m (acc ++ rp1 k' x' c' (m - acc.length)) = L0) := by
            show _ = _
            have := hE.out
            rw [hd] at this
            unfold rpL at this
            rw [if_pos hlm] at this
            rw [hd2]
            exact this
          have hw : IntKind.i64.wrap ((m : Int) - (acc.length : Int)) = (m : Int) - (acc.length : Int) := by rw [IntKind.wrap_i64]; omega
          generalize c'.len = lc at *
          generalize hrp : rp1 k' x' c' (m - acc.length) = lp at *
          have HBD := Lib.hid (And.intro hlen (And.intro hb1 hb2))
          clear hd hd2 hat hbS hbl hkids hrp hE hsz hbw
          go_wp2_with fail
          refine HC.out.mono ?_
          rintro e w3 ⟨a3, c3, rfl, ho3, hb3⟩
          have HL3 := Lib.hid (hL.out.later hb3)
          have HO3 := Lib.hid ho3
          clear ho3 hb3 p0 p1 p2 y0 y1 y2
          go_wp2_with (at_builtin; refine app_pcs w3 rfl _ _ rfl (w.heap.size + 1) (.slice av acc.length cv) acc rfl HL3.out.own wr.heap.size _ lp rfl HO3.out (by omega) HL3.out.big ?_; intro v4 w4 hown4 hb4; have HL4 : Hid (LR _ (w.heap.size + 1) (acc ++ lp) v4 w4) := ⟨hown4, HL3.out.bel.trans hb4, Nat.le_trans HL3.out.big hb4.size⟩; clear hown4 hb4)
          go_roundw
          case rel => exact ⟨i + 1, _, HLT.out.1, by rw [HWI.out]; rfl, HL4.out, HE2.out, bd_next HBD.out.1 HLT.out.2 HBD.out.2.2, bd_more HBD.out.2.2⟩
          case measure => rw [HWI.out]; exact ms_next HLT.out.1
        · have hfin : acc = L0 := by
            have := hE.out
            by_cases hlt : i < n
            · obtain ⟨k', x', c', r', hd, _⟩ := G.drop_cons (n := i) (f := c) (by rw [← HCL.out]; exact hlt)
              rw [hd] at this
              unfold rpL at this
              rw [if_neg (by omega)] at this
              exact this
            · rw [G.drop_all i c (by rw [← HCL.out]; omega)] at this
              exact this
          subst hfin
          have hbwF := Lib.hid hbw
          have hal : acc.length ≤ 2000 := by omega
          have hown0 := hL.out
          have HLF := Lib.hid hown0
          have HP : Hid (∀ v' W', LR (w.alloc (.cells #[.int .i64 5, .string x, .slice A n C] 24)) (w.heap.size + 1) (acc ++ [((6, emp) : Pc)]) v' W' → ∃ a C', v' = .slice a (acc.length + 1) C' ∧ W'.ownsRow w.heap.size 54 2 (.slice a (acc.length + 1) C') (acc.length + 1) ((acc ++ [((6, emp) : Pc)]).flatMap pcC) ∧ Below w.heap.size w W') := fun v' W' h => by
            obtain ⟨a, C', e, _, _⟩ := h.form
            rw [List.length_append, List.length_singleton] at e
            subst e
            have := h.own
            rw [List.length_append, List.length_singleton] at this
            exact ⟨a, C', rfl, own_base' this (Nat.le_succ _), HB1.out.trans (h.bel.mono (Nat.le_succ _))⟩
          clear hE hbw hown0
          by_cases hlt : i < n
          · have hlm : ¬ acc.length < m := by omega
            have hlt1 : (i : Int) < (n : Int) := by omega
            have hlm1 : ¬ (acc.length : Int) < (m : Int) := by omega
            go_wp2_with (at_builtin; refine MemT.app_cells wr rfl _ _ rfl Try.underlying36 hi0 hzr hisz hby rfl (by decide) (w.heap.size + 1) (.slice av acc.length cv) acc.length (acc.flatMap pcC) [.int .i64 6, .string ⟨#[]⟩] rfl HLF.out.own rfl (by simp [Value.oneCell']) wr.heap.size rfl rfl (by omega) (by omega) HLF.out.big ?_; intro v' w2 hown hgrow hbel hat2; obtain ⟨a9, c9, hv9, ho9, hb9⟩ := HP.out v' w2 (HLF.out.add hown hbel); subst hv9; have HO9 := Lib.hid ho9; have HB9 := Lib.hid hb9; clear hown hgrow hbel hat2 ho9 hb9)
            go_ret
            rw [HE.out, HWC.out]
            exact ⟨a9, c9, by rw [List.length_append, List.length_singleton]; rfl, by rw [List.length_append, List.length_singleton]; exact HO9.out, HB9.out⟩
          · have hlt1 : ¬ (i : Int) < (n : Int) := by omega
            go_wp2_with (at_builtin; refine MemT.app_cells wr rfl _ _ rfl Try.underlying36 hi0 hzr hisz hby rfl (by decide) (w.heap.size + 1) (.slice av acc.length cv) acc.length (acc.flatMap pcC) [.int .i64 6, .string ⟨#[]⟩] rfl HLF.out.own rfl (by simp [Value.oneCell']) wr.heap.size rfl rfl (by omega) (by omega) HLF.out.big ?_; intro v' w2 hown hgrow hbel hat2; obtain ⟨a9, c9, hv9, ho9, hb9⟩ := HP.out v' w2 (HLF.out.add hown hbel); subst hv9; have HO9 := Lib.hid ho9; have HB9 := Lib.hid hb9; clear hown hgrow hbel hat2 ho9 hb9)
            go_ret
            rw [HE.out, HWC.out]
            exact ⟨a9, c9, by rw [List.length_append, List.length_singleton]; rfl, by rw [List.length_append, List.length_singleton]; exact HO9.out, HB9.out⟩
    by_cases k7 : k = 7
    · subst k7
      have HL0 : Hid (LR (w.alloc (.cells #[.int .i64 7, .string x, .slice A n C] 24)) (w.heap.size + 1) [] (.slice none 0 0) (w.alloc (.cells #[.int .i64 7, .string x, .slice A n C] 24))) := ⟨World.ownsRow_nil _ _ _ _, Below.refl _ _, by rw [hz1]; exact Nat.le_refl _⟩
      have hwo : wopn 7 = [((7, emp) : Pc)] := by unfold wopn; rw [if_pos (by decide)]
      have hwc : wcls 7 = [((8, emp) : Pc)] := by unfold wcls; rw [if_pos (by decide)]; rfl
      obtain ⟨L0, hL0⟩ : ∃ L0, rpL c m (wopn 7) = L0 := ⟨_, rfl⟩
      have he : rp1 7 x c m = L0 ++ wcls 7 := by unfold rp1 rpOne; rw [hL0, if_neg (by decide), if_neg (by decide)]
      have HE := Lib.hid he
      have HWC := Lib.hid hwc
      rw [hwo] at hL0
      have HL00 := Lib.hid hL0
      clear he hwc hwo hL0
      go_enter Try.func14, Try.ntmps14
      go_wp2_with (at_builtin; refine MemT.app_cells (w.alloc (.cells #[.int .i64 7, .string x, .slice A n C] 24)) rfl _ _ rfl Try.underlying36 hi0 hzr hisz hby rfl (by decide) (w.heap.size + 1) (.slice none 0 0) 0 [] [.int .i64 7, .string ⟨#[]⟩] rfl HL0.out.own rfl (by simp [Value.oneCell']) (w.heap.size + 1) hz1.symm rfl (by omega) (by omega) HL0.out.big ?_; intro v' w2 hown hgrow hbel hat2; have HLS := Lib.hid (HL0.out.add hown hbel); clear hown hgrow hbel hat2)
      rename_i v0 w2
      go_loopw [5, 6] (fun s5 s6 wr => ∃ (i : Nat) (acc : List Pc), i ≤ n ∧ s6 = .int .i64 (i : Int) ∧ Hid (LR (w.alloc (.cells #[.int .i64 7, .string x, .slice A n C] 24)) (w.heap.size + 1) acc s5 wr) ∧ Hid (rpL (c.drop i) m acc = L0) ∧ acc.length + [((7, emp) : Pc)].length ≤ 2 * m ∧ [((7, emp) : Pc)].length ≤ acc.length) (fun _ s6 _ => n - (intOf s6).toNat)
      case atStart => exact ⟨0, [((7, emp) : Pc)], Nat.zero_le _, rfl, HLS.out, HL00.out, by simp; omega, Nat.le_refl _⟩
      case round =>
        obtain ⟨i, acc, hi, rfl, hL, hE, hb1, hb2⟩ := hrel
        obtain ⟨av, cv, hv, _, _⟩ := hL.out.form
        subst hv
        have hbw := HB1.out.trans (hL.out.bel.mono (Nat.le_succ _))
        obtain ⟨p0, p1, p2⟩ := cl3 ((hL.out.bel.block w.heap.size (Nat.lt_succ_self _)).trans HX1.out)
        by_cases hgo : i < n ∧ acc.length < m
        · obtain ⟨hlt, hlm⟩ := hgo
          have HLT : Hid (i < n ∧ acc.length < m) := ⟨hlt, hlm⟩
          obtain ⟨k', x', c', r', hd, hd2⟩ := G.drop_cons (n := i) (f := c) (by rw [← HCL.out]; exact hlt)
          obtain ⟨b, off, s, hA, hbS, _, hat⟩ := HS.out.at_ hd
          subst hA
          obtain ⟨As, Cs, rfl, _, _⟩ := hat.kids.slice
          have hbl : b < w.heap.size := hbS
          have y0 := (hbw.cell (p := ⟨b, off + i * 3, none⟩) hbl).trans hat.c0
          have y1 := (hbw.cell (p := ⟨b, off + i * 3 + 1, none⟩) hbl).trans hat.c1
          have y2 := (hbw.cell (p := ⟨b, off + i * 3 + 2, none⟩) hbl).trans hat.c2
          have hsz := G.kid_size hd
          have hlt1 : (i : Int) < (n : Int) := by omega
          have hlt0 : (0 : Int) ≤ (i : Int) := by omega
          have HWI : Hid (wrap64 ((i : Int) + 1) = (i : Int) + 1) := by show _ = _; have := HNM.out; unfold wrap64; omega
          have hlm1 : (acc.length : Int) < (m : Int) := by omega
          have hkids : Gs wr (Lo wr.heap.size) (.slice As c'.len Cs) c' := (hat.kids.below hbw (Nat.le_refl _)).up hbw.size
          have HC := Lib.hid (HIH.out c'.size (by omega) k' x' As c'.len Cs c' (m - acc.length) ((m : Int) - (acc.length : Int)) wr (Nat.le_refl _) (by omega) (by omega) (by omega) hkids)
          have hlen := rp1_len k' x' c' (m - acc.length) (by omega)
          have HE2 : Hid (rpL (c.drop (i + 1)) m (acc ++ rp1 k' x' c' (m - acc.length)) = L0) := by
            show _ = _
            have := hE.out
            rw [hd] at this
            unfold rpL at this
            rw [if_pos hlm] at this
            rw [hd2]
            exact this
          have hw : IntKind.i64.wrap ((m : Int) - (acc.length : Int)) = (m : Int) - (acc.length : Int) := by rw [IntKind.wrap_i64]; omega
          generalize c'.len = lc at *
          generalize hrp : rp1 k' x' c' (m - acc.length) = lp at *
          have HBD := Lib.hid (And.intro hlen (And.intro hb1 hb2))
          clear hd hd2 hat hbS hbl hkids hrp hE hsz hbw
          go_wp2_with fail
          refine HC.out.mono ?_
          rintro e w3 ⟨a3, c3, rfl, ho3, hb3⟩
          have HL3 := Lib.hid (hL.out.later hb3)
          have HO3 := Lib.hid ho3
          clear ho3 hb3 p0 p1 p2 y0 y1 y2
          go_wp2_with (at_builtin; refine app_pcs w3 rfl _ _ rfl (w.heap.size + 1) (.slice av acc.length cv) acc rfl HL3.out.own wr.heap.size _ lp rfl HO3.out (by omega) HL3.out.big ?_; intro v4 w4 hown4 hb4; have HL4 : Hid (LR _ (w.heap.size + 1) (acc ++ lp) v4 w4) := ⟨hown4, HL3.out.bel.trans hb4, Nat.le_trans HL3.out.big hb4.size⟩; clear hown4 hb4)
          go_roundw
          case rel => exact ⟨i + 1, _, HLT.out.1, by rw [HWI.out]; rfl, HL4.out, HE2.out, bd_next HBD.out.1 HLT.out.2 HBD.out.2.2, bd_more HBD.out.2.2⟩
          case measure => rw [HWI.out]; exact ms_next HLT.out.1
        · have hfin : acc = L0 := by
            have := hE.out
            by_cases hlt : i < n
            · obtain ⟨k', x', c', r', hd, _⟩ := G.drop_cons (n := i) (f := c) (by rw [← HCL.out]; exact hlt)
              rw [hd] at this
              unfold rpL at this
              rw [if_neg (by omega)] at this
              exact this
            · rw [G.drop_all i c (by rw [← HCL.out]; omega)] at this
              exact this
          subst hfin
          have hbwF := Lib.hid hbw
          have hal : acc.length ≤ 2000 := by omega
          have hown0 := hL.out
          have HLF := Lib.hid hown0
          have HP : Hid (∀ v' W', LR (w.alloc (.cells #[.int .i64 7, .string x, .slice A n C] 24)) (w.heap.size + 1) (acc ++ [((8, emp) : Pc)]) v' W' → ∃ a C', v' = .slice a (acc.length + 1) C' ∧ W'.ownsRow w.heap.size 54 2 (.slice a (acc.length + 1) C') (acc.length + 1) ((acc ++ [((8, emp) : Pc)]).flatMap pcC) ∧ Below w.heap.size w W') := fun v' W' h => by
            obtain ⟨a, C', e, _, _⟩ := h.form
            rw [List.length_append, List.length_singleton] at e
            subst e
            have := h.own
            rw [List.length_append, List.length_singleton] at this
            exact ⟨a, C', rfl, own_base' this (Nat.le_succ _), HB1.out.trans (h.bel.mono (Nat.le_succ _))⟩
          clear hE hbw hown0
          by_cases hlt : i < n
          · have hlm : ¬ acc.length < m := by omega
            have hlt1 : (i : Int) < (n : Int) := by omega
            have hlm1 : ¬ (acc.length : Int) < (m : Int) := by omega
            go_wp2_with (at_builtin; refine MemT.app_cells wr rfl _ _ rfl Try.underlying36 hi0 hzr hisz hby rfl (by decide) (w.heap.size + 1) (.slice av acc.length cv) acc.length (acc.flatMap pcC) [.int .i64 8, .string ⟨#[]⟩] rfl HLF.out.own rfl (by simp [Value.oneCell']) wr.heap.size rfl rfl (by omega) (by omega) HLF.out.big ?_; intro v' w2 hown hgrow hbel hat2; obtain ⟨a9, c9, hv9, ho9, hb9⟩ := HP.out v' w2 (HLF.out.add hown hbel); subst hv9; have HO9 := Lib.hid ho9; have HB9 := Lib.hid hb9; clear hown hgrow hbel hat2 ho9 hb9)
            go_ret
            rw [HE.out, HWC.out]
            exact ⟨a9, c9, by rw [List.length_append, List.length_singleton]; rfl, by rw [List.length_append, List.length_singleton]; exact HO9.out, HB9.out⟩
          · have hlt1 : ¬ (i : Int) < (n : Int) := by omega
            go_wp2_with (at_builtin; refine MemT.app_cells wr rfl _ _ rfl Try.underlying36 hi0 hzr hisz hby rfl (by decide) (w.heap.size + 1) (.slice av acc.length cv) acc.length (acc.flatMap pcC) [.int .i64 8, .string ⟨#[]⟩] rfl HLF.out.own rfl (by simp [Value.oneCell']) wr.heap.size rfl rfl (by omega) (by omega) HLF.out.big ?_; intro v' w2 hown hgrow hbel hat2; obtain ⟨a9, c9, hv9, ho9, hb9⟩ := HP.out v' w2 (HLF.out.add hown hbel); subst hv9; have HO9 := Lib.hid ho9; have HB9 := Lib.hid hb9; clear hown hgrow hbel hat2 ho9 hb9)
            go_ret
            rw [HE.out, HWC.out]
            exact ⟨a9, c9, by rw [List.length_append, List.length_singleton]; rfl, by rw [List.length_append, List.length_singleton]; exact HO9.out, HB9.out⟩
    have k5' : (k == 5) = false := by simpa using k5
    have k7' : (k == 7) = false := by simpa using k7
    have HL0 : Hid (LR (w.alloc (.cells #[.int .i64 k, .string x, .slice A n C] 24)) (w.heap.size + 1) [] (.slice none 0 0) (w.alloc (.cells #[.int .i64 k, .string x, .slice A n C] 24))) := ⟨World.ownsRow_nil _ _ _ _, Below.refl _ _, by rw [hz1]; exact Nat.le_refl _⟩
    have hwo : wopn k = [] := by unfold wopn; rw [if_neg (by omega)]
    have hwc : wcls k = [] := by unfold wcls; rw [if_neg (by omega)]
    obtain ⟨L0, hL0⟩ : ∃ L0, rpL c m (wopn k) = L0 := ⟨_, rfl⟩
    have he : rp1 k x c m = L0 ++ wcls k := by unfold rp1 rpOne; rw [hL0, if_neg k1, if_neg (by omega)]
    have HE := Lib.hid he
    have HWC := Lib.hid hwc
    rw [hwo] at hL0
    have HL00 := Lib.hid hL0
    clear he hwc hwo hL0
    go_enter Try.func14, Try.ntmps14
    go_wp2
    have HLS := HL0
    go_loopw [5, 6] (fun s5 s6 wr => ∃ (i : Nat) (acc : List Pc), i ≤ n ∧ s6 = .int .i64 (i : Int) ∧ Hid (LR (w.alloc (.cells #[.int .i64 k, .string x, .slice A n C] 24)) (w.heap.size + 1) acc s5 wr) ∧ Hid (rpL (c.drop i) m acc = L0) ∧ acc.length + ([] : List Pc).length ≤ 2 * m ∧ ([] : List Pc).length ≤ acc.length) (fun _ s6 _ => n - (intOf s6).toNat)
    case atStart => exact ⟨0, ([] : List Pc), Nat.zero_le _, rfl, HLS.out, HL00.out, by simp, Nat.le_refl _⟩
    case round =>
      obtain ⟨i, acc, hi, rfl, hL, hE, hb1, hb2⟩ := hrel
      obtain ⟨av, cv, hv, _, _⟩ := hL.out.form
      subst hv
      have hbw := HB1.out.trans (hL.out.bel.mono (Nat.le_succ _))
      obtain ⟨p0, p1, p2⟩ := cl3 ((hL.out.bel.block w.heap.size (Nat.lt_succ_self _)).trans HX1.out)
      by_cases hgo : i < n ∧ acc.length < m
      · obtain ⟨hlt, hlm⟩ := hgo
        have HLT : Hid (i < n ∧ acc.length < m) := ⟨hlt, hlm⟩
        obtain ⟨k', x', c', r', hd, hd2⟩ := G.drop_cons (n := i) (f := c) (by rw [← HCL.out]; exact hlt)
        obtain ⟨b, off, s, hA, hbS, _, hat⟩ := HS.out.at_ hd
        subst hA
        obtain ⟨As, Cs, rfl, _, _⟩ := hat.kids.slice
        have hbl : b < w.heap.size := hbS
        have y0 := (hbw.cell (p := ⟨b, off + i * 3, none⟩) hbl).trans hat.c0
        have y1 := (hbw.cell (p := ⟨b, off + i * 3 + 1, none⟩) hbl).trans hat.c1
        have y2 := (hbw.cell (p := ⟨b, off + i * 3 + 2, none⟩) hbl).trans hat.c2
        have hsz := G.kid_size hd
        have hlt1 : (i : Int) < (n : Int) := by omega
        have hlt0 : (0 : Int) ≤ (i : Int) := by omega
        have HWI : Hid (wrap64 ((i : Int) + 1) = (i : Int) + 1) := by show _ = _; have := HNM.out; unfold wrap64; omega
        have hlm1 : (acc.length : Int) < (m : Int) := by omega
        have hkids : Gs wr (Lo wr.heap.size) (.slice As c'.len Cs) c' := (hat.kids.below hbw (Nat.le_refl _)).up hbw.size
        have HC := Lib.hid (HIH.out c'.size (by omega) k' x' As c'.len Cs c' (m - acc.length) ((m : Int) - (acc.length : Int)) wr (Nat.le_refl _) (by omega) (by omega) (by omega) hkids)
        have hlen := rp1_len k' x' c' (m - acc.length) (by omega)
        have HE2 : Hid (rpL (c.drop (i + 1)) m (acc ++ rp1 k' x' c' (m - acc.length)) = L0) := by
          show _ = _
          have := hE.out
          rw [hd] at this
          unfold rpL at this
          rw [if_pos hlm] at this
          rw [hd2]
          exact this
        have hw : IntKind.i64.wrap ((m : Int) - (acc.length : Int)) = (m : Int) - (acc.length : Int) := by rw [IntKind.wrap_i64]; omega
        generalize c'.len = lc at *
        generalize hrp : rp1 k' x' c' (m - acc.length) = lp at *
        have HBD := Lib.hid (And.intro hlen (And.intro hb1 hb2))
        clear hd hd2 hat hbS hbl hkids hrp hE hsz hbw
        go_wp2_with fail
        refine HC.out.mono ?_
        rintro e w3 ⟨a3, c3, rfl, ho3, hb3⟩
        have HL3 := Lib.hid (hL.out.later hb3)
        have HO3 := Lib.hid ho3
        clear ho3 hb3 p0 p1 p2 y0 y1 y2
        go_wp2_with (at_builtin; refine app_pcs w3 rfl _ _ rfl (w.heap.size + 1) (.slice av acc.length cv) acc rfl HL3.out.own wr.heap.size _ lp rfl HO3.out (by omega) HL3.out.big ?_; intro v4 w4 hown4 hb4; have HL4 : Hid (LR _ (w.heap.size + 1) (acc ++ lp) v4 w4) := ⟨hown4, HL3.out.bel.trans hb4, Nat.le_trans HL3.out.big hb4.size⟩; clear hown4 hb4)
        go_roundw
        case rel => exact ⟨i + 1, _, HLT.out.1, by rw [HWI.out]; rfl, HL4.out, HE2.out, bd_next HBD.out.1 HLT.out.2 HBD.out.2.2, bd_more HBD.out.2.2⟩
        case measure => rw [HWI.out]; exact ms_next HLT.out.1
      · have hfin : acc = L0 := by
          have := hE.out
          by_cases hlt : i < n
          · obtain ⟨k', x', c', r', hd, _⟩ := G.drop_cons (n := i) (f := c) (by rw [← HCL.out]; exact hlt)
            rw [hd] at this
            unfold rpL at this
            rw [if_neg (by omega)] at this
            exact this
          · rw [G.drop_all i c (by rw [← HCL.out]; omega)] at this
            exact this
        subst hfin
        have hbwF := Lib.hid hbw
        have hal : acc.length ≤ 2000 := by omega
        have HF : Hid (RpPost (acc ++ wcls k) w (.returned (.slice av acc.length cv)) wr) := by
          show RpPost _ _ _ _
          rw [HWC.out, List.append_nil]
          exact ⟨av, cv, rfl, own_base' hL.out.own (Nat.le_succ _), hbw⟩
        clear hE hbw
        by_cases hlt : i < n
        · have hlm : ¬ acc.length < m := by omega
          have hlt1 : (i : Int) < (n : Int) := by omega
          have hlm1 : ¬ (acc.length : Int) < (m : Int) := by omega
          go_wp2
          go_ret
          rw [HE.out]
          exact HF.out
        · have hlt1 : ¬ (i : Int) < (n : Int) := by omega
          go_wp2
          go_ret
          rw [HE.out]
          exact HF.out
theorem pieces_any : ∀ N, PSpec N := fun N => Nat.strongRecOn N fun N ih => pieces_step N ih
end Go.Proofs.Ytpankfbdlakmcaa.Doc
