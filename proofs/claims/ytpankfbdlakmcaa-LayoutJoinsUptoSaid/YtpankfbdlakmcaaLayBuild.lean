/-
  Layer 8 (layout): the variable of a layout, whose first field is a strings.Builder; what the Builder's methods leave of it.
-/
import Derived.Test.YtpankfbdlakmcaaLayWidth
import Derived.Test.YtpankfbdlakmcaaDocBuilder
namespace Go.Proofs.Ytpankfbdlakmcaa.Doc
open Go.ChangeShapes Go.WideShapes Go.ChangeAt Go.RowKit Mem
set_option linter.unusedVariables false

/-- The cells of a layout. -/
def lyC (p v : Value) (W c n t : Int) (fv : Value) : Array Value := #[p, v, .int .i64 W, .int .i64 c, .int .i64 n, .int .i64 t, fv]
def flC (f : List Bool) : List Value := f.reverse.map Value.bool
theorem flC_len (f : List Bool) : (flC f).length = f.length := by simp [flC]
/-- Block b (of the call's own) holds the layout s, for a page of W columns. -/
structure LA (B b : Nat) (W : Int) (s : St) (w : World) : Prop where
  low : B ≤ b
  ex : ∃ p v fv, w.heap[b]? = some (.cells (lyC p v W s.c s.n s.t fv) 65 (0, 0)) ∧ (p = .pointer none ∨ p = .pointer (some ⟨b, 0, none⟩)) ∧
    w.ownsRowF B 5 1 v s.o.length (Lib.byteCells s.o) ∧ w.ownsRow B 4 1 fv s.f.length (flC s.f)
theorem LA.lt {B b : Nat} {W : Int} {s : St} {w : World} (h : LA B b W s w) : b < w.heap.size := by obtain ⟨_, p, v, fv, h1, _⟩ := h; exact lt_of h1
theorem cl7 {w : World} {b : Nat} {p v : Value} {W c n t : Int} {fv : Value} {T : TypeId} {fz : Nat × Nat} (h : w.heap[b]? = some (.cells (lyC p v W c n t fv) T fz)) :
    w.cell? ⟨b, 0, none⟩ = some p ∧ w.cell? ⟨b, 1, none⟩ = some v ∧ w.cell? ⟨b, 2, none⟩ = some (.int .i64 W) ∧ w.cell? ⟨b, 3, none⟩ = some (.int .i64 c) ∧ w.cell? ⟨b, 4, none⟩ = some (.int .i64 n) ∧ w.cell? ⟨b, 5, none⟩ = some (.int .i64 t) ∧ w.cell? ⟨b, 6, none⟩ = some fv := by
  refine ⟨?_, ?_, ?_, ?_, ?_, ?_, ?_⟩ <;> (rw [Lib.cell_of_heap h]; rfl)
theorem ownF_kept {w w' : World} {B n : Nat} {E T : TypeId} {v : Value} {xs : List Value} {b : Nat} {cs : Array Value} {fz : Nat × Nat} (h : w.ownsRowF B E 1 v n xs) (hb : w.heap[b]? = some (.cells cs T fz)) (hTE : T ≠ E) (hg : w.grownBy w' (some b)) : w'.ownsRowF B E 1 v n xs := by
  refine h.kept hg (.inr ?_)
  rcases h.2 with ⟨rfl, _⟩ | ⟨g, cap, cur, fz', rfl, _, hg', _⟩
  · simp [Value.ownBlock]
  · intro e
    simp only [Value.ownBlock, Option.some.injEq] at e
    subst e
    rw [hb] at hg'
    simp only [Option.some.injEq, Obj.cells.injEq] at hg'
    exact hTE hg'.2.1
theorem own_kept {w w' : World} {B n size : Nat} {E T : TypeId} {v : Value} {xs : List Value} {b : Nat} {cs : Array Value} {fz : Nat × Nat} (h : w.ownsRow B E size v n xs) (hb : w.heap[b]? = some (.cells cs T fz)) (hTE : T ≠ E) (hg : w.grownBy w' (some b)) : w'.ownsRow B E size v n xs := by
  refine h.kept hg (.inr ?_)
  rcases h.2 with ⟨rfl, _⟩ | ⟨g, cap, cur, rfl, _, hg', _⟩
  · simp [Value.ownBlock]
  · intro e
    simp only [Value.ownBlock, Option.some.injEq] at e
    subst e
    rw [hb] at hg'
    simp only [Option.some.injEq, Obj.cells.injEq] at hg'
    exact hTE hg'.2.1
theorem set_grown (w : World) (b j : Nat) (u : Value) : w.grownBy (w.setCell ⟨b, j, none⟩ u) (some b) :=
  ⟨rfl, rfl, rfl, by simp [World.setCell], fun k _ hk => Below.heap_setCell _ _ _ _ (fun e => hk (by simp [e]))⟩
set_option maxHeartbeats 1000000 in
set_option maxRecDepth 100000 in
theorem lcheck_used (b : Nat) (w : World) (h0 : w.cell? ⟨b, 0, none⟩ = some (.pointer (some ⟨b, 0, none⟩))) :
    Calls Try.prog 49 #[.pointer (some ⟨b, 0, none⟩)] w fun e w' => e = .returned (.tuple #[]) ∧ w' = w := check_used b w h0
set_option maxHeartbeats 1000000 in
set_option maxRecDepth 100000 in
theorem lcheck_fresh (b : Nat) (w : World) (h0 : w.cell? ⟨b, 0, none⟩ = some (.pointer none)) (hsh : w.shape? b = some (65, 7)) (hfz : w.frozen? ⟨b, 0, none⟩ = false) :
    Calls Try.prog 49 #[.pointer (some ⟨b, 0, none⟩)] w fun e w' => e = .returned (.tuple #[]) ∧ w' = w.setCell ⟨b, 0, none⟩ (.pointer (some ⟨b, 0, none⟩)) := by
  obtain ⟨j, hj, hjs⟩ := Option.map_eq_some_iff.1 sizeBuilder
  go_enter Try.func49, Try.ntmps49
  go_wp2
  rw [Lib.run_to_unsafe w ⟨b, 0, none⟩ Try.underlying59 Try.underlying96 hj (by rw [hjs]; decide) hsh (Nat.zero_lt_succ 6)]
  simp only [Result.andThen]
  rw [Oper.upon_value]
  go_wp2
  rw [run_callFunc_extern Try.func53 (by kernel_rfl) (by kernel_rfl) (by kernel_rfl) (e := Extern.AbiNoEscape.same) (by kernel_rfl)]
  rw [Lib.run_noEscape]
  simp only [Result.andThen]
  rw [Oper.upon_value]
  go_wp2
  rw [Lib.run_from_unsafe w ⟨b, 0, none⟩ Try.underlying96 Try.underlying59 hj hsh (by kernel_rfl)]
  simp only [Result.andThen]
  rw [Oper.upon_value]
  go_wp2
  go_end0
  exact ⟨rfl, rfl⟩
/-- A cell of a layout's variable is written. -/
theorem ly_set {w : World} {b : Nat} {cs : Array Value} (hb : w.heap[b]? = some (.cells cs 65 (0, 0))) (j : Nat) (u : Value) :
    (w.setCell ⟨b, j, none⟩ u).heap[b]? = some (.cells (cs.setIfInBounds j u) 65 (0, 0)) := by
  simp [World.setCell, Array.getElem?_modify, hb]
theorem lcheck_any (B b : Nat) (W : Int) (s : St) (w : World) (h : LA B b W s w) :
    Calls Try.prog 49 #[.pointer (some ⟨b, 0, none⟩)] w fun e w' => e = .returned (.tuple #[]) ∧ (∃ v fv, w'.heap[b]? = some (.cells (lyC (.pointer (some ⟨b, 0, none⟩)) v W s.c s.n s.t fv) 65 (0, 0)) ∧
      w'.ownsRowF B 5 1 v s.o.length (Lib.byteCells s.o) ∧ w'.ownsRow B 4 1 fv s.f.length (flC s.f)) ∧ Below B w w' ∧ w'.heap.size = w.heap.size := by
  obtain ⟨hB, p, v, fv, h1, (rfl | rfl), h3, h4⟩ := h
  · refine (lcheck_fresh b w (cl7 h1).1 (by simp [World.shape?, h1, lyC]) (Lib.frozen_of_heap h1 0)).mono ?_
    rintro e w' ⟨rfl, rfl⟩
    exact ⟨rfl, ⟨v, fv, ly_set h1 0 _, ownF_kept h3 h1 (by decide) (set_grown w b 0 _), own_kept h4 h1 (by decide) (set_grown w b 0 _)⟩, (Below.refl B w).setCell (p := ⟨b, 0, none⟩) hB _, by simp [World.setCell]⟩
  · refine (lcheck_used b w (cl7 h1).1).mono ?_
    rintro e w' ⟨rfl, rfl⟩
    exact ⟨rfl, ⟨v, fv, h1, h3, h4⟩, Below.refl B _, rfl⟩
set_option maxHeartbeats 2000000 in
set_option maxRecDepth 100000 in
theorem lwriteByte_any (B b : Nat) (W : Int) (s : St) (c : UInt8) (w : World) (h : LA B b W s w) (hlen : s.o.length + 1 ≤ 140737488355328) :
    Calls Try.prog 38 #[.pointer (some ⟨b, 0, none⟩), .int .u8 c.toNat] w fun e w' => e = .returned .nilIface ∧ LA B b W { s with o := s.o ++ [c] } w' ∧ Below B w w' := by
  obtain ⟨i0, hi, hz0, hz1, hz2⟩ := info_parts byte_info
  have hB := h.low
  have hblt := h.lt
  have hL : (Lib.byteCells s.o).length = s.o.length := Lib.byteCells_length _
  go_enter Try.func38, Try.ntmps38
  go_wp2_with fail
  refine (lcheck_any B b W s _ h).mono ?_
  rintro e w1 ⟨rfl, ⟨v, fv, hbk, hown, hfl⟩, hb1, hz⟩
  obtain ⟨c0, c1, _, _, _, _, _⟩ := cl7 hbk
  have hlt : b < w1.heap.size := lt_of hbk
  have hb1' := hb1.size
  clear h hz hblt
  go_wp2_with (at_builtin; refine wpList_append_ownF _ rfl _ _ 60 rfl B 5 i0 (.int .u8 0) 1 1 Try.underlying60 hi hz0 hz1 hz2 rfl (by decide) _ _ _ rfl (hown.alloc _) ⟨w1.heap.size, 0, none⟩ 1 1 [.int .u8 c.toNat] rfl rfl ?c1 ?c2 ?c3 ?c4 ?c5 ?_)
  case c1 =>
    intro j u hj
    match j, hj with
    | 0, hj => simp at hj; subst hj; simp [Addr.add]
  case c2 => intro u hu; simp at hu; subst hu; rfl
  case c3 => unfold maxLen; omega
  case c4 => omega
  case c5 => simp; omega
  intro v' w2 hown' hgrow _
  have hne := Lib.ownBlock_neF hown hbk (by decide)
  have hal : (w1.alloc (.cells #[.int .u8 c.toNat] 5)).heap[b]? = _ := (Lib.alloc_old w1 _ b hlt).trans hbk
  have hb2 : w2.heap[b]? = some (.cells (lyC (.pointer (some ⟨b, 0, none⟩)) v W s.c s.n s.t fv) 65 (0, 0)) := by
    rw [hgrow.block b (by simp; omega) (fun e => hne e.symm)]
    exact hal
  have hfl2 : w2.ownsRow B 4 1 fv s.f.length (flC s.f) := by
    refine (hfl.alloc (.cells #[.int .u8 c.toNat] 5)).kept hgrow ?_
    rcases hown.2 with ⟨rfl, _⟩ | ⟨g, cap, cur, fz, rfl, _, hg, _⟩
    · rcases hfl.2 with ⟨rfl, _⟩ | ⟨g2, cap2, cur2, rfl, _, hg2, _⟩
      · exact .inl rfl
      · exact .inr (by simp [Value.ownBlock])
    · rcases hfl.2 with ⟨rfl, _⟩ | ⟨g2, cap2, cur2, rfl, _, hg2, _⟩
      · exact .inl rfl
      · refine .inr fun e => ?_
        simp only [Value.ownBlock, Option.some.injEq] at e
        subst e
        rw [hg] at hg2
        simp only [Option.some.injEq, Obj.cells.injEq] at hg2
        exact absurd hg2.2.1 (by decide)
  obtain ⟨d0, d1, _, _, _, _, _⟩ := cl7 hb2
  have f1 : w2.frozen? ⟨b, 1, none⟩ = false := Lib.frozen_of_heap hb2 1
  obtain ⟨g, cap, rfl⟩ : ∃ g cap, v' = .slice (some ⟨g, 0, none⟩) (s.o.length + 1) cap := by
    rcases hown'.2 with ⟨_, h0⟩ | ⟨g, cap, cur, fz, hv, _⟩
    · omega
    · exact ⟨g, cap, hv⟩
  have HE := Lib.hid (ly_set hb2 1 (.slice (some ⟨g, 0, none⟩) (s.o.length + 1) cap))
  have HO := Lib.hid (ownF_kept hown' hb2 (by decide) (set_grown w2 b 1 (.slice (some ⟨g, 0, none⟩) (s.o.length + 1) cap)))
  have HF := Lib.hid (own_kept hfl2 hb2 (by decide) (set_grown w2 b 1 (.slice (some ⟨g, 0, none⟩) (s.o.length + 1) cap)))
  have HBW := Lib.hid (((hb1.alloc (by omega) _).grown hgrow (by simp; omega) (fun k hk => (hown.lt k hk).1)).setCell (p := ⟨b, 1, none⟩) hB (.slice (some ⟨g, 0, none⟩) (s.o.length + 1) cap))
  clear hown hfl hown' hgrow hfl2 hal hbk hb1 hne
  go_wp2
  go_ret
  refine ⟨rfl, ⟨hB, _, _, fv, HE.out, .inr rfl, ?_, HF.out⟩, HBW.out⟩
  have := HO.out
  rw [List.length_append, List.length_singleton, Lib.byteCells_append]
  exact this
set_option maxHeartbeats 2000000 in
set_option maxRecDepth 100000 in
theorem lwriteString_any (B b : Nat) (W : Int) (s : St) (x : ByteArray) (w : World) (h : LA B b W s w) (hlen : s.o.length + x.size ≤ 140737488355328) :
    Calls Try.prog 37 #[.pointer (some ⟨b, 0, none⟩), .string x] w fun e w' => e = .returned (.tuple #[.int .i64 x.size, .nilIface]) ∧ LA B b W { s with o := s.o ++ x.data.toList } w' ∧ Below B w w' := by
  obtain ⟨i0, hi, hz0, hz1, hz2⟩ := info_parts byte_info
  have hB := h.low
  have hL : (Lib.byteCells s.o).length = s.o.length := Lib.byteCells_length _
  go_enter Try.func37, Try.ntmps37
  go_wp2_with fail
  refine (lcheck_any B b W s _ h).mono ?_
  rintro e w1 ⟨rfl, ⟨v, fv, hbk, hown, hfl⟩, hb1, hz⟩
  obtain ⟨c0, c1, _, _, _, _, _⟩ := cl7 hbk
  have hlt : b < w1.heap.size := lt_of hbk
  have hb1' := hb1.size
  clear h hz
  go_wp2_with (at_builtin; refine Lib.wpList_append_own_stringF _ rfl _ _ 60 9 rfl B 5 i0 Try.underlying60 Try.underlying9 hi hz0 hz1 hz2 _ _ _ rfl hown x rfl ?c3 ?c4 ?c5 ?_)
  case c3 => unfold maxLen; omega
  case c4 => omega
  case c5 => omega
  intro v' w2 hown' hgrow _
  have hne := Lib.ownBlock_neF hown hbk (by decide)
  have hb2 : w2.heap[b]? = some (.cells (lyC (.pointer (some ⟨b, 0, none⟩)) v W s.c s.n s.t fv) 65 (0, 0)) := by
    rw [hgrow.block b hlt (fun e => hne e.symm)]
    exact hbk
  have hfl2 : w2.ownsRow B 4 1 fv s.f.length (flC s.f) := by
    refine hfl.kept hgrow ?_
    rcases hown.2 with ⟨rfl, _⟩ | ⟨g, cap, cur, fz, rfl, _, hg, _⟩
    · rcases hfl.2 with ⟨rfl, _⟩ | ⟨g2, cap2, cur2, rfl, _, hg2, _⟩
      · exact .inl rfl
      · exact .inr (by simp [Value.ownBlock])
    · rcases hfl.2 with ⟨rfl, _⟩ | ⟨g2, cap2, cur2, rfl, _, hg2, _⟩
      · exact .inl rfl
      · refine .inr fun e => ?_
        simp only [Value.ownBlock, Option.some.injEq] at e
        subst e
        rw [hg] at hg2
        simp only [Option.some.injEq, Obj.cells.injEq] at hg2
        exact absurd hg2.2.1 (by decide)
  obtain ⟨d0, d1, _, _, _, _, _⟩ := cl7 hb2
  have f1 : w2.frozen? ⟨b, 1, none⟩ = false := Lib.frozen_of_heap hb2 1
  obtain ⟨ao, n', cap, rfl⟩ : ∃ ao n' cap, v' = .slice ao n' cap := by
    rcases hown'.2 with ⟨hv, _⟩ | ⟨g, cap, cur, fz, hv, _⟩
    · exact ⟨_, _, _, hv⟩
    · exact ⟨_, _, _, hv⟩
  have HE := Lib.hid (ly_set hb2 1 (.slice ao n' cap))
  have HO := Lib.hid (ownF_kept hown' hb2 (by decide) (set_grown w2 b 1 (.slice ao n' cap)))
  have HF := Lib.hid (own_kept hfl2 hb2 (by decide) (set_grown w2 b 1 (.slice ao n' cap)))
  have HBW := Lib.hid ((hb1.grown hgrow (by omega) (fun k hk => (hown.lt k hk).1)).setCell (p := ⟨b, 1, none⟩) hB (.slice ao n' cap))
  clear hown hfl hown' hgrow hfl2 hbk hb1 hne
  go_wp2
  go_ret2
  refine ⟨rfl, ⟨hB, _, _, fv, HE.out, .inr rfl, ?_, HF.out⟩, HBW.out⟩
  have := HO.out
  have hxl : x.data.toList.length = x.size := by rw [Array.length_toList]; rfl
  rw [List.length_append, hxl, Lib.byteCells_append]
  exact this
end Go.Proofs.Ytpankfbdlakmcaa.Doc
