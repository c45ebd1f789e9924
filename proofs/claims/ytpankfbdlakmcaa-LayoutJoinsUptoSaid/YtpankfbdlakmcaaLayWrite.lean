/-
  Layer 8 (layout): isFlat, write, addBreak. Written by gen_laywrite.py.
-/
import Derived.Test.YtpankfbdlakmcaaLayStr
import Derived.Test.YtpankfbdlakmcaaMemRel2
import Derived.Test.YtpankfbdlakmcaaDocIs
namespace Go.Proofs.Ytpankfbdlakmcaa.Doc
open Go.ChangeShapes Go.WideShapes Go.ChangeAt Go.RowKit Mem
set_option linter.unusedVariables false

section
variable {B b : Nat} {Wd : Int} {s : St} {w w' : World}
theorem LA.drew (h : LA B b Wd s w) : LA B b Wd s w.drew := ⟨h.low, h.ex⟩
theorem LA.size (h : LA B b Wd s w) : B ≤ w.heap.size := by have := h.lt; have := h.low; omega
theorem LA.later (h : LA B b Wd s w) (hb : Below w.heap.size w w') : LA B b Wd s w' := by
  obtain ⟨hB, p, v, fv, h1, h2, h3, h4⟩ := h
  refine ⟨hB, p, v, fv, (hb.block b (lt_of h1)).trans h1, h2, ?_, own_below' h4 hb⟩
  refine ⟨h3.1, ?_⟩
  rcases h3.2 with hn | ⟨g, cap, cur, fz, e, q1, q2, q3⟩
  · exact .inl hn
  · exact .inr ⟨g, cap, cur, fz, e, q1, (hb.block g (lt_of q2)).trans q2, q3⟩
theorem LA.cells (h : LA B b Wd s w) : (∃ p, w.cell? ⟨b, 0, none⟩ = some p) ∧ (∃ v, w.cell? ⟨b, 1, none⟩ = some v) ∧ w.cell? ⟨b, 2, none⟩ = some (.int .i64 Wd) ∧ w.cell? ⟨b, 3, none⟩ = some (.int .i64 (s.c : Int)) ∧ w.cell? ⟨b, 4, none⟩ = some (.int .i64 (s.n : Int)) ∧ w.cell? ⟨b, 5, none⟩ = some (.int .i64 (s.t : Int)) ∧ ∃ fv, w.cell? ⟨b, 6, none⟩ = some fv := by
  obtain ⟨_, p, v, fv, h1, _⟩ := h
  obtain ⟨c0, c1, c2, c3, c4, c5, c6⟩ := cl7 h1
  exact ⟨⟨p, c0⟩, ⟨v, c1⟩, c2, c3, c4, c5, ⟨fv, c6⟩⟩
theorem LA.frz (h : LA B b Wd s w) (j : Nat) : w.frozen? ⟨b, j, none⟩ = false := by
  obtain ⟨_, p, v, fv, h1, _⟩ := h
  exact Lib.frozen_of_heap h1 j
theorem LA.setB (h : LA B b Wd s w) (j : Nat) (u : Value) : Below B w (w.setCell ⟨b, j, none⟩ u) := (Below.refl B w).setCell (p := ⟨b, j, none⟩) h.low u
theorem LA.put (h : LA B b Wd s w) (j : Nat) (u : Value) (s' : St) (hc : ∀ p v fv, (lyC p v Wd s.c s.n s.t fv).setIfInBounds j u = lyC p v Wd s'.c s'.n s'.t fv) (ho : s'.o = s.o) (hf : s'.f = s.f) : LA B b Wd s' (w.setCell ⟨b, j, none⟩ u) := by
  obtain ⟨hB, p, v, fv, h1, h2, h3, h4⟩ := h
  refine ⟨hB, p, v, fv, by rw [ly_set h1, hc], h2, ?_, ?_⟩
  · rw [ho]; exact ownF_kept h3 h1 (by decide) (set_grown w b j u)
  · rw [hf]; exact own_kept h4 h1 (by decide) (set_grown w b j u)
/-- The tabs may have been written anew. -/
def NL (B b : Nat) (Wd : Int) (s : St) (w : World) : Prop := ∃ t : Nat, LA B b Wd { s with t := t } w
theorem NL.of (h : LA B b Wd s w) : NL B b Wd s w := ⟨s.t, h⟩
theorem NL.put {t : Nat} (h : LA B b Wd { s with t := t } w) (n : Nat) : NL B b Wd s (w.setCell ⟨b, 5, none⟩ (.int .i64 (n : Int))) := ⟨n, LA.put h 5 _ { s with t := n } (fun _ _ _ => rfl) rfl rfl⟩
theorem LA.set5 (h : LA B b Wd s w) (n : Int) : (w.setCell ⟨b, 5, none⟩ (.int .i64 n)).cell? ⟨b, 5, none⟩ = some (.int .i64 n) := by
  obtain ⟨_, p, v, fv, h1, _⟩ := h
  exact (cl7 (t := n) (ly_set h1 5 (.int .i64 n))).2.2.2.2.2.1
theorem LA.keep5 (h : LA B b Wd s w) (u : Value) {x : Value} (hx : w.cell? ⟨b, 5, none⟩ = some x) : (w.setCell ⟨b, 3, none⟩ u).cell? ⟨b, 5, none⟩ = some x := by
  obtain ⟨_, p, v, fv, h1, _⟩ := h
  have h5 := (cl7 h1).2.2.2.2.2.1
  rw [hx] at h5
  rw [h5, Lib.cell_of_heap (ly_set h1 3 u)]
  rfl
theorem NL.c4 {y : List UInt8} (h : NL B b Wd { s with o := y } w) : w.cell? ⟨b, 4, none⟩ = some (.int .i64 (s.n : Int)) := by
  obtain ⟨t, h⟩ := h
  exact h.cells.2.2.2.2.1
theorem NL.fin {t : Nat} (h : LA B b Wd { { s with o := s.o ++ [10] } with t := t } w) (ht : w.cell? ⟨b, 5, none⟩ = some (.int .i64 (s.n : Int))) : LA B b Wd (nlS s) (w.setCell ⟨b, 3, none⟩ (.int .i64 (4 * (s.n : Int)))) := by
  have h5 := h.cells.2.2.2.2.2.1
  rw [ht] at h5
  have h5 : (s.n : Int) = (t : Int) := by simpa using h5
  obtain rfl : t = s.n := by omega
  exact LA.put h 3 _ (nlS s) (fun _ _ _ => rfl) rfl rfl
theorem nl_keep (h : LA B b Wd (nlS s) w) : LA B b Wd (nlS s) (w.setCell ⟨b, 5, none⟩ (.int .i64 (s.n : Int))) := LA.put h 5 _ (nlS s) (fun _ _ _ => rfl) rfl rfl
theorem bool_row {fv : Value} {f : List Bool} (h : w.ownsRow B 4 1 fv f.length (flC f)) : ∃ A C, fv = .slice A f.length C ∧ f.length ≤ C ∧ C ≤ maxLen ∧ ∀ q r, f = q :: r → ∃ g, A = some ⟨g, 0, none⟩ ∧ w.cell? ⟨g, r.length, none⟩ = some (.bool q) := by
  rcases h.2 with ⟨rfl, h0⟩ | ⟨g, cap, cur, rfl, h1, h2, h3, h4, h5, h6⟩
  · exact ⟨none, 0, by rw [h0], by omega, by unfold maxLen; omega, fun q r e => by subst e; cases h0⟩
  · refine ⟨_, cap, rfl, h3, h4, fun q r e => ⟨g, rfl, ?_⟩⟩
    subst e
    have e : (flC (q :: r))[r.length]? = some (.bool q) := by unfold flC; simp
    rw [← h6, List.getElem?_take_of_lt (by simp)] at e
    simpa [World.cell?, h2] using e
end

set_option maxRecDepth 100000 in
theorem flatWidth_any (k : Int) (x : ByteArray) (hx : x.size ≤ 4611686018427387904) (w : World) : Calls Try.prog 43 #[.agg #[.int .i64 k, .string x]] w fun e w' => e = .returned (.int .i64 (fwp (k, x) : Int)) ∧ Below w.heap.size w w' := by
  have hb := (Below.refl w.heap.size w).alloc (Nat.le_refl _) (.cells #[.int .i64 k, .string x] 45)
  obtain ⟨q0, q1⟩ := cl2 (heap_alloc_new w (.cells #[.int .i64 k, .string x] 45))
  have HX := Lib.hid hx
  have HB := Lib.hid hb
  clear hx hb
  by_cases k1 : k = 1
  · subst k1
    have hf : fwp (1, x) = wd x := rfl
    rw [hf]
    go_enter Try.func43, Try.ntmps43
    go_wp2_with fail
    refine (width_any x HX.out _).mono ?_
    rintro e w2 ⟨rfl, rfl⟩
    go_wp2
    go_ret
    exact ⟨rfl, HB.out⟩
  · by_cases k2 : k = 2
    · subst k2
      have hf : fwp (2, x) = 1 := rfl
      rw [hf]
      go_enter Try.func43, Try.ntmps43
      go_wp2
      go_ret
      exact ⟨rfl, HB.out⟩
    · by_cases k4 : k = 4
      · subst k4
        have hf : fwp (4, x) = 65536 := rfl
        rw [hf]
        go_enter Try.func43, Try.ntmps43
        go_wp2
        go_ret
        exact ⟨rfl, HB.out⟩
      · have hf : fwp (k, x) = 0 := by unfold fwp; rw [if_neg k1, if_neg k2, if_neg k4]
        have b1 : (k == 1) = false := by simpa using k1
        have b2 : (k == 2) = false := by simpa using k2
        have b4 : (k == 4) = false := by simpa using k4
        rw [hf]
        clear hf k1 k2 k4
        go_enter Try.func43, Try.ntmps43
        go_wp2
        go_ret
        exact ⟨rfl, HB.out⟩

set_option maxHeartbeats 2000000 in
set_option maxRecDepth 100000 in
theorem isFlat_any {B b : Nat} {Wd : Int} {s : St} {w : World} (h : LA B b Wd s w) : Calls Try.prog 46 #[.pointer (some ⟨b, 0, none⟩)] w fun e w' => e = .returned (.bool s.fl) ∧ Below w.heap.size w w' := by
  obtain ⟨hB, p, v, fv, h1, h2, h3, h4⟩ := h
  obtain ⟨A, C, rfl, hC1, hC2, hrow⟩ := bool_row h4
  obtain ⟨c0, c1, c2, c3, c4, c5, c6⟩ := cl7 h1
  have HB := Lib.hid (Below.refl w.heap.size w)
  unfold St.fl
  clear h1 h2 h3 h4 c0 c1 c2 c3 c4 c5
  cases hf : s.f with
  | nil =>
    rw [hf] at c6
    simp only [List.length_nil] at c6
    show Calls _ _ _ _ fun e w' => e = .returned (.bool false) ∧ _
    clear hf hrow hC1 hC2
    have hd : decide ((0 : Int) < 0) = false := rfl
    go_enter Try.func46, Try.ntmps46
    go_wp2
    go_quiet (fail)
    go_wp2
    go_ret
    exact ⟨rfl, HB.out.os, HB.out.tape, HB.out.output, HB.out.size, HB.out.block⟩
  | cons q r =>
    obtain ⟨g, rfl, hq⟩ := hrow q r hf
    rw [hf] at c6 hC1
    show Calls _ _ _ _ fun e w' => e = .returned (.bool q) ∧ _
    obtain ⟨m, hm⟩ : ∃ m, r.length = m := ⟨_, rfl⟩
    obtain ⟨n, hn⟩ : ∃ n, (q :: r).length = n := ⟨_, rfl⟩
    rw [hm] at hq
    rw [hn] at c6 hC1
    have hnm : n = m + 1 := by rw [← hn, ← hm]; rfl
    unfold maxLen at hC2
    have hd : decide (0 < n) = true := by simp; omega
    have hw1 : IntKind.i64.wrap ((n : Int) - 1) = (m : Int) := by rw [IntKind.wrap_i64]; omega
    have hm0 : (0 : Int) ≤ (m : Int) := by omega
    have hmn : (m : Int) < (n : Int) := by omega
    clear hf hn hm hnm hC1 hC2 hrow
    go_enter Try.func46, Try.ntmps46
    go_wp2
    go_quiet (fail)
    go_wp2
    go_ret
    exact ⟨rfl, HB.out.os, HB.out.tape, HB.out.output, HB.out.size, HB.out.block⟩

set_option maxHeartbeats 4000000 in
set_option maxRecDepth 100000 in
theorem write_any {B b : Nat} {Wd : Int} {s : St} {w : World} (x : ByteArray) (h : LA B b Wd s w) (ht : s.t ≤ 1000000) (hl : s.o.length + s.t + x.size ≤ 1000000000) (hc : s.c ≤ 1000000000) :
    Calls Try.prog 44 #[.pointer (some ⟨b, 0, none⟩), .string x] w fun e w' => e = .returned (.tuple #[]) ∧ LA B b Wd (wrS x.data.toList (wd x) s) w' ∧ Below B w w' := by
  have HL := Lib.hid h
  obtain ⟨_, _, _, _, _, c5, _⟩ := h.cells
  have HX := Lib.hid hl
  obtain ⟨n, hn⟩ : ∃ n, s.t = n := ⟨_, rfl⟩
  rw [hn] at c5
  have HN := Lib.hid hn
  clear h hl
  go_enter Try.func44, Try.ntmps44
  go_wp2
  go_loopw [8] (fun s8 wr => ∃ i : Nat, i ≤ n ∧ s8 = .int .i64 (i : Int) ∧ Hid (LA B b Wd { s with o := s.o ++ List.replicate i 9 } wr) ∧ Hid (Below B w wr)) (fun s8 _ => n - (intOf s8).toNat)
  case atStart => exact ⟨0, Nat.zero_le _, rfl, by show LA _ _ _ _ _; rw [List.replicate_zero, List.append_nil]; exact HL.out, Below.refl B w⟩
  case round =>
    obtain ⟨i, hi, rfl, hLi, hBi⟩ := hrel
    by_cases hlt : i < n
    · have hlt1 : (i : Int) < (n : Int) := by omega
      have hw1 : IntKind.i64.wrap ((i : Int) + 1) = (i : Int) + 1 := by rw [IntKind.wrap_i64]; have := HN.out; omega
      have HC := Lib.hid (lwriteByte_any B b Wd _ 9 wr hLi.out (by have := HX.out; have := HN.out; simp only [List.length_append, List.length_replicate]; omega))
      have h9 : (UInt8.toNat 9 : Int) = 9 := rfl
      rw [h9] at HC
      clear hLi h9 hc ht hn
      go_wp2_with fail
      refine HC.out.mono ?_
      rintro e w2 ⟨rfl, hL2, hb2⟩
      have HL2 := Lib.hid hL2
      have HB2 := Lib.hid (hBi.out.trans hb2)
      clear hL2 hb2 hBi HC
      go_wp2
      go_roundw
      case rel => exact ⟨i + 1, by omega, by go_num, by show LA _ _ _ _ _; have := HL2.out; rw [List.append_assoc, ← List.replicate_succ'] at this; exact this, HB2.out⟩
      case measure => simp [intOf]; omega
    · obtain rfl : i = n := by omega
      have hlt1 : ¬ (i : Int) < (i : Int) := by omega
      obtain ⟨_, _, _, _, _, c5', _⟩ := hLi.out.cells
      have hfz := hLi.out.frz 5
      have HL0 := Lib.hid (LA.put hLi.out 5 (.int .i64 0) { s with o := s.o ++ List.replicate i 9, t := 0 } (fun _ _ _ => rfl) rfl rfl)
      have HB0 := Lib.hid (hBi.out.trans (hLi.out.setB 5 (.int .i64 0)))
      have HC := Lib.hid (lwriteString_any B b Wd _ x _ HL0.out (by have := HX.out; have := HN.out; simp only [List.length_append, List.length_replicate]; omega))
      have HFE : Hid (wrS x.data.toList (wd x) s = { s with o := s.o ++ (List.replicate i 9 ++ x.data.toList), c := s.c + wd x, t := 0 }) := by show _ = _; unfold wrS; rw [HN.out]
      have hwl := wd_le x
      have hxs := HX.out
      clear hLi hBi hn
      go_wp2_with fail
      refine HC.out.mono ?_
      rintro e w2 ⟨rfl, hL2, hb2⟩
      obtain ⟨s1, hs1⟩ : ∃ s1 : St, s1 = { s with o := s.o ++ (List.replicate i 9 ++ x.data.toList), t := 0 } := ⟨_, rfl⟩
      have HL1 : Hid (LA B b Wd s1 w2) := by
        show LA _ _ _ _ _
        rw [hs1, ← List.append_assoc]
        exact hL2
      have hs1c : s1.c = s.c := by rw [hs1]
      obtain ⟨k, hk⟩ : ∃ k, wd x = k := ⟨_, rfl⟩
      have HFI : Hid (∀ W, LA B b Wd s1 W → LA B b Wd (wrS x.data.toList (wd x) s) (W.setCell ⟨b, 3, none⟩ (.int .i64 ((s.c : Int) + (k : Int))))) := fun W hW => LA.put hW 3 _ _ (fun _ _ _ => by rw [HFE.out, hs1, hk]; unfold lyC; simp) (by rw [HFE.out, hs1]) (by rw [HFE.out, hs1])
      have HB1 := Lib.hid (HB0.out.trans hb2)
      have HWX : Hid (∀ W, Calls Try.prog 15 #[.string x] W fun e w' => e = .returned (.int .i64 (k : Int)) ∧ W = w') := fun W => by rw [← hk]; exact width_any x (by omega) W
      have hwk : IntKind.i64.wrap ((s.c : Int) + (k : Int)) = (s.c : Int) + (k : Int) := by rw [IntKind.wrap_i64]; omega
      have hcells : ∀ W, LA B b Wd s1 W → W.cell? ⟨b, 3, none⟩ = some (.int .i64 (s.c : Int)) := fun W hW => by have := hW.cells.2.2.2.1; rwa [hs1c] at this
      have HCS := Lib.hid hcells
      clear hcells hs1c hs1 hL2 hb2 HC HL0 HB0 HX HN HFE hwl hxs hc ht hk c5 c5' hfz
      generalize hcI : (s.c : Int) = cI at *
      clear hcI
      go_wp2
      refine region_rel2 9 (fun W => LA B b Wd s1 W) (fun W W' => Below B W W' ∧ (LA B b Wd (wrS x.data.toList (wd x) s) W → LA B b Wd (wrS x.data.toList (wd x) s) W')) [Cd.is (Value.pointer (some ⟨b, 0, none⟩)), Cd.is (Value.pointer (some ⟨b, 0, none⟩)), Cd.is (Value.pointer (some ⟨b, 3, none⟩)), Cd.is (Value.int .i64 (cI)), Cd.is (Value.string x), Cd.is (Value.int .i64 ((k : Int))), Cd.is (Value.int .i64 (cI + (k : Int))), Cd.is (Value.pointer (some ⟨b, 0, none⟩)), Cd.is (Value.pointer (some ⟨b, 3, none⟩)), ⟨fun _ W => LA B b Wd (wrS x.data.toList (wd x) s) W, fun _ _ _ h q => h.2 q⟩] (by kernel_rfl) (by decide) (by kernel_rfl) HL1.out.drew ⟨Below.refl B _, id⟩ (fun _ _ _ h k => ⟨h.1.trans k.1, fun q => k.2 (h.2 q)⟩) ?steps ?behind
      case steps =>
        intro xv W hW a ha
        replace hW : Below B w2 W := ⟨hW.1.os, hW.1.tape, hW.1.output, hW.1.size, hW.1.block⟩
        simp only [fillA] at ha
        simp only [List.setIfInBounds_toArray, List.set_cons_succ, List.set_cons_zero, Nat.zero_add, Nat.reduceAdd] at ha
        subst ha
        refine ⟨fun hI hS hd K hK => ?s0, fun hI hS hd K hK => ?s1, fun hI hS hd K hK => ?s2, fun hI hS hd K hK => ?s3, fun hI hS hd K hK => ?s4, fun hI hS hd K hK => ?s5, fun hI hS hd K hK => ?s6, fun hI hS hd K hK => ?s7, fun hI hS hd K hK => ?s8, fun hI hS hd K hK => ?s9, trivial⟩
        case s0 =>
          clear hd
          simp only [Act.put, List.setIfInBounds_toArray, List.set_cons_succ, List.set_cons_zero] at hK
          refine (if_pos (by rfl)).mpr ?_
          go_simp
          exact hK.out _ _ ⟨Below.refl B _, id⟩ (.inr id) rfl
        case s1 =>
          have hx0 : xv 0 = Value.pointer (some ⟨b, 0, none⟩) := hd 0 (by kernel_rfl)
          clear hd
          simp only [Act.put, List.setIfInBounds_toArray, List.set_cons_succ, List.set_cons_zero] at hK
          rw [hx0] at hK ⊢
          refine (if_pos (by rfl)).mpr ?_
          go_simp
          exact hK.out _ _ ⟨Below.refl B _, id⟩ (.inr id) rfl
        case s2 =>
          have hx1 : xv 1 = Value.pointer (some ⟨b, 0, none⟩) := hd 1 (by kernel_rfl)
          clear hd
          simp only [Act.put, List.setIfInBounds_toArray, List.set_cons_succ, List.set_cons_zero] at hK
          rw [hx1] at hK ⊢
          refine (if_pos (by rfl)).mpr ?_
          go_simp
          exact hK.out _ _ ⟨Below.refl B _, id⟩ (.inr id) rfl
        case s3 =>
          have hx2 : xv 2 = Value.pointer (some ⟨b, 3, none⟩) := hd 2 (by kernel_rfl)
          clear hd
          simp only [Act.put, List.setIfInBounds_toArray, List.set_cons_succ, List.set_cons_zero] at hK
          rw [hx2] at hK ⊢
          refine (if_pos (by rfl)).mpr ?_
          have hc3 := HCS.out W (hS (.inl (by kernel_rfl)))
          go_simp
          exact hK.out _ _ ⟨Below.refl B _, id⟩ (.inr id) rfl
        case s4 =>
          clear hd
          simp only [Act.put, List.setIfInBounds_toArray, List.set_cons_succ, List.set_cons_zero] at hK
          refine (if_pos (by rfl)).mpr ?_
          go_simp
          exact hK.out _ _ ⟨Below.refl B _, id⟩ (.inr id) rfl
        case s5 =>
          have hx4 : xv 4 = Value.string x := hd 4 (by kernel_rfl)
          clear hd
          simp only [Act.put, List.setIfInBounds_toArray, List.set_cons_succ, List.set_cons_zero] at hK
          rw [hx4] at hK ⊢
          refine (if_pos (by rfl)).mpr ?_
          go_simp
          refine (HWX.out W).mono ?_
          rintro e W' ⟨rfl, rfl⟩
          exact hK.out _ _ ⟨Below.refl B _, id⟩ (.inr id) rfl
        case s6 =>
          have hx3 : xv 3 = Value.int .i64 (cI) := hd 3 (by kernel_rfl)
          have hx5 : xv 5 = Value.int .i64 ((k : Int)) := hd 5 (by kernel_rfl)
          clear hd
          simp only [Act.put, List.setIfInBounds_toArray, List.set_cons_succ, List.set_cons_zero] at hK
          rw [hx3] at hK ⊢
          rw [hx5] at hK ⊢
          refine (if_pos (by rfl)).mpr ?_
          go_simp
          exact hK.out _ _ ⟨Below.refl B _, id⟩ (.inr id) rfl
        case s7 =>
          have hx0 : xv 0 = Value.pointer (some ⟨b, 0, none⟩) := hd 0 (by kernel_rfl)
          clear hd
          simp only [Act.put, List.setIfInBounds_toArray, List.set_cons_succ, List.set_cons_zero] at hK
          rw [hx0] at hK ⊢
          refine (if_pos (by rfl)).mpr ?_
          go_simp
          exact hK.out _ _ ⟨Below.refl B _, id⟩ (.inr id) rfl
        case s8 =>
          have hx7 : xv 7 = Value.pointer (some ⟨b, 0, none⟩) := hd 7 (by kernel_rfl)
          clear hd
          simp only [Act.put, List.setIfInBounds_toArray, List.set_cons_succ, List.set_cons_zero] at hK
          rw [hx7] at hK ⊢
          refine (if_pos (by rfl)).mpr ?_
          go_simp
          exact hK.out _ _ ⟨Below.refl B _, id⟩ (.inr id) rfl
        case s9 =>
          have hx6 : xv 6 = Value.int .i64 (cI + (k : Int)) := hd 6 (by kernel_rfl)
          have hx8 : xv 8 = Value.pointer (some ⟨b, 3, none⟩) := hd 8 (by kernel_rfl)
          clear hd
          simp only [Act.put] at hK
          rw [hx6] at hK ⊢
          rw [hx8] at hK ⊢
          refine (if_pos (by rfl)).mpr ?_
          have hL := hS (.inr rfl)
          have hc3 := HCS.out W hL
          have hfz := hL.frz 3
          have HN := HFI.out W hL
          go_simp
          exact hK.out undef _ ⟨hL.setB 3 _, fun _ => HN⟩ (.inl trivial) HN
      case behind =>
        intro xv W hW hx a ha
        replace hW : Below B w2 W := ⟨hW.1.os, hW.1.tape, hW.1.output, hW.1.size, hW.1.block⟩
        simp only [fillA] at ha
        simp only [List.setIfInBounds_toArray, List.set_cons_succ, List.set_cons_zero, Nat.zero_add, Nat.reduceAdd] at ha
        subst ha
        have hL := hx 9 (by decide)
        have HL2 : Hid (LA B b Wd (wrS x.data.toList (wd x) s) W) := hL
        have HB2 := Lib.hid (HB1.out.trans hW)
        clear hx hW hL
        go_wp2
        go_end0
        exact ⟨rfl, HL2.out, HB2.out⟩
set_option maxHeartbeats 4000000 in
set_option maxRecDepth 100000 in
theorem addBreak_any {B b : Nat} {Wd : Int} {s : St} {w : World} (k : Int) (x : ByteArray) (h : LA B b Wd s w) (hk : isB k = true) (ht : s.t ≤ 1000000) (hn : s.n ≤ 1000000) (hl : s.o.length + s.t + 1 ≤ 1000000000) (hc : s.c ≤ 1000000000) :
    Calls Try.prog 45 #[.pointer (some ⟨b, 0, none⟩), .agg #[.int .i64 k, .string x]] w fun e w' => e = .returned (.tuple #[]) ∧ LA B b Wd (if s.fl then (if k = 2 then wrS [32] 1 s else s) else nlS s) w' ∧ Below B w w' := by
  have hb := (Below.refl w.heap.size w).alloc (Nat.le_refl _) (.cells #[.int .i64 k, .string x] 45)
  have hx1 := heap_alloc_new w (.cells #[.int .i64 k, .string x] 45)
  have HL := Lib.hid (h.later hb)
  have HB := Lib.hid (hb.mono h.size)
  have HX1 := Lib.hid hx1
  have HC := Lib.hid (isFlat_any HL.out)
  obtain ⟨q, hq⟩ : ∃ q, s.fl = q := ⟨_, rfl⟩
  rw [hq] at HC ⊢
  obtain ⟨s2, hs2⟩ : ∃ s2, (if q = true then (if k = 2 then wrS [32] 1 s else s) else nlS s) = s2 := ⟨_, rfl⟩
  rw [hs2]
  have HS2 := Lib.hid hs2
  clear hb hx1 h hs2
  go_enter Try.func45, Try.ntmps45
  go_wp2_with fail
  refine HC.out.mono ?_
  rintro e w2 ⟨rfl, hb2⟩
  have HL2 := Lib.hid (HL.out.later hb2)
  have HB2 := Lib.hid (HB.out.trans (hb2.mono HL.out.size))
  have hx2 := (hb2.block _ (lt_of HX1.out)).trans HX1.out
  obtain ⟨q0, q1⟩ := cl2 hx2
  clear hx2 hb2 HC HL HB HX1 hq
  cases q with
  | false =>
    have hs2 : nlS s = s2 := by have := HS2.out; simpa using this
    subst hs2
    clear HS2
    have HC := Lib.hid (lwriteByte_any B b Wd s 10 w2 HL2.out (by omega))
    have h10 : (UInt8.toNat 10 : Int) = 10 := rfl
    rw [h10] at HC
    clear h10 hl hc ht q0 q1
    go_wp2_with fail
    refine HC.out.mono ?_
    rintro e w3 ⟨rfl, hL3, hb3⟩
    have HL1 : Hid (LA B b Wd { s with o := s.o ++ [10] } w3) := hL3
    have HB1 := Lib.hid (HB2.out.trans hb3)
    have hwk : IntKind.i64.wrap (4 * (s.n : Int)) = 4 * (s.n : Int) := by rw [IntKind.wrap_i64]; omega
    clear hL3 hb3 HC HB2 HL2
    go_wp2
    refine region_rel2 16 (fun W => NL B b Wd { s with o := s.o ++ [10] } W) (fun W W' => Below B W W' ∧ ((W.cell? ⟨b, 5, none⟩ = some (.int .i64 (s.n : Int))) → (W'.cell? ⟨b, 5, none⟩ = some (.int .i64 (s.n : Int)))) ∧ (LA B b Wd (nlS s) W → LA B b Wd (nlS s) W')) [Cd.is (Value.pointer (some ⟨b, 0, none⟩)), Cd.is (Value.pointer (some ⟨b, 0, none⟩)), Cd.is (Value.pointer (some ⟨b, 0, none⟩)), Cd.is (Value.pointer (some ⟨b, 0, none⟩)), Cd.is (Value.pointer (some ⟨b, 4, none⟩)), Cd.is (Value.int .i64 ((s.n : Int))), Cd.is (Value.pointer (some ⟨b, 0, none⟩)), Cd.is (Value.pointer (some ⟨b, 0, none⟩)), Cd.is (Value.pointer (some ⟨b, 4, none⟩)), Cd.is (Value.int .i64 ((s.n : Int))), Cd.is (Value.int .i64 (4 * (s.n : Int))), Cd.is (Value.pointer (some ⟨b, 0, none⟩)), Cd.is (Value.pointer (some ⟨b, 5, none⟩)), ⟨fun _ W => (W.cell? ⟨b, 5, none⟩ = some (.int .i64 (s.n : Int))), fun _ _ _ h q => h.2.1 q⟩, Cd.is (Value.pointer (some ⟨b, 0, none⟩)), Cd.is (Value.pointer (some ⟨b, 3, none⟩)), ⟨fun _ W => LA B b Wd (nlS s) W, fun _ _ _ h q => h.2.2 q⟩] (by kernel_rfl) (by decide) (by kernel_rfl) (NL.of HL1.out.drew) ⟨Below.refl B _, id, id⟩ (fun _ _ _ h k => ⟨h.1.trans k.1, fun q => k.2.1 (h.2.1 q), fun q => k.2.2 (h.2.2 q)⟩) ?steps ?behind
    case steps =>
      intro xv W hW a ha
      replace hW : Below B w3 W := ⟨hW.1.os, hW.1.tape, hW.1.output, hW.1.size, hW.1.block⟩
      simp only [fillA] at ha
      simp only [List.setIfInBounds_toArray, List.set_cons_succ, List.set_cons_zero, Nat.zero_add, Nat.reduceAdd] at ha
      subst ha
      refine ⟨fun hI hS hd K hK => ?s0, fun hI hS hd K hK => ?s1, fun hI hS hd K hK => ?s2, fun hI hS hd K hK => ?s3, fun hI hS hd K hK => ?s4, fun hI hS hd K hK => ?s5, fun hI hS hd K hK => ?s6, fun hI hS hd K hK => ?s7, fun hI hS hd K hK => ?s8, fun hI hS hd K hK => ?s9, fun hI hS hd K hK => ?s10, fun hI hS hd K hK => ?s11, fun hI hS hd K hK => ?s12, fun hI hS hd K hK => ?s13, fun hI hS hd K hK => ?s14, fun hI hS hd K hK => ?s15, fun hI hS hd K hK => ?s16, trivial⟩
      case s0 =>
        clear hd
        simp only [Act.put, List.setIfInBounds_toArray, List.set_cons_succ, List.set_cons_zero] at hK
        refine (if_pos (by rfl)).mpr ?_
        go_simp
        exact hK.out _ _ ⟨Below.refl B _, id, id⟩ (.inr id) rfl
      case s1 =>
        clear hd
        simp only [Act.put, List.setIfInBounds_toArray, List.set_cons_succ, List.set_cons_zero] at hK
        refine (if_pos (by rfl)).mpr ?_
        go_simp
        exact hK.out _ _ ⟨Below.refl B _, id, id⟩ (.inr id) rfl
      case s2 =>
        clear hd
        simp only [Act.put, List.setIfInBounds_toArray, List.set_cons_succ, List.set_cons_zero] at hK
        refine (if_pos (by rfl)).mpr ?_
        go_simp
        exact hK.out _ _ ⟨Below.refl B _, id, id⟩ (.inr id) rfl
      case s3 =>
        have hx2 : xv 2 = Value.pointer (some ⟨b, 0, none⟩) := hd 2 (by kernel_rfl)
        clear hd
        simp only [Act.put, List.setIfInBounds_toArray, List.set_cons_succ, List.set_cons_zero] at hK
        rw [hx2] at hK ⊢
        refine (if_pos (by rfl)).mpr ?_
        go_simp
        exact hK.out _ _ ⟨Below.refl B _, id, id⟩ (.inr id) rfl
      case s4 =>
        have hx3 : xv 3 = Value.pointer (some ⟨b, 0, none⟩) := hd 3 (by kernel_rfl)
        clear hd
        simp only [Act.put, List.setIfInBounds_toArray, List.set_cons_succ, List.set_cons_zero] at hK
        rw [hx3] at hK ⊢
        refine (if_pos (by rfl)).mpr ?_
        go_simp
        exact hK.out _ _ ⟨Below.refl B _, id, id⟩ (.inr id) rfl
      case s5 =>
        have hx4 : xv 4 = Value.pointer (some ⟨b, 4, none⟩) := hd 4 (by kernel_rfl)
        clear hd
        simp only [Act.put, List.setIfInBounds_toArray, List.set_cons_succ, List.set_cons_zero] at hK
        rw [hx4] at hK ⊢
        refine (if_pos (by rfl)).mpr ?_
        have hc4 := NL.c4 (hS (.inl (by kernel_rfl)))
        go_simp
        exact hK.out _ _ ⟨Below.refl B _, id, id⟩ (.inr id) rfl
      case s6 =>
        clear hd
        simp only [Act.put, List.setIfInBounds_toArray, List.set_cons_succ, List.set_cons_zero] at hK
        refine (if_pos (by rfl)).mpr ?_
        go_simp
        exact hK.out _ _ ⟨Below.refl B _, id, id⟩ (.inr id) rfl
      case s7 =>
        have hx6 : xv 6 = Value.pointer (some ⟨b, 0, none⟩) := hd 6 (by kernel_rfl)
        clear hd
        simp only [Act.put, List.setIfInBounds_toArray, List.set_cons_succ, List.set_cons_zero] at hK
        rw [hx6] at hK ⊢
        refine (if_pos (by rfl)).mpr ?_
        go_simp
        exact hK.out _ _ ⟨Below.refl B _, id, id⟩ (.inr id) rfl
      case s8 =>
        have hx7 : xv 7 = Value.pointer (some ⟨b, 0, none⟩) := hd 7 (by kernel_rfl)
        clear hd
        simp only [Act.put, List.setIfInBounds_toArray, List.set_cons_succ, List.set_cons_zero] at hK
        rw [hx7] at hK ⊢
        refine (if_pos (by rfl)).mpr ?_
        go_simp
        exact hK.out _ _ ⟨Below.refl B _, id, id⟩ (.inr id) rfl
      case s9 =>
        have hx8 : xv 8 = Value.pointer (some ⟨b, 4, none⟩) := hd 8 (by kernel_rfl)
        clear hd
        simp only [Act.put, List.setIfInBounds_toArray, List.set_cons_succ, List.set_cons_zero] at hK
        rw [hx8] at hK ⊢
        refine (if_pos (by rfl)).mpr ?_
        have hc4 := NL.c4 (hS (.inl (by kernel_rfl)))
        go_simp
        exact hK.out _ _ ⟨Below.refl B _, id, id⟩ (.inr id) rfl
      case s10 =>
        have hx9 : xv 9 = Value.int .i64 ((s.n : Int)) := hd 9 (by kernel_rfl)
        clear hd
        simp only [Act.put, List.setIfInBounds_toArray, List.set_cons_succ, List.set_cons_zero] at hK
        rw [hx9] at hK ⊢
        refine (if_pos (by rfl)).mpr ?_
        go_simp
        exact hK.out _ _ ⟨Below.refl B _, id, id⟩ (.inr id) rfl
      case s11 =>
        have hx0 : xv 0 = Value.pointer (some ⟨b, 0, none⟩) := hd 0 (by kernel_rfl)
        clear hd
        simp only [Act.put, List.setIfInBounds_toArray, List.set_cons_succ, List.set_cons_zero] at hK
        rw [hx0] at hK ⊢
        refine (if_pos (by rfl)).mpr ?_
        go_simp
        exact hK.out _ _ ⟨Below.refl B _, id, id⟩ (.inr id) rfl
      case s12 =>
        have hx11 : xv 11 = Value.pointer (some ⟨b, 0, none⟩) := hd 11 (by kernel_rfl)
        clear hd
        simp only [Act.put, List.setIfInBounds_toArray, List.set_cons_succ, List.set_cons_zero] at hK
        rw [hx11] at hK ⊢
        refine (if_pos (by rfl)).mpr ?_
        go_simp
        exact hK.out _ _ ⟨Below.refl B _, id, id⟩ (.inr id) rfl
      case s13 =>
        have hx5 : xv 5 = Value.int .i64 ((s.n : Int)) := hd 5 (by kernel_rfl)
        have hx12 : xv 12 = Value.pointer (some ⟨b, 5, none⟩) := hd 12 (by kernel_rfl)
        clear hd
        simp only [Act.put] at hK
        rw [hx5] at hK ⊢
        rw [hx12] at hK ⊢
        refine (if_pos (by rfl)).mpr ?_
        obtain ⟨t1, hL⟩ := hS (.inl (by kernel_rfl))
        have hc5 := hL.cells.2.2.2.2.2.1
        have hfz := hL.frz 5
        have hN5 := hL.set5 (s.n : Int)
        have HT := NL.put hL s.n
        have HFF := nl_keep (w := W) (B := B) (b := b) (Wd := Wd) (s := s)
        have HBB := hL.setB 5 (.int .i64 (s.n : Int))
        clear hL
        go_simp
        exact hK.out undef _ ⟨HBB, fun _ => hN5, HFF⟩ (.inr fun _ => HT) hN5
      case s14 =>
        have hx1 : xv 1 = Value.pointer (some ⟨b, 0, none⟩) := hd 1 (by kernel_rfl)
        clear hd
        simp only [Act.put, List.setIfInBounds_toArray, List.set_cons_succ, List.set_cons_zero] at hK
        rw [hx1] at hK ⊢
        refine (if_pos (by rfl)).mpr ?_
        go_simp
        exact hK.out _ _ ⟨Below.refl B _, id, id⟩ (.inr id) rfl
      case s15 =>
        have hx14 : xv 14 = Value.pointer (some ⟨b, 0, none⟩) := hd 14 (by kernel_rfl)
        clear hd
        simp only [Act.put, List.setIfInBounds_toArray, List.set_cons_succ, List.set_cons_zero] at hK
        rw [hx14] at hK ⊢
        refine (if_pos (by rfl)).mpr ?_
        go_simp
        exact hK.out _ _ ⟨Below.refl B _, id, id⟩ (.inr id) rfl
      case s16 =>
        have hx10 : xv 10 = Value.int .i64 (4 * (s.n : Int)) := hd 10 (by kernel_rfl)
        have hx15 : xv 15 = Value.pointer (some ⟨b, 3, none⟩) := hd 15 (by kernel_rfl)
        have hx13 : (W.cell? ⟨b, 5, none⟩ = some (.int .i64 (s.n : Int))) := hd 13 (by kernel_rfl)
        clear hd
        simp only [Act.put] at hK
        rw [hx10] at hK ⊢
        rw [hx15] at hK ⊢
        refine (if_pos (by rfl)).mpr ?_
        obtain ⟨t1, hL⟩ := hS (.inr rfl)
        have hc3 := hL.cells.2.2.2.1
        have hfz := hL.frz 3
        have HN := NL.fin hL hx13
        have HBB := hL.setB 3 (.int .i64 (4 * (s.n : Int)))
        have hc5' := hL.keep5 (.int .i64 (4 * (s.n : Int))) hx13
        clear hL
        go_simp
        exact hK.out undef _ ⟨HBB, fun _ => hc5', fun _ => HN⟩ (.inl trivial) HN
    case behind =>
      intro xv W hW hx a ha
      replace hW : Below B w3 W := ⟨hW.1.os, hW.1.tape, hW.1.output, hW.1.size, hW.1.block⟩
      simp only [fillA] at ha
      simp only [List.setIfInBounds_toArray, List.set_cons_succ, List.set_cons_zero, Nat.zero_add, Nat.reduceAdd] at ha
      subst ha
      have hL := hx 16 (by decide)
      have HL2 : Hid (LA B b Wd (nlS s) W) := hL
      have HB2 := Lib.hid (HB1.out.trans hW)
      clear hx hW hL
      go_wp2
      go_end0
      exact ⟨rfl, HL2.out, HB2.out⟩
  | true =>
    by_cases k2 : k = 2
    · subst k2
      have hs2 : wrS [32] 1 s = s2 := by have := HS2.out; simpa using this
      subst hs2
      clear HS2
      have HC := Lib.hid (write_any ⟨#[32]⟩ HL2.out ht (by have : (ByteArray.mk #[32]).size = 1 := rfl; omega) hc)
      clear hl hc ht q1
      go_wp2_with fail
      refine HC.out.mono ?_
      rintro e w3 ⟨rfl, hL3, hb3⟩
      have HL3 := Lib.hid hL3
      have HB3 := Lib.hid (HB2.out.trans hb3)
      clear hL3 hb3 HC
      go_wp2
      go_end0
      exact ⟨rfl, HL3.out, HB3.out⟩
    · have hs2 : s = s2 := by have := HS2.out; simpa [k2] using this
      subst hs2
      clear HS2
      have b2 : (k == 2) = false := by simpa using k2
      clear hl hc ht q1 hk k2
      go_wp2
      go_end0
      exact ⟨rfl, HL2.out, HB2.out⟩
end Go.Proofs.Ytpankfbdlakmcaa.Doc
