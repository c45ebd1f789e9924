/-
  Layer 7 (doc): Row: the library's Clone, IndexFunc and DeleteFunc at documents.
-/
import Derived.Test.YtpankfbdlakmcaaDocMake
import Derived.Lib.SliceRun
import Derived.Lib.LazyBuf
namespace Go.Proofs.Ytpankfbdlakmcaa.Doc
open Go.ChangeShapes Go.WideShapes Go.ChangeAt Go.RowKit Mem
set_option linter.unusedVariables false

/-- A node with the value of its parts, and its cells. -/
abbrev Nv : Type := Nd × Value
def ndC (p : Nv) : List Value := [.int .i64 p.1.k, .string p.1.x, p.2]
theorem ndC_len (p : Nv) : (ndC p).length = 3 := rfl
theorem gs_flat {w : World} {S : Nat → Prop} : ∀ (g : G) (A : Option Addr) (n C : Nat), Gs w S (.slice A n C) g → ∃ ps : List Nv, ps.map (·.1) = toL g ∧ (∀ p ∈ ps, Gs w S p.2 p.1.c) ∧ (n = 0 ∨ ∃ b off, A = some ⟨b, off, none⟩ ∧ S b ∧ ∀ j u, (ps.flatMap ndC)[j]? = some u → w.cell? ⟨b, off + j, none⟩ = some u)
  | .nil, A, n, C, ⟨_, _, e, _⟩ => by
    injection e with _ e2 _
    exact ⟨[], rfl, (fun p hp => by cases hp), .inl e2⟩
  | .cons k x c r, A, n, C, ⟨b, off, m, C', s, e, h1, h2, h3, hS, c0, c1, c2, hk, hr⟩ => by
    obtain ⟨ps, q1, q2, q3⟩ := gs_flat r (some ⟨b, off + 3, none⟩) m C' (hr _ (.inr rfl))
    injection e with e1 _ _
    refine ⟨(⟨k, x, c⟩, s) :: ps, by simp only [List.map_cons, toL, q1], (fun p hp => ?_), .inr ⟨b, off, e1, hS, fun j u hu => ?_⟩⟩
    · rcases List.mem_cons.1 hp with rfl | hp
      · exact hk
      · exact q2 p hp
    · rw [List.flatMap_cons] at hu
      match j, hu with
      | 0, hu => simp [ndC] at hu; rw [← hu]; exact c0
      | 1, hu => simp [ndC] at hu; rw [← hu]; exact c1
      | 2, hu => simp [ndC] at hu; rw [← hu]; exact c2
      | j + 3, hu =>
        have hu2 : (ps.flatMap ndC)[j]? = some u := by
          rw [List.getElem?_append_right (by rw [ndC_len]; omega), ndC_len] at hu
          simpa using hu
        rcases q3 with h0 | ⟨b2, off2, e2, _, hc⟩
        · have hps : ps = [] := by
            have := congrArg List.length q1
            rw [List.length_map, toL_len, h1, h0] at this
            exact List.eq_nil_of_length_eq_zero this
          rw [hps] at hu2; simp at hu2
        · injection e2 with e2
          injection e2 with e3 e4
          subst e3; subst e4
          have := hc j u hu2
          rwa [show off + 3 + j = off + (j + 3) by omega] at this
/-- A row of documents in block g. -/
def RowC (w : World) (g : Nat) (cur : List Nv) : Prop := (∃ cs, w.heap[g]? = some (Obj.cells cs 32 (0, 0))) ∧ ∀ i p, cur[i]? = some p → w.cell? ⟨g, i * 3, none⟩ = some (.int .i64 p.1.k) ∧ w.cell? ⟨g, i * 3 + 1, none⟩ = some (.string p.1.x) ∧ w.cell? ⟨g, i * 3 + 2, none⟩ = some p.2
theorem RowC.below {w w' : World} {g : Nat} {cur : List Nv} (h : RowC w g cur) (hb : Below w.heap.size w w') : RowC w' g cur := by
  obtain ⟨⟨cs, hc⟩, h2⟩ := h
  have e := hb.block g (lt_of hc)
  refine ⟨⟨cs, e.trans hc⟩, fun i p hp => ?_⟩
  obtain ⟨q0, q1, q2⟩ := h2 i p hp
  exact ⟨(World.cell?_of_block (a := ⟨g, i * 3, none⟩) e).trans q0, (World.cell?_of_block (a := ⟨g, i * 3 + 1, none⟩) e).trans q1, (World.cell?_of_block (a := ⟨g, i * 3 + 2, none⟩) e).trans q2⟩
theorem RowC.lt {w : World} {g : Nat} {cur : List Nv} (h : RowC w g cur) : g < w.heap.size := by obtain ⟨⟨_, h⟩, _⟩ := h; exact lt_of h
theorem RowC.of_own {w : World} {base n : Nat} {a : Option Addr} {C : Nat} {ps : List Nv} (ho : w.ownsRow base 32 3 (.slice a n C) n (ps.flatMap ndC)) (hne : Value.slice a n C ≠ .slice none 0 0) : ∃ g, a = some ⟨g, 0, none⟩ ∧ base ≤ g ∧ n ≤ C ∧ C ≤ maxLen ∧ RowC w g ps := by
  rcases ho.2 with ⟨e, _⟩ | ⟨g, cap, cur, e, h1, h2, h3, h4, h5, h6⟩
  · exact absurd e hne
  · injection e with e1 _ e3
    subst e3
    refine ⟨g, e1, h1, h3, h4, ⟨cur, h2⟩, fun i p hp => ?_⟩
    have key : ∀ j u, (ndC p)[j]? = some u → w.cell? ⟨g, i * 3 + j, none⟩ = some u := fun j u hu => by
      have := MemT.flat_at ndC_len ps i p hp j u hu
      rw [← h6, List.getElem?_take] at this
      split at this
      · simpa [World.cell?, h2] using this
      · cases this
    exact ⟨key 0 _ rfl, key 1 _ rfl, key 2 _ rfl⟩
/-- The row as a row of documents. -/
theorem RowC.gs {X : Nat → Prop} {w : World} {g : Nat} : ∀ (ps : List Nv) (off n C : Nat), ps.length = n → n ≤ C → C ≤ 9223372036854775807 → Dx X w g → (∀ i p, ps[i]? = some p → w.cell? ⟨g, off + i * 3, none⟩ = some (.int .i64 p.1.k) ∧ w.cell? ⟨g, off + i * 3 + 1, none⟩ = some (.string p.1.x) ∧ w.cell? ⟨g, off + i * 3 + 2, none⟩ = some p.2) → (∀ p ∈ ps, Gs w (Dx X w) p.2 p.1.c) →
    ∀ A, (n = 0 ∨ A = some ⟨g, off, none⟩) → Gs w (Dx X w) (.slice A n C) (ofL (ps.map (·.1)))
  | [], off, n, C, hl, hC, hm, hg, hc, hf, A, hA => by
    simp only [List.length_nil] at hl
    subst hl
    exact ⟨A, C, rfl, hm⟩
  | p :: ps, off, n, C, hl, hC, hm, hg, hc, hf, A, hA => by
    simp only [List.length_cons] at hl
    subst hl
    obtain ⟨C', rfl⟩ : ∃ C', C = C' + 1 := ⟨C - 1, by omega⟩
    have hA' : A = some ⟨g, off, none⟩ := hA.resolve_left (by omega)
    subst hA'
    obtain ⟨q0, q1, q2⟩ := hc 0 p rfl
    simp only [Nat.zero_mul, Nat.add_zero] at q0 q1 q2
    refine ⟨g, off, ps.length, C', p.2, rfl, by rw [ofL_len, List.length_map], by omega, hm, hg, q0, q1, q2, hf p (List.mem_cons_self ..), fun A' hA' => ?_⟩
    refine RowC.gs ps (off + 3) ps.length C' rfl (by omega) (by omega) hg (fun i q hq => ?_) (fun q hq => hf q (List.mem_cons_of_mem _ hq)) A' ?_
    · have := hc (i + 1) q hq
      rwa [show off + (i + 1) * 3 = off + 3 + i * 3 by omega] at this
    · rcases hA' with h | h
      · left
        have : (ofL (ps.map (·.1))).len = ps.length := by rw [ofL_len, List.length_map]
        rw [h] at this
        exact this.symm
      · exact .inr h
theorem RowC.set {w : World} {g : Nat} {cur : List Nv} (h : RowC w g cur) {i : Nat} (hi : i < cur.length) (p : Nv) : RowC (((w.setCell ⟨g, i * 3, none⟩ (.int .i64 p.1.k)).setCell ⟨g, i * 3 + 1, none⟩ (.string p.1.x)).setCell ⟨g, i * 3 + 2, none⟩ p.2) g (cur.set i p) := by
  obtain ⟨⟨cs, hc⟩, h2⟩ := h
  have s1 := set_at hc (i * 3) (.int .i64 p.1.k)
  have s2 := set_at s1 (i * 3 + 1) (.string p.1.x)
  have s3 := set_at s2 (i * 3 + 2) p.2
  refine ⟨⟨_, s3⟩, fun j q hq => ?_⟩
  have hcs : ∀ j q, cur[j]? = some q → cs[j * 3]? = some (.int .i64 q.1.k) ∧ cs[j * 3 + 1]? = some (.string q.1.x) ∧ cs[j * 3 + 2]? = some q.2 := fun j q hq => by
    have := h2 j q hq
    simpa [World.cell?, hc] using this
  have hcl : ∀ o, (((w.setCell ⟨g, i * 3, none⟩ (.int .i64 p.1.k)).setCell ⟨g, i * 3 + 1, none⟩ (.string p.1.x)).setCell ⟨g, i * 3 + 2, none⟩ p.2).cell? ⟨g, o, none⟩ = (((cs.setIfInBounds (i * 3) (.int .i64 p.1.k)).setIfInBounds (i * 3 + 1) (.string p.1.x)).setIfInBounds (i * 3 + 2) p.2)[o]? := fun o => by
    simp [World.cell?, s3]
  rw [hcl, hcl, hcl]
  obtain ⟨pi, hpi⟩ : ∃ pi, cur[i]? = some pi := ⟨_, List.getElem?_eq_getElem hi⟩
  obtain ⟨z0, z1, z2⟩ := hcs i pi hpi
  have l0 := (Array.getElem?_eq_some_iff.1 z0).1
  have l1 := (Array.getElem?_eq_some_iff.1 z1).1
  have l2 := (Array.getElem?_eq_some_iff.1 z2).1
  rw [List.getElem?_set] at hq
  by_cases hj : i = j
  · subst hj
    rw [if_pos rfl, if_pos hi] at hq
    cases hq
    refine ⟨?_, ?_, ?_⟩
    · simp [l0]
    · simp [l1]
    · simp [l2]
  · rw [if_neg hj] at hq
    obtain ⟨y0, y1, y2⟩ := hcs j q hq
    refine ⟨?_, ?_, ?_⟩
    · rw [Array.getElem?_setIfInBounds_ne (by omega), Array.getElem?_setIfInBounds_ne (by omega), Array.getElem?_setIfInBounds_ne (by omega)]; exact y0
    · rw [Array.getElem?_setIfInBounds_ne (by omega), Array.getElem?_setIfInBounds_ne (by omega), Array.getElem?_setIfInBounds_ne (by omega)]; exact y1
    · rw [Array.getElem?_setIfInBounds_ne (by omega), Array.getElem?_setIfInBounds_ne (by omega), Array.getElem?_setIfInBounds_ne (by omega)]; exact y2
theorem doc_info : (Try.prog.info? 32).map (fun i => (i.zero, i.size, i.bytes)) = some (some (.agg #[.int .i64 0, .string ⟨#[]⟩, .slice none 0 0]), 3, 48) := by kernel_rfl

/-! ### Clone -/
set_option maxHeartbeats 2000000 in
set_option maxRecDepth 100000 in
theorem clone_some (ad : Addr) (n C : Nat) (ps : List Nv) (w : World) (hl : ps.length = n) (hn : n ≤ 1000000) (hc : ∀ j u, (ps.flatMap ndC)[j]? = some u → w.cell? (ad.add j) = some u) (h1 : ∀ p ∈ ps, p.2.oneCell' = true) :
    Calls Try.prog 40 #[.slice (some ad) n C] w fun e w' => ∃ g c, e = .returned (.slice (some ⟨g, 0, none⟩) n c) ∧ w.heap.size ≤ g ∧ n ≤ c ∧ c ≤ maxLen ∧ RowC w' g ps ∧ Below w.heap.size w w' := by
  obtain ⟨i0, hi0, hz0, hz1, hz2⟩ := info_parts doc_info
  have q22 : ∀ (w : World) (a : Option Addr) (n c n' c' : Nat), (binOp .eql 30 (.slice a n c) (.slice none n' c')).run Try.prog w = .ok (.bool a.isNone) w := fun w a n c n' c' => Lib.run_eql_slice_nil w _ _ a n c n' c' Try.underlying30
  have HA : Hid (∀ j u, (ps.flatMap ndC)[j]? = some u → w.cell? (ad.add j) = some u) := hc
  have HL : Hid ((ps.flatMap ndC).length = n * 3) := by show _ = _; rw [MemT.flat_len ndC_len, hl]
  have H1 : Hid (∀ u ∈ ps.flatMap ndC, u.oneCell' = true) := fun u hu => by
    obtain ⟨p, hp, hu⟩ := List.mem_flatMap.1 hu
    simp only [ndC, List.mem_cons, List.not_mem_nil, or_false] at hu
    rcases hu with rfl | rfl | rfl
    · rfl
    · rfl
    · exact h1 p hp
  have HPS := Lib.hid hl
  clear hc h1 hl
  go_enter Try.func40, Try.ntmps40
  go_wp2_with (at_builtin; refine wpList_append_own _ rfl _ _ 30 rfl w.heap.size 32 i0 _ 3 48 Try.underlying30 hi0 hz0 hz1 hz2 rfl (by decide) _ _ _ rfl (World.ownsRow_made w #[] 0 (Nat.le_refl _) (Nat.zero_le _) (by simp)) ad n C (ps.flatMap ndC) rfl ?qc1 ?qc2 ?qc3 ?qc4 ?qc5 ?qc6 ?_)
  case qc1 => exact HL.out
  case qc2 =>
    intro j u hj
    exact Lib.cell?_alloc_some _ (HA.out j u hj)
  case qc3 => exact H1.out
  case qc4 => unfold maxLen; omega
  case qc5 => omega
  case qc6 => simp
  intro v' w1 hown hgrow hnil
  have hb : Below w.heap.size w w1 := ((Below.refl _ w).alloc (Nat.le_refl _) _).grown hgrow (by simp) (by intro k hk; simp [Value.ownBlock] at hk; omega)
  obtain ⟨a, c, hv⟩ : ∃ a c, v' = .slice a n c := by
    rcases hown.2 with ⟨e, h0⟩ | ⟨g, cap, cur, e, _⟩
    · exact ⟨none, 0, by rw [e, h0]⟩
    · exact ⟨_, _, e⟩
  subst hv
  obtain ⟨g, rfl, hg, hnc, hcm, hrow⟩ := RowC.of_own hown hnil
  have HR := Lib.hid hrow
  have HB := Lib.hid hb
  clear hown hgrow hnil hrow hb
  go_wp2
  go_ret
  exact ⟨g, c, rfl, hg, hnc, hcm, HR.out, HB.out⟩
theorem clone_nil (n C : Nat) (w : World) : Calls Try.prog 40 #[.slice none n C] w fun e w' => e = .returned (.slice none 0 0) ∧ w' = w := by
  have q22 : ∀ (w : World) (a : Option Addr) (n c n' c' : Nat), (binOp .eql 30 (.slice a n c) (.slice none n' c')).run Try.prog w = .ok (.bool a.isNone) w := fun w a n c n' c' => Lib.run_eql_slice_nil w _ _ a n c n' c' Try.underlying30
  go_enter Try.func40, Try.ntmps40
  go_wp2
  go_ret
  exact ⟨rfl, rfl⟩

/-! ### IndexFunc -/
def FN : Value := .func (.func 41) #[] #[]
theorem noth_is (p : Nv) {A : Option Addr} {n C : Nat} (h : p.2 = .slice A n C) (hn : n = p.1.c.len) : (p.1.k == 0 && n == 0) = noth p.1 := by subst hn; rfl
/-- What IndexFunc answers: the first place of nothing, or -1. -/
def IdxIs (ps : List Nv) (z : Int) : Prop := (z = -1 ∧ ∀ p ∈ ps, noth p.1 = false) ∨ ∃ (i : Nat), z = (i : Int) ∧ i < ps.length ∧ (∀ p ∈ ps.take i, noth p.1 = false) ∧ ∃ p, ps[i]? = some p ∧ noth p.1 = true
set_option maxHeartbeats 2000000 in
set_option maxRecDepth 100000 in
theorem idx_any {S : Nat → Prop} (g n C : Nat) (ps : List Nv) (w0 w : World) (hb0 : Below w0.heap.size w0 w) (hr : RowC w g ps) (hl : ps.length = n) (hn : n ≤ 1000000) (hC : n ≤ C) (hk : ∀ p ∈ ps, Gs w0 S p.2 p.1.c) :
    Calls Try.prog 50 #[.slice (some ⟨g, 0, none⟩) n C, .func (.func 41) #[] #[]] w fun e w' => (∃ z, e = .returned (.int .i64 z) ∧ IdxIs ps z) ∧ Below w.heap.size w w' := by
  have HR := Lib.hid hr
  have HK := Lib.hid hk
  have HL := Lib.hid hl
  clear hr hk hb0
  go_enter Try.func50, Try.ntmps50
  go_wp2
  go_loopw [8] (fun s8 wr => ∃ i : Nat, i ≤ n ∧ s8 = .int .i64 (i : Int) ∧ Hid (∀ p ∈ ps.take i, noth p.1 = false) ∧ Hid (Below w.heap.size w wr)) (fun s8 _ => n - (intOf s8).toNat)
  case atStart => exact ⟨0, Nat.zero_le _, rfl, (fun p hp => by simp at hp), Below.refl _ _⟩
  case round =>
    obtain ⟨i, hi, rfl, hpre, hbw⟩ := hrel
    by_cases hlt : i < n
    · obtain ⟨p, hp⟩ : ∃ p, ps[i]? = some p := ⟨_, List.getElem?_eq_getElem (by rw [HL.out]; exact hlt)⟩
      obtain ⟨q0, q1, q2⟩ := (HR.out.below hbw.out).2 i p hp
      obtain ⟨A, Ck, hs, _, _⟩ := (HK.out p (List.mem_of_getElem? hp)).slice
      have hno := noth_is p hs rfl
      obtain ⟨⟨k, x, c⟩, s⟩ := p
      dsimp only at hs q0 q1 q2 hno
      subst hs
      have hlt1 : (i : Int) < (n : Int) := by omega
      have hlt0 : (0 : Int) ≤ (i : Int) := by omega
      have HC := Lib.hid (nothing_any k x A c.len Ck wr)
      obtain ⟨nb, hnb⟩ : ∃ nb, (k == 0 && c.len == 0) = nb := ⟨_, rfl⟩
      have HNB : Hid (noth (⟨k, x, c⟩ : Nd) = nb) := by show _ = _; rw [← hno]; exact hnb
      rw [hnb] at HC
      generalize c.len = cl at *
      have HP := Lib.hid hp
      clear hno hnb hp
      cases nb with
      | true =>
        go_wp2_with fail
        refine HC.out.mono ?_
        rintro e w2 ⟨rfl, hb⟩
        have HB := Lib.hid (hbw.out.trans (hb.mono hbw.out.size))
        clear hb
        go_wp2
        go_ret
        exact ⟨⟨_, rfl, .inr ⟨i, rfl, by rw [HL.out]; exact hlt, hpre.out, _, HP.out, HNB.out⟩⟩, HB.out⟩
      | false =>
        go_wp2_with fail
        refine HC.out.mono ?_
        rintro e w2 ⟨rfl, hb⟩
        have HB := Lib.hid (hbw.out.trans (hb.mono hbw.out.size))
        clear hb
        go_wp2
        go_roundw
        case rel =>
          refine ⟨i + 1, by omega, by go_num, fun q hq => ?_, HB.out⟩
          rw [List.take_add_one, HP.out] at hq
          simp only [Option.toList, List.mem_append, List.mem_singleton] at hq
          rcases hq with hq | rfl
          · exact hpre.out q hq
          · exact HNB.out
        case measure => simp [intOf]; omega
    · obtain rfl : i = n := by omega
      have hlt1 : ¬ (i : Int) < (i : Int) := by omega
      go_wp2
      go_ret
      exact ⟨⟨_, rfl, .inl ⟨rfl, fun p hp => hpre.out p (by rw [List.take_of_length_le (by rw [HL.out]; exact Nat.le_refl _)]; exact hp)⟩⟩, hbw.out⟩
set_option maxRecDepth 100000 in
theorem idx_none (C : Nat) (A : Option Addr) (w : World) : Calls Try.prog 50 #[.slice A 0 C, .func (.func 41) #[] #[]] w fun e w' => e = .returned (.int .i64 (-1)) ∧ w' = w := by
  go_enter Try.func50, Try.ntmps50
  go_wp2
  go_loopw [8] (fun s8 wr => s8 = .int .i64 0 ∧ wr = w) (fun _ _ => 0)
  case atStart => exact ⟨rfl, rfl⟩
  case round =>
    obtain ⟨rfl, rfl⟩ := hrel
    go_wp2
    go_ret
    exact ⟨rfl, rfl⟩
end Go.Proofs.Ytpankfbdlakmcaa.Doc
