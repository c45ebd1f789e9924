/-
  Layer 8 (layout): add: one piece of a layout. Written by gen_layadd.py.
-/
import Derived.Test.YtpankfbdlakmcaaLayWrite
import Derived.Test.YtpankfbdlakmcaaMemPh
namespace Go.Proofs.Ytpankfbdlakmcaa.Doc
open Go.ChangeShapes Go.WideShapes Go.ChangeAt Go.RowKit Mem
set_option linter.unusedVariables false

/-- append as an operation, its run being known. -/
theorem op_app {P : Program} {o : Oper} {a : Act} {W W' : World} {K : Act → World → Prop} {Q : Exit → Act → World → Prop} {s x : Operand} {t1 t2 : TypeId} {vs vx v' : Value} (ho : o.op = .call { callee := .builtin .append, args := #[s, x], argTypes := #[t1, t2] })
    (hs : a.eval s = vs) (hx : a.eval x = vx) (hrun : (Builtin.append_ #[t1, t2] o.type #[vs, vx]).run P W = .ok v' W') (h : K (a.put o.dst v') W') : o.wp P a W K Q := by
  unfold Oper.wp execOp
  simp only [ho, resolve, invoke, builtin, Sem.run_bind, Sem.run_pure, Result.andThen_ok, List.map_toArray, List.map_cons, List.map_nil, hs, hx, hrun]
  exact h
theorem bool_info : (Try.prog.info? 4).map (fun i => (i.zero, i.size, i.bytes)) = some (some (.bool false), 1, 1) := by kernel_rfl

/-! ### The variable of a layout without its row of groups -/
def LBk (B b : Nat) (Wd : Int) (s : St) (w : World) : Prop := B ≤ b ∧ ∃ p v fv, w.heap[b]? = some (.cells (lyC p v Wd s.c s.n s.t fv) 65 (0, 0)) ∧ (p = .pointer none ∨ p = .pointer (some ⟨b, 0, none⟩)) ∧ w.ownsRowF B 5 1 v s.o.length (Lib.byteCells s.o)
section
variable {B b : Nat} {Wd : Int} {s : St} {w w' : World}
theorem LA.lb (h : LA B b Wd s w) : LBk B b Wd s w := by obtain ⟨hB, p, v, fv, h1, h2, h3, h4⟩ := h; exact ⟨hB, p, v, fv, h1, h2, h3⟩
theorem LBk.later (h : LBk B b Wd s w) (hb : Below w.heap.size w w') : LBk B b Wd s w' := by
  obtain ⟨hB, p, v, fv, h1, h2, h3⟩ := h
  refine ⟨hB, p, v, fv, (hb.block b (lt_of h1)).trans h1, h2, h3.1, ?_⟩
  rcases h3.2 with hn | ⟨g, cap, cur, fz, e, q1, q2, q3⟩
  · exact .inl hn
  · exact .inr ⟨g, cap, cur, fz, e, q1, (hb.block g (lt_of q2)).trans q2, q3⟩
theorem LBk.setB (h : LBk B b Wd s w) (j : Nat) (u : Value) : Below B w (w.setCell ⟨b, j, none⟩ u) := (Below.refl B w).setCell (p := ⟨b, j, none⟩) h.1 u
theorem LBk.c6 (h : LBk B b Wd s w) : ∃ fv, w.cell? ⟨b, 6, none⟩ = some fv := by obtain ⟨_, p, v, fv, h1, _⟩ := h; exact ⟨fv, (cl7 h1).2.2.2.2.2.2⟩
theorem LBk.frz (h : LBk B b Wd s w) (j : Nat) : w.frozen? ⟨b, j, none⟩ = false := by obtain ⟨_, p, v, fv, h1, _⟩ := h; exact Lib.frozen_of_heap h1 j
theorem own_form {E : TypeId} {n : Nat} {v : Value} {xs : List Value} (h : w.ownsRow B E 1 v (n + 1) xs) : ∃ g c, v = .slice (some ⟨g, 0, none⟩) (n + 1) c := by
  rcases h.2 with ⟨_, h0⟩ | ⟨g, cap, cur, hv, _⟩
  · omega
  · exact ⟨g, cap, hv⟩
/-- The row of groups is taken in. -/
theorem LBk.fin (h : LBk B b Wd s w) {f : List Bool} {u : Value} (ho : w.ownsRow B 4 1 u f.length (flC f)) : LA B b Wd { s with f := f } (w.setCell ⟨b, 6, none⟩ u) := by
  obtain ⟨hB, p, v, fv, h1, h2, h3⟩ := h
  exact ⟨hB, p, v, u, by rw [ly_set h1]; rfl, h2, ownF_kept h3 h1 (by decide) (set_grown w b 6 u), own_kept ho h1 (by decide) (set_grown w b 6 u)⟩
theorem app_bool {fv : Value} {q : Bool} {gn : Nat} (h : LA B b Wd s w) (hc6 : w.cell? ⟨b, 6, none⟩ = some fv) (hg : w.cell? ⟨gn, 0, none⟩ = some (.bool q)) (hl : s.f.length ≤ 1000000) :
    ∃ v' w', (Builtin.append_ #[63, 63] 63 #[fv, .slice (some ⟨gn, 0, none⟩) 1 1]).run Try.prog w = .ok v' w' ∧ w'.ownsRow B 4 1 v' (s.f.length + 1) (flC (q :: s.f)) ∧ LBk B b Wd s w' ∧ w'.cell? ⟨b, 6, none⟩ = some fv ∧ Below B w w' := by
  obtain ⟨i0, hi0, hz0, hz1, hz2⟩ := info_parts bool_info
  have hBw := h.size
  obtain ⟨hB, p, v, fv', h1, h2, h3, h4⟩ := h
  have e := (cl7 h1).2.2.2.2.2.2
  rw [hc6] at e
  cases e
  obtain ⟨v', w', hr, ho, hgr, _, _⟩ := run_append_own_at (P := Try.prog) w B 63 63 4 i0 _ 1 1 Try.underlying63 hi0 hz0 hz1 hz2 rfl (by decide) fv s.f.length (flC s.f) h4 ⟨gn, 0, none⟩ 1 1 [.bool q] rfl (by
    intro j u hj
    match j, hj with
    | 0, hj => simp at hj; subst hj; simpa [Addr.add] using hg) (by intro u hu; simp at hu; subst hu; rfl) (by unfold maxLen; omega) (by omega) hBw
  have hblk : w'.heap[b]? = some (.cells (lyC p v Wd s.c s.n s.t fv) 65 (0, 0)) := by
    rw [hgr.block b (lt_of h1) (fun e => ?_)]
    · exact h1
    · rcases h4.2 with ⟨rfl, _⟩ | ⟨g, cap, cur, rfl, _, hgg, _⟩
      · simp [Value.ownBlock] at e
      · simp only [Value.ownBlock, Option.some.injEq] at e
        subst e
        rw [h1] at hgg
        simp only [Option.some.injEq, Obj.cells.injEq] at hgg
        exact absurd hgg.2.1 (by decide)
  refine ⟨v', w', hr, by unfold flC at ho ⊢; simpa using ho, ⟨hB, p, v, fv, hblk, h2, ?_⟩, (cl7 hblk).2.2.2.2.2.2, (Below.refl B w).grown hgr hBw (fun k e => (h4.lt k e).1)⟩
  · refine h3.kept hgr ?_
    rcases h3.2 with ⟨rfl, _⟩ | ⟨g, cap, cur, fz, rfl, _, hg3, _⟩
    · exact .inl rfl
    · refine .inr fun e => ?_
      rcases h4.2 with ⟨rfl, _⟩ | ⟨g2, cap2, cur2, rfl, _, hg4, _⟩
      · simp [Value.ownBlock] at e
      · simp only [Value.ownBlock, Option.some.injEq] at e
        subst e
        rw [hg3] at hg4
        simp only [Option.some.injEq, Obj.cells.injEq] at hg4
        exact absurd hg4.2.1 (by decide)
end

/-! ### While a group is opened -/
/-- From block B on all may be turned. -/
def TB (B : Nat) (w w' : World) : Prop := B ≤ w.heap.size → Below B w w'
theorem TB.refl (B : Nat) (w : World) : TB B w w := fun _ => Below.refl B w
theorem TB.trans {B : Nat} {w w1 w2 : World} (h : TB B w w1) (k : TB B w1 w2) : TB B w w2 := fun hB => (h hB).trans (k (Nat.le_trans hB (h hB).size))
theorem TB.of {B : Nat} {w w' : World} (h : Below w.heap.size w w') : TB B w w' := fun hB => h.mono hB
theorem TB.ofB {B : Nat} {w w' : World} (h : Below B w w') : TB B w w' := fun _ => h
theorem _root_.Go.RowKit.Below.undr {B : Nat} {w w' : World} (h : Below B w.drew w') : Below B w w' := ⟨h.os, h.tape, h.output, h.size, h.block⟩
structure AG (B b : Nat) (Wd : Int) (s : St) (q : Bool) (fv : Value) (d : Nat → Bool) (x : Nat → Value) (W : World) : Prop where
  la : d 21 = false → LA B b Wd s W
  c6 : d 24 = false → W.cell? ⟨b, 6, none⟩ = some fv
  row : d 20 = true → d 21 = false → ∃ g, x 20 = .slice (some ⟨g, 0, none⟩) 1 1 ∧ W.cell? ⟨g, 0, none⟩ = some (.bool q)
  own : d 21 = true → d 24 = false → W.ownsRow B 4 1 (x 21) (s.f.length + 1) (flC (q :: s.f)) ∧ LBk B b Wd s W
  done : d 24 = true → LA B b Wd { s with f := q :: s.f } W
section
variable {B b : Nat} {Wd : Int} {s : St} {q : Bool} {fv : Value} {d d' : Nat → Bool} {x x' : Nat → Value} {W W' : World} {l : List Oper}
theorem cell_below {w w' : World} (h : Below w.heap.size w w') {a : Addr} {v : Value} (hc : w.cell? a = some v) : w'.cell? a = some v := by
  have hlt : a.block < w.heap.size := by
    rcases Nat.lt_or_ge a.block w.heap.size with h' | h'
    · exact h'
    · simp [World.cell?, Array.getElem?_eq_none h'] at hc
  exact (World.cell?_of_block (h.block a.block hlt)).trans hc
theorem AG.keep (d d' : Nat → Bool) (x x' : Nat → Value) (W W' : World) (h : ∀ j, [20, 21, 24].contains j = true → d' j = d j ∧ (d j = true → x' j = x j)) (hb : Below W.heap.size W W') (hg : AG B b Wd s q fv d x W) : AG B b Wd s q fv d' x' W' := by
  obtain ⟨e20, f20⟩ := h 20 (by decide)
  obtain ⟨e21, f21⟩ := h 21 (by decide)
  obtain ⟨e24, f24⟩ := h 24 (by decide)
  refine ⟨fun h1 => (hg.la (e21 ▸ h1)).later hb, fun h1 => cell_below hb (hg.c6 (e24 ▸ h1)), fun h1 h2 => ?_, fun h1 h2 => ?_, fun h1 => (hg.done (e24 ▸ h1)).later hb⟩
  · rw [e20] at h1
    rw [e21] at h2
    obtain ⟨g, q1, q2⟩ := hg.row h1 h2
    exact ⟨g, by rw [f20 h1, q1], cell_below hb q2⟩
  · rw [e21] at h1
    rw [e24] at h2
    obtain ⟨q1, q2⟩ := hg.own h1 h2
    exact ⟨by rw [f21 h1]; exact own_below' q1 hb, q2.later hb⟩
theorem AG.start {x : Nat → Value} (h : LA B b Wd s W) (hc : W.cell? ⟨b, 6, none⟩ = some fv) : AG B b Wd s q fv (fun _ => false) x W := ⟨fun _ => h, fun _ => hc, fun h => (by cases h), fun h => (by cases h), fun h => (by cases h)⟩
abbrev Cl (l : List Oper) (d : Nat → Bool) : Prop := ∀ k j, d k = true → waitsP l k j = true → d j = true
theorem no1 {i k : Nat} (hcl : Cl l d) (hd : d i = false) (h : waitsP l k i = true) : d k = false := by
  cases hk : d k with
  | false => rfl
  | true => rw [hcl k i hk h] at hd; cases hd
theorem no2 {i j k : Nat} (hcl : Cl l d) (hd : d i = false) (h1 : waitsP l j i = true) (h2 : waitsP l k j = true) : d k = false := no1 hcl (no1 hcl hd h1) h2
theorem no4 {i j j2 j3 k : Nat} (hcl : Cl l d) (hd : d i = false) (h1 : waitsP l j i = true) (h2 : waitsP l j2 j = true) (h3 : waitsP l j3 j2 = true) (h4 : waitsP l k j3 = true) : d k = false := no2 hcl (no2 hcl hd h1 h2) h3 h4
theorem no5 {i j j2 j3 j4 k : Nat} (hcl : Cl l d) (hd : d i = false) (h1 : waitsP l j i = true) (h2 : waitsP l j2 j = true) (h3 : waitsP l j3 j2 = true) (h4 : waitsP l j4 j3 = true) (h5 : waitsP l k j4 = true) : d k = false := no1 hcl (no4 hcl hd h1 h2 h3 h4) h5
theorem AG.new (hg : AG B b Wd s q fv d x W) (h20 : d 20 = false) (h21 : d 21 = false) (h24 : d 24 = false) : AG B b Wd s q fv (setD d 20) (updX x 20 (.slice (some ⟨W.heap.size, 0, none⟩) 1 1)) (W.alloc (.cells #[.bool q] 4)) := by
  have hb := (Below.refl W.heap.size W).alloc (Nat.le_refl _) (.cells #[.bool q] 4)
  refine ⟨fun _ => (hg.la h21).later hb, fun _ => cell_below hb (hg.c6 h24), fun _ _ => ⟨W.heap.size, by simp [updX], by rw [World.cell?_alloc_at _ _ _ _ rfl]; rfl⟩, fun h => ?_, fun h => ?_⟩
  · simp [setD, h21] at h
  · simp [setD, h24] at h
theorem AG.app (hg : AG B b Wd s q fv d x W) (h24 : d 24 = false) {v : Value} (ho : W'.ownsRow B 4 1 v (s.f.length + 1) (flC (q :: s.f))) (hl : LBk B b Wd s W') (hc : W'.cell? ⟨b, 6, none⟩ = some fv) : AG B b Wd s q fv (setD d 21) (updX x 21 v) W' := by
  refine ⟨fun h => ?_, fun _ => hc, fun _ h => ?_, fun _ _ => ⟨by simpa [updX] using ho, hl⟩, fun h => ?_⟩
  · simp [setD] at h
  · simp [setD] at h
  · simp [setD, h24] at h
theorem AG.fin (h21 : d 21 = true) {u : Value} {v : Value} (ho : W.ownsRow B 4 1 v (s.f.length + 1) (flC (q :: s.f))) (hl : LBk B b Wd s W) : AG B b Wd s q fv (setD d 24) (updX x 24 u) (W.setCell ⟨b, 6, none⟩ v) := by
  refine ⟨fun h => ?_, fun h => ?_, fun _ h => ?_, fun _ h => ?_, fun _ => hl.fin (f := q :: s.f) ho⟩
  · simp [setD, h21] at h
  · simp [setD] at h
  · simp [setD, h21] at h
  · simp [setD] at h
end

/-! ### While a group is closed -/
structure FR (B b : Nat) (Wd : Int) (s : St) (g n C : Nat) (q : Bool) (r : List Bool) (w : World) : Prop where
  la : LA B b Wd s w
  c6 : w.cell? ⟨b, 6, none⟩ = some (.slice (some ⟨g, 0, none⟩) n C)
  f : s.f = q :: r
theorem FR.drew {B b : Nat} {Wd : Int} {s : St} {g n C : Nat} {q : Bool} {r : List Bool} {w : World} (h : FR B b Wd s g n C q r w) : FR B b Wd s g n C q r w.drew := ⟨h.la.drew, h.c6, h.f⟩
theorem FR.pop {B b : Nat} {Wd : Int} {s : St} {g n C m : Nat} {q : Bool} {r : List Bool} {w : World} (h : FR B b Wd s g n C q r w) (hm : r.length = m) : LA B b Wd { s with f := r } (w.setCell ⟨b, 6, none⟩ (.slice (some ⟨g, 0, none⟩) m C)) := by
  obtain ⟨⟨hB, p, v, fv, h1, h2, h3, h4⟩, h6, hf⟩ := h
  have e := (cl7 h1).2.2.2.2.2.2
  rw [h6] at e
  cases e
  rw [hf] at h4
  refine LBk.fin (s := s) ⟨hB, p, v, _, h1, h2, h3⟩ (f := r) ⟨by simp [flC], .inr ?_⟩
  rcases h4.2 with ⟨hn, _⟩ | ⟨g', cap, cur, hv, k1, k2, k3, k4, k5, k6⟩
  · cases hn
  · injection hv with e1 e2 e3
    injection e1 with e1
    injection e1 with e1
    subst e1; subst e2; subst e3
    simp only [List.length_cons] at k3 k6
    refine ⟨g, C, cur, by rw [hm], k1, k2, by omega, k4, k5, ?_⟩
    have e := congrArg (List.take (r.length * 1)) k6
    rw [List.take_take] at e
    rw [show min (r.length * 1) ((r.length + 1) * 1) = r.length * 1 by omega] at e
    rw [e]
    unfold flC
    simp

set_option maxHeartbeats 8000000 in
set_option maxRecDepth 100000 in
theorem add_open {B b : Nat} {Wd : Int} {s : St} {w : World} (x : ByteArray) (need : Int) (hn0 : 0 ≤ need) (hn1 : need ≤ 4611686018427387904) (h : LA B b Wd s w) (hc : s.c ≤ 1000000000) (hf : s.f.length ≤ 1000000) :
    Calls Try.prog 30 #[.pointer (some ⟨b, 0, none⟩), .agg #[.int .i64 7, .string x], .int .i64 need] w fun e w' => e = .returned (.tuple #[]) ∧ LA B b Wd { s with f := (s.fl || decide ((s.c : Int) + need ≤ Wd)) :: s.f } w' ∧ Below B w w' := by
  have hb := (Below.refl w.heap.size w).alloc (Nat.le_refl _) (.cells #[.int .i64 7, .string x] 45)
  obtain ⟨q0, q1⟩ := cl2 (heap_alloc_new w (.cells #[.int .i64 7, .string x] 45))
  have HL1 := Lib.hid (h.later hb)
  have HB1 := Lib.hid (hb.mono h.size)
  obtain ⟨fv, hfv⟩ := HL1.out.cells.2.2.2.2.2.2
  have HC6 : Hid ((w.alloc (.cells #[.int .i64 7, .string x] 45)).cell? ⟨b, 6, none⟩ = some fv) := hfv
  have HC3 : Hid (∀ W, LA B b Wd s W → W.cell? ⟨b, 3, none⟩ = some (.int .i64 (s.c : Int))) := fun W hW => hW.cells.2.2.2.1
  have hwr : IntKind.i64.wrap ((s.c : Int) + need) = (s.c : Int) + need := by rw [IntKind.wrap_i64]; omega
  have HLN := Lib.hid hf
  obtain ⟨w1, hw1⟩ : ∃ w1, w.alloc (.cells #[.int .i64 7, .string x] 45) = w1 := ⟨_, rfl⟩
  have HW1 := Lib.hid hw1
  rw [hw1] at HL1 HB1 HC6
  obtain ⟨fl, hfl⟩ : ∃ fl, s.fl = fl := ⟨_, rfl⟩
  have HFL := Lib.hid hfl
  rw [hfl]
  generalize hcI : (s.c : Int) = cI at *
  obtain ⟨qd, hqd⟩ : ∃ qd, decide (cI + need ≤ Wd) = qd := ⟨_, rfl⟩
  rw [hqd]
  obtain ⟨q, hq⟩ : ∃ q, (fl || qd) = q := ⟨_, rfl⟩
  rw [hq]
  have HQ := Lib.hid hqd
  have HQ2 := Lib.hid hq
  clear hb hw1 hfl hqd hq hcI hfv h hf hc hn0 hn1
  go_enter Try.func30, Try.ntmps30
  go_wp2
  rw [HW1.out]
  cases fl with
  | true =>
    obtain rfl : true = q := by simpa using HQ2.out
    refine region_ph [20, 21, 24] (AG B b Wd s true fv) (TB B) [Cd.is (Value.pointer (some ⟨b, 0, none⟩)), Cd.is (Value.pointer (some ⟨b, 0, none⟩)), Cd.is (Value.pointer (some ⟨b, 0, none⟩)), Cd.is (Value.pointer (some ⟨b, 6, none⟩)), Cd.is (fv), Cd.is (Value.pointer (some ⟨b, 0, none⟩)), Cd.is (Value.bool true), Cd.is (Value.bool true), Cd.any, Cd.any, Cd.any, Cd.any, Cd.any, Cd.any, Cd.any, Cd.any, Cd.any, Cd.any, Cd.any, Cd.is (Value.bool true), Cd.any, Cd.any, Cd.is (Value.pointer (some ⟨b, 0, none⟩)), Cd.is (Value.pointer (some ⟨b, 6, none⟩)), Cd.any] (by kernel_rfl) (by decide) (by kernel_rfl) (TB.refl B _) (fun _ _ _ h k => h.trans k) (fun _ _ h => TB.of h) AG.keep ?start ?steps ?behind
    case start => exact fun x => AG.start HL1.out.drew HC6.out
    case steps =>
      intro xv W hW a ha
      simp only [fillA] at ha
      simp only [List.setIfInBounds_toArray, List.set_cons_succ, List.set_cons_zero, Nat.zero_add, Nat.reduceAdd] at ha
      subst ha
      refine ⟨fun dn hdi hdw hcl hphi hg K hK => ?s0, fun dn hdi hdw hcl hphi hg K hK => ?s1, fun dn hdi hdw hcl hphi hg K hK => ?s2, fun dn hdi hdw hcl hphi hg K hK => ?s3, fun dn hdi hdw hcl hphi hg K hK => ?s4, fun dn hdi hdw hcl hphi hg K hK => ?s5, fun dn hdi hdw hcl hphi hg K hK => ?s6, fun dn hdi hdw hcl hphi hg K hK => ?s7, fun dn hdi hdw hcl hphi hg K hK => ?s8, fun dn hdi hdw hcl hphi hg K hK => ?s9, fun dn hdi hdw hcl hphi hg K hK => ?s10, fun dn hdi hdw hcl hphi hg K hK => ?s11, fun dn hdi hdw hcl hphi hg K hK => ?s12, fun dn hdi hdw hcl hphi hg K hK => ?s13, fun dn hdi hdw hcl hphi hg K hK => ?s14, fun dn hdi hdw hcl hphi hg K hK => ?s15, fun dn hdi hdw hcl hphi hg K hK => ?s16, fun dn hdi hdw hcl hphi hg K hK => ?s17, fun dn hdi hdw hcl hphi hg K hK => ?s18, fun dn hdi hdw hcl hphi hg K hK => ?s19, fun dn hdi hdw hcl hphi hg K hK => ?s20, fun dn hdi hdw hcl hphi hg K hK => ?s21, fun dn hdi hdw hcl hphi hg K hK => ?s22, fun dn hdi hdw hcl hphi hg K hK => ?s23, fun dn hdi hdw hcl hphi hg K hK => ?s24, trivial⟩
      case s0 =>
        clear hphi hdw
        simp only [Act.put, List.setIfInBounds_toArray, List.set_cons_succ, List.set_cons_zero] at hK
        refine (if_pos (by rfl)).mpr ?_
        go_simp
        exact hK.out _ _ (Below.refl _ _) rfl
      case s1 =>
        clear hphi hdw
        simp only [Act.put, List.setIfInBounds_toArray, List.set_cons_succ, List.set_cons_zero] at hK
        refine (if_pos (by rfl)).mpr ?_
        go_simp
        exact hK.out _ _ (Below.refl _ _) rfl
      case s2 =>
        have hx1 : xv 1 = Value.pointer (some ⟨b, 0, none⟩) := hphi 1 (hdw 1 (by kernel_rfl))
        clear hphi hdw
        simp only [Act.put, List.setIfInBounds_toArray, List.set_cons_succ, List.set_cons_zero] at hK
        rw [hx1] at hK ⊢
        refine (if_pos (by rfl)).mpr ?_
        go_simp
        exact hK.out _ _ (Below.refl _ _) rfl
      case s3 =>
        have hx2 : xv 2 = Value.pointer (some ⟨b, 0, none⟩) := hphi 2 (hdw 2 (by kernel_rfl))
        clear hphi hdw
        simp only [Act.put, List.setIfInBounds_toArray, List.set_cons_succ, List.set_cons_zero] at hK
        rw [hx2] at hK ⊢
        refine (if_pos (by rfl)).mpr ?_
        go_simp
        exact hK.out _ _ (Below.refl _ _) rfl
      case s4 =>
        have hx3 : xv 3 = Value.pointer (some ⟨b, 6, none⟩) := hphi 3 (hdw 3 (by kernel_rfl))
        clear hphi hdw
        simp only [Act.put, List.setIfInBounds_toArray, List.set_cons_succ, List.set_cons_zero] at hK
        rw [hx3] at hK ⊢
        refine (if_pos (by rfl)).mpr ?_
        have hc6 := hg.c6 (no1 hcl hdi (by kernel_rfl))
        go_simp
        exact hK.out _ _ (Below.refl _ _) rfl
      case s5 =>
        clear hphi hdw
        simp only [Act.put, List.setIfInBounds_toArray, List.set_cons_succ, List.set_cons_zero] at hK
        refine (if_pos (by rfl)).mpr ?_
        go_simp
        exact hK.out _ _ (Below.refl _ _) rfl
      case s6 =>
        have hx5 : xv 5 = Value.pointer (some ⟨b, 0, none⟩) := hphi 5 (hdw 5 (by kernel_rfl))
        clear hphi hdw
        simp only [Act.put, List.setIfInBounds_toArray, List.set_cons_succ, List.set_cons_zero] at hK
        rw [hx5] at hK ⊢
        refine (if_pos (by rfl)).mpr ?_
        have hL := hg.la (no2 (j := 7) hcl hdi (by kernel_rfl) (by kernel_rfl))
        go_simp
        refine (isFlat_any hL).mono ?_
        rintro e W' ⟨rfl, hb⟩
        rw [HFL.out]
        exact hK.out _ _ hb rfl
      case s7 =>
        have hx6 : xv 6 = Value.bool true := hphi 6 (hdw 6 (by kernel_rfl))
        clear hphi hdw
        simp only [Act.put, List.setIfInBounds_toArray, List.set_cons_succ, List.set_cons_zero] at hK
        rw [hx6] at hK ⊢
        refine (if_pos (by rfl)).mpr ?_
        go_simp
        exact hK.out _ _ (Below.refl _ _) rfl
      case s8 =>
        have hx7 : xv 7 = Value.bool true := hphi 7 (hdw 7 (by kernel_rfl))
        clear hphi hdw
        simp only [Act.put, List.setIfInBounds_toArray, List.set_cons_succ, List.set_cons_zero] at hK
        rw [hx7] at hK ⊢
        refine (if_neg (ne_true_of_eq_false (by rfl))).mpr ?_
        exact hK.out _ _ (Below.refl _ _) trivial
      case s9 =>
        have hx7 : xv 7 = Value.bool true := hphi 7 (hdw 7 (by kernel_rfl))
        clear hphi hdw
        simp only [Act.put, List.setIfInBounds_toArray, List.set_cons_succ, List.set_cons_zero] at hK
        rw [hx7] at hK ⊢
        refine (if_neg (ne_true_of_eq_false (by rfl))).mpr ?_
        exact hK.out _ _ (Below.refl _ _) trivial
      case s10 =>
        have hx7 : xv 7 = Value.bool true := hphi 7 (hdw 7 (by kernel_rfl))
        clear hphi hdw
        simp only [Act.put, List.setIfInBounds_toArray, List.set_cons_succ, List.set_cons_zero] at hK
        rw [hx7] at hK ⊢
        refine (if_neg (ne_true_of_eq_false (by rfl))).mpr ?_
        exact hK.out _ _ (Below.refl _ _) trivial
      case s11 =>
        have hx7 : xv 7 = Value.bool true := hphi 7 (hdw 7 (by kernel_rfl))
        clear hphi hdw
        simp only [Act.put, List.setIfInBounds_toArray, List.set_cons_succ, List.set_cons_zero] at hK
        rw [hx7] at hK ⊢
        refine (if_neg (ne_true_of_eq_false (by rfl))).mpr ?_
        exact hK.out _ _ (Below.refl _ _) trivial
      case s12 =>
        have hx7 : xv 7 = Value.bool true := hphi 7 (hdw 7 (by kernel_rfl))
        clear hphi hdw
        simp only [Act.put, List.setIfInBounds_toArray, List.set_cons_succ, List.set_cons_zero] at hK
        rw [hx7] at hK ⊢
        refine (if_neg (ne_true_of_eq_false (by rfl))).mpr ?_
        exact hK.out _ _ (Below.refl _ _) trivial
      case s13 =>
        have hx7 : xv 7 = Value.bool true := hphi 7 (hdw 7 (by kernel_rfl))
        clear hphi hdw
        simp only [Act.put, List.setIfInBounds_toArray, List.set_cons_succ, List.set_cons_zero] at hK
        rw [hx7] at hK ⊢
        refine (if_neg (ne_true_of_eq_false (by rfl))).mpr ?_
        exact hK.out _ _ (Below.refl _ _) trivial
      case s14 =>
        have hx7 : xv 7 = Value.bool true := hphi 7 (hdw 7 (by kernel_rfl))
        clear hphi hdw
        simp only [Act.put, List.setIfInBounds_toArray, List.set_cons_succ, List.set_cons_zero] at hK
        rw [hx7] at hK ⊢
        refine (if_neg (ne_true_of_eq_false (by rfl))).mpr ?_
        exact hK.out _ _ (Below.refl _ _) trivial
      case s15 =>
        have hx7 : xv 7 = Value.bool true := hphi 7 (hdw 7 (by kernel_rfl))
        clear hphi hdw
        simp only [Act.put, List.setIfInBounds_toArray, List.set_cons_succ, List.set_cons_zero] at hK
        rw [hx7] at hK ⊢
        refine (if_neg (ne_true_of_eq_false (by rfl))).mpr ?_
        exact hK.out _ _ (Below.refl _ _) trivial
      case s16 =>
        have hx7 : xv 7 = Value.bool true := hphi 7 (hdw 7 (by kernel_rfl))
        clear hphi hdw
        simp only [Act.put, List.setIfInBounds_toArray, List.set_cons_succ, List.set_cons_zero] at hK
        rw [hx7] at hK ⊢
        refine (if_neg (ne_true_of_eq_false (by rfl))).mpr ?_
        exact hK.out _ _ (Below.refl _ _) trivial
      case s17 =>
        have hx7 : xv 7 = Value.bool true := hphi 7 (hdw 7 (by kernel_rfl))
        clear hphi hdw
        simp only [Act.put, List.setIfInBounds_toArray, List.set_cons_succ, List.set_cons_zero] at hK
        rw [hx7] at hK ⊢
        refine (if_neg (ne_true_of_eq_false (by rfl))).mpr ?_
        exact hK.out _ _ (Below.refl _ _) trivial
      case s18 =>
        have hx7 : xv 7 = Value.bool true := hphi 7 (hdw 7 (by kernel_rfl))
        clear hphi hdw
        simp only [Act.put, List.setIfInBounds_toArray, List.set_cons_succ, List.set_cons_zero] at hK
        rw [hx7] at hK ⊢
        refine (if_neg (ne_true_of_eq_false (by rfl))).mpr ?_
        exact hK.out _ _ (Below.refl _ _) trivial
      case s19 =>
        have hx7 : xv 7 = Value.bool true := hphi 7 (hdw 7 (by kernel_rfl))
        clear hphi hdw
        simp only [Act.put, List.setIfInBounds_toArray, List.set_cons_succ, List.set_cons_zero] at hK
        rw [hx7] at hK ⊢
        refine (if_pos (by rfl)).mpr ?_
        go_simp
        exact hK.out _ _ (Below.refl _ _) rfl
      case s20 =>
        have hx19 : xv 19 = Value.bool true := hphi 19 (hdw 19 (by kernel_rfl))
        clear hphi hdw
        simp only [Act.put, List.setIfInBounds_toArray, List.set_cons_succ, List.set_cons_zero] at hK
        rw [hx19] at hK ⊢
        refine (if_pos (by rfl)).mpr ?_
        go_simp
        exact hK.out _ _ ⟨TB.of ((Below.refl W.heap.size W).alloc (Nat.le_refl _) _), hg.new hdi (no1 hcl hdi (by kernel_rfl)) (no1 hcl hdi (by kernel_rfl))⟩ trivial
      case s21 =>
        have hx4 : xv 4 = fv := hphi 4 (hdw 4 (by kernel_rfl))
        simp only [Act.put, List.setIfInBounds_toArray, List.set_cons_succ, List.set_cons_zero] at hK
        rw [hx4] at hK ⊢
        refine (if_pos (by rfl)).mpr ?_
        obtain ⟨gn, hx20, hgc⟩ := hg.row (hdw 20 (by kernel_rfl)) hdi
        obtain ⟨v', W', hr, ho, hlb, hc6', hbw⟩ := app_bool (hg.la hdi) (hg.c6 (no1 hcl hdi (by kernel_rfl))) hgc HLN.out
        have hT := TB.ofB hbw
        have hgn := hg.app (no1 hcl hdi (by kernel_rfl)) ho hlb hc6'
        clear hphi hdw hg hcl
        refine op_app rfl rfl hx20 hr ?_
        exact hK.out v' W' ⟨hT, hgn⟩ trivial
      case s22 =>
        have hx0 : xv 0 = Value.pointer (some ⟨b, 0, none⟩) := hphi 0 (hdw 0 (by kernel_rfl))
        clear hphi hdw
        simp only [Act.put, List.setIfInBounds_toArray, List.set_cons_succ, List.set_cons_zero] at hK
        rw [hx0] at hK ⊢
        refine (if_pos (by rfl)).mpr ?_
        go_simp
        exact hK.out _ _ (Below.refl _ _) rfl
      case s23 =>
        have hx22 : xv 22 = Value.pointer (some ⟨b, 0, none⟩) := hphi 22 (hdw 22 (by kernel_rfl))
        clear hphi hdw
        simp only [Act.put, List.setIfInBounds_toArray, List.set_cons_succ, List.set_cons_zero] at hK
        rw [hx22] at hK ⊢
        refine (if_pos (by rfl)).mpr ?_
        go_simp
        exact hK.out _ _ (Below.refl _ _) rfl
      case s24 =>
        have hx23 : xv 23 = Value.pointer (some ⟨b, 6, none⟩) := hphi 23 (hdw 23 (by kernel_rfl))
        simp only [Act.put] at hK
        rw [hx23] at hK ⊢
        refine (if_pos (by rfl)).mpr ?_
        obtain ⟨ho, hlb⟩ := hg.own (hdw 21 (by kernel_rfl)) hdi
        obtain ⟨g', c', hv⟩ := own_form ho
        have hgf := AG.fin (x := xv) (u := undef) (fv := fv) (hdw 21 (by kernel_rfl)) ho hlb
        have hbt := TB.ofB (hlb.setB 6 (xv 21))
        have hc6 := hg.c6 hdi
        have hfz := hlb.frz 6
        rw [hv] at hK hgf hbt ⊢
        clear hphi hdw hg hcl ho hlb hv
        go_simp
        exact hK.out undef _ ⟨hbt, hgf⟩ trivial
    case behind =>
      intro dn xv W hW hall hx hg a ha
      simp only [fillA] at ha
      simp only [List.setIfInBounds_toArray, List.set_cons_succ, List.set_cons_zero, Nat.zero_add, Nat.reduceAdd] at ha
      subst ha
      have HL2 := Lib.hid (hg.done (hall 24 (by decide)))
      have HB2 := Lib.hid (HB1.out.trans (hW HL1.out.size).undr)
      clear hx hW hg hall
      go_wp2
      go_end0
      exact ⟨rfl, HL2.out, HB2.out⟩
  | false =>
    obtain rfl : qd = q := by simpa using HQ2.out
    refine region_ph [20, 21, 24] (AG B b Wd s qd fv) (TB B) [Cd.is (Value.pointer (some ⟨b, 0, none⟩)), Cd.is (Value.pointer (some ⟨b, 0, none⟩)), Cd.is (Value.pointer (some ⟨b, 0, none⟩)), Cd.is (Value.pointer (some ⟨b, 6, none⟩)), Cd.is (fv), Cd.is (Value.pointer (some ⟨b, 0, none⟩)), Cd.is (Value.bool false), Cd.is (Value.bool false), Cd.is (Value.pointer (some ⟨b, 0, none⟩)), Cd.is (Value.pointer (some ⟨b, 0, none⟩)), Cd.is (Value.pointer (some ⟨b, 3, none⟩)), Cd.is (Value.int .i64 (cI)), Cd.is (Value.int .i64 (need)), Cd.is (Value.int .i64 (cI + need)), Cd.is (Value.pointer (some ⟨b, 0, none⟩)), Cd.is (Value.pointer (some ⟨b, 0, none⟩)), Cd.is (Value.pointer (some ⟨b, 2, none⟩)), Cd.is (Value.int .i64 (Wd)), Cd.is (Value.bool qd), Cd.is (Value.bool qd), Cd.any, Cd.any, Cd.is (Value.pointer (some ⟨b, 0, none⟩)), Cd.is (Value.pointer (some ⟨b, 6, none⟩)), Cd.any] (by kernel_rfl) (by decide) (by kernel_rfl) (TB.refl B _) (fun _ _ _ h k => h.trans k) (fun _ _ h => TB.of h) AG.keep ?start ?steps ?behind
    case start => exact fun x => AG.start HL1.out.drew HC6.out
    case steps =>
      intro xv W hW a ha
      simp only [fillA] at ha
      simp only [List.setIfInBounds_toArray, List.set_cons_succ, List.set_cons_zero, Nat.zero_add, Nat.reduceAdd] at ha
      subst ha
      refine ⟨fun dn hdi hdw hcl hphi hg K hK => ?s0, fun dn hdi hdw hcl hphi hg K hK => ?s1, fun dn hdi hdw hcl hphi hg K hK => ?s2, fun dn hdi hdw hcl hphi hg K hK => ?s3, fun dn hdi hdw hcl hphi hg K hK => ?s4, fun dn hdi hdw hcl hphi hg K hK => ?s5, fun dn hdi hdw hcl hphi hg K hK => ?s6, fun dn hdi hdw hcl hphi hg K hK => ?s7, fun dn hdi hdw hcl hphi hg K hK => ?s8, fun dn hdi hdw hcl hphi hg K hK => ?s9, fun dn hdi hdw hcl hphi hg K hK => ?s10, fun dn hdi hdw hcl hphi hg K hK => ?s11, fun dn hdi hdw hcl hphi hg K hK => ?s12, fun dn hdi hdw hcl hphi hg K hK => ?s13, fun dn hdi hdw hcl hphi hg K hK => ?s14, fun dn hdi hdw hcl hphi hg K hK => ?s15, fun dn hdi hdw hcl hphi hg K hK => ?s16, fun dn hdi hdw hcl hphi hg K hK => ?s17, fun dn hdi hdw hcl hphi hg K hK => ?s18, fun dn hdi hdw hcl hphi hg K hK => ?s19, fun dn hdi hdw hcl hphi hg K hK => ?s20, fun dn hdi hdw hcl hphi hg K hK => ?s21, fun dn hdi hdw hcl hphi hg K hK => ?s22, fun dn hdi hdw hcl hphi hg K hK => ?s23, fun dn hdi hdw hcl hphi hg K hK => ?s24, trivial⟩
      case s0 =>
        clear hphi hdw
        simp only [Act.put, List.setIfInBounds_toArray, List.set_cons_succ, List.set_cons_zero] at hK
        refine (if_pos (by rfl)).mpr ?_
        go_simp
        exact hK.out _ _ (Below.refl _ _) rfl
      case s1 =>
        clear hphi hdw
        simp only [Act.put, List.setIfInBounds_toArray, List.set_cons_succ, List.set_cons_zero] at hK
        refine (if_pos (by rfl)).mpr ?_
        go_simp
        exact hK.out _ _ (Below.refl _ _) rfl
      case s2 =>
        have hx1 : xv 1 = Value.pointer (some ⟨b, 0, none⟩) := hphi 1 (hdw 1 (by kernel_rfl))
        clear hphi hdw
        simp only [Act.put, List.setIfInBounds_toArray, List.set_cons_succ, List.set_cons_zero] at hK
        rw [hx1] at hK ⊢
        refine (if_pos (by rfl)).mpr ?_
        go_simp
        exact hK.out _ _ (Below.refl _ _) rfl
      case s3 =>
        have hx2 : xv 2 = Value.pointer (some ⟨b, 0, none⟩) := hphi 2 (hdw 2 (by kernel_rfl))
        clear hphi hdw
        simp only [Act.put, List.setIfInBounds_toArray, List.set_cons_succ, List.set_cons_zero] at hK
        rw [hx2] at hK ⊢
        refine (if_pos (by rfl)).mpr ?_
        go_simp
        exact hK.out _ _ (Below.refl _ _) rfl
      case s4 =>
        have hx3 : xv 3 = Value.pointer (some ⟨b, 6, none⟩) := hphi 3 (hdw 3 (by kernel_rfl))
        clear hphi hdw
        simp only [Act.put, List.setIfInBounds_toArray, List.set_cons_succ, List.set_cons_zero] at hK
        rw [hx3] at hK ⊢
        refine (if_pos (by rfl)).mpr ?_
        have hc6 := hg.c6 (no1 hcl hdi (by kernel_rfl))
        go_simp
        exact hK.out _ _ (Below.refl _ _) rfl
      case s5 =>
        clear hphi hdw
        simp only [Act.put, List.setIfInBounds_toArray, List.set_cons_succ, List.set_cons_zero] at hK
        refine (if_pos (by rfl)).mpr ?_
        go_simp
        exact hK.out _ _ (Below.refl _ _) rfl
      case s6 =>
        have hx5 : xv 5 = Value.pointer (some ⟨b, 0, none⟩) := hphi 5 (hdw 5 (by kernel_rfl))
        clear hphi hdw
        simp only [Act.put, List.setIfInBounds_toArray, List.set_cons_succ, List.set_cons_zero] at hK
        rw [hx5] at hK ⊢
        refine (if_pos (by rfl)).mpr ?_
        have hL := hg.la (no2 (j := 7) hcl hdi (by kernel_rfl) (by kernel_rfl))
        go_simp
        refine (isFlat_any hL).mono ?_
        rintro e W' ⟨rfl, hb⟩
        rw [HFL.out]
        exact hK.out _ _ hb rfl
      case s7 =>
        have hx6 : xv 6 = Value.bool false := hphi 6 (hdw 6 (by kernel_rfl))
        clear hphi hdw
        simp only [Act.put, List.setIfInBounds_toArray, List.set_cons_succ, List.set_cons_zero] at hK
        rw [hx6] at hK ⊢
        refine (if_pos (by rfl)).mpr ?_
        go_simp
        exact hK.out _ _ (Below.refl _ _) rfl
      case s8 =>
        have hx7 : xv 7 = Value.bool false := hphi 7 (hdw 7 (by kernel_rfl))
        clear hphi hdw
        simp only [Act.put, List.setIfInBounds_toArray, List.set_cons_succ, List.set_cons_zero] at hK
        rw [hx7] at hK ⊢
        refine (if_pos (by rfl)).mpr ?_
        go_simp
        exact hK.out _ _ (Below.refl _ _) rfl
      case s9 =>
        have hx7 : xv 7 = Value.bool false := hphi 7 (hdw 7 (by kernel_rfl))
        have hx8 : xv 8 = Value.pointer (some ⟨b, 0, none⟩) := hphi 8 (hdw 8 (by kernel_rfl))
        clear hphi hdw
        simp only [Act.put, List.setIfInBounds_toArray, List.set_cons_succ, List.set_cons_zero] at hK
        rw [hx7] at hK ⊢
        rw [hx8] at hK ⊢
        refine (if_pos (by rfl)).mpr ?_
        go_simp
        exact hK.out _ _ (Below.refl _ _) rfl
      case s10 =>
        have hx7 : xv 7 = Value.bool false := hphi 7 (hdw 7 (by kernel_rfl))
        have hx9 : xv 9 = Value.pointer (some ⟨b, 0, none⟩) := hphi 9 (hdw 9 (by kernel_rfl))
        clear hphi hdw
        simp only [Act.put, List.setIfInBounds_toArray, List.set_cons_succ, List.set_cons_zero] at hK
        rw [hx7] at hK ⊢
        rw [hx9] at hK ⊢
        refine (if_pos (by rfl)).mpr ?_
        go_simp
        exact hK.out _ _ (Below.refl _ _) rfl
      case s11 =>
        have hx7 : xv 7 = Value.bool false := hphi 7 (hdw 7 (by kernel_rfl))
        have hx10 : xv 10 = Value.pointer (some ⟨b, 3, none⟩) := hphi 10 (hdw 10 (by kernel_rfl))
        clear hphi hdw
        simp only [Act.put, List.setIfInBounds_toArray, List.set_cons_succ, List.set_cons_zero] at hK
        rw [hx7] at hK ⊢
        rw [hx10] at hK ⊢
        refine (if_pos (by rfl)).mpr ?_
        have hc3 := HC3.out W (hg.la (no5 (j := 13) (j2 := 18) (j3 := 19) (j4 := 20) hcl hdi (by kernel_rfl) (by kernel_rfl) (by kernel_rfl) (by kernel_rfl) (by kernel_rfl)))
        go_simp
        exact hK.out _ _ (Below.refl _ _) rfl
      case s12 =>
        have hx7 : xv 7 = Value.bool false := hphi 7 (hdw 7 (by kernel_rfl))
        clear hphi hdw
        simp only [Act.put, List.setIfInBounds_toArray, List.set_cons_succ, List.set_cons_zero] at hK
        rw [hx7] at hK ⊢
        refine (if_pos (by rfl)).mpr ?_
        go_simp
        exact hK.out _ _ (Below.refl _ _) rfl
      case s13 =>
        have hx7 : xv 7 = Value.bool false := hphi 7 (hdw 7 (by kernel_rfl))
        have hx11 : xv 11 = Value.int .i64 (cI) := hphi 11 (hdw 11 (by kernel_rfl))
        have hx12 : xv 12 = Value.int .i64 (need) := hphi 12 (hdw 12 (by kernel_rfl))
        clear hphi hdw
        simp only [Act.put, List.setIfInBounds_toArray, List.set_cons_succ, List.set_cons_zero] at hK
        rw [hx7] at hK ⊢
        rw [hx11] at hK ⊢
        rw [hx12] at hK ⊢
        refine (if_pos (by rfl)).mpr ?_
        go_simp
        exact hK.out _ _ (Below.refl _ _) rfl
      case s14 =>
        have hx7 : xv 7 = Value.bool false := hphi 7 (hdw 7 (by kernel_rfl))
        clear hphi hdw
        simp only [Act.put, List.setIfInBounds_toArray, List.set_cons_succ, List.set_cons_zero] at hK
        rw [hx7] at hK ⊢
        refine (if_pos (by rfl)).mpr ?_
        go_simp
        exact hK.out _ _ (Below.refl _ _) rfl
      case s15 =>
        have hx7 : xv 7 = Value.bool false := hphi 7 (hdw 7 (by kernel_rfl))
        have hx14 : xv 14 = Value.pointer (some ⟨b, 0, none⟩) := hphi 14 (hdw 14 (by kernel_rfl))
        clear hphi hdw
        simp only [Act.put, List.setIfInBounds_toArray, List.set_cons_succ, List.set_cons_zero] at hK
        rw [hx7] at hK ⊢
        rw [hx14] at hK ⊢
        refine (if_pos (by rfl)).mpr ?_
        go_simp
        exact hK.out _ _ (Below.refl _ _) rfl
      case s16 =>
        have hx7 : xv 7 = Value.bool false := hphi 7 (hdw 7 (by kernel_rfl))
        have hx15 : xv 15 = Value.pointer (some ⟨b, 0, none⟩) := hphi 15 (hdw 15 (by kernel_rfl))
        clear hphi hdw
        simp only [Act.put, List.setIfInBounds_toArray, List.set_cons_succ, List.set_cons_zero] at hK
        rw [hx7] at hK ⊢
        rw [hx15] at hK ⊢
        refine (if_pos (by rfl)).mpr ?_
        go_simp
        exact hK.out _ _ (Below.refl _ _) rfl
      case s17 =>
        have hx7 : xv 7 = Value.bool false := hphi 7 (hdw 7 (by kernel_rfl))
        have hx16 : xv 16 = Value.pointer (some ⟨b, 2, none⟩) := hphi 16 (hdw 16 (by kernel_rfl))
        clear hphi hdw
        simp only [Act.put, List.setIfInBounds_toArray, List.set_cons_succ, List.set_cons_zero] at hK
        rw [hx7] at hK ⊢
        rw [hx16] at hK ⊢
        refine (if_pos (by rfl)).mpr ?_
        have hc2 := (hg.la (no4 (j := 18) (j2 := 19) (j3 := 20) hcl hdi (by kernel_rfl) (by kernel_rfl) (by kernel_rfl) (by kernel_rfl))).cells.2.2.1
        go_simp
        exact hK.out _ _ (Below.refl _ _) rfl
      case s18 =>
        have hx7 : xv 7 = Value.bool false := hphi 7 (hdw 7 (by kernel_rfl))
        have hx13 : xv 13 = Value.int .i64 (cI + need) := hphi 13 (hdw 13 (by kernel_rfl))
        have hx17 : xv 17 = Value.int .i64 (Wd) := hphi 17 (hdw 17 (by kernel_rfl))
        clear hphi hdw
        simp only [Act.put, List.setIfInBounds_toArray, List.set_cons_succ, List.set_cons_zero] at hK
        rw [hx7] at hK ⊢
        rw [hx13] at hK ⊢
        rw [hx17] at hK ⊢
        refine (if_pos (by rfl)).mpr ?_
        have hq := HQ.out
        go_simp
        exact hK.out _ _ (Below.refl _ _) rfl
      case s19 =>
        have hx7 : xv 7 = Value.bool false := hphi 7 (hdw 7 (by kernel_rfl))
        have hx18 : xv 18 = Value.bool qd := hphi 18 (hdw 18 (by kernel_rfl))
        clear hphi hdw
        simp only [Act.put, List.setIfInBounds_toArray, List.set_cons_succ, List.set_cons_zero] at hK
        rw [hx7] at hK ⊢
        rw [hx18] at hK ⊢
        refine (if_pos (by rfl)).mpr ?_
        go_simp
        exact hK.out _ _ (Below.refl _ _) rfl
      case s20 =>
        have hx19 : xv 19 = Value.bool qd := hphi 19 (hdw 19 (by kernel_rfl))
        clear hphi hdw
        simp only [Act.put, List.setIfInBounds_toArray, List.set_cons_succ, List.set_cons_zero] at hK
        rw [hx19] at hK ⊢
        refine (if_pos (by rfl)).mpr ?_
        go_simp
        exact hK.out _ _ ⟨TB.of ((Below.refl W.heap.size W).alloc (Nat.le_refl _) _), hg.new hdi (no1 hcl hdi (by kernel_rfl)) (no1 hcl hdi (by kernel_rfl))⟩ trivial
      case s21 =>
        have hx4 : xv 4 = fv := hphi 4 (hdw 4 (by kernel_rfl))
        simp only [Act.put, List.setIfInBounds_toArray, List.set_cons_succ, List.set_cons_zero] at hK
        rw [hx4] at hK ⊢
        refine (if_pos (by rfl)).mpr ?_
        obtain ⟨gn, hx20, hgc⟩ := hg.row (hdw 20 (by kernel_rfl)) hdi
        obtain ⟨v', W', hr, ho, hlb, hc6', hbw⟩ := app_bool (hg.la hdi) (hg.c6 (no1 hcl hdi (by kernel_rfl))) hgc HLN.out
        have hT := TB.ofB hbw
        have hgn := hg.app (no1 hcl hdi (by kernel_rfl)) ho hlb hc6'
        clear hphi hdw hg hcl
        refine op_app rfl rfl hx20 hr ?_
        exact hK.out v' W' ⟨hT, hgn⟩ trivial
      case s22 =>
        have hx0 : xv 0 = Value.pointer (some ⟨b, 0, none⟩) := hphi 0 (hdw 0 (by kernel_rfl))
        clear hphi hdw
        simp only [Act.put, List.setIfInBounds_toArray, List.set_cons_succ, List.set_cons_zero] at hK
        rw [hx0] at hK ⊢
        refine (if_pos (by rfl)).mpr ?_
        go_simp
        exact hK.out _ _ (Below.refl _ _) rfl
      case s23 =>
        have hx22 : xv 22 = Value.pointer (some ⟨b, 0, none⟩) := hphi 22 (hdw 22 (by kernel_rfl))
        clear hphi hdw
        simp only [Act.put, List.setIfInBounds_toArray, List.set_cons_succ, List.set_cons_zero] at hK
        rw [hx22] at hK ⊢
        refine (if_pos (by rfl)).mpr ?_
        go_simp
        exact hK.out _ _ (Below.refl _ _) rfl
      case s24 =>
        have hx23 : xv 23 = Value.pointer (some ⟨b, 6, none⟩) := hphi 23 (hdw 23 (by kernel_rfl))
        simp only [Act.put] at hK
        rw [hx23] at hK ⊢
        refine (if_pos (by rfl)).mpr ?_
        obtain ⟨ho, hlb⟩ := hg.own (hdw 21 (by kernel_rfl)) hdi
        obtain ⟨g', c', hv⟩ := own_form ho
        have hgf := AG.fin (x := xv) (u := undef) (fv := fv) (hdw 21 (by kernel_rfl)) ho hlb
        have hbt := TB.ofB (hlb.setB 6 (xv 21))
        have hc6 := hg.c6 hdi
        have hfz := hlb.frz 6
        rw [hv] at hK hgf hbt ⊢
        clear hphi hdw hg hcl ho hlb hv
        go_simp
        exact hK.out undef _ ⟨hbt, hgf⟩ trivial
    case behind =>
      intro dn xv W hW hall hx hg a ha
      simp only [fillA] at ha
      simp only [List.setIfInBounds_toArray, List.set_cons_succ, List.set_cons_zero, Nat.zero_add, Nat.reduceAdd] at ha
      subst ha
      have HL2 := Lib.hid (hg.done (hall 24 (by decide)))
      have HB2 := Lib.hid (HB1.out.trans (hW HL1.out.size).undr)
      clear hx hW hg hall
      go_wp2
      go_end0
      exact ⟨rfl, HL2.out, HB2.out⟩

set_option maxHeartbeats 4000000 in
set_option maxRecDepth 100000 in
theorem add_close {B b : Nat} {Wd : Int} {s : St} {w : World} (x : ByteArray) (need : Int) {q : Bool} {r : List Bool} (hf : s.f = q :: r) (hl : s.f.length ≤ 1000000) (h : LA B b Wd s w) :
    Calls Try.prog 30 #[.pointer (some ⟨b, 0, none⟩), .agg #[.int .i64 8, .string x], .int .i64 need] w fun e w' => e = .returned (.tuple #[]) ∧ LA B b Wd { s with f := r } w' ∧ Below B w w' := by
  have hb := (Below.refl w.heap.size w).alloc (Nat.le_refl _) (.cells #[.int .i64 8, .string x] 45)
  obtain ⟨q0, q1⟩ := cl2 (heap_alloc_new w (.cells #[.int .i64 8, .string x] 45))
  have hL1 := h.later hb
  have HB1 := Lib.hid (hb.mono h.size)
  obtain ⟨g, n, C, m, HFR, HNM, hnm, hnC, hCm⟩ : ∃ g n C m, Hid (FR B b Wd s g n C q r (w.alloc (.cells #[.int .i64 8, .string x] 45))) ∧ Hid (r.length = m) ∧ n = m + 1 ∧ n ≤ C ∧ C ≤ maxLen := by
    have hL := hL1
    obtain ⟨hB, p, v, fv, h1, h2, h3, h4⟩ := hL1
    obtain ⟨A, C, rfl, hC1, hC2, hrow⟩ := bool_row h4
    obtain ⟨g, rfl, _⟩ := hrow q r hf
    exact ⟨g, s.f.length, C, r.length, ⟨hL, (cl7 h1).2.2.2.2.2.2, hf⟩, rfl, by rw [hf]; rfl, hC1, hC2⟩
  have hn6 : n ≤ 1000001 := by have := HNM.out; have e := hf; rw [hf] at hl; simp only [List.length_cons] at hl; omega
  have hw1 : IntKind.i64.wrap ((n : Int) - 1) = (m : Int) := by rw [IntKind.wrap_i64]; omega
  have hm0 : (0 : Int) ≤ (m : Int) := by omega
  have hmC : (m : Int) ≤ (C : Int) := by omega
  have hmC2 : m ≤ C := by omega
  obtain ⟨w1, hw1e⟩ : ∃ w1, w.alloc (.cells #[.int .i64 8, .string x] 45) = w1 := ⟨_, rfl⟩
  have HW1 := Lib.hid hw1e
  rw [hw1e] at HFR HB1
  clear hb hw1e hf hl h hL1 hnm hnC hCm hn6
  go_enter Try.func30, Try.ntmps30
  go_wp2
  rw [HW1.out]
  refine region_rel2 14 (fun W => FR B b Wd s g n C q r W) (fun W W' => Below B W W' ∧ (LA B b Wd { s with f := r } W → LA B b Wd { s with f := r } W')) [Cd.is (Value.pointer (some ⟨b, 0, none⟩)), Cd.is (Value.pointer (some ⟨b, 0, none⟩)), Cd.is (Value.pointer (some ⟨b, 0, none⟩)), Cd.is (Value.pointer (some ⟨b, 6, none⟩)), Cd.is (Value.slice (some ⟨g, 0, none⟩) n C), Cd.is (Value.pointer (some ⟨b, 0, none⟩)), Cd.is (Value.pointer (some ⟨b, 0, none⟩)), Cd.is (Value.pointer (some ⟨b, 6, none⟩)), Cd.is (Value.slice (some ⟨g, 0, none⟩) n C), Cd.is (Value.int .i64 (n)), Cd.is (Value.int .i64 (m)), Cd.is (Value.slice (some ⟨g, 0, none⟩) m C), Cd.is (Value.pointer (some ⟨b, 0, none⟩)), Cd.is (Value.pointer (some ⟨b, 6, none⟩)), ⟨fun _ W => LA B b Wd { s with f := r } W, fun _ _ _ h q => h.2 q⟩] (by kernel_rfl) (by decide) (by kernel_rfl) HFR.out.drew ⟨Below.refl B _, id⟩ (fun _ _ _ h k => ⟨h.1.trans k.1, fun q => k.2 (h.2 q)⟩) ?steps ?behind
  case steps =>
    intro xv W hW a ha
    replace hW : Below B w1 W := ⟨hW.1.os, hW.1.tape, hW.1.output, hW.1.size, hW.1.block⟩
    simp only [fillA] at ha
    simp only [List.setIfInBounds_toArray, List.set_cons_succ, List.set_cons_zero, Nat.zero_add, Nat.reduceAdd] at ha
    subst ha
    refine ⟨fun hI hS hd K hK => ?s0, fun hI hS hd K hK => ?s1, fun hI hS hd K hK => ?s2, fun hI hS hd K hK => ?s3, fun hI hS hd K hK => ?s4, fun hI hS hd K hK => ?s5, fun hI hS hd K hK => ?s6, fun hI hS hd K hK => ?s7, fun hI hS hd K hK => ?s8, fun hI hS hd K hK => ?s9, fun hI hS hd K hK => ?s10, fun hI hS hd K hK => ?s11, fun hI hS hd K hK => ?s12, fun hI hS hd K hK => ?s13, fun hI hS hd K hK => ?s14, trivial⟩
    case s0 =>
      clear hd
      simp only [Act.put, List.setIfInBounds_toArray, List.set_cons_succ, List.set_cons_zero] at hK
      refine (if_pos (by rfl)).mpr ?_
      go_simp
      exact hK.out _ _ ⟨Below.refl B _, id⟩ (.inr id) rfl
    case s1 =>
      clear hd
      simp only [Act.put, List.setIfInBounds_toArray, List.set_cons_succ, List.set_cons_zero] at hK
      refine (if_pos (by rfl)).mpr ?_
      go_simp
      exact hK.out _ _ ⟨Below.refl B _, id⟩ (.inr id) rfl
    case s2 =>
      have hx1 : xv 1 = Value.pointer (some ⟨b, 0, none⟩) := hd 1 (by kernel_rfl)
      clear hd
      simp only [Act.put, List.setIfInBounds_toArray, List.set_cons_succ, List.set_cons_zero] at hK
      rw [hx1] at hK ⊢
      refine (if_pos (by rfl)).mpr ?_
      go_simp
      exact hK.out _ _ ⟨Below.refl B _, id⟩ (.inr id) rfl
    case s3 =>
      have hx2 : xv 2 = Value.pointer (some ⟨b, 0, none⟩) := hd 2 (by kernel_rfl)
      clear hd
      simp only [Act.put, List.setIfInBounds_toArray, List.set_cons_succ, List.set_cons_zero] at hK
      rw [hx2] at hK ⊢
      refine (if_pos (by rfl)).mpr ?_
      go_simp
      exact hK.out _ _ ⟨Below.refl B _, id⟩ (.inr id) rfl
    case s4 =>
      have hx3 : xv 3 = Value.pointer (some ⟨b, 6, none⟩) := hd 3 (by kernel_rfl)
      clear hd
      simp only [Act.put, List.setIfInBounds_toArray, List.set_cons_succ, List.set_cons_zero] at hK
      rw [hx3] at hK ⊢
      refine (if_pos (by rfl)).mpr ?_
      have hc6 := (hS (.inl (by kernel_rfl))).c6
      go_simp
      exact hK.out _ _ ⟨Below.refl B _, id⟩ (.inr id) rfl
    case s5 =>
      clear hd
      simp only [Act.put, List.setIfInBounds_toArray, List.set_cons_succ, List.set_cons_zero] at hK
      refine (if_pos (by rfl)).mpr ?_
      go_simp
      exact hK.out _ _ ⟨Below.refl B _, id⟩ (.inr id) rfl
    case s6 =>
      have hx5 : xv 5 = Value.pointer (some ⟨b, 0, none⟩) := hd 5 (by kernel_rfl)
      clear hd
      simp only [Act.put, List.setIfInBounds_toArray, List.set_cons_succ, List.set_cons_zero] at hK
      rw [hx5] at hK ⊢
      refine (if_pos (by rfl)).mpr ?_
      go_simp
      exact hK.out _ _ ⟨Below.refl B _, id⟩ (.inr id) rfl
    case s7 =>
      have hx6 : xv 6 = Value.pointer (some ⟨b, 0, none⟩) := hd 6 (by kernel_rfl)
      clear hd
      simp only [Act.put, List.setIfInBounds_toArray, List.set_cons_succ, List.set_cons_zero] at hK
      rw [hx6] at hK ⊢
      refine (if_pos (by rfl)).mpr ?_
      go_simp
      exact hK.out _ _ ⟨Below.refl B _, id⟩ (.inr id) rfl
    case s8 =>
      have hx7 : xv 7 = Value.pointer (some ⟨b, 6, none⟩) := hd 7 (by kernel_rfl)
      clear hd
      simp only [Act.put, List.setIfInBounds_toArray, List.set_cons_succ, List.set_cons_zero] at hK
      rw [hx7] at hK ⊢
      refine (if_pos (by rfl)).mpr ?_
      have hc6 := (hS (.inl (by kernel_rfl))).c6
      go_simp
      exact hK.out _ _ ⟨Below.refl B _, id⟩ (.inr id) rfl
    case s9 =>
      have hx8 : xv 8 = Value.slice (some ⟨g, 0, none⟩) n C := hd 8 (by kernel_rfl)
      clear hd
      simp only [Act.put, List.setIfInBounds_toArray, List.set_cons_succ, List.set_cons_zero] at hK
      rw [hx8] at hK ⊢
      refine (if_pos (by rfl)).mpr ?_
      go_simp
      exact hK.out _ _ ⟨Below.refl B _, id⟩ (.inr id) rfl
    case s10 =>
      have hx9 : xv 9 = Value.int .i64 (n) := hd 9 (by kernel_rfl)
      clear hd
      simp only [Act.put, List.setIfInBounds_toArray, List.set_cons_succ, List.set_cons_zero] at hK
      rw [hx9] at hK ⊢
      refine (if_pos (by rfl)).mpr ?_
      go_simp
      exact hK.out _ _ ⟨Below.refl B _, id⟩ (.inr id) rfl
    case s11 =>
      have hx4 : xv 4 = Value.slice (some ⟨g, 0, none⟩) n C := hd 4 (by kernel_rfl)
      have hx10 : xv 10 = Value.int .i64 (m) := hd 10 (by kernel_rfl)
      clear hd
      simp only [Act.put, List.setIfInBounds_toArray, List.set_cons_succ, List.set_cons_zero] at hK
      rw [hx4] at hK ⊢
      rw [hx10] at hK ⊢
      refine (if_pos (by rfl)).mpr ?_
      go_simp
      exact hK.out _ _ ⟨Below.refl B _, id⟩ (.inr id) rfl
    case s12 =>
      have hx0 : xv 0 = Value.pointer (some ⟨b, 0, none⟩) := hd 0 (by kernel_rfl)
      clear hd
      simp only [Act.put, List.setIfInBounds_toArray, List.set_cons_succ, List.set_cons_zero] at hK
      rw [hx0] at hK ⊢
      refine (if_pos (by rfl)).mpr ?_
      go_simp
      exact hK.out _ _ ⟨Below.refl B _, id⟩ (.inr id) rfl
    case s13 =>
      have hx12 : xv 12 = Value.pointer (some ⟨b, 0, none⟩) := hd 12 (by kernel_rfl)
      clear hd
      simp only [Act.put, List.setIfInBounds_toArray, List.set_cons_succ, List.set_cons_zero] at hK
      rw [hx12] at hK ⊢
      refine (if_pos (by rfl)).mpr ?_
      go_simp
      exact hK.out _ _ ⟨Below.refl B _, id⟩ (.inr id) rfl
    case s14 =>
      have hx11 : xv 11 = Value.slice (some ⟨g, 0, none⟩) m C := hd 11 (by kernel_rfl)
      have hx13 : xv 13 = Value.pointer (some ⟨b, 6, none⟩) := hd 13 (by kernel_rfl)
      clear hd
      simp only [Act.put] at hK
      rw [hx11] at hK ⊢
      rw [hx13] at hK ⊢
      refine (if_pos (by rfl)).mpr ?_
      have hF := hS (.inr rfl)
      have hc6 := hF.c6
      have hfz := hF.la.frz 6
      have HN := hF.pop HNM.out
      have HBB := hF.la.setB 6 (Value.slice (some ⟨g, 0, none⟩) m C)
      clear hF
      go_simp
      exact hK.out undef _ ⟨HBB, fun _ => HN⟩ (.inl trivial) HN
  case behind =>
    intro xv W hW hx a ha
    replace hW : Below B w1 W := ⟨hW.1.os, hW.1.tape, hW.1.output, hW.1.size, hW.1.block⟩
    simp only [fillA] at ha
    simp only [List.setIfInBounds_toArray, List.set_cons_succ, List.set_cons_zero, Nat.zero_add, Nat.reduceAdd] at ha
    subst ha
    have hL := hx 14 (by decide)
    have HL2 : Hid (LA B b Wd { s with f := r } W) := hL
    have HB2 := Lib.hid (HB1.out.trans hW)
    clear hx hW hL
    go_wp2
    go_end0
    exact ⟨rfl, HL2.out, HB2.out⟩
theorem add_nest {B b : Nat} {Wd : Int} {s : St} {w : World} (x : ByteArray) (need : Int) (hn : s.n ≤ 1000000) (h : LA B b Wd s w) :
    Calls Try.prog 30 #[.pointer (some ⟨b, 0, none⟩), .agg #[.int .i64 5, .string x], .int .i64 need] w fun e w' => e = .returned (.tuple #[]) ∧ LA B b Wd { s with n := s.n + 1 } w' ∧ Below B w w' := by
  have hb := (Below.refl w.heap.size w).alloc (Nat.le_refl _) (.cells #[.int .i64 5, .string x] 45)
  obtain ⟨q0, q1⟩ := cl2 (heap_alloc_new w (.cells #[.int .i64 5, .string x] 45))
  have hL1 := h.later hb
  have HB1 := Lib.hid ((hb.mono h.size).trans (hL1.setB 4 (.int .i64 ((s.n : Int) + 1))))
  have c4 := hL1.cells.2.2.2.2.1
  have hfz := hL1.frz 4
  have HL2 := Lib.hid (LA.put hL1 4 (.int .i64 ((s.n : Int) + 1)) { s with n := s.n + 1 } (fun _ _ _ => rfl) rfl rfl)
  have hw1 : IntKind.i64.wrap ((s.n : Int) + 1) = (s.n : Int) + 1 := by rw [IntKind.wrap_i64]; omega
  clear hb h hL1 hn
  go_enter Try.func30, Try.ntmps30
  go_wp2
  go_end0
  exact ⟨rfl, HL2.out, HB1.out⟩
set_option maxRecDepth 100000 in
theorem add_unnest {B b : Nat} {Wd : Int} {s : St} {w : World} (x : ByteArray) (need : Int) (hn : s.n ≤ 1000000) (h1 : 1 ≤ s.n) (h : LA B b Wd s w) :
    Calls Try.prog 30 #[.pointer (some ⟨b, 0, none⟩), .agg #[.int .i64 6, .string x], .int .i64 need] w fun e w' => e = .returned (.tuple #[]) ∧ LA B b Wd { s with n := s.n - 1 } w' ∧ Below B w w' := by
  have hb := (Below.refl w.heap.size w).alloc (Nat.le_refl _) (.cells #[.int .i64 6, .string x] 45)
  obtain ⟨q0, q1⟩ := cl2 (heap_alloc_new w (.cells #[.int .i64 6, .string x] 45))
  have hL1 := h.later hb
  have HB1 := Lib.hid ((hb.mono h.size).trans (hL1.setB 4 (.int .i64 ((s.n : Int) - 1))))
  have c4 := hL1.cells.2.2.2.2.1
  have hfz := hL1.frz 4
  have HL2 := Lib.hid (LA.put hL1 4 (.int .i64 ((s.n : Int) - 1)) { s with n := s.n - 1 } (fun _ _ _ => by simp only [lyC, List.setIfInBounds_toArray, List.set_cons_succ, List.set_cons_zero]; rw [show ((s.n - 1 : Nat) : Int) = (s.n : Int) - 1 by omega]) rfl rfl)
  have hw1 : IntKind.i64.wrap ((s.n : Int) - 1) = (s.n : Int) - 1 := by rw [IntKind.wrap_i64]; omega
  clear hb h hL1 hn h1
  go_enter Try.func30, Try.ntmps30
  go_wp2
  go_end0
  exact ⟨rfl, HL2.out, HB1.out⟩
set_option maxRecDepth 100000 in
theorem add_text {B b : Nat} {Wd : Int} {s : St} {w : World} (x : ByteArray) (need : Int) (ht : s.t ≤ 1000000) (hl : s.o.length + s.t + x.size ≤ 1000000000) (hc : s.c ≤ 1000000000) (h : LA B b Wd s w) :
    Calls Try.prog 30 #[.pointer (some ⟨b, 0, none⟩), .agg #[.int .i64 1, .string x], .int .i64 need] w fun e w' => e = .returned (.tuple #[]) ∧ LA B b Wd (wrS x.data.toList (wd x) s) w' ∧ Below B w w' := by
  have hb := (Below.refl w.heap.size w).alloc (Nat.le_refl _) (.cells #[.int .i64 1, .string x] 45)
  obtain ⟨q0, q1⟩ := cl2 (heap_alloc_new w (.cells #[.int .i64 1, .string x] 45))
  have HC := Lib.hid (write_any x (h.later hb) ht hl hc)
  have HB1 := Lib.hid (hb.mono h.size)
  clear hb h ht hl hc
  go_enter Try.func30, Try.ntmps30
  go_wp2_with fail
  refine HC.out.mono ?_
  rintro e w2 ⟨rfl, hL, hb2⟩
  have HL := Lib.hid hL
  have HB2 := Lib.hid (HB1.out.trans hb2)
  clear hL hb2 HC
  go_wp2
  go_end0
  exact ⟨rfl, HL.out, HB2.out⟩
set_option maxRecDepth 100000 in
theorem add_break2 {B b : Nat} {Wd : Int} {s : St} {w : World} (x : ByteArray) (need : Int) (ht : s.t ≤ 1000000) (hn : s.n ≤ 1000000) (hl : s.o.length + s.t + 1 ≤ 1000000000) (hc : s.c ≤ 1000000000) (h : LA B b Wd s w) :
    Calls Try.prog 30 #[.pointer (some ⟨b, 0, none⟩), .agg #[.int .i64 2, .string x], .int .i64 need] w fun e w' => e = .returned (.tuple #[]) ∧ LA B b Wd (if s.fl then (if (2 : Int) = 2 then wrS [32] 1 s else s) else nlS s) w' ∧ Below B w w' := by
  have hb := (Below.refl w.heap.size w).alloc (Nat.le_refl _) (.cells #[.int .i64 2, .string x] 45)
  obtain ⟨q0, q1⟩ := cl2 (heap_alloc_new w (.cells #[.int .i64 2, .string x] 45))
  have HC := Lib.hid (addBreak_any 2 x (h.later hb) rfl ht hn hl hc)
  have HB1 := Lib.hid (hb.mono h.size)
  generalize (if s.fl then (if (2 : Int) = 2 then wrS [32] 1 s else s) else nlS s) = s2 at *
  clear hb h ht hl hc hn
  go_enter Try.func30, Try.ntmps30
  go_wp2_with fail
  refine HC.out.mono ?_
  rintro e w2 ⟨rfl, hL, hb2⟩
  have HL := Lib.hid hL
  have HB2 := Lib.hid (HB1.out.trans hb2)
  clear hL hb2 HC
  go_wp2
  go_end0
  exact ⟨rfl, HL.out, HB2.out⟩
set_option maxRecDepth 100000 in
theorem add_break3 {B b : Nat} {Wd : Int} {s : St} {w : World} (x : ByteArray) (need : Int) (ht : s.t ≤ 1000000) (hn : s.n ≤ 1000000) (hl : s.o.length + s.t + 1 ≤ 1000000000) (hc : s.c ≤ 1000000000) (h : LA B b Wd s w) :
    Calls Try.prog 30 #[.pointer (some ⟨b, 0, none⟩), .agg #[.int .i64 3, .string x], .int .i64 need] w fun e w' => e = .returned (.tuple #[]) ∧ LA B b Wd (if s.fl then (if (3 : Int) = 2 then wrS [32] 1 s else s) else nlS s) w' ∧ Below B w w' := by
  have hb := (Below.refl w.heap.size w).alloc (Nat.le_refl _) (.cells #[.int .i64 3, .string x] 45)
  obtain ⟨q0, q1⟩ := cl2 (heap_alloc_new w (.cells #[.int .i64 3, .string x] 45))
  have HC := Lib.hid (addBreak_any 3 x (h.later hb) rfl ht hn hl hc)
  have HB1 := Lib.hid (hb.mono h.size)
  generalize (if s.fl then (if (3 : Int) = 2 then wrS [32] 1 s else s) else nlS s) = s2 at *
  clear hb h ht hl hc hn
  go_enter Try.func30, Try.ntmps30
  go_wp2_with fail
  refine HC.out.mono ?_
  rintro e w2 ⟨rfl, hL, hb2⟩
  have HL := Lib.hid hL
  have HB2 := Lib.hid (HB1.out.trans hb2)
  clear hL hb2 HC
  go_wp2
  go_end0
  exact ⟨rfl, HL.out, HB2.out⟩
set_option maxRecDepth 100000 in
theorem add_break4 {B b : Nat} {Wd : Int} {s : St} {w : World} (x : ByteArray) (need : Int) (ht : s.t ≤ 1000000) (hn : s.n ≤ 1000000) (hl : s.o.length + s.t + 1 ≤ 1000000000) (hc : s.c ≤ 1000000000) (h : LA B b Wd s w) :
    Calls Try.prog 30 #[.pointer (some ⟨b, 0, none⟩), .agg #[.int .i64 4, .string x], .int .i64 need] w fun e w' => e = .returned (.tuple #[]) ∧ LA B b Wd (if s.fl then (if (4 : Int) = 2 then wrS [32] 1 s else s) else nlS s) w' ∧ Below B w w' := by
  have hb := (Below.refl w.heap.size w).alloc (Nat.le_refl _) (.cells #[.int .i64 4, .string x] 45)
  obtain ⟨q0, q1⟩ := cl2 (heap_alloc_new w (.cells #[.int .i64 4, .string x] 45))
  have HC := Lib.hid (addBreak_any 4 x (h.later hb) rfl ht hn hl hc)
  have HB1 := Lib.hid (hb.mono h.size)
  generalize (if s.fl then (if (4 : Int) = 2 then wrS [32] 1 s else s) else nlS s) = s2 at *
  clear hb h ht hl hc hn
  go_enter Try.func30, Try.ntmps30
  go_wp2_with fail
  refine HC.out.mono ?_
  rintro e w2 ⟨rfl, hL, hb2⟩
  have HL := Lib.hid hL
  have HB2 := Lib.hid (HB1.out.trans hb2)
  clear hL hb2 HC
  go_wp2
  go_end0
  exact ⟨rfl, HL.out, HB2.out⟩
set_option maxRecDepth 100000 in
theorem add_none {B b : Nat} {Wd : Int} {s : St} {w : World} (k : Int) (x : ByteArray) (need : Int) (hk : k ≠ 1 ∧ k ≠ 2 ∧ k ≠ 3 ∧ k ≠ 4 ∧ k ≠ 5 ∧ k ≠ 6 ∧ k ≠ 7 ∧ k ≠ 8) (h : LA B b Wd s w) :
    Calls Try.prog 30 #[.pointer (some ⟨b, 0, none⟩), .agg #[.int .i64 k, .string x], .int .i64 need] w fun e w' => e = .returned (.tuple #[]) ∧ LA B b Wd s w' ∧ Below B w w' := by
  have hb := (Below.refl w.heap.size w).alloc (Nat.le_refl _) (.cells #[.int .i64 k, .string x] 45)
  obtain ⟨q0, q1⟩ := cl2 (heap_alloc_new w (.cells #[.int .i64 k, .string x] 45))
  have HL := Lib.hid (h.later hb)
  have HB1 := Lib.hid (hb.mono h.size)
  obtain ⟨k1, k2, k3, k4, k5, k6, k7, k8⟩ := hk
  have b1 : (k == 1) = false := by simpa using k1
  have b2 : (k == 2) = false := by simpa using k2
  have b3 : (k == 3) = false := by simpa using k3
  have b4 : (k == 4) = false := by simpa using k4
  have b5 : (k == 5) = false := by simpa using k5
  have b6 : (k == 6) = false := by simpa using k6
  have b7 : (k == 7) = false := by simpa using k7
  have b8 : (k == 8) = false := by simpa using k8
  clear hb h k1 k2 k3 k4 k5 k6 k7 k8
  go_enter Try.func30, Try.ntmps30
  go_wp2
  go_end0
  exact ⟨rfl, HL.out, HB1.out⟩
/-- One piece. -/
theorem add_any {B b : Nat} {Wd : Int} {s : St} {w : World} (k : Int) (x : ByteArray) (need : Int) (hn0 : 0 ≤ need) (hn1 : need ≤ 4611686018427387904) (h : LA B b Wd s w) (ht : s.t ≤ 1000000) (hn : s.n ≤ 1000000) (hl : s.o.length + s.t + x.size + 1 ≤ 1000000000) (hc : s.c ≤ 1000000000) (hf : s.f.length ≤ 1000000)
    (h6 : k = 6 → 1 ≤ s.n) (h8 : k = 8 → s.f ≠ []) :
    Calls Try.prog 30 #[.pointer (some ⟨b, 0, none⟩), .agg #[.int .i64 k, .string x], .int .i64 need] w fun e w' => e = .returned (.tuple #[]) ∧ LA B b Wd (stepD (s.fl || decide ((s.c : Int) + need ≤ Wd)) (k, x) s) w' ∧ Below B w w' := by
  by_cases k1 : k = 1
  · subst k1; exact add_text x need ht (by omega) hc h
  by_cases k2 : k = 2
  · subst k2; exact add_break2 x need ht hn (by omega) hc h
  by_cases k3 : k = 3
  · subst k3; exact add_break3 x need ht hn (by omega) hc h
  by_cases k4 : k = 4
  · subst k4; exact add_break4 x need ht hn (by omega) hc h
  by_cases k5 : k = 5
  · subst k5; exact add_nest x need hn h
  by_cases k6 : k = 6
  · subst k6; exact add_unnest x need hn (h6 rfl) h
  by_cases k7 : k = 7
  · subst k7; exact add_open x need hn0 hn1 h hc hf
  by_cases k8 : k = 8
  · subst k8
    cases hq : s.f with
    | nil => exact absurd hq (h8 rfl)
    | cons q r =>
      have e : stepD (s.fl || decide ((s.c : Int) + need ≤ Wd)) (8, x) s = { s with f := r } := by
        show ({ s with f := s.f.tail } : St) = _
        rw [hq]; rfl
      rw [e]
      exact add_close x need hq hf h
  have e : stepD (s.fl || decide ((s.c : Int) + need ≤ Wd)) (k, x) s = s := by
    have hb : isB k = false := isB_not.2 ⟨k2, k3, k4⟩
    unfold stepD
    simp only [hb, k1, k5, k6, k7, k8, if_false, Bool.false_eq_true]
  rw [e]
  exact add_none k x need ⟨k1, k2, k3, k4, k5, k6, k7, k8⟩ h
end Go.Proofs.Ytpankfbdlakmcaa.Doc
