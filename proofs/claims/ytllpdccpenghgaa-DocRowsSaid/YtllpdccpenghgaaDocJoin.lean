/-
  Layer 7 (doc): Join.
-/
import Derived.Test.YtllpdccpenghgaaDocDel
namespace Go.Proofs.Ytllpdccpenghgaa.Doc
open Go.ChangeShapes Go.WideShapes Go.ChangeAt Go.RowKit Mem
set_option linter.unusedVariables false

/-- Documents with one between any two. -/
def jn (by_ : Nd) : List Nd → List Nd
  | [] => []
  | a :: r => a :: r.flatMap fun d => [by_, d]
theorem jn_snoc (by_ d : Nd) : ∀ l : List Nd, l ≠ [] → jn by_ (l ++ [d]) = jn by_ l ++ [by_, d]
  | [], h => absurd rfl h
  | a :: r, _ => by simp [jn]
theorem jn_mem {by_ : Nd} {P : Nd → Prop} {l : List Nd} (hb : P by_) (hl : ∀ d ∈ l, P d) : ∀ d ∈ jn by_ l, P d := by
  cases l with
  | nil => intro d h; cases h
  | cons a r =>
    intro d h
    simp only [jn, List.mem_cons, List.mem_flatMap, List.not_mem_nil, or_false] at h
    rcases h with rfl | ⟨x, hx, rfl | rfl⟩
    · exact hl _ (List.mem_cons_self ..)
    · exact hb
    · exact hl _ (List.mem_cons_of_mem _ hx)
theorem jn_len (by_ : Nd) : ∀ l : List Nd, (jn by_ l).length ≤ 2 * l.length
  | [] => Nat.le_refl _
  | a :: r => by
    have : (r.flatMap fun d => [by_, d]).length = 2 * r.length := by
      induction r with
      | nil => rfl
      | cons b r ih => rw [List.flatMap_cons, List.length_append, ih]; simp; omega
    simp only [jn, List.length_cons, this]; omega
/-- A row of documents of one's own, in a world behind W2; its documents' parts lie in w. -/
structure JR (X : Nat → Prop) (w W2 : World) (B : Nat) (v : Value) (cur : List Nv) (W : World) : Prop where
  own : W.ownsRow B 29 3 v cur.length (cur.flatMap ndC)
  kids : ∀ p ∈ cur, Gs w (Dx X w) p.2 p.1.c
  bel : Below B W2 W
  big : B ≤ W.heap.size
section
variable {X : Nat → Prop} {w W2 W W' : World} {B : Nat} {v v' : Value} {cur : List Nv}
theorem JR.form (h : JR X w W2 B v cur W) : ∃ a c, v = .slice a cur.length c ∧ cur.length ≤ c ∧ c ≤ maxLen := by
  rcases h.own.2 with ⟨e, h0⟩ | ⟨g, cap, c, e, _, _, h3, h4, _⟩
  · exact ⟨none, 0, by rw [e, h0], by omega, by unfold maxLen; omega⟩
  · exact ⟨_, _, e, h3, h4⟩
theorem JR.later (h : JR X w W2 B v cur W) (hb : Below W.heap.size W W') : JR X w W2 B v cur W' := ⟨own_below' h.own hb, h.kids, h.bel.trans (hb.mono h.big), Nat.le_trans h.big hb.size⟩
theorem JR.add (h : JR X w W2 B v cur W) {k : Int} {x : ByteArray} {c : G} {s : Value} (hs : Gs w (Dx X w) s c) (hown : W'.ownsRow B 29 3 v' (cur.length + 1) (cur.flatMap ndC ++ [.int .i64 k, .string x, s]))
    (hbel : ∀ B', (∀ b, v.ownBlock = some b → B' ≤ b) → B' ≤ W.heap.size → Below B' W W') : JR X w W2 B v' (cur ++ [(⟨k, x, c⟩, s)]) W' := by
  have hb := hbel B (fun b hb => (h.own.lt b hb).1) h.big
  refine ⟨?_, fun p hp => ?_, h.bel.trans hb, Nat.le_trans h.big hb.size⟩
  · rw [List.length_append, List.length_singleton, List.flatMap_append]
    simpa [ndC] using hown
  · rcases List.mem_append.1 hp with hp | hp
    · exact h.kids p hp
    · rw [List.mem_singleton.1 hp]; exact hs
/-- The row as documents. -/
theorem JR.gs (h : JR X w W2 B v cur W) {R : Nat} (hR : w.heap.size ≤ R) (hRB : R < B) (hX : ∀ b, X b → b < w.heap.size) (hb : Below w.heap.size w W) {a : Option Addr} {C : Nat} (hv : v = .slice a cur.length C) : Gs W (Dx (fun b => X b ∨ b = R) W) (.slice a cur.length C) (ofL (cur.map (·.1))) := by
  have hk : ∀ p ∈ cur, Gs W (Dx (fun b => X b ∨ b = R) W) p.2 p.1.c := fun p hp => ((h.kids p hp).keep (fun b hb' => hb.block b hb'.1.lt)).more fun b hb' => by
    obtain ⟨⟨cs, fz, e⟩, hx⟩ := hb'
    have hlt := lt_of e
    refine ⟨⟨cs, fz, (hb.block b hlt).trans e⟩, ?_⟩
    rintro (h | h)
    · exact hx h
    · omega
  rcases h.own.2 with ⟨e, h0⟩ | hne
  · have hc : cur = [] := List.eq_nil_of_length_eq_zero h0
    subst hc
    rw [e] at hv
    injection hv with e1 e2 e3
    subst e1; subst e3
    exact ⟨none, 0, rfl, by omega⟩
  · obtain ⟨g, cap, c, e, _⟩ := hne
    have hne : Value.slice a cur.length C ≠ .slice none 0 0 := by rw [← hv, e]; intro h; cases h
    obtain ⟨g, rfl, hg, hnc, hcm, hrow⟩ := RowC.of_own (hv ▸ h.own) hne
    refine RowC.gs cur 0 cur.length C rfl hnc (by unfold maxLen at hcm; omega) ⟨⟨_, _, hrow.1.choose_spec⟩, ?_⟩ (fun i p hp => by simp only [Nat.zero_add]; exact hrow.2 i p hp) hk _ (.inr rfl)
    rintro (h | h)
    · have := hX _ h; omega
    · omega
end
theorem join_mid {X : Nat → Prop} {w W2 wr W w2 : World} {B : Nat} {a : Option Addr} {cc : Nat} {v' : Value} {cur : List Nv} {kb : Int} {xb : ByteArray} {cb : G} {sb : Value} {ca cd : Array Value} (h : JR X w W2 B (.slice a cur.length cc) cur W) (hs : Gs w (Dx X w) sb cb)
    (hown : w2.ownsRow B 29 3 v' (cur.length + 1) (cur.flatMap ndC ++ [.int .i64 kb, .string xb, sb])) (hgrow : (W.alloc (.cells ca 29)).grownBy w2 (Value.slice a cur.length cc).ownBlock) (hbel : ∀ B', (∀ b, (Value.slice a cur.length cc).ownBlock = some b → B' ≤ b) → B' ≤ W.heap.size → Below B' W w2)
    (hz : W.heap.size = wr.heap.size + 1) (hob : ∀ r, (Value.slice a cur.length cc).ownBlock = some r → r < wr.heap.size) (hx : W.heap[wr.heap.size]? = some (Obj.cells cd 29 (0, 0))) :
    JR X w W2 B v' (cur ++ [(⟨kb, xb, cb⟩, sb)]) w2 ∧ ∃ a2 c2, v' = .slice a2 (cur.length + 1) c2 ∧ w2.heap[wr.heap.size]? = some (Obj.cells cd 29 (0, 0)) := by
  have hj := h.add hs hown hbel
  obtain ⟨a2, c2, hv, _⟩ := hj.form
  rw [List.length_append, List.length_singleton] at hv
  refine ⟨hj, a2, c2, hv, ?_⟩
  have hb1 := (Below.refl W.heap.size W).alloc (Nat.le_refl _) (.cells ca 29)
  refine (hgrow.block wr.heap.size (by simp; omega) (fun e => ?_)).trans ((hb1.block _ (by omega)).trans hx)
  have := hob _ e.symm
  omega
theorem toL_get : ∀ {f : G} {i : Nat} {k : Int} {x : ByteArray} {c r : G}, f.drop i = .cons k x c r → (toL f)[i]? = some ⟨k, x, c⟩
  | .nil, i, k, x, c, r, h => by rw [G.drop_nil] at h; cases h
  | .cons k' x' c' r', 0, k, x, c, r, h => by
    simp only [G.drop, G.cons.injEq] at h
    obtain ⟨rfl, rfl, rfl, rfl⟩ := h
    rfl
  | .cons k' x' c' r', i + 1, k, x, c, r, h => by simp only [toL, List.getElem?_cons_succ]; exact toL_get (f := r') h
theorem fl_snoc (cur : List Nv) (p : Nv) : (cur ++ [p]).flatMap ndC = cur.flatMap ndC ++ [.int .i64 p.1.k, .string p.1.x, p.2] := by simp [ndC]
set_option maxHeartbeats 8000000 in
set_option maxRecDepth 100000 in
theorem join_flat {X : Nat → Prop} (by_ : Nd) (sb : Value) (A : Option Addr) (n C : Nat) (ps : List Nv) (L : List Nd) (w : World) (hX : ∀ b, X b → b < w.heap.size) (hsb : Gs w (Dx X w) sb by_.c) (hps : ps.map (·.1) = L) (hl : ps.length = n) (hk : ∀ p ∈ ps, Gs w (Dx X w) p.2 p.1.c)
    (hc : n = 0 ∨ ∃ b off, A = some ⟨b, off, none⟩ ∧ b < w.heap.size ∧ ∀ j u, (ps.flatMap ndC)[j]? = some u → w.cell? ⟨b, off + j, none⟩ = some u) (hn : n ≤ 100000) (hnC : n ≤ C) (hCm : C ≤ maxLen) :
    Calls Try.prog 17 #[.agg #[.int .i64 by_.k, .string by_.x, sb], .slice A n C] w (DocPost X (rowN (jn by_ L)) w) := by
  obtain ⟨i0, hi0, hzr, hisz, hby⟩ := info_parts doc_info
  obtain ⟨Ab, Cb, hsbf, _, _⟩ := hsb.slice
  have b1 := (Below.refl w.heap.size w).alloc (Nat.le_refl _) (.cells #[.int .i64 by_.k, .string by_.x, sb] 29)
  have hx1 := heap_alloc_new w (.cells #[.int .i64 by_.k, .string by_.x, sb] 29)
  have hz1 : (w.alloc (.cells #[.int .i64 by_.k, .string by_.x, sb] 29)).heap.size = w.heap.size + 1 := World.size_alloc _ _
  obtain ⟨w1, hw1⟩ : ∃ w1, w.alloc (.cells #[.int .i64 by_.k, .string by_.x, sb] 29) = w1 := ⟨_, rfl⟩
  rw [hw1] at b1 hx1 hz1
  have b2 := (Below.refl w1.heap.size w1).alloc (Nat.le_refl _) (.cells #[.int .i64 0, .string ⟨#[]⟩, .slice none 0 0] 29)
  have hx2 := heap_alloc_new w1 (.cells #[.int .i64 0, .string ⟨#[]⟩, .slice none 0 0] 29)
  have hz2 : (w1.alloc (.cells #[.int .i64 0, .string ⟨#[]⟩, .slice none 0 0] 29)).heap.size = w1.heap.size + 1 := World.size_alloc _ _
  obtain ⟨W2, hw2⟩ : ∃ W2, w1.alloc (.cells #[.int .i64 0, .string ⟨#[]⟩, .slice none 0 0] 29) = W2 := ⟨_, rfl⟩
  rw [hw2] at b2 hx2 hz2
  have hx1' := (b2.block w.heap.size (by omega)).trans hx1
  rw [hz1] at hx2 hz2
  have HW : Hid ((w.alloc (.cells #[.int .i64 by_.k, .string by_.x, sb] 29)).alloc (.cells #[.int .i64 0, .string ⟨#[]⟩, .slice none 0 0] 29) = W2) := by show _ = _; rw [hw1, hw2]
  have HBW := Lib.hid (b1.trans (b2.mono (by omega)))
  have HX1 := Lib.hid hx1'
  have HX2 := Lib.hid hx2
  have HSB := Lib.hid hsb
  have HK := Lib.hid hk
  have HC := Lib.hid hc
  have HL := Lib.hid hl
  have HPS := Lib.hid hps
  have HXX := Lib.hid hX
  have HJ0 : Hid (JR X w W2 (w.heap.size + 1 + 1) (.slice none 0 0) [] W2) := ⟨World.ownsRow_nil _ _ _ _, (fun p hp => by cases hp), Below.refl _ _, by omega⟩
  clear b1 hx1 hw1 b2 hx2 hw2 hx1' hsb hk hc hl hps hz1 hX
  obtain ⟨kb, xb, cb⟩ := by_
  dsimp only at HW HX1 HSB hsbf ⊢
  subst hsbf
  obtain ⟨lb, hlb⟩ : ∃ lb, cb.len = lb := ⟨_, rfl⟩
  rw [hlb] at HW HX1 HSB ⊢
  go_enter Try.func17, Try.ntmps17
  go_wp2
  rw [HW.out]
  go_loopw [5, 10] (fun s5 s10 wr => ∃ (i : Nat) (cur : List Nv), i ≤ n ∧ s10 = .int .i64 (i : Int) ∧ Hid (JR X w W2 (w.heap.size + 1 + 1) s5 cur wr) ∧ Hid (cur.map (·.1) = jn ⟨kb, xb, cb⟩ (L.take i))) (fun _ s10 _ => n - (intOf s10).toNat)
  case atStart => exact ⟨0, [], Nat.zero_le _, rfl, HJ0.out, rfl⟩
  case round =>
    obtain ⟨i, cur, hi, rfl, hJ, hE⟩ := hrel
    have hcl : cur.length ≤ 2 * i := by
      have h1 := congrArg List.length hE.out
      have h2 := jn_len (⟨kb, xb, cb⟩ : Nd) (L.take i)
      rw [List.length_map] at h1
      rw [List.length_take] at h2
      omega
    have hbw := HBW.out.trans (hJ.out.bel.mono (by omega))
    by_cases hlt : i < n
    · obtain ⟨p, hp⟩ : ∃ p, ps[i]? = some p := ⟨ps[i]'(by rw [HL.out]; exact hlt), List.getElem?_eq_getElem _⟩
      obtain ⟨⟨k, x, c⟩, s⟩ := p
      obtain ⟨b, off, hA, hbl, hcl2⟩ := HC.out.resolve_left (by omega)
      subst hA
      have hki := HK.out _ (List.mem_of_getElem? hp)
      dsimp only at hki
      obtain ⟨As, Cs, rfl, _, _⟩ := hki.slice
      have key : ∀ j u, (ndC (((⟨k, x, c⟩ : Nd), Value.slice As c.len Cs) : Nv))[j]? = some u → wr.cell? ⟨b, off + (i * 3 + j), none⟩ = some u := fun j u hu => by
        have h1 := hcl2 (i * 3 + j) u (MemT.flat_at ndC_len ps i _ hp j u hu)
        exact (hbw.cell (p := ⟨b, off + (i * 3 + j), none⟩) hbl).trans h1
      have q0 := key 0 _ rfl
      have q1 := key 1 _ rfl
      have q2 := key 2 _ rfl
      simp only [Nat.add_zero, ← Nat.add_assoc] at q0 q1 q2
      have HKI := Lib.hid hki
      obtain ⟨lc, hlc⟩ : ∃ lc, c.len = lc := ⟨_, rfl⟩
      rw [hlc] at q2 HKI
      have hlt1 : (i : Int) < (n : Int) := by omega
      have hlt0 : (0 : Int) ≤ (i : Int) := by omega
      have ba := (Below.refl wr.heap.size wr).alloc (Nat.le_refl _) (.cells #[.int .i64 k, .string x, .slice As lc Cs] 29)
      have hxa := heap_alloc_new wr (.cells #[.int .i64 k, .string x, .slice As lc Cs] 29)
      have hza : (wr.alloc (.cells #[.int .i64 k, .string x, .slice As lc Cs] 29)).heap.size = wr.heap.size + 1 := World.size_alloc _ _
      have HJa := Lib.hid (hJ.out.later ba)
      have HTK : Hid (L.take (i + 1) = L.take i ++ [(⟨k, x, c⟩ : Nd)]) := by show _ = _; rw [← HPS.out, ← List.map_take, ← List.map_take, List.take_add_one, hp]; simp
      obtain ⟨av, cv, hv, _, _⟩ := hJ.out.form
      subst hv
      obtain ⟨z0, z1, z2⟩ := cl3 hxa
      by_cases hi00 : i = 0
      · have hcur : cur = [] := by
          subst hi00
          have := hE.out
          simp only [List.take_zero, jn] at this
          simpa using this
        have hi0' : ¬ (0 : Int) < (i : Int) := by omega
        have HE2 : Hid ((cur ++ [((⟨k, x, c⟩, .slice As lc Cs) : Nv)]).map (·.1) = jn ⟨kb, xb, cb⟩ (L.take (i + 1))) := by
          show _ = _
          rw [HTK.out, hcur, hi00]; rfl
        clear hp key hcl2 hki hbl ba hxa hcur hi00 hJ hE hbw
        go_wp2_with (at_builtin; refine MemT.app_cells (wr.alloc (.cells #[.int .i64 k, .string x, .slice As lc Cs] 29)) rfl _ _ rfl Try.underlying27 hi0 hzr hisz hby rfl (by decide) (w.heap.size + 1 + 1) (.slice av cur.length cv) cur.length (cur.flatMap ndC) [.int .i64 k, .string x, .slice As lc Cs] rfl HJa.out.own rfl (by simp [Value.oneCell']) (wr.heap.size + 1) hza.symm rfl (by omega) (by omega) HJa.out.big ?_; intro v' w2 hown hgrow hbel hat2; have HJ2 := Lib.hid (HJa.out.add HKI.out hown hbel); clear hown hgrow hbel hat2)
        go_roundw
        case rel => exact ⟨i + 1, _, by omega, by go_num, HJ2.out, HE2.out⟩
        case measure => simp [intOf]; omega
      · have hi0' : (0 : Int) < (i : Int) := by omega
        have hne : L.take i ≠ [] := by
          intro e
          have := congrArg List.length e
          rw [List.length_take, ← HPS.out, List.length_map, HL.out] at this
          simp at this
          omega
        have HE2 : Hid (((cur ++ [((⟨kb, xb, cb⟩, .slice Ab lb Cb) : Nv)]) ++ [((⟨k, x, c⟩, .slice As lc Cs) : Nv)]).map (·.1) = jn ⟨kb, xb, cb⟩ (L.take (i + 1))) := by
          show _ = _
          rw [HTK.out, jn_snoc _ _ _ hne, ← hE.out]
          simp
        have hby2 := ((hJ.out.bel.block w.heap.size (by omega)).trans HX1.out)
        have hby3 := (ba.block w.heap.size (lt_of hby2)).trans hby2
        obtain ⟨y0, y1, y2⟩ := cl3 hby3
        have hob : ∀ r, (Value.slice av cur.length cv).ownBlock = some r → r < wr.heap.size := fun r e => (hJ.out.own.lt r e).2
        have HXA := Lib.hid hxa
        have HOB := Lib.hid hob
        clear hp key hcl2 hki hbl ba hxa hJ hE hbw hne hby2 hby3 hob
        go_wp2_with (first | (at_builtin; refine MemT.app_cells (wr.alloc (.cells #[.int .i64 k, .string x, .slice As lc Cs] 29)) rfl _ _ rfl Try.underlying27 hi0 hzr hisz hby rfl (by decide) (w.heap.size + 1 + 1) (.slice av cur.length cv) cur.length (cur.flatMap ndC) [.int .i64 kb, .string xb, .slice Ab lb Cb] rfl HJa.out.own rfl (by simp [Value.oneCell']) (wr.heap.size + 1) hza.symm rfl (by omega) (by omega) HJa.out.big ?_; intro v' w2 hown hgrow hbel hat2; obtain ⟨hj2, a2, c2, hv2, hd2⟩ := join_mid HJa.out HSB.out hown hgrow hbel hza HOB.out HXA.out; subst hv2; obtain ⟨x0, x1, x2⟩ := cl3 hd2; have HJ2 := Lib.hid hj2; clear hown hgrow hbel hat2 hj2 hd2 z0 z1 z2) | (at_builtin; refine MemT.app_cells w2 rfl _ _ rfl Try.underlying27 hi0 hzr hisz hby rfl (by decide) (w.heap.size + 1 + 1) _ (cur.length + 1) ((cur ++ [((⟨kb, xb, cb⟩, .slice Ab lb Cb) : Nv)]).flatMap ndC) [.int .i64 k, .string x, .slice As lc Cs] rfl (by have := HJ2.out.own; rw [List.length_append, List.length_singleton] at this; exact this) rfl (by simp [Value.oneCell']) w2.heap.size rfl rfl (by omega) (by omega) HJ2.out.big ?_; intro v' w3 hown hgrow hbel hat2; have HJ3 := Lib.hid (HJ2.out.add HKI.out (by rw [List.length_append, List.length_singleton]; exact hown) hbel); clear hown hgrow hbel hat2))
        go_roundw
        case rel => exact ⟨i + 1, _, by omega, by go_num, HJ3.out, HE2.out⟩
        case measure => simp [intOf]; omega
    · obtain rfl : i = n := by omega
      have hlt1 : ¬ (i : Int) < (i : Int) := by omega
      have hEE := hE.out
      rw [List.take_of_length_le (by rw [← HPS.out, List.length_map, HL.out]; exact Nat.le_refl _)] at hEE
      obtain ⟨av, cv, hv, hvc, hvm⟩ := hJ.out.form
      subst hv
      have hgs := hJ.out.gs (R := w.heap.size + 1) (by omega) (by omega) HXX.out hbw rfl
      have hbig := hJ.out.big
      have HRW := Lib.hid (row_any (X := fun b => X b ∨ b = w.heap.size + 1) av cur.length cv _ wr (fun b hb => hb.elim (fun h => by have := HXX.out b h; omega) (fun h => by omega)) hgs (by omega) hvm)
      rw [toL_ofL, hEE] at HRW
      have hx2 := (hJ.out.bel.block (w.heap.size + 1) (by omega)).trans HX2.out
      have HX3 := Lib.hid hx2
      have HBW2 := Lib.hid hbw
      clear hgs hJ hE hEE hx2 hbw
      generalize rowN (jn (⟨kb, xb, cb⟩ : Nd) L) = nr at *
      go_wp2_with fail
      refine HRW.out.mono ?_
      rintro e w3 ⟨s3, rfl, hs3, hb3⟩
      obtain ⟨A3, C3, rfl, _, _⟩ := hs3.slice
      have hx3 := (hb3.block (w.heap.size + 1) (by omega)).trans HX3.out
      obtain ⟨z0, z1, z2⟩ := cl3 hx3
      have f0 := frz hx3 0
      have f1 := frz hx3 1
      have f2 := frz hx3 2
      obtain ⟨kr, xr, cr⟩ := nr
      dsimp only at hs3 ⊢
      obtain ⟨W, hW, hfin, hoth, hbW⟩ := fin3 hx3 (.int .i64 kr) (.string xr) (.slice A3 cr.len C3)
      have hbb := HBW2.out.trans ((hb3.mono HBW2.out.size).trans (hbW.mono (by omega)))
      have HP : Hid (DocPost X ⟨kr, xr, cr⟩ w (.returned (.agg #[.int .i64 kr, .string xr, .slice A3 cr.len C3])) W) := ⟨_, rfl, ((hs3.dx (fun b hb => hoth b (fun e => hb.2 (.inr e)))).more fun b hb => ⟨hb.1, fun h => hb.2 (.inl h)⟩), hbb⟩
      have HFIN := Lib.hid hfin
      have HW2 := Lib.hid hW
      clear hs3 hb3 hx3 hW hfin hoth hbW hbb HRW HX3
      go_wp2
      rw [HW2.out]
      refine bodyPost_ret (results_cell_row rfl _ _ (w.heap.size + 1) 29 _ (0, 0) _ rfl HFIN.out Try.underlying29 rfl doc_size) rfl ?_
      exact HP.out
theorem join_any {X : Nat → Prop} (by_ : Nd) (sb : Value) (A : Option Addr) (n C : Nat) (g : G) (w : World) (hX : ∀ b, X b → b < w.heap.size) (hsb : Gs w (Dx X w) sb by_.c) (hs : Gs w (Dx X w) (.slice A n C) g) (hn : n ≤ 100000) (hCm : C ≤ maxLen) :
    Calls Try.prog 17 #[.agg #[.int .i64 by_.k, .string by_.x, sb], .slice A n C] w (DocPost X (rowN (jn by_ (toL g))) w) := by
  obtain ⟨ps, hps, hk, hc⟩ := gs_flat g A n C hs
  have hgl : g.len = n := by obtain ⟨_, _, e, _, _⟩ := hs.slice; injection e with _ e _; exact e.symm
  have hnC : n ≤ C := by obtain ⟨_, _, e, h, _⟩ := hs.slice; injection e with _ e1 e2; omega
  have hl : ps.length = n := by rw [← hgl, ← toL_len, ← hps, List.length_map]
  exact join_flat by_ sb A n C ps _ w hX hsb hps hl hk (hc.imp id fun ⟨b, off, e, hS, h⟩ => ⟨b, off, e, hS.1.lt, h⟩) hn hnC hCm
end Go.Proofs.Ytllpdccpenghgaa.Doc
