/-
  Layer 7 (doc): several documents, each made by Built and put into a box of its own, in any order.
-/
import Derived.Test.YtpankfbdlakmcaaMemInv
import Derived.Test.YtpankfbdlakmcaaDocIs
namespace Go.Proofs.Ytpankfbdlakmcaa.Doc
open Go.ChangeShapes Go.WideShapes Go.ChangeAt Go.RowKit Mem
set_option linter.unusedVariables false

/-- The boxes that are there. -/
def Bx (m : Nat) (L : Nat → Bool) (x : Nat → Value) (b : Nat) : Prop := ∃ k, k < m ∧ L (2 * m + k) = true ∧ x (2 * m + k) = .pointer (some ⟨b, 0, none⟩)
def docV (nd : Nd) (s : Value) : Value := .agg #[.int .i64 nd.k, .string nd.x, s]
/-- The region: i < m: operation 2i loads a plan, 2i+1 builds its document, 2m+i makes a box, 3m+i stores. -/
structure IB (m : Nat) (w0 : World) (pl : Nat → Value) (nd : Nat → Nd) (L : Nat → Bool) (x : Nat → Value) (W : World) : Prop where
  bel : Below w0.heap.size w0 W
  load : ∀ i, i < m → L (2 * i) = true → x (2 * i) = pl i
  call : ∀ i, i < m → L (2 * i + 1) = true → ∃ s, x (2 * i + 1) = docV (nd i) s ∧ Gs W (Dx (Bx m L x) W) s (nd i).c
  box : ∀ i, i < m → L (2 * m + i) = true → ∃ g u0 u1 u2, x (2 * m + i) = .pointer (some ⟨g, 0, none⟩) ∧ w0.heap.size ≤ g ∧ W.heap[g]? = some (Obj.cells #[u0, u1, u2] 32 (0, 0)) ∧ (L (3 * m + i) = true → x (2 * i + 1) = .agg #[u0, u1, u2])
  ne : ∀ i j, i < m → j < m → i ≠ j → L (2 * m + i) = true → L (2 * m + j) = true → x (2 * m + i) ≠ x (2 * m + j)
  dep : ∀ i, i < m → L (3 * m + i) = true → L (2 * i + 1) = true ∧ L (2 * m + i) = true
section
variable {m : Nat} {w0 : World} {pl : Nat → Value} {nd : Nat → Nd} {L : Nat → Bool} {x : Nat → Value} {W W' : World} {q : Nat} {v : Value}
theorem updL_of {j : Nat} (h : updL L q j = true) (hne : j ≠ q) : L j = true := by unfold updL at h; rwa [if_neg hne] at h
theorem updX_of {j : Nat} (hne : j ≠ q) : updX x q v j = x j := by unfold updX; rw [if_neg hne]
theorem updX_at : updX x q v q = v := by unfold updX; rw [if_pos rfl]
theorem bx_of {b : Nat} (hq : ∀ k, k < m → 2 * m + k ≠ q) (h : Bx m (updL L q) (updX x q v) b) : Bx m L x b := by
  obtain ⟨k, hk, h1, h2⟩ := h
  refine ⟨k, hk, updL_of h1 (hq k hk), ?_⟩
  rwa [updX_of (hq k hk)] at h2
theorem IB.start : IB m W pl nd (fun _ => false) x W :=
  ⟨Below.refl _ _, fun _ _ h => (by cases h), fun _ _ h => (by cases h), fun _ _ h => (by cases h), fun _ _ _ _ _ h => (by cases h), fun _ _ h => (by cases h)⟩
theorem IB.lt (h : IB m w0 pl nd L x W) {b : Nat} (hb : Bx m L x b) : b < W.heap.size := by
  obtain ⟨k, hk, h1, h2⟩ := hb
  obtain ⟨g, u0, u1, u2, e, _, hg, _⟩ := h.box k hk h1
  rw [h2] at e
  injection e with e; injection e with e; injection e with e
  subst e
  exact lt_of hg
theorem IB.loadStep (h : IB m w0 pl nd L x W) {i : Nat} (hi : i < m) (hL : L (2 * i) = false) : IB m w0 pl nd (updL L (2 * i)) (updX x (2 * i) (pl i)) W := by
  refine ⟨h.bel, fun j hj hl => ?_, fun j hj hl => ?_, fun j hj hl => ?_, fun j k hj hk hjk h1 h2 => ?_, fun j hj hl => ?_⟩
  · by_cases e : j = i
    · subst e; exact updX_at
    · rw [updX_of (by omega)]; exact h.load j hj (updL_of hl (by omega))
  · obtain ⟨s, e, hg⟩ := h.call j hj (updL_of hl (by omega))
    exact ⟨s, by rw [updX_of (by omega)]; exact e, hg.more fun b hb => ⟨hb.1, fun hx => hb.2 (bx_of (fun k hk => by omega) hx)⟩⟩
  · obtain ⟨g, u0, u1, u2, e, hg, hc, hs⟩ := h.box j hj (updL_of hl (by omega))
    exact ⟨g, u0, u1, u2, by rw [updX_of (by omega)]; exact e, hg, hc, fun hl2 => by rw [updX_of (by omega)]; exact hs (updL_of hl2 (by omega))⟩
  · rw [updX_of (by omega), updX_of (by omega)]; exact h.ne j k hj hk hjk (updL_of h1 (by omega)) (updL_of h2 (by omega))
  · obtain ⟨h1, h2⟩ := h.dep j hj (updL_of hl (by omega))
    unfold updL
    rw [if_neg (by omega), if_neg (by omega)]
    exact ⟨h1, h2⟩
theorem IB.callStep (h : IB m w0 pl nd L x W) {i : Nat} (hi : i < m) (hL : L (2 * i + 1) = false) {s : Value} (hb : Below W.heap.size W W') (hs : Gs W' (Dx (Bx m L x) W') s (nd i).c) : IB m w0 pl nd (updL L (2 * i + 1)) (updX x (2 * i + 1) (docV (nd i) s)) W' := by
  refine ⟨h.bel.trans (hb.mono h.bel.size), fun j hj hl => ?_, fun j hj hl => ?_, fun j hj hl => ?_, fun j k hj hk hjk h1 h2 => ?_, fun j hj hl => ?_⟩
  · rw [updX_of (by omega)]; exact h.load j hj (updL_of hl (by omega))
  · by_cases e : j = i
    · subst e
      exact ⟨s, updX_at, hs.more fun b hb => ⟨hb.1, fun hx => hb.2 (bx_of (fun k hk => by omega) hx)⟩⟩
    · obtain ⟨s', e', hg⟩ := h.call j hj (updL_of hl (by omega))
      exact ⟨s', by rw [updX_of (by omega)]; exact e', (hg.dxB hb).more fun b hb => ⟨hb.1, fun hx => hb.2 (bx_of (fun k hk => by omega) hx)⟩⟩
  · obtain ⟨g, u0, u1, u2, e, hg, hc, hs⟩ := h.box j hj (updL_of hl (by omega))
    refine ⟨g, u0, u1, u2, by rw [updX_of (by omega)]; exact e, hg, (hb.block g (lt_of hc)).trans hc, fun hl2 => ?_⟩
    have hl3 := updL_of hl2 (by omega)
    by_cases e : j = i
    · subst e
      have := (h.dep j hj hl3).1
      rw [hL] at this; cases this
    · rw [updX_of (by omega)]; exact hs hl3
  · rw [updX_of (by omega), updX_of (by omega)]; exact h.ne j k hj hk hjk (updL_of h1 (by omega)) (updL_of h2 (by omega))
  · obtain ⟨h1, h2⟩ := h.dep j hj (updL_of hl (by omega))
    unfold updL
    rw [h1, h2]
    exact ⟨by split <;> rfl, by split <;> rfl⟩
theorem IB.boxStep (h : IB m w0 pl nd L x W) {i : Nat} (hi : i < m) (hL : L (2 * m + i) = false) {u0 u1 u2 : Value} (hb : Below W.heap.size W W') (hc : W'.heap[W.heap.size]? = some (Obj.cells #[u0, u1, u2] 32 (0, 0))) :
    IB m w0 pl nd (updL L (2 * m + i)) (updX x (2 * m + i) (.pointer (some ⟨W.heap.size, 0, none⟩))) W' := by
  have old : ∀ j, j < m → j ≠ i → L (2 * m + j) = true → x (2 * m + j) ≠ .pointer (some ⟨W.heap.size, 0, none⟩) := fun j hj hji hl e => by
    have := h.lt ⟨j, hj, hl, e⟩
    omega
  refine ⟨h.bel.trans (hb.mono h.bel.size), fun j hj hl => ?_, fun j hj hl => ?_, fun j hj hl => ?_, fun j k hj hk hjk h1 h2 => ?_, fun j hj hl => ?_⟩
  · rw [updX_of (by omega)]; exact h.load j hj (updL_of hl (by omega))
  · obtain ⟨s, e, hg⟩ := h.call j hj (updL_of hl (by omega))
    refine ⟨s, by rw [updX_of (by omega)]; exact e, (hg.keep (fun b hb' => hb.block b hb'.1.lt)).more fun b hb' => ⟨hb'.1.below hb, ?_⟩⟩
    rintro ⟨k, hk, h1, h2⟩
    by_cases e : k = i
    · subst e
      rw [updX_at] at h2
      injection h2 with e; injection e with e; injection e with e
      have := hb'.1.lt
      omega
    · rw [updX_of (by omega)] at h2
      exact hb'.2 ⟨k, hk, updL_of h1 (by omega), h2⟩
  · by_cases e : j = i
    · subst e
      refine ⟨W.heap.size, u0, u1, u2, updX_at, h.bel.size, hc, fun hl2 => ?_⟩
      have := (h.dep j hj (updL_of hl2 (by omega))).2
      rw [hL] at this; cases this
    · obtain ⟨g, u0, u1, u2, e', hg, hc, hs⟩ := h.box j hj (updL_of hl (by omega))
      exact ⟨g, u0, u1, u2, by rw [updX_of (by omega)]; exact e', hg, (hb.block g (lt_of hc)).trans hc, fun hl2 => by rw [updX_of (by omega)]; exact hs (updL_of hl2 (by omega))⟩
  · by_cases e : j = i
    · subst e
      rw [updX_at, updX_of (by omega)]
      exact (old k hk (Ne.symm hjk) (updL_of h2 (by omega))).symm
    · rw [updX_of (show 2 * m + j ≠ 2 * m + i by omega)]
      by_cases e2 : k = i
      · subst e2
        rw [updX_at]
        exact old j hj hjk (updL_of h1 (by omega))
      · rw [updX_of (by omega)]; exact h.ne j k hj hk hjk (updL_of h1 (by omega)) (updL_of h2 (by omega))
  · obtain ⟨h1, h2⟩ := h.dep j hj (updL_of hl (by omega))
    unfold updL
    rw [h1, h2]
    exact ⟨by split <;> rfl, by split <;> rfl⟩
theorem IB.storeStep (h : IB m w0 pl nd L x W) {i : Nat} (hi : i < m) (h1 : L (2 * i + 1) = true) (h2 : L (2 * m + i) = true) : ∃ g u0 u1 u2 A C, x (2 * m + i) = .pointer (some ⟨g, 0, none⟩) ∧ x (2 * i + 1) = docV (nd i) (.slice A (nd i).c.len C) ∧ W.heap[g]? = some (Obj.cells #[u0, u1, u2] 32 (0, 0)) ∧
    ∀ v, IB m w0 pl nd (updL L (3 * m + i)) (updX x (3 * m + i) v) (((W.setCell ⟨g, 0, none⟩ (.int .i64 (nd i).k)).setCell ⟨g, 1, none⟩ (.string (nd i).x)).setCell ⟨g, 2, none⟩ (.slice A (nd i).c.len C)) := by
  obtain ⟨g, u0, u1, u2, e1, hg, hc, _⟩ := h.box i hi h2
  obtain ⟨s, e2, hgs⟩ := h.call i hi h1
  obtain ⟨As, Cs, rfl, _, _⟩ := hgs.slice
  refine ⟨g, u0, u1, u2, As, Cs, e1, e2, hc, fun v => ?_⟩
  obtain ⟨W2, hW2, hfin, hoth, hbW⟩ := fin3 hc (.int .i64 (nd i).k) (.string (nd i).x) (.slice As (nd i).c.len Cs)
  rw [hW2]
  refine ⟨h.bel.trans (hbW.mono hg), fun j hj hl => ?_, fun j hj hl => ?_, fun j hj hl => ?_, fun j k hj hk hjk h1 h2 => ?_, fun j hj hl => ?_⟩
  · rw [updX_of (by omega)]; exact h.load j hj (updL_of hl (by omega))
  · obtain ⟨s', e', hg'⟩ := h.call j hj (updL_of hl (by omega))
    refine ⟨s', by rw [updX_of (by omega)]; exact e', (hg'.dx fun b hb => hoth b fun e => hb.2 ⟨i, hi, h2, by rw [e1, e]⟩).more fun b hb => ⟨hb.1, fun hx => hb.2 (bx_of (fun k hk => by omega) hx)⟩⟩
  · by_cases e : j = i
    · subst e
      exact ⟨g, _, _, _, by rw [updX_of (by omega)]; exact e1, hg, hfin, fun _ => by rw [updX_of (by omega)]; exact e2⟩
    · obtain ⟨g', v0, v1, v2, e', hg', hc', hs⟩ := h.box j hj (updL_of hl (by omega))
      refine ⟨g', v0, v1, v2, by rw [updX_of (by omega)]; exact e', hg', (hoth g' fun eg => ?_).trans hc', fun hl2 => by rw [updX_of (by omega)]; exact hs (updL_of hl2 (by omega))⟩
      exact h.ne j i hj hi e (updL_of hl (by omega)) h2 (by rw [e', e1, eg])
  · rw [updX_of (by omega), updX_of (by omega)]; exact h.ne j k hj hk hjk (updL_of h1 (by omega)) (updL_of h2 (by omega))
  · by_cases e : j = i
    · subst e
      unfold updL
      rw [h1, h2]
      exact ⟨by split <;> rfl, by split <;> rfl⟩
    · obtain ⟨h1, h2⟩ := h.dep j hj (updL_of hl (by omega))
      unfold updL
      rw [h1, h2]
      exact ⟨by split <;> rfl, by split <;> rfl⟩
end
end Go.Proofs.Ytpankfbdlakmcaa.Doc
