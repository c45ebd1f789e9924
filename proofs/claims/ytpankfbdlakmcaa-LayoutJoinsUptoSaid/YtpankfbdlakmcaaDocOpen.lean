/-
  Layer 7 (doc): a plan that came in, as it lies in memory.
-/
import Derived.Test.YtpankfbdlakmcaaChecked
import Derived.Test.YtpankfbdlakmcaaDocMem
import Derived.Deep.Slices
import Derived.OpenShut
namespace Go.Proofs.Ytpankfbdlakmcaa.Doc
open Go.ChangeShapes Go.WideShapes Go.ChangeAt Go.RowKit
set_option linter.unusedVariables false

section
variable {H : Type} {enc : TypeId × Value → H} {W : World}

/-- The rows that a reading meets, out of its elements by index. -/
theorem gs_index (b : Nat) : ∀ (m off n C : Nat), n ≤ C → C ≤ 9223372036854775807 → n = m → b < W.heap.size →
    (∀ i, i < n → ∃ k x s c, W.cell? ⟨b, off + i * 3, none⟩ = some (.int .i64 k) ∧ W.cell? ⟨b, off + i * 3 + 1, none⟩ = some (.string x) ∧ W.cell? ⟨b, off + i * 3 + 2, none⟩ = some s ∧ Gs W (Lo W.heap.size) s c) →
    ∃ f, f.len = n ∧ ∀ A, (n = 0 ∨ A = some ⟨b, off, none⟩) → Gs W (Lo W.heap.size) (.slice A n C) f
  | 0, off, n, C, hC, hm, hn, hb, h => by
    subst hn
    exact ⟨.nil, rfl, fun A _ => ⟨A, C, rfl, hm⟩⟩
  | m + 1, off, n, C, hC, hm, hn, hb, h => by
    subst hn
    obtain ⟨C', rfl⟩ : ∃ C', C = C' + 1 := ⟨C - 1, by omega⟩
    obtain ⟨k, x, s, c, c0, c1, c2, hk⟩ := h 0 (by omega)
    simp only [Nat.zero_mul, Nat.add_zero] at c0 c1 c2
    obtain ⟨r, hr, hr2⟩ := gs_index b m (off + 3) m C' (by omega) (by omega) rfl hb (fun i hi => by
      obtain ⟨k, x, s, c, c0, c1, c2, hk⟩ := h (i + 1) (by omega)
      rw [show off + (i + 1) * 3 = off + 3 + i * 3 by omega] at c0 c1 c2
      exact ⟨k, x, s, c, c0, c1, c2, hk⟩)
    refine ⟨.cons k x c r, by simp only [G.len, hr], fun A hA => ?_⟩
    have hA' : A = some ⟨b, off, none⟩ := hA.resolve_left (by omega)
    subst hA'
    exact ⟨b, off, m, C', s, rfl, hr, by omega, hm, hb, c0, c1, c2, hk, fun A' hA' => hr2 A' (by
      rcases hA' with h' | h'
      · left; rw [h'] at hr; exact hr.symm
      · exact .inr h')⟩

set_option maxRecDepth 100000 in
theorem open_node : ∀ (fuel : Nat) (cs : List Value) (x : DataW H × List MemPlace), DataW.trod enc Try.prog W 0 (fun _ => true) true fuel 24 cs = some x →
    ∃ k s A n C c, cs = [.int .i64 k, .string s, .slice A n C] ∧ Gs W (Lo W.heap.size) (.slice A n C) c ∧ s.size ≤ maxLen := by
  intro fuel
  induction fuel using Nat.strongRecOn with
  | _ fuel ih =>
    intro cs x h
    obtain ⟨xs, m, hfuel, rfl, hl, hlen, hf⟩ := DataW.trod_struct Try.underlying24 h
    have hc4 : Try.prog.cellsOf 24 = 3 := by kernel_rfl
    rw [hc4] at hl
    match cs, hl with
    | [v0, v1, v3], _ =>
      have g0 := hf 0 _ rfl
      have g1 := hf 1 _ rfl
      have g3 := hf 2 _ rfl
      have ci : Try.prog.cellsOf 3 = 1 := by kernel_rfl
      have cstr : Try.prog.cellsOf 9 = 1 := by kernel_rfl
      have csl : Try.prog.cellsOf 22 = 1 := by kernel_rfl
      simp [ci, cstr, csl] at g0 g1 g3
      have hl4 : xs.length = 3 := hlen
      match xs, hl4 with
      | [y0, y1, y3], _ =>
        simp only [List.getElem?_cons_zero, List.getElem?_cons_succ] at g0 g1 g3
        obtain ⟨k, e0, _, _⟩ := DataW.trod_int Try.underlying3 g0
        obtain ⟨s, e1, _, hs⟩ := DataW.trod_string Try.underlying9 g1
        simp only [List.cons.injEq, and_true] at e0 e1
        subst e0; subst e1
        rcases DataW.trod_slice Try.underlying22 g3 with ⟨e3, _⟩ | ⟨a, len, cap, elems, rest, q, hq, e3, _, _, hlc, hcm, hel, hcell, _, _⟩
        · simp only [List.cons.injEq, and_true] at e3
          subst e3
          exact ⟨k, s, none, 0, 0, .nil, rfl, ⟨none, 0, rfl, by omega⟩, hs⟩
        · simp only [List.cons.injEq, and_true] at e3
          subst e3
          rw [hc4] at hcell
          have hone : ∀ i, i < len → ∃ k x s c, W.cell? (a.add (i * 3)) = some (.int .i64 k) ∧ W.cell? ((a.add (i * 3)).add 1) = some (.string x) ∧ W.cell? ((a.add (i * 3)).add 2) = some s ∧ Gs W (Lo W.heap.size) s c := by
            intro i hi
            have hb := hcell i hi
            rw [List.getElem?_eq_getElem (by omega)] at hb
            obtain ⟨cs', h1, h2⟩ := Option.bind_eq_some_iff.1 hb
            obtain ⟨k', s', A', n', C', c', e, hfs, _⟩ := ih q (by omega) cs' _ h2
            subst e
            obtain ⟨_, _, hcs⟩ := World.cells?_some h1
            have a0 : (a.add (i * 3)).add 0 = a.add (i * 3) := by unfold Addr.add; simp
            refine ⟨k', s', .slice A' n' C', c', ?_, hcs 1 (by omega), hcs 2 (by omega), hfs⟩
            have := hcs 0 (by omega)
            rwa [a0] at this
          obtain ⟨b, off, spot⟩ := a
          by_cases hz : len = 0
          · subst hz
            exact ⟨k, s, _, 0, cap, .nil, rfl, ⟨_, cap, rfl, hcm⟩, hs⟩
          · obtain ⟨_, _, _, _, h0, _⟩ := hone 0 (by omega)
            have hspot : spot = none := by simpa [Addr.add] using World.cell?_spot h0
            subst hspot
            have hbl : b < W.heap.size := by have := World.block_lt_of_cell? W _ h0; simpa [Addr.add] using this
            have ad : ∀ o j, (⟨b, o, none⟩ : Addr).add j = ⟨b, o + j, none⟩ := fun o j => by unfold Addr.add; split <;> simp_all
            obtain ⟨f, hfl, hff⟩ := gs_index (W := W) b len off len cap hlc hcm rfl hbl (fun i hi => by
              obtain ⟨k, x, s, c, c0, c1, c2, hk⟩ := hone i hi
              simp only [ad] at c0 c1 c2
              exact ⟨k, x, s, c, c0, c1, c2, hk⟩)
            exact ⟨k, s, _, len, cap, f, rfl, hff _ (.inr rfl), hs⟩

/-- A node that is an argument. -/
theorem open_arg {v : Value} {d : DataW H} {p : List MemPlace} (hv : ∃ cs, v = .agg cs ∧ cs.size = Try.prog.cellsOf 24) (h : DataW.Trod enc Try.prog W 0 (fun _ => true) true 24 v d p) :
    ∃ k s A n C c, v = .agg #[.int .i64 k, .string s, .slice A n C] ∧ Gs W (Lo W.heap.size) (.slice A n C) c ∧ s.size ≤ maxLen := by
  obtain ⟨cs, rfl, _⟩ := hv
  obtain ⟨fuel, hf⟩ := h
  obtain ⟨k, s, A, n, C, c, e, r⟩ := open_node fuel _ _ hf
  refine ⟨k, s, A, n, C, c, ?_, r⟩
  simp only [Value.cells] at e
  congr 1
  exact Array.ext' (by simpa using e)
end
end Go.Proofs.Ytpankfbdlakmcaa.Doc
