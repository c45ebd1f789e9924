/-
  Layer 7 (doc): a plan that came in, as it lies in memory, and how long its texts are together: no longer than its bulk.
-/
import Derived.Test.YtpankfbdlakmcaaRows
import Derived.Test.YtpankfbdlakmcaaDocFlat
import Derived.Deep.Slices
import Derived.OpenShut
namespace Go.Proofs.Ytpankfbdlakmcaa.Doc
open Go.ChangeShapes Go.WideShapes Go.ChangeAt Go.RowKit
set_option linter.unusedVariables false

section
variable {H : Type} {enc : TypeId × Value → H} {W : World}

/-- The letters of a row of plans. -/
def txt : G → Nat
  | .nil => 0
  | .cons k x c r => x.size + txt c + txt r
/-- The rows that a reading meets, out of its elements by index. -/
theorem gs_indexB (b : Nat) : ∀ (ds : List (DataW H)) (off n C : Nat), n ≤ C → C ≤ 9223372036854775807 → n = ds.length → b < W.heap.size →
    (∀ i d, ds[i]? = some d → ∃ k x s c, W.cell? ⟨b, off + i * 3, none⟩ = some (.int .i64 k) ∧ W.cell? ⟨b, off + i * 3 + 1, none⟩ = some (.string x) ∧ W.cell? ⟨b, off + i * 3 + 2, none⟩ = some s ∧ Gs W (Lo W.heap.size) s c ∧ x.size + txt c ≤ Rows.uptoBulk d) →
    ∃ f, f.len = n ∧ txt f ≤ Rows.uptoBulkAll ds ∧ ∀ A, (n = 0 ∨ A = some ⟨b, off, none⟩) → Gs W (Lo W.heap.size) (.slice A n C) f
  | [], off, n, C, hC, hm, hn, hb, h => by
    subst hn
    exact ⟨.nil, rfl, Nat.le_refl _, fun A _ => ⟨A, C, rfl, hm⟩⟩
  | d :: ds, off, n, C, hC, hm, hn, hb, h => by
    subst hn
    simp only [List.length_cons] at hC ⊢
    obtain ⟨C', rfl⟩ : ∃ C', C = C' + 1 := ⟨C - 1, by omega⟩
    obtain ⟨k, x, s, c, c0, c1, c2, hk, ht⟩ := h 0 d rfl
    simp only [Nat.zero_mul, Nat.add_zero] at c0 c1 c2
    obtain ⟨r, hr, ht2, hr2⟩ := gs_indexB b ds (off + 3) ds.length C' (by omega) (by omega) rfl hb (fun i e hi => by
      obtain ⟨k, x, s, c, c0, c1, c2, hk⟩ := h (i + 1) e (by simpa using hi)
      rw [show off + (i + 1) * 3 = off + 3 + i * 3 by omega] at c0 c1 c2
      exact ⟨k, x, s, c, c0, c1, c2, hk⟩)
    refine ⟨.cons k x c r, by simp only [G.len, hr], by simp only [txt, Rows.uptoBulkAll]; omega, fun A hA => ?_⟩
    have hA' : A = some ⟨b, off, none⟩ := hA.resolve_left (by omega)
    subst hA'
    refine ⟨b, off, ds.length, C', s, rfl, hr, by omega, hm, hb, c0, c1, c2, hk, fun A' hA' => hr2 A' ?_⟩
    rcases hA' with h' | h'
    · left; rw [h'] at hr; exact hr.symm
    · exact .inr h'

set_option maxRecDepth 100000 in
theorem open_nodeB : ∀ (fuel : Nat) (cs : List Value) (x : DataW H × List MemPlace), DataW.trod enc Try.prog W 0 (fun _ => true) true fuel 24 cs = some x →
    ∃ k s A n C c, cs = [.int .i64 k, .string s, .slice A n C] ∧ Gs W (Lo W.heap.size) (.slice A n C) c ∧ s.size + txt c ≤ Rows.uptoBulk x.1 := by
  intro fuel
  induction fuel using Nat.strongRecOn with
  | _ fuel ih =>
    intro cs x h
    obtain ⟨xs, m, hfuel, rfl, hl, hlen, hf⟩ := DataW.trod_struct Try.underlying24 h
    have hc4 : Try.prog.cellsOf 24 = 3 := by kernel_rfl
    rw [hc4] at hl
    match cs, hl with
    | [v0, v1, v3], _ =>
      have g0 := hf 0 _ rfl
      have g1 := hf 1 _ rfl
      have g3 := hf 2 _ rfl
      have ci : Try.prog.cellsOf 3 = 1 := by kernel_rfl
      have cstr : Try.prog.cellsOf 9 = 1 := by kernel_rfl
      have csl : Try.prog.cellsOf 22 = 1 := by kernel_rfl
      simp [ci, cstr, csl] at g0 g1 g3
      have hl4 : xs.length = 3 := hlen
      match xs, hl4 with
      | [y0, y1, y3], _ =>
        simp only [List.getElem?_cons_zero, List.getElem?_cons_succ] at g0 g1 g3
        obtain ⟨k, e0, x0, _⟩ := DataW.trod_int Try.underlying3 g0
        obtain ⟨s, e1, x1, hs⟩ := DataW.trod_string Try.underlying9 g1
        simp only [List.cons.injEq, and_true] at e0 e1
        subst e0; subst e1
        have hss : s.data.toList.length = s.size := by rw [Array.length_toList]; rfl
        rcases DataW.trod_slice Try.underlying22 g3 with ⟨e3, x3⟩ | ⟨a, len, cap, elems, rest, q, hq, e3, x3, _, hlc, hcm, hel, hcell, _, _⟩
        · simp only [List.cons.injEq, and_true] at e3
          subst e3
          refine ⟨k, s, none, 0, 0, .nil, rfl, ⟨none, 0, rfl, by omega⟩, ?_⟩
          rw [x0, x1, x3]
          simp only [List.map_cons, List.map_nil, Rows.uptoBulk, Rows.uptoBulkAll, txt, hss]
          omega
        · simp only [List.cons.injEq, and_true] at e3
          subst e3
          rw [hc4] at hcell
          have hone : ∀ i y, elems[i]? = some y → ∃ k x s c, W.cell? (a.add (i * 3)) = some (.int .i64 k) ∧ W.cell? ((a.add (i * 3)).add 1) = some (.string x) ∧ W.cell? ((a.add (i * 3)).add 2) = some s ∧ Gs W (Lo W.heap.size) s c ∧ x.size + txt c ≤ Rows.uptoBulk y.1 := by
            intro i y hy
            have hi : i < len := by rw [← hel]; exact (List.getElem?_eq_some_iff.1 hy).1
            have hb := hcell i hi
            rw [hy] at hb
            obtain ⟨cs', h1, h2⟩ := Option.bind_eq_some_iff.1 hb
            obtain ⟨k', s', A', n', C', c', e, hfs, hbk⟩ := ih q (by omega) cs' _ h2
            subst e
            obtain ⟨_, _, hcs⟩ := World.cells?_some h1
            have a0 : (a.add (i * 3)).add 0 = a.add (i * 3) := by unfold Addr.add; simp
            refine ⟨k', s', .slice A' n' C', c', ?_, hcs 1 (by omega), hcs 2 (by omega), hfs, hbk⟩
            have := hcs 0 (by omega)
            rwa [a0] at this
          obtain ⟨b, off, spot⟩ := a
          by_cases hz : len = 0
          · subst hz
            refine ⟨k, s, _, 0, cap, .nil, rfl, ⟨_, cap, rfl, hcm⟩, ?_⟩
            rw [x0, x1, x3]
            simp only [List.map_cons, List.map_nil, Rows.uptoBulk, Rows.uptoBulkAll, txt, hss]
            omega
          · obtain ⟨y0', hy0⟩ : ∃ y, elems[0]? = some y := ⟨elems[0], List.getElem?_eq_getElem (by omega)⟩
            obtain ⟨_, _, _, _, h0, _⟩ := hone 0 _ hy0
            have hspot : spot = none := by simpa [Addr.add] using World.cell?_spot h0
            subst hspot
            have hbl : b < W.heap.size := by have := World.block_lt_of_cell? W _ h0; simpa [Addr.add] using this
            have ad : ∀ o j, (⟨b, o, none⟩ : Addr).add j = ⟨b, o + j, none⟩ := fun o j => by unfold Addr.add; split <;> simp_all
            obtain ⟨f, hfl, htx, hff⟩ := gs_indexB (W := W) b (elems.map (·.1)) off len cap hlc hcm (by rw [List.length_map]; exact hel.symm) hbl (fun i d hd => by
              rw [List.getElem?_map] at hd
              obtain ⟨y, hy, rfl⟩ := Option.map_eq_some_iff.1 hd
              obtain ⟨k, x, s, c, c0, c1, c2, hk⟩ := hone i y hy
              simp only [ad] at c0 c1 c2
              exact ⟨k, x, s, c, c0, c1, c2, hk⟩)
            refine ⟨k, s, _, len, cap, f, rfl, hff _ (.inr rfl), ?_⟩
            rw [x0, x1, x3]
            simp only [List.map_cons, List.map_nil, Rows.uptoBulk, Rows.uptoBulkAll, hss]
            omega

/-- A node that is an argument. -/
theorem open_argB {v : Value} {d : DataW H} {p : List MemPlace} (hv : ∃ cs, v = .agg cs ∧ cs.size = Try.prog.cellsOf 24) (h : DataW.Trod enc Try.prog W 0 (fun _ => true) true 24 v d p) :
    ∃ k s A n C c, v = .agg #[.int .i64 k, .string s, .slice A n C] ∧ Gs W (Lo W.heap.size) (.slice A n C) c ∧ s.size + txt c ≤ Rows.uptoBulk d := by
  obtain ⟨cs, rfl, _⟩ := hv
  obtain ⟨fuel, hf⟩ := h
  obtain ⟨k, s, A, n, C, c, e, r⟩ := open_nodeB fuel _ _ hf
  refine ⟨k, s, A, n, C, c, ?_, r⟩
  simp only [Value.cells] at e
  congr 1
  exact Array.ext' (by simpa using e)
end
theorem flB_wopn (k : Int) : flB (wopn k) = [] := by
  unfold wopn
  split
  · rename_i h
    rcases h with rfl | rfl <;> rfl
  · rfl
theorem flB_wcls (k : Int) : flB (wcls k) = [] := by
  unfold wcls
  split
  · rename_i h
    rcases h with rfl | rfl <;> rfl
  · rfl
theorem flB_plOne (k : Int) (x : ByteArray) (l : List Pc) : (flB (plOne k x l)).length ≤ x.size + 1 + (flB l).length := by
  unfold plOne
  split
  · split
    · exact Nat.zero_le _
    · have h : (flB [((1, x) : Pc)]).length = x.size := by
        simp only [flB, List.flatMap_cons, List.flatMap_nil, List.append_nil]
        show x.data.toList.length = x.size
        rw [Array.length_toList]; rfl
      omega
  · split
    · rename_i h
      rcases h with rfl | rfl | rfl
      · have : (flB [((2, emp) : Pc)]).length = 1 := rfl
        omega
      · exact Nat.zero_le _
      · exact Nat.zero_le _
    · rw [flB_app, flB_app, flB_wopn, flB_wcls]
      simp only [List.nil_append, List.append_nil]
      omega
theorem flB_plP : ∀ c : G, (flB (plP c)).length ≤ txt c + c.size
  | .nil => Nat.zero_le _
  | .cons k x c r => by
    have h1 := flB_plP c; have h2 := flB_plP r; have h3 := flB_plOne k x (plP c)
    simp only [plP, flB_app, List.length_append, txt, G.size]
    omega
end Go.Proofs.Ytpankfbdlakmcaa.Doc
