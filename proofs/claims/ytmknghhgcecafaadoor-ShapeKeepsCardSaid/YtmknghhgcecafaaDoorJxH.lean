import Derived.Test.YtmknghhgcecafaaDoorRows
import Derived.Test.YtmknghhgcecafaaDoorShapeSpec
import Derived.Lib.LaidU8
import Derived.Lib.LaidTab
import Derived.ProofKit
import Derived.OpenShut
import Derived.Test.YtmknghhgcecafaaDoorChecked
import Derived.Deep.Slices

/-
  Layer 10 (shape): what the row lists of the table of powers of ten is what the walks ask (Pow).
-/
namespace Go.Proofs.YtmknghhgcecafaaDoor.Shape
open Go.ChangeShapes Go.WideShapes Go.ChangeAt Go.RowKit
set_option linter.unusedVariables false

def laidL : List (String × DataW Unit) := [("math/bits.deBruijn32tab", Rows.laid_math_bits_deBruijn32tab), ("math/bits.deBruijn64tab", Rows.laid_math_bits_deBruijn64tab), ("internal/strconv.uint64pow10", Rows.laid_internal_strconv_uint64pow10)]
theorem laid_pow : (Rows.laid_internal_strconv_uint64pow10 : DataW Unit) = Lib.tabData .u64 Lib.pow10Tab := by rfl
theorem gPow : Tryd.prog.globalNamed "internal/strconv.uint64pow10" = some 0 := by kernel_rfl
theorem tPow : (Tryd.prog.globals[0]?).map (·.type) = some 68 := by kernel_rfl
theorem pow_of_laid {W : World} (h : laidMet Tryd.prog laidL W) : Pow W := by
  obtain hr := Lib.laidMet.reads h (n := "internal/strconv.uint64pow10") (d := Rows.laid_internal_strconv_uint64pow10) (by unfold laidL; exact .tail _ (.tail _ (.head _)))
  obtain ⟨g, t, cs, fuel, p, h1, h2, h3, h4⟩ := hr
  obtain rfl := Option.some.inj (gPow.symm.trans h1)
  obtain rfl := Option.some.inj (tPow.symm.trans h2)
  rw [laid_pow] at h4
  have hcs := Lib.cells_of_tab Tryd.underlying68 Tryd.underlying58 (by kernel_rfl) (by kernel_rfl) h4
  unfold Pow Lib.TabIs
  rw [h3, ← hcs]
end Go.Proofs.YtmknghhgcecafaaDoor.Shape

/-
  Layer 10 (shape): a tree that came in, as it lies in memory, with its kinds (ints of the machine's).
-/
namespace Go.Proofs.YtmknghhgcecafaaDoor.Shape
open Go.ChangeShapes Go.WideShapes Go.ChangeAt Go.RowKit Tree
set_option linter.unusedVariables false

section
variable {H : Type} {enc : TypeId × Value → H} {W : World}

theorem in_of_wf {k : Int} (h : (Lit.int .i64 k).wf = true) : InK k := by
  simp [Lit.wf] at h
  exact ⟨by have := h.1; rwa [show IntKind.i64.min = -9223372036854775808 from rfl] at this, h.2⟩
/-- The rows that a reading meets, out of its elements by index. -/
theorem fs_indexK (b : Nat) : ∀ (m off n C : Nat), n ≤ C → C ≤ 9223372036854775807 → n = m → b < W.heap.size →
    (∀ i, i < n → ∃ k x y s c, W.cell? ⟨b, off + i * 4, none⟩ = some (.int .i64 k) ∧ W.cell? ⟨b, off + i * 4 + 1, none⟩ = some (.string x) ∧ W.cell? ⟨b, off + i * 4 + 2, none⟩ = some (.string y) ∧ W.cell? ⟨b, off + i * 4 + 3, none⟩ = some s ∧ Fs W (Lo W.heap.size) s c ∧ InK k ∧ Kinds c) →
    ∃ f, f.len = n ∧ Kinds f ∧ ∀ A, (n = 0 ∨ A = some ⟨b, off, none⟩) → Fs W (Lo W.heap.size) (.slice A n C) f
  | 0, off, n, C, hC, hm, hn, hb, h => by
    subst hn
    exact ⟨.nil, rfl, trivial, fun A _ => ⟨A, C, rfl, hm⟩⟩
  | m + 1, off, n, C, hC, hm, hn, hb, h => by
    subst hn
    obtain ⟨C', rfl⟩ : ∃ C', C = C' + 1 := ⟨C - 1, by omega⟩
    obtain ⟨k, x, y, s, c, c0, c1, c2, c3, hk, hi0, hi1⟩ := h 0 (by omega)
    simp only [Nat.zero_mul, Nat.add_zero] at c0 c1 c2 c3
    obtain ⟨r, hr, hrk, hr2⟩ := fs_indexK b m (off + 4) m C' (by omega) (by omega) rfl hb (fun i hi => by
      obtain ⟨k, x, y, s, c, c0, c1, c2, c3, hk⟩ := h (i + 1) (by omega)
      rw [show off + (i + 1) * 4 = off + 4 + i * 4 by omega] at c0 c1 c2 c3
      exact ⟨k, x, y, s, c, c0, c1, c2, c3, hk⟩)
    refine ⟨.cons k x y c r, by simp only [F.len, hr], ⟨hi0, hi1, hrk⟩, fun A hA => ?_⟩
    have hA' : A = some ⟨b, off, none⟩ := hA.resolve_left (by omega)
    subst hA'
    exact ⟨b, off, m, C', s, rfl, hr, by omega, hm, hb, c0, c1, c2, c3, hk, fun A' hA' => hr2 A' (by
      rcases hA' with h' | h'
      · left; rw [h'] at hr; exact hr.symm
      · exact .inr h')⟩

set_option maxRecDepth 100000 in
theorem open_nodeK : ∀ (fuel : Nat) (cs : List Value) (x : DataW H × List MemPlace), DataW.trod enc Tryd.prog W 0 (fun _ => true) true fuel 24 cs = some x →
    ∃ k s t A n C c, cs = [.int .i64 k, .string s, .string t, .slice A n C] ∧ Fs W (Lo W.heap.size) (.slice A n C) c ∧ s.size ≤ maxLen ∧ t.size ≤ maxLen ∧ InK k ∧ Kinds c := by
  intro fuel
  induction fuel using Nat.strongRecOn with
  | _ fuel ih =>
    intro cs x h
    obtain ⟨xs, m, hfuel, rfl, hl, hlen, hf⟩ := DataW.trod_struct Tryd.underlying24 h
    have hc4 : Tryd.prog.cellsOf 24 = 4 := by kernel_rfl
    rw [hc4] at hl
    match cs, hl with
    | [v0, v1, v2, v3], _ =>
      have g0 := hf 0 _ rfl
      have g1 := hf 1 _ rfl
      have g2 := hf 2 _ rfl
      have g3 := hf 3 _ rfl
      have ci : Tryd.prog.cellsOf 3 = 1 := by kernel_rfl
      have cstr : Tryd.prog.cellsOf 9 = 1 := by kernel_rfl
      have csl : Tryd.prog.cellsOf 22 = 1 := by kernel_rfl
      simp [ci, cstr, csl] at g0 g1 g2 g3
      have hl4 : xs.length = 4 := hlen
      match xs, hl4 with
      | [y0, y1, y2, y3], _ =>
        simp only [List.getElem?_cons_zero, List.getElem?_cons_succ] at g0 g1 g2 g3
        obtain ⟨k, e0, _, hkw⟩ := DataW.trod_int Tryd.underlying3 g0
        obtain ⟨s, e1, _, hs⟩ := DataW.trod_string Tryd.underlying9 g1
        obtain ⟨t, e2, _, ht⟩ := DataW.trod_string Tryd.underlying9 g2
        simp only [List.cons.injEq, and_true] at e0 e1 e2
        subst e0; subst e1; subst e2
        have hin : InK k := in_of_wf hkw
        rcases DataW.trod_slice Tryd.underlying22 g3 with ⟨e3, _⟩ | ⟨a, len, cap, elems, rest, q, hq, e3, _, _, hlc, hcm, hel, hcell, _, _⟩
        · simp only [List.cons.injEq, and_true] at e3
          subst e3
          exact ⟨k, s, t, none, 0, 0, .nil, rfl, ⟨none, 0, rfl, by omega⟩, hs, ht, hin, trivial⟩
        · simp only [List.cons.injEq, and_true] at e3
          subst e3
          rw [hc4] at hcell
          have hone : ∀ i, i < len → ∃ k x y s c, W.cell? (a.add (i * 4)) = some (.int .i64 k) ∧ W.cell? ((a.add (i * 4)).add 1) = some (.string x) ∧ W.cell? ((a.add (i * 4)).add 2) = some (.string y) ∧ W.cell? ((a.add (i * 4)).add 3) = some s ∧ Fs W (Lo W.heap.size) s c ∧ InK k ∧ Kinds c := by
            intro i hi
            have hb := hcell i hi
            rw [List.getElem?_eq_getElem (by omega)] at hb
            obtain ⟨cs', h1, h2⟩ := Option.bind_eq_some_iff.1 hb
            obtain ⟨k', s', t', A', n', C', c', e, hfs, _, _, hi1, hi2⟩ := ih q (by omega) cs' _ h2
            subst e
            obtain ⟨_, _, hcs⟩ := World.cells?_some h1
            have a0 : (a.add (i * 4)).add 0 = a.add (i * 4) := by unfold Addr.add; simp
            refine ⟨k', s', t', .slice A' n' C', c', ?_, hcs 1 (by omega), hcs 2 (by omega), hcs 3 (by omega), hfs, hi1, hi2⟩
            have := hcs 0 (by omega)
            rwa [a0] at this
          obtain ⟨b, off, spot⟩ := a
          by_cases hz : len = 0
          · subst hz
            exact ⟨k, s, t, _, 0, cap, .nil, rfl, ⟨_, cap, rfl, hcm⟩, hs, ht, hin, trivial⟩
          · obtain ⟨_, _, _, _, _, h0, _⟩ := hone 0 (by omega)
            have hspot : spot = none := by simpa [Addr.add] using World.cell?_spot h0
            subst hspot
            have hbl : b < W.heap.size := by have := World.block_lt_of_cell? W _ h0; simpa [Addr.add] using this
            have ad : ∀ o j, (⟨b, o, none⟩ : Addr).add j = ⟨b, o + j, none⟩ := fun o j => by unfold Addr.add; split <;> simp_all
            obtain ⟨f, hfl, hfk, hff⟩ := fs_indexK (W := W) b len off len cap hlc hcm rfl hbl (fun i hi => by
              obtain ⟨k, x, y, s, c, c0, c1, c2, c3, hk⟩ := hone i hi
              simp only [ad] at c0 c1 c2 c3
              exact ⟨k, x, y, s, c, c0, c1, c2, c3, hk⟩)
            exact ⟨k, s, t, _, len, cap, f, rfl, hff _ (.inr rfl), hs, ht, hin, hfk⟩

/-- A node that is an argument. -/
theorem open_argK {v : Value} {d : DataW H} {p : List MemPlace} (hv : ∃ cs, v = .agg cs ∧ cs.size = Tryd.prog.cellsOf 24) (h : DataW.Trod enc Tryd.prog W 0 (fun _ => true) true 24 v d p) :
    ∃ k s t A n C c, v = .agg #[.int .i64 k, .string s, .string t, .slice A n C] ∧ Fs W (Lo W.heap.size) (.slice A n C) c ∧ s.size ≤ maxLen ∧ t.size ≤ maxLen ∧ InK k ∧ Kinds c := by
  obtain ⟨cs, rfl, _⟩ := hv
  obtain ⟨fuel, hf⟩ := h
  obtain ⟨k, s, t, A, n, C, c, e, r⟩ := open_nodeK fuel _ _ hf
  refine ⟨k, s, t, A, n, C, c, ?_, r⟩
  simp only [Value.cells] at e
  congr 1
  exact Array.ext' (by simpa using e)
end
end Go.Proofs.YtmknghhgcecafaaDoor.Shape
