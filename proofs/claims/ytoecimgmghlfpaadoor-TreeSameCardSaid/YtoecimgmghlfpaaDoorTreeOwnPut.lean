/-
  Layer 5 (tree): one node of a row of one's own, read and written anew.
-/
import Derived.Test.YtoecimgmghlfpaaDoorTreeRefCopy
import Derived.Laws.OwnMore
namespace Go.Proofs.YtoecimgmghlfpaaDoor.Tree
open Go.ChangeShapes Go.WideShapes Go.ChangeAt Go.RowKit Mem
set_option linter.unusedVariables false

theorem flat_set (p' : Nd × Value) : ∀ (ps : List (Nd × Value)) (i : Nat), i < ps.length →
    ((((ps.flatMap ndC).set (i * 4) (.int .i64 p'.1.k)).set (i * 4 + 1) (.string p'.1.x)).set (i * 4 + 2) (.string p'.1.y)).set (i * 4 + 3) p'.2 = (ps.set i p').flatMap ndC
  | [], i, h => by simp at h
  | p :: ps, 0, h => by simp [ndC]
  | p :: ps, i + 1, h => by
    have ih := flat_set p' ps i (by simpa using h)
    have e : ∀ (j : Nat) (l : List Value) (u : Value), (ndC p ++ l).set (4 + j) u = ndC p ++ l.set j u := fun j l u => by
      rw [List.set_append, if_neg (by rw [ndC_len]; omega), ndC_len, show 4 + j - 4 = j by omega]
    rw [List.flatMap_cons, List.set_cons_succ, List.flatMap_cons, ← ih, show (i + 1) * 4 = 4 + i * 4 by omega, show 4 + i * 4 + 1 = 4 + (i * 4 + 1) by omega, show 4 + i * 4 + 2 = 4 + (i * 4 + 2) by omega, show 4 + i * 4 + 3 = 4 + (i * 4 + 3) by omega, e, e, e, e]

/-- One node of such a row. -/
theorem OwnS.at_ {w : World} {S : Nat → Prop} {A : Option Addr} {n c : Nat} {L : List Nd} (h : OwnS w S (.slice A n c) L) {i : Nat} {nd : Nd} (hi : L[i]? = some nd) :
    ∃ g s, A = some ⟨g, 0, none⟩ ∧ g < w.heap.size ∧ w.cell? ⟨g, i * 4, none⟩ = some (.int .i64 nd.k) ∧ w.cell? ⟨g, i * 4 + 1, none⟩ = some (.string nd.x) ∧ w.cell? ⟨g, i * 4 + 2, none⟩ = some (.string nd.y) ∧ w.cell? ⟨g, i * 4 + 3, none⟩ = some s ∧ Fs w S s nd.c := by
  obtain ⟨ps, h1, ho, hf⟩ := h
  have hlen : ps.length = L.length := by rw [← h1]; simp
  have hil : i < L.length := (List.getElem?_eq_some_iff.1 hi).1
  obtain ⟨p, hp⟩ : ∃ p, ps[i]? = some p := ⟨_, List.getElem?_eq_getElem (by omega)⟩
  have hpn : p.1 = nd := by
    have : (ps.map (·.1))[i]? = some p.1 := by rw [List.getElem?_map, hp]; rfl
    rw [h1, hi] at this
    exact (Option.some.inj this).symm
  rcases ho.2 with ⟨_, h0⟩ | ⟨g, cap, cur, hv, hg0, hg, q1, q2, q3, q4⟩
  · omega
  · injection hv with e1 e2 e3
    have hc := ho.cells (g := g) (by rw [e1]; rfl)
    have ad : ∀ j, (⟨g, 0, none⟩ : Addr).add j = ⟨g, j, none⟩ := fun j => by unfold Addr.add; split <;> simp_all
    have at_ : ∀ j u, (ndC p)[j]? = some u → w.cell? ⟨g, i * 4 + j, none⟩ = some u := fun j u hu => by
      have := hc (i * 4 + j) u (MemT.flat_at (sz := 4) ndC_len ps i p hp j u hu)
      rwa [ad] at this
    refine ⟨g, p.2, e1, lt_of_block hg, ?_, ?_, ?_, ?_, ?_⟩
    · have := at_ 0 _ rfl; rwa [hpn] at this
    · have := at_ 1 _ rfl; rwa [hpn] at this
    · have := at_ 2 _ rfl; rwa [hpn] at this
    · exact at_ 3 _ rfl
    · have := hf p (List.mem_of_getElem? hp); rwa [hpn] at this

/-- The world with one node of block g written anew. -/
def put4 (w : World) (g i : Nat) (k : Int) (x y : ByteArray) (s : Value) : World := (((w.setCell ⟨g, i * 4, none⟩ (.int .i64 k)).setCell ⟨g, i * 4 + 1, none⟩ (.string x)).setCell ⟨g, i * 4 + 2, none⟩ (.string y)).setCell ⟨g, i * 4 + 3, none⟩ s
theorem put4_grown (w : World) (g i : Nat) (k : Int) (x y : ByteArray) (s : Value) : w.grownBy (put4 w g i k x y s) (some g) := by
  have hb : Below 0 w (put4 w g i k x y s) := by
    unfold put4
    exact ((((Below.refl 0 w).setCell (Nat.zero_le _) _).setCell (Nat.zero_le _) _).setCell (Nat.zero_le _) _).setCell (Nat.zero_le _) _
  refine ⟨hb.os, hb.tape, hb.output, hb.size, fun b _ hne => ?_⟩
  have hne' : b ≠ g := fun e => hne (by rw [e])
  unfold put4
  rw [Below.heap_setCell _ _ _ _ hne', Below.heap_setCell _ _ _ _ hne', Below.heap_setCell _ _ _ _ hne', Below.heap_setCell _ _ _ _ hne']
theorem OwnS.put {w : World} {S : Nat → Prop} {g n c : Nat} {L : List Nd} (h : OwnS w S (.slice (some ⟨g, 0, none⟩) n c) L) (i : Nat) (hi : i < L.length) (k : Int) (x y : ByteArray) (s : Value) (c' : F) (hf : Fs w S s c') (hS : ∀ b, S b → b < w.heap.size ∧ b ≠ g) :
    OwnS (put4 w g i k x y s) S (.slice (some ⟨g, 0, none⟩) n c) (L.set i ⟨k, x, y, c'⟩) := by
  obtain ⟨ps, e1, ho, hfs⟩ := h
  obtain ⟨a', c'', e, _, _⟩ := own_slice' ho
  injection e with _ e2 _
  subst e2
  have hlen : ps.length = L.length := by rw [← e1]; simp
  have r1 := (ho.stored (i * 4) (.int .i64 k)).1
  have r2 := (r1.stored (i * 4 + 1) (.string x)).1
  have r3 := (r2.stored (i * 4 + 2) (.string y)).1
  have r4 := (r3.stored (i * 4 + 3) s).1
  rw [flat_set (⟨k, x, y, c'⟩, s) ps i (by omega)] at r4
  have hg := put4_grown w g i k x y s
  have keep : ∀ {v : Value} {f : F}, Fs w S v f → Fs (put4 w g i k x y s) S v f := fun hv => hv.keep fun b hb => hg.block b (hS b hb).1 (fun e => (hS b hb).2 (Option.some.inj e))
  refine ⟨ps.set i (⟨k, x, y, c'⟩, s), by rw [List.map_set, e1], by rw [List.length_set]; exact r4, fun p hp => ?_⟩
  rcases List.mem_or_eq_of_mem_set hp with hp | rfl
  · exact keep (hfs p hp)
  · exact keep hf
end Go.Proofs.YtoecimgmghlfpaaDoor.Tree
