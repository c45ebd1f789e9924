/-
  Layer 5 (tree): what holds while the program's Copy goes down first Kids: all that has been gone through reads as the tree, if what is still ahead does.
-/
import Derived.Test.YtoecimgmghlfpaaDoorTreeClone
namespace Go.Proofs.YtoecimgmghlfpaaDoor.Tree
open Go.ChangeShapes Go.WideShapes Go.ChangeAt Go.RowKit Mem
set_option linter.unusedVariables false

theorem toL_size : ∀ {c : F}, ∀ nd ∈ toL c, nd.c.size < c.size
  | .nil, nd, h => by cases h
  | .cons k x y c r, nd, h => by
    rcases List.mem_cons.1 h with rfl | h
    · simp only [F.size]; omega
    · have := toL_size (c := r) nd h; simp only [F.size]; omega
/-- In every world that is as wr on the new blocks below N, but for v's own, in which v reads as f, vt reads as ct. -/
def Wand (w : World) (N : Nat) (wr : World) (v : Value) (f : F) (vt : Value) (ct : F) : Prop := ∀ (W' : World) (S' : Nat → Prop), (∀ b, w.heap.size + 2 ≤ b → b < N → some b ≠ v.ownBlock → W'.heap[b]? = wr.heap[b]?) → (∀ b, w.heap.size + 2 ≤ b → b < N → S' b) → Fs W' S' v f → Fs W' S' vt ct
section
variable {w wr W : World} {N : Nat} {v vt : Value} {f ct : F}
theorem Wand.mono {N' : Nat} (h : Wand w N wr v f vt ct) (hN : N ≤ N') : Wand w N' wr v f vt ct := fun W' S' h1 h2 h3 => h W' S' (fun b hb hb' hne => h1 b hb (by omega) hne) (fun b hb hb' => h2 b hb (by omega)) h3
theorem Wand.later (h : Wand w N wr v f vt ct) (hN : N ≤ wr.heap.size) (hb : Below wr.heap.size wr W) : Wand w N W v f vt ct := fun W' S' h1 h2 h3 => h W' S' (fun b hb0 hb' hne => (h1 b hb0 hb' hne).trans (hb.block b (by omega))) h2 h3
theorem Wand.grown (h : Wand w N wr v f vt ct) (hN : N ≤ wr.heap.size) (hg : wr.grownBy W v.ownBlock) : Wand w N W v f vt ct := fun W' S' h1 h2 h3 => h W' S' (fun b hb0 hb' hne => (h1 b hb0 hb' hne).trans (hg.block b (by omega) hne)) h2 h3
end

/-- At the head of the way down: v is the row that is gone through next; its Kids are still those that came in. -/
structure CpAt (w wr : World) (k : Int) (x y : ByteArray) (vt : Value) (ct : F) (v : Value) (f : F) : Prop where
  bel : Below w.heap.size w wr
  b1 : Boxed wr w.heap.size k x y vt
  b2 : Boxed wr (w.heap.size + 1) 0 ⟨#[]⟩ ⟨#[]⟩ (.slice none 0 0)
  o : OwnS wr (Lo w.heap.size) v (toL f)
  d : ∀ g, v.ownBlock = some g → w.heap.size + 2 ≤ g
  sz : w.heap.size + 2 ≤ wr.heap.size
  wand : Wand w wr.heap.size wr v f vt ct

/-- While the row's Kids but the first are copied: i of them are. -/
structure CiAt (w W : World) (N g n C : Nat) (k : Int) (x y : ByteArray) (vt : Value) (ct : F) (v0 : Value) (f c0 : F) (i : Nat) : Prop where
  bel : Below w.heap.size w W
  b1 : Boxed W w.heap.size k x y vt
  b2 : Boxed W (w.heap.size + 1) 0 ⟨#[]⟩ ⟨#[]⟩ (.slice none 0 0)
  row : ∃ ps : List (Nd × Value), ps.map (·.1) = toL f ∧ W.ownsRow 0 24 4 (.slice (some ⟨g, 0, none⟩) n C) n (ps.flatMap ndC) ∧ (∀ p, ps[0]? = some p → p.2 = v0) ∧
    (∀ j p, 1 ≤ j → j ≤ i → ps[j]? = some p → Fs W (fun b => N ≤ b ∧ b < W.heap.size ∧ some b ≠ v0.ownBlock) p.2 p.1.c) ∧ (∀ j p, i < j → ps[j]? = some p → Fs W (Lo w.heap.size) p.2 p.1.c)
  o0 : OwnS W (Lo w.heap.size) v0 (toL c0)
  d0 : ∀ g0, v0.ownBlock = some g0 → N ≤ g0
  hg : w.heap.size + 2 ≤ g ∧ g < N
  hN : N ≤ W.heap.size
  wand : Wand w N W (.slice (some ⟨g, 0, none⟩) n C) f vt ct

theorem flat_set3 (p : Nd × Value) (ps : List (Nd × Value)) (v0 : Value) : ((p :: ps).flatMap ndC).set 3 v0 = ((p.1, v0) :: ps).flatMap ndC := by simp [ndC]

section
variable {w wr W W' : World} {N g n C : Nat} {k : Int} {x y : ByteArray} {vt v v0 : Value} {ct f c0 : F} {i : Nat}
/-- The first Kid's own Kids have been cloned. -/
theorem CpAt.start {w1 : World} {k0 : Int} {x0 y0 : ByteArray} {r : F} (h : CpAt w wr k x y vt ct (.slice (some ⟨g, 0, none⟩) n C) (.cons k0 x0 y0 c0 r)) (hb : Below wr.heap.size wr w1) (ho : OwnS w1 (Lo w.heap.size) v0 (toL c0)) (hd : ∀ g0, v0.ownBlock = some g0 → wr.heap.size ≤ g0) :
    CiAt w (w1.setCell ⟨g, 3, none⟩ v0) wr.heap.size g n C k x y vt ct v0 (.cons k0 x0 y0 c0 r) c0 0 := by
  have hg2 := h.d g rfl
  have hgl := h.o.lt (g := g) rfl
  have q1 := h.b1.lt; have q2 := h.b2.lt
  have hgr := set_grown w1 g 3 v0
  have hor : OwnS w1 (Lo w.heap.size) (.slice (some ⟨g, 0, none⟩) n C) (toL (.cons k0 x0 y0 c0 r)) := h.o.later hb fun b hb' => Nat.lt_of_lt_of_le hb' h.bel.size
  have hlo : ∀ b, Lo w.heap.size b → b < w1.heap.size ∧ some b ≠ some g := fun b hb' => by
    have hb'' : b < w.heap.size := hb'
    have := h.bel.size; have := hb.size
    exact ⟨by omega, fun e => by have := Option.some.inj e; omega⟩
  have hle := hb.size
  refine ⟨(h.bel.trans (hb.mono h.bel.size)).setCell (p := ⟨g, 3, none⟩) (show w.heap.size ≤ g by omega) _, (Below.heap_setCell _ _ _ _ (show w.heap.size ≠ g by omega)).trans (h.b1.below hb q1), (Below.heap_setCell _ _ _ _ (show w.heap.size + 1 ≠ g by omega)).trans (h.b2.below hb q2), ?_, ho.grown hgr (.inr fun e => by have := hd _ e; omega) hlo, hd, ⟨hg2, hgl⟩, Nat.le_trans hle hgr.size, (h.wand.later (Nat.le_refl _) hb).grown hle hgr⟩
  obtain ⟨ps, e1, hown, hfs⟩ := hor
  obtain ⟨a', c', e, _, _⟩ := own_slice' hown
  injection e with _ e2 _
  rw [← e2] at hown
  match ps, e1 with
  | p :: ps, e1 =>
    have hst := (hown.stored 3 v0).1
    rw [flat_set3] at hst
    refine ⟨(p.1, v0) :: ps, e1, hst, fun q hq => by simp at hq; rw [← hq], fun j q h1 h2 => by omega, fun j q hj hq => ?_⟩
    obtain ⟨j', rfl⟩ : ∃ j', j = j' + 1 := ⟨j - 1, by omega⟩
    have hm : q ∈ p :: ps := List.mem_cons_of_mem _ (List.mem_of_getElem? (by simpa using hq))
    exact (hfs q hm).keep fun b hb' => hgr.block b (hlo b hb').1 (hlo b hb').2
theorem CiAt.later (h : CiAt w W N g n C k x y vt ct v0 f c0 i) (hb : Below W.heap.size W W') : CiAt w W' N g n C k x y vt ct v0 f c0 i := by
  have hs := h.bel.size
  obtain ⟨ps, e1, ho, e0, h1, h2⟩ := h.row
  refine ⟨h.bel.trans (hb.mono hs), h.b1.below hb h.b1.lt, h.b2.below hb h.b2.lt, ⟨ps, e1, ?_, e0, fun j p a b c => ((h1 j p a b c).keep fun q hq => hb.block q hq.2.1).more fun q hq => ⟨hq.1, Nat.lt_of_lt_of_le hq.2.1 hb.size, hq.2.2⟩, fun j p a b => (h2 j p a b).below hb hs⟩, h.o0.later hb fun b hb' => Nat.lt_of_lt_of_le hb' hs, h.d0, h.hg, Nat.le_trans h.hN hb.size, h.wand.later h.hN hb⟩
  exact ho.kept (grown_below hb none) (.inr (by simp [Value.ownBlock]))
/-- One Kid has been copied. -/
theorem CiAt.put {nd : Nd} {s' : Value} (h : CiAt w W N g n C k x y vt ct v0 f c0 i) (hnd : (toL f)[i + 1]? = some nd) (hf : Fs W (fun b => N ≤ b ∧ b < W.heap.size ∧ some b ≠ v0.ownBlock) s' nd.c) :
    CiAt w (put4 W g (i + 1) nd.k nd.x nd.y s') N g n C k x y vt ct v0 f c0 (i + 1) := by
  have hg2 := h.hg; have hN := h.hN
  have hgr := put4_grown W g (i + 1) nd.k nd.x nd.y s'
  obtain ⟨ps, e1, ho, e0, h1, h2⟩ := h.row
  have hil : i + 1 < ps.length := by
    have := (List.getElem?_eq_some_iff.1 hnd).1
    rw [← e1, List.length_map] at this
    exact this
  have r1 := (ho.stored ((i + 1) * 4) (.int .i64 nd.k)).1
  have r2 := (r1.stored ((i + 1) * 4 + 1) (.string nd.x)).1
  have r3 := (r2.stored ((i + 1) * 4 + 2) (.string nd.y)).1
  have r4 := (r3.stored ((i + 1) * 4 + 3) s').1
  rw [flat_set (nd, s') ps (i + 1) hil] at r4
  have hlo : ∀ b, Lo w.heap.size b → b < W.heap.size ∧ some b ≠ some g := fun b hb' => by
    have hb'' : b < w.heap.size := hb'
    have := h.bel.size
    exact ⟨by omega, fun e => by have := Option.some.inj e; omega⟩
  have hfr : ∀ b, (N ≤ b ∧ b < W.heap.size ∧ some b ≠ v0.ownBlock) → b < W.heap.size ∧ some b ≠ some g := fun b hb' => ⟨hb'.2.1, fun e => by have := Option.some.inj e; have := hb'.1; omega⟩
  refine ⟨h.bel.trans (below_grown hgr h.bel.size fun q e => by have := Option.some.inj e; omega), (hgr.block _ h.b1.lt fun e => by have := Option.some.inj e; omega).trans h.b1, (hgr.block _ h.b2.lt fun e => by have := Option.some.inj e; omega).trans h.b2, ⟨ps.set (i + 1) (nd, s'), ?_, r4, ?_, fun j p a b c => ?_, fun j p a b => ?_⟩, h.o0.grown hgr (.inr fun e => by have := h.d0 _ e; omega) hlo, h.d0, h.hg, Nat.le_trans h.hN hgr.size, h.wand.grown h.hN hgr⟩
  · rw [List.map_set, e1]
    apply List.ext_getElem?
    intro j
    rw [List.getElem?_set]
    split
    · rename_i hj
      subst hj
      rw [if_pos (by rw [← e1, List.length_map]; exact hil)]
      exact hnd.symm
    · rfl
  · intro p hp
    rw [List.getElem?_set_ne (by omega)] at hp
    exact e0 p hp
  · by_cases hj : j = i + 1
    · subst hj
      rw [List.getElem?_set_self hil] at c
      obtain rfl := Option.some.inj c
      exact (hf.keep fun b hb' => hgr.block b (hfr b hb').1 (hfr b hb').2).more fun b hb' => ⟨hb'.1, Nat.lt_of_lt_of_le hb'.2.1 hgr.size, hb'.2.2⟩
    · rw [List.getElem?_set_ne (Ne.symm hj)] at c
      exact ((h1 j p a (by omega) c).keep fun b hb' => hgr.block b (hfr b hb').1 (hfr b hb').2).more fun b hb' => ⟨hb'.1, Nat.lt_of_lt_of_le hb'.2.1 hgr.size, hb'.2.2⟩
  · rw [List.getElem?_set_ne (by omega)] at b
    exact (h2 j p (by omega) b).keep fun q hq => hgr.block q (hlo q hq).1 (hlo q hq).2
/-- All are copied: on with the first Kid's Kids. -/
theorem CiAt.done {k0 : Int} {x0 y0 : ByteArray} {r : F} (h : CiAt w W N g n C k x y vt ct v0 (.cons k0 x0 y0 c0 r) c0 i) (hi : r.len ≤ i) : CpAt w W k x y vt ct v0 c0 := by
  have hg2 := h.hg; have hN := h.hN
  refine ⟨h.bel, h.b1, h.b2, h.o0, fun g0 e => by have := h.d0 g0 e; omega, by omega, fun W' S' hw hS hf => ?_⟩
  obtain ⟨ps, e1, ho, e0, h1, h2⟩ := h.row
  obtain ⟨a', C', e, hnC, hCm⟩ := own_slice' ho
  have hlen : ps.length = r.len + 1 := by
    have : (ps.map (·.1)).length = (toL (.cons k0 x0 y0 c0 r)).length := by rw [e1]
    rw [List.length_map, toL_len] at this
    exact this
  have hlen2 : (ps.flatMap ndC).length = n * 4 := ho.1
  rw [MemT.flat_len ndC_len] at hlen2
  have hn : ps.length = n := by omega
  have hgne : some g ≠ v0.ownBlock := fun e => by have := h.d0 g e.symm; omega
  have hgeq : W'.heap[g]? = W.heap[g]? := hw g hg2.1 (by omega) hgne
  refine h.wand W' S' (fun b hb hb' hne => hw b hb (by omega) fun e => ?_) (fun b hb hb' => hS b hb (by omega)) ?_
  · have := h.d0 b e.symm
    omega
  · have ad : ∀ j, (⟨g, 0, none⟩ : Addr).add j = ⟨g, j, none⟩ := fun j => by unfold Addr.add; split <;> simp_all
    have hc := ho.cells (g := g) rfl
    injection e with _ _ e3
    have hrow := fs_row (w := W') (S := S') g (hS g hg2.1 (by omega)) ps 0 n C hn (by rw [← e3] at hnC; exact hnC) (by rw [e3]; exact hCm) (fun j u hu => by
      have := hc j u hu
      rw [ad] at this
      rw [Nat.zero_add]
      exact (World.cell?_of_block (a := ⟨g, j, none⟩) hgeq).trans this) (fun p hp => by
        obtain ⟨j, hj⟩ := List.getElem?_of_mem hp
        have hjl : j < ps.length := (List.getElem?_eq_some_iff.1 hj).1
        by_cases hj0 : j = 0
        · subst hj0
          have hp1 : p.1 = ⟨k0, x0, y0, c0⟩ := by
            have : (ps.map (·.1))[0]? = some p.1 := by rw [List.getElem?_map, hj]; rfl
            rw [e1] at this
            exact (Option.some.inj this).symm
          rw [e0 p hj, hp1]
          exact hf
        · exact ((h1 j p (by omega) (by omega) hj).keep fun b hb' => hw b (by have := hb'.1; omega) hb'.2.1 hb'.2.2).more fun b hb' => hS b (by have := hb'.1; omega) hb'.2.1) _ (.inr rfl)
    have e4 : ofL (ps.map (·.1)) = .cons k0 x0 y0 c0 r := by rw [e1, ofL_toL]
    rwa [e4] at hrow
/-- At the end of the way down. -/
theorem CpAt.fin {A : Option Addr} {m M : Nat} (h : CpAt w wr k x y vt ct (.slice A m M) .nil) : Fs wr (fun b => w.heap.size + 2 ≤ b ∧ b < wr.heap.size) vt ct := by
  obtain ⟨a', c', e, _, hc⟩ := h.o.slice
  injection e with e1 e2 e3
  exact h.wand wr _ (fun _ _ _ _ => rfl) (fun b hb hb' => ⟨hb, hb'⟩) ⟨A, M, by rw [e2]; rfl, by rw [e3]; exact hc⟩
/-- The cells of node j. -/
theorem CiAt.at_ (h : CiAt w W N g n C k x y vt ct v0 f c0 i) {j : Nat} {nd : Nd} (hj : (toL f)[j]? = some nd) :
    ∃ s, W.cell? ⟨g, j * 4, none⟩ = some (.int .i64 nd.k) ∧ W.cell? ⟨g, j * 4 + 1, none⟩ = some (.string nd.x) ∧ W.cell? ⟨g, j * 4 + 2, none⟩ = some (.string nd.y) ∧ W.cell? ⟨g, j * 4 + 3, none⟩ = some s ∧ (i < j → Fs W (Lo w.heap.size) s nd.c) ∧ (j = 0 → s = v0) := by
  obtain ⟨ps, e1, ho, e0, h1, h2⟩ := h.row
  have hjl : j < ps.length := by
    have := (List.getElem?_eq_some_iff.1 hj).1
    rw [← e1, List.length_map] at this
    exact this
  obtain ⟨p, hp⟩ : ∃ p, ps[j]? = some p := ⟨_, List.getElem?_eq_getElem hjl⟩
  have hpn : p.1 = nd := by
    have : (ps.map (·.1))[j]? = some p.1 := by rw [List.getElem?_map, hp]; rfl
    rw [e1, hj] at this
    exact (Option.some.inj this).symm
  have hc := ho.cells (g := g) rfl
  have ad : ∀ j, (⟨g, 0, none⟩ : Addr).add j = ⟨g, j, none⟩ := fun j => by unfold Addr.add; split <;> simp_all
  have at_ : ∀ t u, (ndC p)[t]? = some u → W.cell? ⟨g, j * 4 + t, none⟩ = some u := fun t u hu => by
    have := hc (j * 4 + t) u (MemT.flat_at (sz := 4) ndC_len ps j p hp t u hu)
    rwa [ad] at this
  refine ⟨p.2, ?_, ?_, ?_, at_ 3 _ rfl, fun hij => ?_, fun h0 => by subst h0; exact e0 p hp⟩
  · have := at_ 0 _ rfl; rwa [hpn] at this
  · have := at_ 1 _ rfl; rwa [hpn] at this
  · have := at_ 2 _ rfl; rwa [hpn] at this
  · have := h2 j p hij hp; rwa [hpn] at this
theorem CiAt.frz4 (h : CiAt w W N g n C k x y vt ct v0 f c0 i) (j : Nat) : W.frozen? ⟨g, j * 4, none⟩ = false ∧ W.frozen? ⟨g, j * 4 + 1, none⟩ = false ∧ W.frozen? ⟨g, j * 4 + 2, none⟩ = false ∧ W.frozen? ⟨g, j * 4 + 3, none⟩ = false := by
  obtain ⟨ps, _, ho, _⟩ := h.row
  exact ⟨ho.frozenAt _, ho.frozenAt _, ho.frozenAt _, ho.frozenAt _⟩
end
end Go.Proofs.YtoecimgmghlfpaaDoor.Tree
