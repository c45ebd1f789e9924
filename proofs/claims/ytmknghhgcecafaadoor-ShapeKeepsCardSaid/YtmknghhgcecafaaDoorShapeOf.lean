/-
  Layer 10 (shape): the program's own Of and Tree. Written by gen_shapeof.py.
-/
import Derived.Test.YtmknghhgcecafaaDoorShapeAdd
import Derived.Test.YtmknghhgcecafaaDoorShapePart
import Derived.Test.YtmknghhgcecafaaDoorShapeSpec
namespace Go.Proofs.YtmknghhgcecafaaDoor.Shape
open Go.ChangeShapes Go.WideShapes Go.ChangeAt Go.RowKit Mem Tree
set_option linter.unusedVariables false

/-- Blocks from lo on, left as they are. -/
def keeps (W : World) (lo : Nat) : Nat → List Thing
  | 0 => []
  | n + 1 => keeps W lo n ++ [keepT (lo + n) ((W.heap[lo + n]?).getD (.cells #[] 0 (0, 0)))]
theorem keeps_b {W : World} {lo : Nat} : ∀ {n : Nat} {t : Thing}, t ∈ keeps W lo n → ∃ i, i < n ∧ t.b = some (lo + i)
  | 0, t, h => by cases h
  | n + 1, t, h => by
    rcases List.mem_append.1 h with h | h
    · obtain ⟨i, hi, e⟩ := keeps_b h
      exact ⟨i, by omega, e⟩
    · rw [List.mem_singleton.1 h]
      exact ⟨n, Nat.lt_succ_self n, rfl⟩
theorem keeps_has {W : World} {lo : Nat} : ∀ {n i : Nat}, i < n → ∃ o, keepT (lo + i) o ∈ keeps W lo n
  | 0, i, h => by omega
  | n + 1, i, h => by
    by_cases e : i = n
    · subst e
      exact ⟨_, List.mem_append_right _ (List.mem_singleton.2 rfl)⟩
    · obtain ⟨o, ho⟩ := keeps_has (W := W) (lo := lo) (n := n) (i := i) (by omega)
      exact ⟨o, List.mem_append_left _ ho⟩
theorem fam_keeps {W : World} {B lo : Nat} {R : List Thing} (h : Fam W B R) (hR : ∀ t ∈ R, ∀ b, t.b = some b → b < lo) (hB : B ≤ lo) : ∀ n, lo + n ≤ W.heap.size → Fam W B (R ++ keeps W lo n)
  | 0, _ => by rw [keeps, List.append_nil]; exact h
  | n + 1, hn => by
    have ih := fam_keeps h hR hB n (by omega)
    rw [keeps, ← List.append_assoc]
    have hlt : lo + n < W.heap.size := by omega
    refine ⟨fun t ht => ?_, fun t ht b hb => ?_, ?_, ih.B⟩
    · rcases List.mem_append.1 ht with ht | ht
      · exact ih.h t ht
      · rw [List.mem_singleton.1 ht]
        show W.heap[lo + n]? = some _
        rw [Array.getElem?_eq_getElem hlt]
        rfl
    · rcases List.mem_append.1 ht with ht | ht
      · exact ih.ge t ht b hb
      · rw [List.mem_singleton.1 ht] at hb
        injection hb with hb
        omega
    · rw [List.pairwise_append]
      refine ⟨ih.ap, List.pairwise_singleton _ _, fun s hs u hu => .inr ?_⟩
      rw [List.mem_singleton.1 hu]
      intro e
      have e : s.b = some (lo + n) := e
      rcases List.mem_append.1 hs with hs | hs
      · have := hR s hs _ e; omega
      · obtain ⟨i, hi, e'⟩ := keeps_b hs
        rw [e'] at e
        injection e with e
        omega
theorem own_fs2 {w : World} {S : Nat → Prop} {v : Value} {ps : List (Nd × Value)} (ho : w.ownsRow 0 24 4 v ps.length (ps.flatMap ndC)) (hS : ∀ g, v.ownBlock = some g → S g) (hf : ∀ p ∈ ps, Fs w S p.2 p.1.c) : Fs w S v (ofL (ps.map (·.1))) := by
  rcases ho.2 with ⟨rfl, h0⟩ | ⟨g, cap, cur, rfl, hg0, hg, q1, q2, q3, q4⟩
  · rw [List.eq_nil_of_length_eq_zero h0]
    exact ⟨none, 0, rfl, by omega⟩
  · have hc := ho.cells (g := g) rfl
    have ad : ∀ j, (⟨g, 0, none⟩ : Addr).add j = ⟨g, j, none⟩ := fun j => by unfold Addr.add; split <;> simp_all
    refine fs_row g (hS g rfl) ps 0 ps.length cap rfl q1 q2 (fun j u hu => ?_) hf _ (.inr rfl)
    have := hc j u hu
    rwa [ad, ← Nat.zero_add j] at this
/-- The empty Plan, with the blocks from lo on left as they are. -/
theorem ps_start {w3 W : World} {g : Nat} (hg : w3.heap[g]? = some (.cells #[.slice none 0 0, .slice none 0 0, .slice none 0 0, .slice none 0 0] 30 (0, 0))) (hg2 : w3.heap.size = g + 1) (hb : Below w3.heap.size w3 W) : PS W g (Rng w3.heap.size W) (keeps W w3.heap.size (W.heap.size - w3.heap.size)) g [] [] [] [] := by
  have ho : W.ownsRow 0 30 4 (.slice (some ⟨g, 0, none⟩) 1 1) 1 [.slice none 0 0, .slice none 0 0, .slice none 0 0, .slice none 0 0] := by
    refine ⟨rfl, .inr ⟨g, 1, #[.slice none 0 0, .slice none 0 0, .slice none 0 0, .slice none 0 0], rfl, Nat.zero_le _, (hb.block g (by omega)).trans hg, Nat.le_refl _, by unfold maxLen; omega, rfl, rfl⟩⟩
  have hs := hb.size
  have h0 : Fam W g [boxT 30 g [.slice none 0 0, .slice none 0 0, .slice none 0 0, .slice none 0 0]] := ⟨fun t ht => by rw [List.mem_singleton.1 ht]; exact ho, fun t ht k hk => by
    rw [List.mem_singleton.1 ht] at hk
    have hk : some g = some k := hk
    injection hk with hk
    omega, List.pairwise_singleton _ _, by omega⟩
  have h1 := (((h0.nilRow (e := 24) (sz := 4)).nilRow (e := 3) (sz := 1)).nilRow (e := 3) (sz := 1)).nilRow (e := 27) (sz := 1)
  have h2 := fam_keeps h1 (lo := w3.heap.size) (fun t ht b hbt => ?_) (by omega) (W.heap.size - w3.heap.size) (by omega)
  · refine ⟨⟨.slice none 0 0, .slice none 0 0, .slice none 0 0, .slice none 0 0, [], [], h2, rfl, fun p hp => (by cases hp), rfl⟩, fun b hb' => ?_⟩
    obtain ⟨hb1, hb2⟩ := hb'
    obtain ⟨o, ho⟩ := keeps_has (W := W) (lo := w3.heap.size) (n := W.heap.size - w3.heap.size) (i := b - w3.heap.size) (by omega)
    rw [show w3.heap.size + (b - w3.heap.size) = b by omega] at ho
    exact .inr ⟨o, ho⟩
  · simp only [List.cons_append, List.nil_append, List.mem_cons, List.not_mem_nil, or_false] at ht
    rcases ht with rfl | rfl | rfl | rfl | rfl
    · have hbt : some g = some b := hbt
      injection hbt with hbt
      omega
    all_goals cases hbt
/-- What the program's Of gives: a Plan in new memory; the first node's Kids lie at s, and may be written. -/
def OfGood (w : World) (k : Int) (x y : ByteArray) (c : F) (e : Ending) (w' : World) : Prop :=
  Below w.heap.size w w' ∧ ∃ (gN cN : Nat) (vP vS vK s : Value), e = .returned (.agg #[.slice (some ⟨gN, 0, none⟩) (c.size + 1) cN, vP, vS, vK]) ∧ PlanRd w' (In w.heap.size w'.heap.size) (one k x y c) (.agg #[.slice (some ⟨gN, 0, none⟩) (c.size + 1) cN, vP, vS, vK]) ∧
    w.heap.size ≤ gN ∧ w'.cell? ⟨gN, 3, none⟩ = some s ∧ TF w' s ∧ Fs w' (In w.heap.size w'.heap.size) s c
theorem of_end {w W w' : World} {g : Nat} {X : List Thing} {k : Int} {x y : ByteArray} {c : F} {vN vP vS vK : Value} {us : List Value} {nps : List (Nd × Value)} (hb : Below w.heap.size w w') (hg : w.heap.size ≤ g) (hW : w.heap.size ≤ W.heap.size)
    (hF : Fam w' g (PR g vN vP vS vK nps.length (nps.flatMap ndC) (parF (-1) 0 (one k x y c)).length ((parF (-1) 0 (one k x y c)).map iv) (sizF (one k x y c)).length ((sizF (one k x y c)).map iv) us.length us us (kidF 0 (one k x y c)) X))
    (hL : nps.map (·.1) = nodes (one k x y c)) (hf : ∀ p ∈ nps, Fs w' (Rng W.heap.size w') p.2 p.1.c ∧ TF w' p.2) (hus : us.length = (kidF 0 (one k x y c)).length) : OfGood w k x y c (.returned (.agg #[vN, vP, vS, vK])) w' := by
  have hlen : nps.length = c.size + 1 := by
    have := congrArg List.length hL
    rwa [List.length_map, nodes_len, one_size] at this
  obtain ⟨gN, cN, rfl, _, _⟩ := hF.sliceAt (i := 1) rfl (by omega)
  have hgN := hF.lt (k := gN) (List.mem_of_getElem? (i := 1) rfl) rfl
  have hI : ∀ b, In g w'.heap.size b → In w.heap.size w'.heap.size b := fun b hb => ⟨Nat.le_trans hg hb.1, hb.2⟩
  have hR : ∀ b, Rng W.heap.size w' b → In w.heap.size w'.heap.size b := fun b hb => ⟨Nat.le_trans hW hb.1, hb.2⟩
  obtain ⟨p0, ps, rfl⟩ : ∃ p0 ps, nps = p0 :: ps := by
    cases nps with
    | nil => simp at hlen
    | cons p ps => exact ⟨p, ps, rfl⟩
  have hp0 : p0.1 = ⟨k, x, y, c⟩ := by
    rw [one_nodes] at hL
    simp only [List.map_cons, List.cons.injEq] at hL
    exact hL.1
  obtain ⟨n0, s⟩ := p0
  have hp0 : n0 = ⟨k, x, y, c⟩ := hp0
  subst hp0
  have h0 := hf _ List.mem_cons_self
  have hc := (node_at (j := 1) (nps := (⟨k, x, y, c⟩, s) :: ps) hF rfl (i := 0) rfl).2.2.2
  rw [show 0 * 4 + 3 = 3 from rfl] at hc
  refine ⟨hb, gN, cN, vP, vS, vK, s, by rw [hlen], ⟨.slice (some ⟨gN, 0, none⟩) (c.size + 1) cN, vP, vS, vK, rfl, ?_, (hF.slAt (i := 2) rfl).more hI, (hF.slAt (i := 3) rfl).more hI, (rows_of (m := 0) hF (i := 4) rfl hus fun j u l hj hk => ⟨j + 5, pr_at hj hk⟩).more hI⟩, Nat.le_trans hg hgN.1, hc, h0.2, h0.1.more hR⟩
  rw [← hL, ← hlen]
  exact own_fs2 (hF.get (i := 1) rfl) (fun q hq => by have hq : some gN = some q := hq; injection hq with hq; subst hq; exact hI _ hgN) fun p hp => (hf p hp).1.more hR
theorem sizF_in (f : F) : ∀ z ∈ sizF f, 0 ≤ z ∧ z ≤ (f.size : Int) := fun z hz => by
  rw [sizF_nodes] at hz
  obtain ⟨nd, hnd, rfl⟩ := List.mem_map.1 hz
  obtain ⟨i, hi⟩ := List.getElem?_of_mem hnd
  have := nd_size_le f i nd hi
  exact ⟨by omega, by show ((nd.c.size + 1 : Nat) : Int) ≤ _; omega⟩
set_option maxRecDepth 100000 in
set_option maxHeartbeats 16000000 in
theorem of_good (k : Int) (x y : ByteArray) (A : Option Addr) (n C : Nat) (c : F) (w : World) (hf : Fs w (Lo w.heap.size) (.slice A n C) c) (hc : c.size ≤ 1000) :
    Calls Tryd.prog 10 #[.agg #[.int .i64 k, .string x, .string y, .slice A n C]] w (OfGood w k x y c) := by
  have b1 := below1 w (.cells #[.int .i64 k, .string x, .string y, .slice A n C] 24)
  have b2 := below1 (w.alloc (.cells #[.int .i64 k, .string x, .string y, .slice A n C] 24)) (.cells #[.slice none 0 0, .slice none 0 0, .slice none 0 0, .slice none 0 0] 30)
  have b3 := below1 ((w.alloc (.cells #[.int .i64 k, .string x, .string y, .slice A n C] 24)).alloc (.cells #[.slice none 0 0, .slice none 0 0, .slice none 0 0, .slice none 0 0] 30)) (.cells #[.slice none 0 0, .slice none 0 0, .slice none 0 0, .slice none 0 0] 30)
  have b12 := b1.trans (b2.mono b1.size)
  have b123 := b12.trans (b3.mono b12.size)
  have hq := box_cl2 w k x y (.slice A n C) (W := ((w.alloc (.cells #[.int .i64 k, .string x, .string y, .slice A n C] 24)).alloc (.cells #[.slice none 0 0, .slice none 0 0, .slice none 0 0, .slice none 0 0] 30)).alloc (.cells #[.slice none 0 0, .slice none 0 0, .slice none 0 0, .slice none 0 0] 30)) (b2.trans (b3.mono b2.size))
  have hg : (((w.alloc (.cells #[.int .i64 k, .string x, .string y, .slice A n C] 24)).alloc (.cells #[.slice none 0 0, .slice none 0 0, .slice none 0 0, .slice none 0 0] 30)).alloc (.cells #[.slice none 0 0, .slice none 0 0, .slice none 0 0, .slice none 0 0] 30)).heap[w.heap.size + 1 + 1]? = some (.cells #[.slice none 0 0, .slice none 0 0, .slice none 0 0, .slice none 0 0] 30 (0, 0)) := by
    have := heap_alloc_new ((w.alloc (.cells #[.int .i64 k, .string x, .string y, .slice A n C] 24)).alloc (.cells #[.slice none 0 0, .slice none 0 0, .slice none 0 0, .slice none 0 0] 30)) (.cells #[.slice none 0 0, .slice none 0 0, .slice none 0 0, .slice none 0 0] 30)
    rwa [show ((w.alloc (.cells #[.int .i64 k, .string x, .string y, .slice A n C] 24)).alloc (.cells #[.slice none 0 0, .slice none 0 0, .slice none 0 0, .slice none 0 0] 30)).heap.size = w.heap.size + 1 + 1 by simp] at this
  have hr : (((w.alloc (.cells #[.int .i64 k, .string x, .string y, .slice A n C] 24)).alloc (.cells #[.slice none 0 0, .slice none 0 0, .slice none 0 0, .slice none 0 0] 30)).alloc (.cells #[.slice none 0 0, .slice none 0 0, .slice none 0 0, .slice none 0 0] 30)).heap[w.heap.size + 1]? = some (.cells #[.slice none 0 0, .slice none 0 0, .slice none 0 0, .slice none 0 0] 30 (0, 0)) := (b3.block _ (by simp)).trans (blk2' w _ _)
  have hsz : (((w.alloc (.cells #[.int .i64 k, .string x, .string y, .slice A n C] 24)).alloc (.cells #[.slice none 0 0, .slice none 0 0, .slice none 0 0, .slice none 0 0] 30)).alloc (.cells #[.slice none 0 0, .slice none 0 0, .slice none 0 0, .slice none 0 0] 30)).heap.size = w.heap.size + 1 + 1 + 1 := by simp
  have hcp := tcopyF_any c.size k x y A n C c _ (Nat.le_refl _) (by omega) ((hf.below b123 (Nat.le_refl _)).up b123.size)
  obtain ⟨w3, hw3⟩ : ∃ w3, ((w.alloc (.cells #[.int .i64 k, .string x, .string y, .slice A n C] 24)).alloc (.cells #[.slice none 0 0, .slice none 0 0, .slice none 0 0, .slice none 0 0] 30)).alloc (.cells #[.slice none 0 0, .slice none 0 0, .slice none 0 0, .slice none 0 0] 30) = w3 := ⟨_, rfl⟩
  rw [hw3] at b123 hq hg hr hsz hcp
  obtain ⟨q0, q1, q2, q3⟩ := hq
  have HCP := Lib.hid hcp
  have HG := Lib.hid hg
  have HR := Lib.hid hr
  have HSZ := Lib.hid hsz
  have HB3 := Lib.hid b123
  have HC := Lib.hid hc
  clear hf b1 b2 b3 b12 b123 hg hr hsz hcp hc
  go_enter Tryd.func10, Tryd.ntmps10
  go_wp2_with fail
  try rw [hw3]
  clear hw3
  refine HCP.out.mono ?_
  rintro e w4 ⟨hb4, A4, n4, C4, rfl, hf4, ht4⟩
  have hps := ps_start (g := w.heap.size + 1 + 1) HG.out HSZ.out hb4
  have HAD := Lib.hid (add_any c.size k x y A4 n4 C4 c (-1) w4 (w.heap.size + 1 + 1) _ _ (w.heap.size + 1 + 1) [] [] [] [] (Nat.le_refl _) hf4 hps rfl rfl rfl (by have := HC.out; simp only [List.length_nil]; omega) (by omega) (by omega))
  have HB4 := Lib.hid (HB3.out.trans (hb4.mono HB3.out.size))
  have hr4 : w4.heap[w.heap.size + 1]? = some (.cells #[.slice none 0 0, .slice none 0 0, .slice none 0 0, .slice none 0 0] 30 (0, 0)) := (hb4.block _ (by have := HSZ.out; omega)).trans HR.out
  have HR4 := Lib.hid hr4
  clear q0 q1 q2 q3 hb4 hf4 ht4 hps HCP hr4 HR
  go_wp2_with fail
  refine HAD.out.mono ?_
  rintro e w5 ⟨rfl, hp5, hb5⟩
  simp only [List.nil_append, List.length_nil] at hp5
  have hz := sizF_in (one k x y c)
  rw [one_size] at hz
  have HPT := Lib.hid (part_any w5 _ _ _ _ _ _ _ _ hp5 (fun z h => ⟨(hz z h).1, by have := (hz z h).2; have := HC.out; omega⟩) (by rw [sizF_len, one_size]; have := HC.out; omega) (by rw [nodes_len, one_size]; omega) (by rw [nodes_len, one_size]; have := HC.out; omega) (fun nd hnd => by
    obtain ⟨i, hi⟩ := List.getElem?_of_mem hnd
    have := nd_size_le _ i nd hi
    rw [one_size] at this
    have := HC.out; omega) (fun b hb => Nat.lt_of_lt_of_le hb.2 hb5.size))
  have HB5 := Lib.hid (HB4.out.trans (hb5.mono (show w.heap.size ≤ w.heap.size + 1 + 1 by omega)))
  have HR5 : Hid (w5.heap[w.heap.size + 1]? = some (.cells #[.slice none 0 0, .slice none 0 0, .slice none 0 0, .slice none 0 0] 30 (0, 0))) := (hb5.block _ (by omega)).trans HR4.out
  clear hp5 hb5 hz HAD HR4
  go_wp2_with fail
  refine HPT.out.mono ?_
  rintro e w6 ⟨rfl, ⟨vN, vP, vS, vK, us, nps, hF, hL, hfs, hus⟩, hb6⟩
  obtain ⟨⟨p0, p1, p2, p3⟩, f0, f1, f2, f3⟩ := box_at hF (j := 0) rfl
  have hr6 : w6.heap[w.heap.size + 1]? = some (.cells #[.slice none 0 0, .slice none 0 0, .slice none 0 0, .slice none 0 0] 30 (0, 0)) := (hb6.block _ (by omega)).trans HR5.out
  obtain ⟨y0, y1, y2, y3⟩ : w6.cell? ⟨w.heap.size + 1, 0, none⟩ = some (.slice none 0 0) ∧ w6.cell? ⟨w.heap.size + 1, 1, none⟩ = some (.slice none 0 0) ∧ w6.cell? ⟨w.heap.size + 1, 2, none⟩ = some (.slice none 0 0) ∧ w6.cell? ⟨w.heap.size + 1, 3, none⟩ = some (.slice none 0 0) := by
    refine ⟨?_, ?_, ?_, ?_⟩ <;> simp [World.cell?, hr6]
  obtain ⟨r0, r1, r2, r3⟩ : w6.frozen? ⟨w.heap.size + 1, 0, none⟩ = false ∧ w6.frozen? ⟨w.heap.size + 1, 1, none⟩ = false ∧ w6.frozen? ⟨w.heap.size + 1, 2, none⟩ = false ∧ w6.frozen? ⟨w.heap.size + 1, 3, none⟩ = false := by
    refine ⟨?_, ?_, ?_, ?_⟩ <;> simp [World.frozen?, hr6]
  have HFIN := Lib.hid (set_here (set_here (set_here (set_here hr6 0 vN) 1 vP) 2 vS) 3 vK)
  have hgB : w.heap.size + 1 < w.heap.size + 1 + 1 := by omega
  have hend := (((hF.setLow hgB 0 vN).setLow hgB 1 vP).setLow hgB 2 vS).setLow hgB 3 vK
  have hb6' := HB5.out.trans (hb6.mono (show w.heap.size ≤ w.heap.size + 1 + 1 by omega))
  have HBE := Lib.hid ((((hb6'.setCell (p := ⟨w.heap.size + 1, 0, none⟩) (Nat.le_succ _) vN).setCell (p := ⟨w.heap.size + 1, 1, none⟩) (Nat.le_succ _) vP).setCell (p := ⟨w.heap.size + 1, 2, none⟩) (Nat.le_succ _) vS).setCell (p := ⟨w.heap.size + 1, 3, none⟩) (Nat.le_succ _) vK)
  have HEND := Lib.hid hend
  have hgt : w.heap.size + 1 < w5.heap.size := by
    rcases Nat.lt_or_ge (w.heap.size + 1) w5.heap.size with h1 | h1
    · exact h1
    · have := HR5.out; rw [Array.getElem?_eq_none h1] at this; cases this
  have HFS : Hid (∀ p ∈ nps, Fs ((((w6.setCell ⟨w.heap.size + 1, 0, none⟩ vN).setCell ⟨w.heap.size + 1, 1, none⟩ vP).setCell ⟨w.heap.size + 1, 2, none⟩ vS).setCell ⟨w.heap.size + 1, 3, none⟩ vK) (Rng w5.heap.size ((((w6.setCell ⟨w.heap.size + 1, 0, none⟩ vN).setCell ⟨w.heap.size + 1, 1, none⟩ vP).setCell ⟨w.heap.size + 1, 2, none⟩ vS).setCell ⟨w.heap.size + 1, 3, none⟩ vK)) p.2 p.1.c ∧ TF ((((w6.setCell ⟨w.heap.size + 1, 0, none⟩ vN).setCell ⟨w.heap.size + 1, 1, none⟩ vP).setCell ⟨w.heap.size + 1, 2, none⟩ vS).setCell ⟨w.heap.size + 1, 3, none⟩ vK) p.2) := fun p hp => by
    obtain ⟨h1, h2⟩ := hfs p hp
    exact ⟨(h1.keep fun b hb => set4_other _ _ _ _ _ _ _ (by have := hb.1; omega)).more fun b hb => ⟨hb.1, by simpa using hb.2⟩, (((h2.set _ _ _).set _ _ _).set _ _ _).set _ _ _⟩
  have HW5 : Hid (w.heap.size ≤ w5.heap.size) := HB5.out.size
  have HL := Lib.hid hL
  have HUS := Lib.hid hus
  obtain ⟨aN, cN, eN, _, _⟩ := hF.slice (i := 1) rfl
  obtain ⟨aP, cP, eP, _, _⟩ := hF.slice (i := 2) rfl
  obtain ⟨aS, cS, eS, _, _⟩ := hF.slice (i := 3) rfl
  obtain ⟨aK, cK, eK, _, _⟩ := hF.slice (i := 4) rfl
  clear hF hL hfs hus hb6 hr6 hend hb6' hgB hgt HR5 HPT
  subst eN eP eS eK
  go_wp2
  refine bodyPost_ret (results_cell_row rfl _ _ (w.heap.size + 1) 30 _ (0, 0) _ rfl HFIN.out Tryd.underlying30 rfl (by kernel_rfl)) rfl ?_
  exact of_end HBE.out (by omega) HW5.out HEND.out HL.out HFS.out HUS.out
theorem ofSpec : OfSpec := fun k x y A n C c w hf hc => (of_good k x y A n C c w hf hc).mono fun e w' h => by
  obtain ⟨hb, gN, cN, vP, vS, vK, s, he, hp, _⟩ := h
  exact ⟨hb, _, he, hp⟩
/-! ### Tree -/
def TreeGood (w : World) (k : Int) (x y : ByteArray) (c : F) (e : Ending) (w' : World) : Prop :=
  Below w.heap.size w w' ∧ ∃ A n C, e = .returned (.agg #[.int .i64 k, .string x, .string y, .slice A n C]) ∧ Fs w' (In w.heap.size w'.heap.size) (.slice A n C) c ∧ TF w' (.slice A n C)
set_option maxRecDepth 100000 in
set_option maxHeartbeats 4000000 in
theorem tree_good (k : Int) (x y : ByteArray) (c : F) (v : Value) (w : World) (h : PlanRd w (Lo w.heap.size) (one k x y c) v) (hc : c.size ≤ 1000) : Calls Tryd.prog 14 #[v] w (TreeGood w k x y c) := by
  obtain ⟨vN, vP, vS, vK, rfl, hN, _⟩ := h
  have hlen : (ofL (nodes (one k x y c))).len = c.size + 1 := by rw [ofL_len, nodes_len, one_size]
  obtain ⟨AN, CN, rfl, hC1, hC2⟩ := hN.slice
  rw [hlen] at hN hC1 ⊢
  have b1 := below1 w (.cells #[.slice AN (c.size + 1) CN, vP, vS, vK] 30)
  have b2 := below1 (w.alloc (.cells #[.slice AN (c.size + 1) CN, vP, vS, vK] 30)) (.cells #[.int .i64 0, .string ⟨#[]⟩, .string ⟨#[]⟩, .slice none 0 0] 24)
  have b12 := b1.trans (b2.mono b1.size)
  have hN2 := hN.below b12 (Nat.le_refl _)
  obtain ⟨b, off, s, rfl, hSb, _, hat⟩ := hN2.at_ (i := 0) (show F.drop 0 (ofL (nodes (one k x y c))) = .cons k x y c (ofL (nodes c)) by rw [one_nodes]; rfl)
  have e0 := hat.c0; have e1 := hat.c1; have e2 := hat.c2; have e3 := hat.c3
  simp only [Nat.zero_mul, Nat.add_zero] at e0 e1 e2 e3
  obtain ⟨A2, C2, rfl, _, _⟩ := hat.kids.slice
  have hcp := tcopyF_any c.size k x y A2 c.len C2 c _ (Nat.le_refl _) (by omega) (hat.kids.up b12.size)
  have hx : ((w.alloc (.cells #[.slice (some ⟨b, off, none⟩) (c.size + 1) CN, vP, vS, vK] 30)).alloc (.cells #[.int .i64 0, .string ⟨#[]⟩, .string ⟨#[]⟩, .slice none 0 0] 24)).heap[w.heap.size + 1]? = some (.cells #[.int .i64 0, .string ⟨#[]⟩, .string ⟨#[]⟩, .slice none 0 0] 24 (0, 0)) := blk2' w _ _
  have hsz : ((w.alloc (.cells #[.slice (some ⟨b, off, none⟩) (c.size + 1) CN, vP, vS, vK] 30)).alloc (.cells #[.int .i64 0, .string ⟨#[]⟩, .string ⟨#[]⟩, .slice none 0 0] 24)).heap.size = w.heap.size + 1 + 1 := by simp
  have HCP := Lib.hid hcp
  have HX := Lib.hid hx
  have HSZ := Lib.hid hsz
  have HB := Lib.hid b12
  have hpos : ((c.size : Int) + 1 == 0) = false := by simp; omega
  have hlt0 : (0 : Int) < (c.size : Int) + 1 := by omega
  clear hN hN2 hat hSb hlen hcp hx hsz b1 b2 b12 hC1 hC2
  go_enter Tryd.func14, Tryd.ntmps14
  go_wp2_with fail
  refine HCP.out.mono ?_
  rintro e w4 ⟨hb4, A4, n4, C4, rfl, hf4, ht4⟩
  have hx4 : Boxed w4 (w.heap.size + 1) 0 ⟨#[]⟩ ⟨#[]⟩ (.slice none 0 0) := (hb4.block _ (by have := HSZ.out; omega)).trans HX.out
  obtain ⟨y0, y1, y2, y3⟩ := frz hx4
  obtain ⟨x0, x1, x2, x3⟩ := hx4.cells
  have HX4 := Lib.hid hx4
  have hbb := box_below w4 (w.heap.size + 1) (.int .i64 k) (.string x) (.string y) (.slice A4 n4 C4)
  have HEND : Hid (TreeGood w k x y c (.returned (.agg #[.int .i64 k, .string x, .string y, .slice A4 n4 C4])) ((((w4.setCell ⟨w.heap.size + 1, 0, none⟩ (.int .i64 k)).setCell ⟨w.heap.size + 1, 1, none⟩ (.string x)).setCell ⟨w.heap.size + 1, 2, none⟩ (.string y)).setCell ⟨w.heap.size + 1, 3, none⟩ (.slice A4 n4 C4))) :=
    ⟨(HB.out.trans (hb4.mono HB.out.size)).trans (hbb.mono (Nat.le_succ _)), A4, n4, C4, rfl, (hf4.keep fun q hq => set4_other _ _ _ _ _ _ _ (by have := hq.1; have := HSZ.out; omega)).more fun q hq => ⟨by have := hq.1; have := HSZ.out; omega, Nat.lt_of_lt_of_le hq.2 hbb.size⟩, (((ht4.set _ _ _).set _ _ _).set _ _ _).set _ _ _⟩
  clear hb4 hf4 ht4 hx4 hbb e0 e1 e2 e3
  go_wp2
  refine bodyPost_ret (results_cell_row rfl _ _ (w.heap.size + 1) 24 _ (0, 0) _ rfl (box_new HX4.out) Tryd.underlying24 rfl hi_node) rfl ?_
  exact HEND.out
theorem treeSpec : TreeSpec := fun k x y c v w h hc => (tree_good k x y c v w h hc).mono fun e w' h => by
  obtain ⟨hb, A, n, C, he, hf, _⟩ := h
  exact ⟨hb, A, n, C, he, hf⟩
set_option maxRecDepth 100000 in
set_option maxHeartbeats 4000000 in
theorem treeNone : TreeNone := by
  intro w
  have hx : ((w.alloc (.cells #[.slice none 0 0, .slice none 0 0, .slice none 0 0, .slice none 0 0] 30)).alloc (.cells #[.int .i64 0, .string ⟨#[]⟩, .string ⟨#[]⟩, .slice none 0 0] 24)).heap[w.heap.size + 1]? = some (.cells #[.int .i64 0, .string ⟨#[]⟩, .string ⟨#[]⟩, .slice none 0 0] 24 (0, 0)) := blk2' w _ _
  have HX := Lib.hid hx
  have b1 := below1 w (.cells #[.slice none 0 0, .slice none 0 0, .slice none 0 0, .slice none 0 0] 30)
  have b2 := below1 (w.alloc (.cells #[.slice none 0 0, .slice none 0 0, .slice none 0 0, .slice none 0 0] 30)) (.cells #[.int .i64 0, .string ⟨#[]⟩, .string ⟨#[]⟩, .slice none 0 0] 24)
  have HB := Lib.hid (b1.trans (b2.mono b1.size))
  clear hx b1 b2
  go_enter Tryd.func14, Tryd.ntmps14
  go_wp2
  refine bodyPost_ret (results_cell_row rfl _ _ (w.heap.size + 1) 24 _ (0, 0) _ rfl HX.out Tryd.underlying24 rfl hi_node) rfl ?_
  exact ⟨HB.out, rfl⟩
end Go.Proofs.YtmknghhgcecafaaDoor.Shape
