import Derived.Test.YtoecimgmghlfpaaDoorJoinSame
import Derived.Sort.CutIn
import Derived.Deep.Cut

/-
  Layer 5 (tree): the walk of TreeSame: the same trees, how many nodes, in order, the copy. Written by gen_treesamelaw.py.
-/
namespace Go.Proofs.YtoecimgmghlfpaaDoor.Tree
open Go.ChangeShapes Go.WideShapes Go.ChangeAt Go.RowKit Mem
set_option linter.unusedVariables false

attribute [local go_sem] Oper.semAt_some

theorem size_is (w : World) (k : Int) (x y : ByteArray) (A : Option Addr) (n C : Nat) (c : F) (hbig : c.size ≤ 100000) (hf : Fs w (Lo w.heap.size) (.slice A n C) c) :
    Calls Tryd.prog 10 #[.agg #[.int .i64 k, .string x, .string y, .slice A n C]] w fun e w' => e = .returned (.int .i64 ((c.size + 1 : Nat) : Int)) ∧ Below w.heap.size w w' := size_any c.size k x y A n C c w (Nat.le_refl _) (by omega) hf
theorem refSize_is (w : World) (k : Int) (x y : ByteArray) (A : Option Addr) (n C : Nat) (c : F) (hbig : c.size < 2000) (hf : Fs w (Lo w.heap.size) (.slice A n C) c) :
    Calls Tryd.prog 11 #[.agg #[.int .i64 k, .string x, .string y, .slice A n C], .int .i64 2001] w fun e w' => e = .returned (.int .i64 ((c.size + 1 : Nat) : Int)) ∧ Below w.heap.size w w' := by
  have := refSize_any k x y A n C c 2001 w hf (by omega) (by omega)
  rwa [show min (c.size + 1) 2001 = c.size + 1 by omega] at this
theorem nodes_in : ∀ (c : F) (nd : Nd), nd ∈ nodes c → nd.c.size < c.size
  | .nil, nd, h => by cases h
  | .cons k x y c r, nd, h => by
    simp only [nodes, List.mem_cons, List.mem_append] at h
    simp only [F.size]
    rcases h with rfl | h | h
    · simp only; omega
    · have := nodes_in c nd h; omega
    · have := nodes_in r nd h; omega
theorem nodes_small {k : Int} {x y : ByteArray} {c : F} (nd : Nd) (h : nd ∈ (⟨k, x, y, c⟩ :: nodes c : List Nd)) : nd.c.size ≤ c.size := by
  rcases List.mem_cons.1 h with rfl | h
  · exact Nat.le_refl _
  · exact Nat.le_of_lt (nodes_in c nd h)
def True1 (w : World) (e : Ending) (w' : World) : Prop := e = .returned (.bool true) ∧ Below w.heap.size w w'

theorem cellB {W : World} {g : Nat} {b : Bool} (h : W.heap[g]? = some (.cells #[.bool b] 4 (0, 0))) : W.cell? ⟨g, 0, none⟩ = some (.bool b) := by simp [World.cell?, h]
theorem frzB {W : World} {g : Nat} {b : Bool} (h : W.heap[g]? = some (.cells #[.bool b] 4 (0, 0))) : W.frozen? ⟨g, 0, none⟩ = false := by simp [World.frozen?, h]
theorem wrap_next (i m : Nat) (h : i < m) (hm : m ≤ 2000) : wrap64 ((i : Int) + 1) = (i : Int) + 1 := by unfold wrap64; omega
theorem next_eq (i : Nat) (stop : Int) (h : (i : Int) + 1 = stop) : ((i + 1 : Nat) : Int) = stop := by omega
theorem next_pos (i : Nat) (stop : Int) (h : (i : Int) + 1 = stop) : 1 ≤ stop := by omega
theorem next_on (i : Nat) (stop : Int) (h0 : stop < 1 ∨ (i : Int) < stop) (h : ¬ (i : Int) + 1 = stop) : stop < 1 ∨ ((i + 1 : Nat) : Int) < stop := by omega
theorem same_end (w w1 : World) (D : Nat) (tm : Array Value) (ht : tm.getD 6 undef = .pointer (some ⟨w.heap.size + 1 + 1 + 1, 0, none⟩)) (h1 : w1.heap[w.heap.size + 3]? = some (.cells #[.bool false] 4 (0, 0))) (h2 : w1.heap[D]? = some (.deferred (some []))) (h3 : Below w.heap.size w w1) (h4 : w.heap.size + 4 ≤ D) :
    bodyPostM Fence.wide 5 Tryd.prog Tryd.f3 (True1 w) .ret { tmps := tm, defers := [{ target := .collected D, args := #[] }] } (w1.setCell ⟨w.heap.size + 1 + 1 + 1, 0, none⟩ (.bool true)) := by
  have hrF : (w1.setCell ⟨w.heap.size + 1 + 1 + 1, 0, none⟩ (.bool true)).heap[w.heap.size + 3]? = some (.cells #[.bool true] 4 (0, 0)) := by
    have := set_at h1 0 (.bool true)
    simpa using this
  have hkF : (w1.setCell ⟨w.heap.size + 1 + 1 + 1, 0, none⟩ (.bool true)).heap[D]? = some (.deferred (some [])) := (Below.heap_setCell _ _ _ _ (by show D ≠ w.heap.size + 1 + 1 + 1; omega)).trans h2
  have hbF : Below w.heap.size w ((w1.setCell ⟨w.heap.size + 1 + 1 + 1, 0, none⟩ (.bool true)).putObj D (.deferred none)) := (h3.setCell (by show w.heap.size ≤ w.heap.size + 1 + 1 + 1; omega) _).trans (belowK_b (w := w) (Nat.le_refl _) _ D _ _ (by omega) hkF rfl rfl)
  have ht' : tm[6]?.getD undef = .pointer (some ⟨w.heap.size + 1 + 1 + 1, 0, none⟩) := by simpa using ht
  generalize w1.setCell ⟨w.heap.size + 1 + 1 + 1, 0, none⟩ (.bool true) = W at *
  have hld : (W.putObj D (.deferred none)).cell? ⟨w.heap.size + 1 + 1 + 1, 0, none⟩ = some (.bool true) := by
    have : (W.putObj D (.deferred none)).heap[w.heap.size + 3]? = _ := (World.putObj_heap_other (by omega)).trans hrF
    simp [World.cell?, this]
  refine ⟨by simp, .inl ⟨_, _, rfl, run_takeDeferred hkF, ?_⟩⟩
  generalize W.putObj D (.deferred none) = W' at *
  exact ⟨_, by simp [results, Tryd.results3, go_sem, ht', hld], rfl, hbF⟩

set_option maxRecDepth 100000 in
set_option maxHeartbeats 16000000 in
theorem treeSame_in (k : Int) (x y : ByteArray) (A : Option Addr) (n C : Nat) (c : F) (k' : Int) (x' y' : ByteArray) (A' : Option Addr) (n' C' : Nat) (c' : F) (stop : Int) (w : World)
    (hf : Fs w (Lo w.heap.size) (.slice A n C) c) (hf' : Fs w (Lo w.heap.size) (.slice A' n' C') c') (hT : Lex.Tab w) (hfb : fewB k x y c = true) (hfb' : fewB k' x' y' c' = true) :
    CallsIn Fence.wide 5 Tryd.prog 3 #[.agg #[.int .i64 k, .string x, .string y, .slice A n C], .agg #[.int .i64 k', .string x', .string y', .slice A' n' C'], .int .i64 stop] w (True1 w) := by
  have H4 := Lib.hid (four_new w k x y (.slice A n C) k' x' y' (.slice A' n' C') stop)
  have HFW1 := Lib.hid (few_any k x y A n C c _ (hf.later H4.out.bel))
  rw [hfb] at HFW1
  have HZ2 := Lib.hid (few_is hfb).sz
  have HSM := Lib.hid (few_is hfb).sm
  have HZ : Hid (c.size ≤ 100000) := by show _ ≤ _; have := HZ2.out; omega
  have HT0 : Hid (∀ W, Below w.heap.size w W → Lex.Tab W) := fun W hW => hT.below hW hT.pos
  have HF0 : Hid (∀ W, Below w.heap.size w W → Fs W (Lo W.heap.size) (.slice A n C) c) := fun W hW => hf.later hW
  have HF0' : Hid (∀ W, Below w.heap.size w W → Fs W (Lo W.heap.size) (.slice A' n' C') c') := fun W hW => hf'.later hW
  have HFA := Lib.hid hf
  have HE := Lib.hid hfb'
  clear hf hf' hT hfb hfb'
  refine callsIn_of_wp_marks Tryd.func3 rfl trivial ?_ rfl
  simp only [Tryd.ntmps3, List.size_toArray, List.length_cons, List.length_nil, Nat.reduceAdd, Nat.reduceSub, Array.replicate_succ, Array.replicate_zero, List.push_toArray, List.append_toArray, List.nil_append, List.cons_append]
  gi_wp2
  refine ⟨trivial, (callsIn_wide.2 HFW1.out).mono ?_⟩
  rintro e w1 ⟨rfl, hb⟩
  have H1 := Lib.hid (H4.out.below hb)
  have HFW2 := Lib.hid (few_any k' x' y' A' n' C' c' w1 (HF0'.out w1 H1.out.bel))
  rw [HE.out] at HFW2
  obtain ⟨p0, p1, p2, p3⟩ := H1.out.b.cells
  clear hb HFW1 H4
  gi_wp2
  refine ⟨trivial, (callsIn_wide.2 HFW2.out).mono ?_⟩
  rintro e w2 ⟨rfl, hb⟩
  have H2 := Lib.hid (H1.out.below hb)
  have HC := Lib.hid (tcopyF_any c.size k x y A n C c w2 (Nat.le_refl _) HZ.out (HF0.out w2 H2.out.bel))
  clear p0 p1 p2 p3
  obtain ⟨p0, p1, p2, p3⟩ := H2.out.a.cells
  clear hb HFW2 H1
  gi_wp2
  refine ⟨trivial, (callsIn_wide.2 HC.out).mono ?_⟩
  rintro e w3 ⟨hb, Ac, nc, Cc, rfl, hfc, htf⟩
  have HTF3 := Lib.hid htf
  have hsz2 := H2.out.sz
  have hsz3 := hb.size
  have H3 := Lib.hid (H2.out.below hb)
  have HFC0 := Lib.hid hfc
  clear p0 p1 p2 p3 hb hfc HC htf
  gi_wp2
  have b5 := below1 w3 (.cells #[.int .i64 k, .string x, .string y, .slice Ac nc Cc] 24)
  have hcb := boxed_new w3 k x y (.slice Ac nc Cc)
  have hfc5 : Fs (w3.alloc (.cells #[.int .i64 k, .string x, .string y, .slice Ac nc Cc] 24)) (Mi w2.heap.size w3.heap.size) (.slice Ac nc Cc) c := HFC0.out.keep fun b hb => b5.block b hb.2
  have h5 := H3.out.below b5
  have htf5 := HTF3.out.below b5
  have hz5 : (w3.alloc (.cells #[.int .i64 k, .string x, .string y, .slice Ac nc Cc] 24)).heap.size = w3.heap.size + 1 := World.size_alloc _ _
  obtain ⟨w5, hw5⟩ : ∃ w5, w3.alloc (.cells #[.int .i64 k, .string x, .string y, .slice Ac nc Cc] 24) = w5 := ⟨_, rfl⟩
  rw [hw5] at hcb hfc5 h5 hz5 htf5 ⊢
  clear b5 hw5
  obtain ⟨gc, hgc⟩ : ∃ g, w3.heap.size = g := ⟨_, rfl⟩
  obtain ⟨s2, hs2⟩ : ∃ g, w2.heap.size = g := ⟨_, rfl⟩
  rw [hgc] at hcb hfc5 hz5 hsz3 ⊢
  rw [hs2] at hfc5 hsz2 hsz3
  have HTF5 := Lib.hid htf5; have H5 := Lib.hid h5; have HCB := Lib.hid hcb; have HFC5 := Lib.hid hfc5
  have HT : Hid (∀ W, Below w.heap.size w W → Lex.Tab W) := HT0.out
  have HF : Hid (∀ W, Below w5.heap.size w5 W → Fs W (Lo W.heap.size) (.slice A n C) c) := fun W hW => HF0.out W (H5.out.bel.trans (hW.mono (by omega)))
  have HF' : Hid (∀ W, Below w5.heap.size w5 W → Fs W (Lo W.heap.size) (.slice A' n' C') c') := fun W hW => HF0'.out W (H5.out.bel.trans (hW.mono (by omega)))
  have HFC : Hid (∀ W, Below w5.heap.size w5 W → Fs W (Lo W.heap.size) (.slice Ac nc Cc) c) := fun W hW => (HFC5.out.belowM hW (show gc ≤ w5.heap.size by omega)).more fun b hb => Nat.lt_of_lt_of_le hb.2 (Nat.le_trans (by omega) hW.size)
  clear HTF3 htf5 h5 hcb hfc5 hgc hs2 H3 H2 HFC0 HF0' HE
  refine wpIn_wide.2 (region_rel (fun W W' => Below W.heap.size W W') [Cd.is (Value.bool true), Cd.is (Value.bool false), Cd.is (Value.bool false), Cd.is (Value.agg #[.int .i64 k, .string x, .string y, .slice A n C]), Cd.is (Value.agg #[.int .i64 k', .string x', .string y', .slice A' n' C']), Cd.is (Value.bool (sameT k x y c k' x' y' c')), Cd.is (Value.agg #[.int .i64 k, .string x, .string y, .slice A n C]), Cd.is (Value.agg #[.int .i64 k', .string x', .string y', .slice A' n' C']), Cd.is (Value.bool (sameT k x y c k' x' y' c')), Cd.is (Value.bool false), Cd.is (Value.bool false), Cd.is (Value.bool false), Cd.is (Value.agg #[.int .i64 k, .string x, .string y, .slice A n C]), Cd.is (Value.int .i64 ((c.size + 1 : Nat) : Int)), Cd.is (Value.agg #[.int .i64 k, .string x, .string y, .slice A n C]), Cd.is (Value.int .i64 ((c.size + 1 : Nat) : Int)), Cd.is (Value.bool false), Cd.is (Value.bool false), Cd.is (Value.bool false), Cd.is (Value.agg #[.int .i64 k, .string x, .string y, .slice A n C]), Cd.is (Value.agg #[.int .i64 k, .string x, .string y, .slice Ac nc Cc]), Cd.is (Value.bool true), Cd.is (Value.bool false), Cd.is (Value.bool false), Cd.is (Value.bool false), Cd.is (Value.agg #[.int .i64 k, .string x, .string y, .slice A n C]), Cd.is (Value.agg #[.int .i64 k, .string x, .string y, .slice Ac nc Cc]), Cd.is (Value.bool true), Cd.is (Value.bool false), Cd.is (Value.bool false)] (by kernel_rfl) (by decide) (by kernel_rfl) (Below.refl _ _) (fun _ _ _ h k => h.trans (k.mono h.size)) ?steps ?behind)
  case steps =>
    intro xv W hW a ha
    replace hW := undrew hW
    simp only [fillA] at ha
    simp only [List.setIfInBounds_toArray, List.set_cons_succ, List.set_cons_zero, Nat.zero_add, Nat.reduceAdd] at ha
    subst ha
    refine ⟨fun hd K hK => ?s0, fun hd K hK => ?s1, fun hd K hK => ?s2, fun hd K hK => ?s3, fun hd K hK => ?s4, fun hd K hK => ?s5, fun hd K hK => ?s6, fun hd K hK => ?s7, fun hd K hK => ?s8, fun hd K hK => ?s9, fun hd K hK => ?s10, fun hd K hK => ?s11, fun hd K hK => ?s12, fun hd K hK => ?s13, fun hd K hK => ?s14, fun hd K hK => ?s15, fun hd K hK => ?s16, fun hd K hK => ?s17, fun hd K hK => ?s18, fun hd K hK => ?s19, fun hd K hK => ?s20, fun hd K hK => ?s21, fun hd K hK => ?s22, fun hd K hK => ?s23, fun hd K hK => ?s24, fun hd K hK => ?s25, fun hd K hK => ?s26, fun hd K hK => ?s27, fun hd K hK => ?s28, fun hd K hK => ?s29, trivial⟩
    case s0 =>
      clear hd
      simp only [Act.put, List.setIfInBounds_toArray, List.set_cons_succ, List.set_cons_zero] at hK
      refine (if_pos (by rfl)).mpr ?_
      go_simp
      go_at_call 6
      refine (known_any W (HT.out W (H5.out.bel.trans (hW.mono (by omega))))).mono ?_
      rintro e w' ⟨rfl, hb⟩
      exact hK.out _ _ hb rfl
    case s1 =>
      have hx0 : xv 0 = Value.bool true := hd 0 (by kernel_rfl)
      clear hd
      simp only [Act.put, List.setIfInBounds_toArray, List.set_cons_succ, List.set_cons_zero] at hK
      rw [hx0] at hK ⊢
      refine (if_pos (by rfl)).mpr ?_
      go_simp
      exact hK.out _ _ (Below.refl _ _) rfl
    case s2 =>
      have hx1 : xv 1 = Value.bool false := hd 1 (by kernel_rfl)
      clear hd
      simp only [Act.put, List.setIfInBounds_toArray, List.set_cons_succ, List.set_cons_zero] at hK
      rw [hx1] at hK ⊢
      refine (if_pos (by rfl)).mpr ?_
      go_simp
      exact hK.out _ _ (Below.refl _ _) rfl
    case s3 =>
      have hx2 : xv 2 = Value.bool false := hd 2 (by kernel_rfl)
      clear hd
      simp only [Act.put, List.setIfInBounds_toArray, List.set_cons_succ, List.set_cons_zero] at hK
      rw [hx2] at hK ⊢
      refine (if_pos (by rfl)).mpr ?_
      obtain ⟨hq0, hq1, hq2, hq3⟩ := ((H5.out.later hW (by omega)).a).cells
      go_simp
      exact hK.out _ _ (Below.refl _ _) rfl
    case s4 =>
      have hx2 : xv 2 = Value.bool false := hd 2 (by kernel_rfl)
      clear hd
      simp only [Act.put, List.setIfInBounds_toArray, List.set_cons_succ, List.set_cons_zero] at hK
      rw [hx2] at hK ⊢
      refine (if_pos (by rfl)).mpr ?_
      obtain ⟨hq0, hq1, hq2, hq3⟩ := ((H5.out.later hW (by omega)).b).cells
      go_simp
      exact hK.out _ _ (Below.refl _ _) rfl
    case s5 =>
      have hx2 : xv 2 = Value.bool false := hd 2 (by kernel_rfl)
      have hx3 : xv 3 = Value.agg #[.int .i64 k, .string x, .string y, .slice A n C] := hd 3 (by kernel_rfl)
      have hx4 : xv 4 = Value.agg #[.int .i64 k', .string x', .string y', .slice A' n' C'] := hd 4 (by kernel_rfl)
      clear hd
      simp only [Act.put, List.setIfInBounds_toArray, List.set_cons_succ, List.set_cons_zero] at hK
      rw [hx2] at hK ⊢
      rw [hx3] at hK ⊢
      rw [hx4] at hK ⊢
      refine (if_pos (by rfl)).mpr ?_
      go_simp
      go_at_call 8
      refine (same_any c.size k x y A n C c k' x' y' A' n' C' c' W (Nat.le_refl _) HZ.out (HF.out W hW) (HF'.out W hW)).mono ?_
      rintro e w' ⟨rfl, hb⟩
      exact hK.out _ _ hb rfl
    case s6 =>
      have hx2 : xv 2 = Value.bool false := hd 2 (by kernel_rfl)
      clear hd
      simp only [Act.put, List.setIfInBounds_toArray, List.set_cons_succ, List.set_cons_zero] at hK
      rw [hx2] at hK ⊢
      refine (if_pos (by rfl)).mpr ?_
      obtain ⟨hq0, hq1, hq2, hq3⟩ := ((H5.out.later hW (by omega)).a).cells
      go_simp
      exact hK.out _ _ (Below.refl _ _) rfl
    case s7 =>
      have hx2 : xv 2 = Value.bool false := hd 2 (by kernel_rfl)
      clear hd
      simp only [Act.put, List.setIfInBounds_toArray, List.set_cons_succ, List.set_cons_zero] at hK
      rw [hx2] at hK ⊢
      refine (if_pos (by rfl)).mpr ?_
      obtain ⟨hq0, hq1, hq2, hq3⟩ := ((H5.out.later hW (by omega)).b).cells
      go_simp
      exact hK.out _ _ (Below.refl _ _) rfl
    case s8 =>
      have hx2 : xv 2 = Value.bool false := hd 2 (by kernel_rfl)
      have hx6 : xv 6 = Value.agg #[.int .i64 k, .string x, .string y, .slice A n C] := hd 6 (by kernel_rfl)
      have hx7 : xv 7 = Value.agg #[.int .i64 k', .string x', .string y', .slice A' n' C'] := hd 7 (by kernel_rfl)
      clear hd
      simp only [Act.put, List.setIfInBounds_toArray, List.set_cons_succ, List.set_cons_zero] at hK
      rw [hx2] at hK ⊢
      rw [hx6] at hK ⊢
      rw [hx7] at hK ⊢
      refine (if_pos (by rfl)).mpr ?_
      go_simp
      go_at_call 9
      refine (rsame_any c.size k x y A n C c k' x' y' A' n' C' c' W (Nat.le_refl _) HZ.out (HF.out W hW) (HF'.out W hW)).mono ?_
      rintro e w' ⟨rfl, hb⟩
      exact hK.out _ _ hb rfl
    case s9 =>
      have hx2 : xv 2 = Value.bool false := hd 2 (by kernel_rfl)
      have hx5 : xv 5 = Value.bool (sameT k x y c k' x' y' c') := hd 5 (by kernel_rfl)
      have hx8 : xv 8 = Value.bool (sameT k x y c k' x' y' c') := hd 8 (by kernel_rfl)
      clear hd
      simp only [Act.put, List.setIfInBounds_toArray, List.set_cons_succ, List.set_cons_zero] at hK
      rw [hx2] at hK ⊢
      rw [hx5] at hK ⊢
      rw [hx8] at hK ⊢
      refine (if_pos (by rfl)).mpr ?_
      have hne : (sameT k x y c k' x' y' c' != sameT k x y c k' x' y' c') = false := by simp
      go_simp
      exact hK.out _ _ (Below.refl _ _) rfl
    case s10 =>
      have hx2 : xv 2 = Value.bool false := hd 2 (by kernel_rfl)
      have hx9 : xv 9 = Value.bool false := hd 9 (by kernel_rfl)
      clear hd
      simp only [Act.put, List.setIfInBounds_toArray, List.set_cons_succ, List.set_cons_zero] at hK
      rw [hx2] at hK ⊢
      rw [hx9] at hK ⊢
      refine (if_pos (by rfl)).mpr ?_
      go_simp
      exact hK.out _ _ (Below.refl _ _) rfl
    case s11 =>
      have hx10 : xv 10 = Value.bool false := hd 10 (by kernel_rfl)
      clear hd
      simp only [Act.put, List.setIfInBounds_toArray, List.set_cons_succ, List.set_cons_zero] at hK
      rw [hx10] at hK ⊢
      refine (if_pos (by rfl)).mpr ?_
      go_simp
      exact hK.out _ _ (Below.refl _ _) rfl
    case s12 =>
      have hx11 : xv 11 = Value.bool false := hd 11 (by kernel_rfl)
      clear hd
      simp only [Act.put, List.setIfInBounds_toArray, List.set_cons_succ, List.set_cons_zero] at hK
      rw [hx11] at hK ⊢
      refine (if_pos (by rfl)).mpr ?_
      obtain ⟨hq0, hq1, hq2, hq3⟩ := ((H5.out.later hW (by omega)).a).cells
      go_simp
      exact hK.out _ _ (Below.refl _ _) rfl
    case s13 =>
      have hx11 : xv 11 = Value.bool false := hd 11 (by kernel_rfl)
      have hx12 : xv 12 = Value.agg #[.int .i64 k, .string x, .string y, .slice A n C] := hd 12 (by kernel_rfl)
      clear hd
      simp only [Act.put, List.setIfInBounds_toArray, List.set_cons_succ, List.set_cons_zero] at hK
      rw [hx11] at hK ⊢
      rw [hx12] at hK ⊢
      refine (if_pos (by rfl)).mpr ?_
      go_simp
      go_at_call 10
      refine (size_is W k x y A n C c HZ.out (HF.out W hW)).mono ?_
      rintro e w' ⟨rfl, hb⟩
      exact hK.out _ _ hb rfl
    case s14 =>
      have hx11 : xv 11 = Value.bool false := hd 11 (by kernel_rfl)
      clear hd
      simp only [Act.put, List.setIfInBounds_toArray, List.set_cons_succ, List.set_cons_zero] at hK
      rw [hx11] at hK ⊢
      refine (if_pos (by rfl)).mpr ?_
      obtain ⟨hq0, hq1, hq2, hq3⟩ := ((H5.out.later hW (by omega)).a).cells
      go_simp
      exact hK.out _ _ (Below.refl _ _) rfl
    case s15 =>
      have hx11 : xv 11 = Value.bool false := hd 11 (by kernel_rfl)
      have hx14 : xv 14 = Value.agg #[.int .i64 k, .string x, .string y, .slice A n C] := hd 14 (by kernel_rfl)
      clear hd
      simp only [Act.put, List.setIfInBounds_toArray, List.set_cons_succ, List.set_cons_zero] at hK
      rw [hx11] at hK ⊢
      rw [hx14] at hK ⊢
      refine (if_pos (by rfl)).mpr ?_
      go_simp
      go_at_call 11
      refine (refSize_is W k x y A n C c HZ2.out (HF.out W hW)).mono ?_
      rintro e w' ⟨rfl, hb⟩
      exact hK.out _ _ hb rfl
    case s16 =>
      have hx11 : xv 11 = Value.bool false := hd 11 (by kernel_rfl)
      have hx13 : xv 13 = Value.int .i64 ((c.size + 1 : Nat) : Int) := hd 13 (by kernel_rfl)
      have hx15 : xv 15 = Value.int .i64 ((c.size + 1 : Nat) : Int) := hd 15 (by kernel_rfl)
      clear hd
      simp only [Act.put, List.setIfInBounds_toArray, List.set_cons_succ, List.set_cons_zero] at hK
      rw [hx11] at hK ⊢
      rw [hx13] at hK ⊢
      rw [hx15] at hK ⊢
      refine (if_pos (by rfl)).mpr ?_
      have hne : (((c.size + 1 : Nat) : Int) != ((c.size + 1 : Nat) : Int)) = false := by simp
      generalize ((c.size + 1 : Nat) : Int) = z at *
      go_simp
      exact hK.out _ _ (Below.refl _ _) rfl
    case s17 =>
      have hx11 : xv 11 = Value.bool false := hd 11 (by kernel_rfl)
      have hx16 : xv 16 = Value.bool false := hd 16 (by kernel_rfl)
      clear hd
      simp only [Act.put, List.setIfInBounds_toArray, List.set_cons_succ, List.set_cons_zero] at hK
      rw [hx11] at hK ⊢
      rw [hx16] at hK ⊢
      refine (if_pos (by rfl)).mpr ?_
      go_simp
      exact hK.out _ _ (Below.refl _ _) rfl
    case s18 =>
      have hx17 : xv 17 = Value.bool false := hd 17 (by kernel_rfl)
      clear hd
      simp only [Act.put, List.setIfInBounds_toArray, List.set_cons_succ, List.set_cons_zero] at hK
      rw [hx17] at hK ⊢
      refine (if_pos (by rfl)).mpr ?_
      go_simp
      exact hK.out _ _ (Below.refl _ _) rfl
    case s19 =>
      have hx18 : xv 18 = Value.bool false := hd 18 (by kernel_rfl)
      clear hd
      simp only [Act.put, List.setIfInBounds_toArray, List.set_cons_succ, List.set_cons_zero] at hK
      rw [hx18] at hK ⊢
      refine (if_pos (by rfl)).mpr ?_
      obtain ⟨hq0, hq1, hq2, hq3⟩ := ((H5.out.later hW (by omega)).a).cells
      go_simp
      exact hK.out _ _ (Below.refl _ _) rfl
    case s20 =>
      have hx18 : xv 18 = Value.bool false := hd 18 (by kernel_rfl)
      clear hd
      simp only [Act.put, List.setIfInBounds_toArray, List.set_cons_succ, List.set_cons_zero] at hK
      rw [hx18] at hK ⊢
      refine (if_pos (by rfl)).mpr ?_
      obtain ⟨hq0, hq1, hq2, hq3⟩ := (HCB.out.below hW HCB.out.lt).cells
      go_simp
      exact hK.out _ _ (Below.refl _ _) rfl
    case s21 =>
      have hx18 : xv 18 = Value.bool false := hd 18 (by kernel_rfl)
      have hx19 : xv 19 = Value.agg #[.int .i64 k, .string x, .string y, .slice A n C] := hd 19 (by kernel_rfl)
      have hx20 : xv 20 = Value.agg #[.int .i64 k, .string x, .string y, .slice Ac nc Cc] := hd 20 (by kernel_rfl)
      clear hd
      simp only [Act.put, List.setIfInBounds_toArray, List.set_cons_succ, List.set_cons_zero] at hK
      rw [hx18] at hK ⊢
      rw [hx19] at hK ⊢
      rw [hx20] at hK ⊢
      refine (if_pos (by rfl)).mpr ?_
      go_simp
      go_at_call 9
      refine ((sameT_refl k x y c ▸ rsame_any c.size k x y A n C c k x y Ac nc Cc c W (Nat.le_refl _) HZ.out (HF.out W hW) (HFC.out W hW) : Calls _ _ _ _ _)).mono ?_
      rintro e w' ⟨rfl, hb⟩
      exact hK.out _ _ hb rfl
    case s22 =>
      have hx18 : xv 18 = Value.bool false := hd 18 (by kernel_rfl)
      have hx21 : xv 21 = Value.bool true := hd 21 (by kernel_rfl)
      clear hd
      simp only [Act.put, List.setIfInBounds_toArray, List.set_cons_succ, List.set_cons_zero] at hK
      rw [hx18] at hK ⊢
      rw [hx21] at hK ⊢
      refine (if_pos (by rfl)).mpr ?_
      go_simp
      exact hK.out _ _ (Below.refl _ _) rfl
    case s23 =>
      have hx18 : xv 18 = Value.bool false := hd 18 (by kernel_rfl)
      have hx22 : xv 22 = Value.bool false := hd 22 (by kernel_rfl)
      clear hd
      simp only [Act.put, List.setIfInBounds_toArray, List.set_cons_succ, List.set_cons_zero] at hK
      rw [hx18] at hK ⊢
      rw [hx22] at hK ⊢
      refine (if_pos (by rfl)).mpr ?_
      go_simp
      exact hK.out _ _ (Below.refl _ _) rfl
    case s24 =>
      have hx23 : xv 23 = Value.bool false := hd 23 (by kernel_rfl)
      clear hd
      simp only [Act.put, List.setIfInBounds_toArray, List.set_cons_succ, List.set_cons_zero] at hK
      rw [hx23] at hK ⊢
      refine (if_pos (by rfl)).mpr ?_
      go_simp
      exact hK.out _ _ (Below.refl _ _) rfl
    case s25 =>
      have hx24 : xv 24 = Value.bool false := hd 24 (by kernel_rfl)
      clear hd
      simp only [Act.put, List.setIfInBounds_toArray, List.set_cons_succ, List.set_cons_zero] at hK
      rw [hx24] at hK ⊢
      refine (if_pos (by rfl)).mpr ?_
      obtain ⟨hq0, hq1, hq2, hq3⟩ := ((H5.out.later hW (by omega)).a).cells
      go_simp
      exact hK.out _ _ (Below.refl _ _) rfl
    case s26 =>
      have hx24 : xv 24 = Value.bool false := hd 24 (by kernel_rfl)
      clear hd
      simp only [Act.put, List.setIfInBounds_toArray, List.set_cons_succ, List.set_cons_zero] at hK
      rw [hx24] at hK ⊢
      refine (if_pos (by rfl)).mpr ?_
      obtain ⟨hq0, hq1, hq2, hq3⟩ := (HCB.out.below hW HCB.out.lt).cells
      go_simp
      exact hK.out _ _ (Below.refl _ _) rfl
    case s27 =>
      have hx24 : xv 24 = Value.bool false := hd 24 (by kernel_rfl)
      have hx25 : xv 25 = Value.agg #[.int .i64 k, .string x, .string y, .slice A n C] := hd 25 (by kernel_rfl)
      have hx26 : xv 26 = Value.agg #[.int .i64 k, .string x, .string y, .slice Ac nc Cc] := hd 26 (by kernel_rfl)
      clear hd
      simp only [Act.put, List.setIfInBounds_toArray, List.set_cons_succ, List.set_cons_zero] at hK
      rw [hx24] at hK ⊢
      rw [hx25] at hK ⊢
      rw [hx26] at hK ⊢
      refine (if_pos (by rfl)).mpr ?_
      go_simp
      go_at_call 8
      refine ((sameT_refl k x y c ▸ same_any c.size k x y A n C c k x y Ac nc Cc c W (Nat.le_refl _) HZ.out (HF.out W hW) (HFC.out W hW) : Calls _ _ _ _ _)).mono ?_
      rintro e w' ⟨rfl, hb⟩
      exact hK.out _ _ hb rfl
    case s28 =>
      have hx24 : xv 24 = Value.bool false := hd 24 (by kernel_rfl)
      have hx27 : xv 27 = Value.bool true := hd 27 (by kernel_rfl)
      clear hd
      simp only [Act.put, List.setIfInBounds_toArray, List.set_cons_succ, List.set_cons_zero] at hK
      rw [hx24] at hK ⊢
      rw [hx27] at hK ⊢
      refine (if_pos (by rfl)).mpr ?_
      go_simp
      exact hK.out _ _ (Below.refl _ _) rfl
    case s29 =>
      have hx24 : xv 24 = Value.bool false := hd 24 (by kernel_rfl)
      have hx28 : xv 28 = Value.bool false := hd 28 (by kernel_rfl)
      clear hd
      simp only [Act.put, List.setIfInBounds_toArray, List.set_cons_succ, List.set_cons_zero] at hK
      rw [hx24] at hK ⊢
      rw [hx28] at hK ⊢
      refine (if_pos (by rfl)).mpr ?_
      go_simp
      exact hK.out _ _ (Below.refl _ _) rfl
  case behind =>
    intro xv W hW hx a ha
    replace hW := undrew hW
    simp only [fillA] at ha
    simp only [List.setIfInBounds_toArray, List.set_cons_succ, List.set_cons_zero, Nat.zero_add, Nat.reduceAdd] at ha
    subst ha
    have h29 : xv 29 = Value.bool false := hx 29 (by decide)
    rw [h29]
    have H6 := Lib.hid (H5.out.later hW (by omega))
    have HCB6 := Lib.hid (HCB.out.below hW HCB.out.lt)
    have HFC6 := Lib.hid (HFC5.out.belowM hW (show gc ≤ w5.heap.size by omega))
    have hs6 := hW.size
    have HTF6 := Lib.hid (HTF5.out.below hW)
    clear hx h29 hW H5 HCB HFC HFC5 HF HF' HTF5
    obtain ⟨p0, p1, p2, p3⟩ := H6.out.a.cells
    have HN := Lib.hid (nodes_any c.size k x y A n C c 2001 W.heap.size W (Nat.le_refl _) (HF0.out W H6.out.bel) (Nat.le_refl _) (by omega) (by omega))
    gi_wp2
    refine ⟨trivial, (callsIn_wide.2 HN.out).mono ?_⟩
    rintro e w7 ⟨⟨v7, rfl, ho7⟩, hb7⟩
    obtain ⟨L, hL⟩ : ∃ L, (⟨k, x, y, c⟩ :: nodes c : List Nd) = L := ⟨_, rfl⟩
    obtain ⟨m, hm⟩ : ∃ m, c.size + 1 = m := ⟨_, rfl⟩
    have hLm : L.length = m := by rw [← hL, List.length_cons, nodes_len, hm]
    rw [hL, List.take_of_length_le (by rw [hLm, ← hm]; have := HZ2.out; omega)] at ho7
    obtain ⟨a7, c7, rfl, hc7, hc7'⟩ := ho7.slice
    obtain ⟨b7, _, rfl, hb7a, hb7b, _⟩ := ho7.at_ (i := 0) (nd := ⟨k, x, y, c⟩) (by rw [← hL]; rfl)
    rw [hLm] at ho7 hc7 ⊢
    have h7 := H6.out.below hb7
    have hs7 := hb7.size
    have HO7 := Lib.hid ho7
    have HLm := Lib.hid hLm
    have HL := Lib.hid hL
    have Hm := Lib.hid hm
    have Hm2 : Hid (m ≤ 2000) := by show _ ≤ _; have := HZ2.out; omega
    have HB7 := Lib.hid hb7
    have b8 := below1 w7 (.cells #[.slice (some ⟨b7, 0, none⟩) m c7] 22)
    have hx8 : (w7.alloc (.cells #[.slice (some ⟨b7, 0, none⟩) m c7] 22)).heap[w7.heap.size]? = some (.cells #[.slice (some ⟨b7, 0, none⟩) m c7] 22 (0, 0)) := heap_alloc_new _ _
    have hz8 : (w7.alloc (.cells #[.slice (some ⟨b7, 0, none⟩) m c7] 22)).heap.size = w7.heap.size + 1 := World.size_alloc _ _
    obtain ⟨W8, hW8⟩ : ∃ W8, w7.alloc (.cells #[.slice (some ⟨b7, 0, none⟩) m c7] 22) = W8 := ⟨_, rfl⟩
    clear p0 p1 p2 p3
    have b9 := below1 W8 (.cells #[.int .i64 0] 3)
    have hx9 : (W8.alloc (.cells #[.int .i64 0] 3)).heap[W8.heap.size]? = some (.cells #[.int .i64 ((0 : Nat) : Int)] 3 (0, 0)) := heap_alloc_new _ _
    rw [hW8] at b8 hx8 hz8
    have H8 := Lib.hid (h7.below b8)
    have HAl := Lib.hid (all_any k x y A n C c (W8.alloc (.cells #[.int .i64 0] 3)) HZ.out (HF0.out _ ((H8.out.below b9).bel)))
    obtain ⟨p0, p1, p2, p3⟩ := (H8.out.below b9).a.cells
    have HB8 := Lib.hid b8
    have HX8 := Lib.hid hx8
    have hc9 : Cnt W8.heap.size 0 W8 (W8.alloc (.cells #[.int .i64 0] 3)) := ⟨hx9, b9⟩
    have HC9 := Lib.hid hc9
    have hz9 : (W8.alloc (.cells #[.int .i64 0] 3)).heap.size = W8.heap.size + 1 := World.size_alloc _ _
    clear ho7 hb7 hLm h7 b8 b9 hx8 hx9 hc9 HN hL hm
    subst hW8
    gi_wp2
    refine ⟨trivial, (callsIn_wide.2 HAl.out).mono ?_⟩
    rintro e w10 ⟨hb10, g10, A10, n10, C10, rfl, hg10, hbx10, hfs10⟩
    clear p0 p1 p2 p3 HAl
    obtain ⟨W8, hW8⟩ : ∃ W8, w7.alloc (.cells #[.slice (some ⟨b7, 0, none⟩) m c7] 22) = W8 := ⟨_, rfl⟩
    rw [hW8] at H8 HB8 HX8 HC9 hz8 hz9 hb10 hg10 hfs10
    clear hW8
    obtain ⟨N, hN⟩ : ∃ N, w7.heap.size + 1 = N := ⟨_, rfl⟩
    rw [hN] at hz8 ⊢
    rw [hz8] at HC9 hz9
    have hs10 : N + 1 ≤ w10.heap.size := by rw [← hz9]; exact hb10.size
    have HI0 : Hid (Cnt N 0 W8 w10) := HC9.out.later hb10
    have hNN : w.heap.size + 4 ≤ N := by omega
    gi_wp2
    refine range_told (n := 5) (by omega) (gf := 27) (lb := #[.pointer (some ⟨g10, 0, none⟩)]) rfl (enters_of Tryd.func27 (by kernel_rfl) rfl)
      (all_stops 4 (by omega) g10 k x y A10 n10 C10 c HZ.out w10 hbx10 (hfs10.more fun b hb => hb.2)) (fun h k => h.trans k) (fun W l o o' => KpC.put W l o o') (fun _ => rfl)
      (fun pre W => Cnt N pre.length W8 W ∧ (stop < 1 ∨ (pre.length : Int) < stop))
      (fun c pre W => c = .exit 0 ∧ Cnt N pre.length W8 W ∧ (pre.length : Int) = stop ∧ 1 ≤ stop ∧ pre.length ≤ m)
      (fun W => ∃ k : Nat, Cnt N k W8 W ∧ (1 ≤ stop → stop ≤ (m : Int) → (k : Int) = stop) ∧ ((stop < 1 ∨ (m : Int) < stop) → k = m))
      (fun s X Y row hs hg hr => ⟨hs.1.own (by omega) hg hr, hs.2⟩)
      (fun c s X Y row hs hg hr => ⟨hs.1, hs.2.1.own (by omega) hg hr, hs.2.2⟩)
      ⟨HI0.out, by simp only [List.length_nil]; omega⟩
      (InBody w10.heap.size (⟨k, x, y, c⟩ :: nodes c)) (fun x b => inBody_own _ _ x b)
      (fun ys W hS hi => by
        have hl := congrArg List.length hS
        rw [List.length_map, List.length_range, Hm.out] at hl
        rw [hl] at hi
        exact ⟨m, hi.1, fun h1 h2 => by have := hi.2; omega, fun _ => rfl⟩)
      (fun c pre W hS hi => by
        obtain ⟨rfl, h2, h3, h4, h5⟩ := hi
        exact ⟨⟨pre.length, h2, fun _ _ => h3, fun h => by omega⟩, fun a' h => wpIn_exit h⟩)
      ?round ?rest
    case round =>
      rintro ⟨i, kk, xx, yy, sa, sn, sC⟩ b
      dsimp only [encT]
      apply Exists.intro
      refine ⟨?_, ?_⟩
      · intro l pre W K hWb hi hR hsp hlt hK
        have b11 := below1 W (.cells #[.int .i64 kk, .string xx, .string yy, .slice sa sn sC] 24)
        have hbn := boxed_new W kk xx yy (.slice sa sn sC)
        have HK := hK _ (KeepsFrom.of_grownBy (grown_below b11 none) (fun j e => by cases e)) (KpC.below b11) ⟨hi.1.later b11, hi.2⟩ (by
          obtain ⟨nd, q1, q2, q3, q4, q5⟩ := hR
          exact ⟨⟨nd, q1, q2, q3, q4, (KpC.below b11).fs q5⟩, hWb ▸ hbn⟩)
        have HK := Lib.hid HK
        clear hK hi hR hsp hlt b11 hbn
        gi_wp2
        exact HK.out
      · intro l pre W0 hi hIB hsp hlt
        obtain ⟨hcn, hlt2⟩ := hi
        have hpl : pre.length = i := place_is hsp
        have hpl1 : Hid ((pre ++ [(⟨i, kk, xx, yy, sa, sn, sC⟩ : Told)]).length = i + 1) := by
          show _ = _
          rw [List.length_append, hpl, List.length_singleton]
        rw [hpl] at hcn hlt2 hlt
        obtain ⟨⟨nd, q1, q2, q3, q4, q5⟩, hbx⟩ := hIB
        obtain ⟨nk, nx, ny, cc⟩ := nd
        dsimp only at q2 q3 q4 q5 hbx q1
        subst q2 q3 q4
        rw [HL.out] at q1
        have hcz : cc.size ≤ 100000 := by
          have hm := nodes_small (⟨nk, nx, ny, cc⟩ : Nd) (List.mem_of_getElem? (HL.out ▸ q1))
          have := HZ.out
          dsimp only at hm
          omega
        obtain ⟨g7, s7, e7, _, _, r0, r1, r2, r3, hfr⟩ := HO7.out.at_ q1
        have e7 := Option.some.inj e7
        injection e7 with e7
        subst e7
        obtain ⟨ra, rC, rfl, _, _⟩ := hfr.slice
        have him : i < m := by rw [← HLm.out]; exact (List.getElem?_eq_some_iff.1 q1).1
        have HCN := Lib.hid hcn
        have HBX := Lib.hid hbx
        have HCZ := Lib.hid hcz
        have HFX : Hid (∀ W, Below W0.heap.size W0 W → Fs W (Lo W.heap.size) (.slice sa sn sC) cc) := fun W hW => q5.cel_lo.later hW
        have hb7W : ∀ W, Below W0.heap.size W0 W → Below w7.heap.size w7 W := fun W hW => HB8.out.trans (((hcn.below).trans (hW.mono (Nat.le_of_lt (lt_of_block hcn.box)))).mono (by omega))
        have HFR : Hid (∀ W, Below W0.heap.size W0 W → Fs W (Lo W.heap.size) (.slice ra cc.len rC) cc) := fun W hW => (hfr.below (hb7W W hW) hs7).up (Nat.le_trans hs7 (hb7W W hW).size)
        have HQ8 : Hid (∀ W, Below W0.heap.size W0 W → W.cell? ⟨w7.heap.size, 0, none⟩ = some (.slice (some ⟨b7, 0, none⟩) m c7)) := fun W hW => by
          have : W.heap[w7.heap.size]? = _ := (((hcn.below).trans (hW.mono (Nat.le_of_lt (lt_of_block hcn.box)))).block w7.heap.size (by omega)).trans HX8.out
          simp [World.cell?, this]
        have HROW : Hid (∀ W, Below W0.heap.size W0 W → W.cell? ⟨b7, i * 4, none⟩ = some (.int .i64 nk) ∧ W.cell? ⟨b7, i * 4 + 1, none⟩ = some (.string nx) ∧ W.cell? ⟨b7, i * 4 + 2, none⟩ = some (.string ny) ∧ W.cell? ⟨b7, i * 4 + 3, none⟩ = some (.slice ra cc.len rC)) := fun W hW =>
          ⟨((hb7W W hW).cell (p := ⟨b7, i * 4, none⟩) hb7b).trans r0, ((hb7W W hW).cell (p := ⟨b7, i * 4 + 1, none⟩) hb7b).trans r1, ((hb7W W hW).cell (p := ⟨b7, i * 4 + 2, none⟩) hb7b).trans r2, ((hb7W W hW).cell (p := ⟨b7, i * 4 + 3, none⟩) hb7b).trans r3⟩
        generalize cc.len = rn at *
        have him2 : (i : Int) < (m : Int) := by omega
        clear hcn hbx hcz q5 hfr hb7W r0 r1 r2 r3 hpl q1 hsp
        gi_wp2
        refine region_relIn (fun W W' => Below W.heap.size W W') [Cd.is (Value.int .i64 (i : Int)), Cd.is (Value.int .i64 (i : Int)), Cd.is (Value.bool false), Cd.is (Value.bool false), Cd.is (Value.int .i64 (i : Int)), Cd.is (Value.slice (some ⟨b7, 0, none⟩) m c7), Cd.is (Value.int .i64 (m : Int)), Cd.is (Value.bool false), Cd.is (Value.bool false), Cd.is (Value.bool false), Cd.is (Value.agg #[.int .i64 nk, .string nx, .string ny, .slice sa sn sC]), Cd.is (Value.slice (some ⟨b7, 0, none⟩) m c7), Cd.is (Value.int .i64 (i : Int)), Cd.is (Value.pointer (some ⟨b7, i * 4, none⟩)), Cd.is (Value.agg #[.int .i64 nk, .string nx, .string ny, .slice ra rn rC]), Cd.is (Value.bool true), Cd.is (Value.bool false), Cd.is (Value.bool false)] (by kernel_rfl) (by decide) (by kernel_rfl) (by kernel_rfl) (fun ⟨_, _, h⟩ => h) (Below.refl _ _) (fun _ _ _ h k => h.trans (k.mono h.size)) ?steps ?behind
        case steps =>
          intro xv W hW a ha
          replace hW := undrew hW
          simp only [fillA] at ha
          simp only [List.setIfInBounds_toArray, List.set_cons_succ, List.set_cons_zero, Nat.zero_add, Nat.reduceAdd] at ha
          subst ha
          refine ⟨fun hd K hK => ?s0, fun hd K hK => ?s1, fun hd K hK => ?s2, fun hd K hK => ?s3, fun hd K hK => ?s4, fun hd K hK => ?s5, fun hd K hK => ?s6, fun hd K hK => ?s7, fun hd K hK => ?s8, fun hd K hK => ?s9, fun hd K hK => ?s10, fun hd K hK => ?s11, fun hd K hK => ?s12, fun hd K hK => ?s13, fun hd K hK => ?s14, fun hd K hK => ?s15, fun hd K hK => ?s16, fun hd K hK => ?s17, trivial⟩
          case s0 =>
            clear hd
            simp only [Act.put, List.setIfInBounds_toArray, List.set_cons_succ, List.set_cons_zero] at hK
            refine (if_pos (by rfl)).mpr ?_
            go_simp
            exact hK.out _ _ (Below.refl _ _) rfl
          case s1 =>
            clear hd
            simp only [Act.put, List.setIfInBounds_toArray, List.set_cons_succ, List.set_cons_zero] at hK
            refine (if_pos (by rfl)).mpr ?_
            have hq9 := (HCN.out.later hW).cell
            go_simp
            exact hK.out _ _ (Below.refl _ _) rfl
          case s2 =>
            have hx0 : xv 0 = Value.int .i64 (i : Int) := hd 0 (by kernel_rfl)
            have hx1 : xv 1 = Value.int .i64 (i : Int) := hd 1 (by kernel_rfl)
            clear hd
            simp only [Act.put, List.setIfInBounds_toArray, List.set_cons_succ, List.set_cons_zero] at hK
            rw [hx0] at hK ⊢
            rw [hx1] at hK ⊢
            refine (if_pos (by rfl)).mpr ?_
            have hne : ((i : Int) != (i : Int)) = false := by simp
            go_simp
            exact hK.out _ _ (Below.refl _ _) rfl
          case s3 =>
            have hx2 : xv 2 = Value.bool false := hd 2 (by kernel_rfl)
            clear hd
            simp only [Act.put, List.setIfInBounds_toArray, List.set_cons_succ, List.set_cons_zero] at hK
            rw [hx2] at hK ⊢
            refine (if_pos (by rfl)).mpr ?_
            go_simp
            exact hK.out _ _ (Below.refl _ _) rfl
          case s4 =>
            have hx3 : xv 3 = Value.bool false := hd 3 (by kernel_rfl)
            clear hd
            simp only [Act.put, List.setIfInBounds_toArray, List.set_cons_succ, List.set_cons_zero] at hK
            rw [hx3] at hK ⊢
            refine (if_pos (by rfl)).mpr ?_
            go_simp
            exact hK.out _ _ (Below.refl _ _) rfl
          case s5 =>
            have hx3 : xv 3 = Value.bool false := hd 3 (by kernel_rfl)
            clear hd
            simp only [Act.put, List.setIfInBounds_toArray, List.set_cons_succ, List.set_cons_zero] at hK
            rw [hx3] at hK ⊢
            refine (if_pos (by rfl)).mpr ?_
            have hq8 := HQ8.out W hW
            go_simp
            exact hK.out _ _ (Below.refl _ _) rfl
          case s6 =>
            have hx3 : xv 3 = Value.bool false := hd 3 (by kernel_rfl)
            have hx5 : xv 5 = Value.slice (some ⟨b7, 0, none⟩) m c7 := hd 5 (by kernel_rfl)
            clear hd
            simp only [Act.put, List.setIfInBounds_toArray, List.set_cons_succ, List.set_cons_zero] at hK
            rw [hx3] at hK ⊢
            rw [hx5] at hK ⊢
            refine (if_pos (by rfl)).mpr ?_
            go_simp
            exact hK.out _ _ (Below.refl _ _) rfl
          case s7 =>
            have hx3 : xv 3 = Value.bool false := hd 3 (by kernel_rfl)
            have hx4 : xv 4 = Value.int .i64 (i : Int) := hd 4 (by kernel_rfl)
            have hx6 : xv 6 = Value.int .i64 (m : Int) := hd 6 (by kernel_rfl)
            clear hd
            simp only [Act.put, List.setIfInBounds_toArray, List.set_cons_succ, List.set_cons_zero] at hK
            rw [hx3] at hK ⊢
            rw [hx4] at hK ⊢
            rw [hx6] at hK ⊢
            refine (if_pos (by rfl)).mpr ?_
            have hge : ¬ (m : Int) ≤ (i : Int) := by omega
            go_simp
            exact hK.out _ _ (Below.refl _ _) rfl
          case s8 =>
            have hx3 : xv 3 = Value.bool false := hd 3 (by kernel_rfl)
            have hx7 : xv 7 = Value.bool false := hd 7 (by kernel_rfl)
            clear hd
            simp only [Act.put, List.setIfInBounds_toArray, List.set_cons_succ, List.set_cons_zero] at hK
            rw [hx3] at hK ⊢
            rw [hx7] at hK ⊢
            refine (if_pos (by rfl)).mpr ?_
            go_simp
            exact hK.out _ _ (Below.refl _ _) rfl
          case s9 =>
            have hx8 : xv 8 = Value.bool false := hd 8 (by kernel_rfl)
            clear hd
            simp only [Act.put, List.setIfInBounds_toArray, List.set_cons_succ, List.set_cons_zero] at hK
            rw [hx8] at hK ⊢
            refine (if_pos (by rfl)).mpr ?_
            go_simp
            exact hK.out _ _ (Below.refl _ _) rfl
          case s10 =>
            have hx9 : xv 9 = Value.bool false := hd 9 (by kernel_rfl)
            clear hd
            simp only [Act.put, List.setIfInBounds_toArray, List.set_cons_succ, List.set_cons_zero] at hK
            rw [hx9] at hK ⊢
            refine (if_pos (by rfl)).mpr ?_
            obtain ⟨hq0, hq1, hq2, hq3⟩ := (HBX.out.below hW HBX.out.lt).cells
            go_simp
            exact hK.out _ _ (Below.refl _ _) rfl
          case s11 =>
            have hx9 : xv 9 = Value.bool false := hd 9 (by kernel_rfl)
            clear hd
            simp only [Act.put, List.setIfInBounds_toArray, List.set_cons_succ, List.set_cons_zero] at hK
            rw [hx9] at hK ⊢
            refine (if_pos (by rfl)).mpr ?_
            have hq8 := HQ8.out W hW
            go_simp
            exact hK.out _ _ (Below.refl _ _) rfl
          case s12 =>
            have hx9 : xv 9 = Value.bool false := hd 9 (by kernel_rfl)
            clear hd
            simp only [Act.put, List.setIfInBounds_toArray, List.set_cons_succ, List.set_cons_zero] at hK
            rw [hx9] at hK ⊢
            refine (if_pos (by rfl)).mpr ?_
            go_simp
            exact hK.out _ _ (Below.refl _ _) rfl
          case s13 =>
            have hx9 : xv 9 = Value.bool false := hd 9 (by kernel_rfl)
            have hx11 : xv 11 = Value.slice (some ⟨b7, 0, none⟩) m c7 := hd 11 (by kernel_rfl)
            have hx12 : xv 12 = Value.int .i64 (i : Int) := hd 12 (by kernel_rfl)
            clear hd
            simp only [Act.put, List.setIfInBounds_toArray, List.set_cons_succ, List.set_cons_zero] at hK
            rw [hx9] at hK ⊢
            rw [hx11] at hK ⊢
            rw [hx12] at hK ⊢
            refine (if_pos (by rfl)).mpr ?_
            have hi0 : (0 : Int) ≤ (i : Int) := by omega
            have him3 : (i : Int) < (m : Int) := by omega
            go_simp
            exact hK.out _ _ (Below.refl _ _) rfl
          case s14 =>
            have hx9 : xv 9 = Value.bool false := hd 9 (by kernel_rfl)
            have hx13 : xv 13 = Value.pointer (some ⟨b7, i * 4, none⟩) := hd 13 (by kernel_rfl)
            clear hd
            simp only [Act.put, List.setIfInBounds_toArray, List.set_cons_succ, List.set_cons_zero] at hK
            rw [hx9] at hK ⊢
            rw [hx13] at hK ⊢
            refine (if_pos (by rfl)).mpr ?_
            obtain ⟨hq0, hq1, hq2, hq3⟩ := HROW.out W hW
            go_simp
            exact hK.out _ _ (Below.refl _ _) rfl
          case s15 =>
            have hx9 : xv 9 = Value.bool false := hd 9 (by kernel_rfl)
            have hx10 : xv 10 = Value.agg #[.int .i64 nk, .string nx, .string ny, .slice sa sn sC] := hd 10 (by kernel_rfl)
            have hx14 : xv 14 = Value.agg #[.int .i64 nk, .string nx, .string ny, .slice ra rn rC] := hd 14 (by kernel_rfl)
            clear hd
            simp only [Act.put, List.setIfInBounds_toArray, List.set_cons_succ, List.set_cons_zero] at hK
            rw [hx9] at hK ⊢
            rw [hx10] at hK ⊢
            rw [hx14] at hK ⊢
            refine (if_pos (by rfl)).mpr ?_
            go_simp
            go_at_call 9
            refine (sameT_refl nk nx ny cc ▸ rsame_any cc.size nk nx ny sa sn sC cc nk nx ny ra rn rC cc W (Nat.le_refl _) HCZ.out (HFX.out W hW) (HFR.out W hW) : Calls _ _ _ _ _).mono ?_
            rintro e w' ⟨rfl, hb⟩
            exact hK.out _ _ hb rfl
          case s16 =>
            have hx9 : xv 9 = Value.bool false := hd 9 (by kernel_rfl)
            have hx15 : xv 15 = Value.bool true := hd 15 (by kernel_rfl)
            clear hd
            simp only [Act.put, List.setIfInBounds_toArray, List.set_cons_succ, List.set_cons_zero] at hK
            rw [hx9] at hK ⊢
            rw [hx15] at hK ⊢
            refine (if_pos (by rfl)).mpr ?_
            go_simp
            exact hK.out _ _ (Below.refl _ _) rfl
          case s17 =>
            have hx9 : xv 9 = Value.bool false := hd 9 (by kernel_rfl)
            have hx16 : xv 16 = Value.bool false := hd 16 (by kernel_rfl)
            clear hd
            simp only [Act.put, List.setIfInBounds_toArray, List.set_cons_succ, List.set_cons_zero] at hK
            rw [hx9] at hK ⊢
            rw [hx16] at hK ⊢
            refine (if_pos (by rfl)).mpr ?_
            go_simp
            exact hK.out _ _ (Below.refl _ _) rfl
        case behind =>
          intro xv W hW hx a ha
          replace hW := undrew hW
          simp only [fillA] at ha
          simp only [List.setIfInBounds_toArray, List.set_cons_succ, List.set_cons_zero, Nat.zero_add, Nat.reduceAdd] at ha
          subst ha
          have h17 : xv 17 = Value.bool false := hx 17 (by decide)
          rw [h17]
          have hcn2 := HCN.out.later hW
          have hq9 := hcn2.cell
          have hf9 := hcn2.frz
          have hq5 := (H8.out.later hcn2.below (by omega)).stopCell
          have hg2 := set_grown W N 0 (.int .i64 ((i : Int) + 1))
          have HKF : Hid (KeepsFrom w10.heap.size W0 (W.setCell ⟨N, 0, none⟩ (.int .i64 ((i : Int) + 1)))) := (KeepsFrom.of_grownBy (grown_below hW none) (fun j e => by cases e)).trans (KeepsFrom.of_grownBy hg2 (fun j e => by injection e with e; omega))
          have HKC : Hid (KpC w10.heap.size W0 (W.setCell ⟨N, 0, none⟩ (.int .i64 ((i : Int) + 1)))) := (KpC.below hW).trans (KpC.low hg2 (fun j e => by injection e with e; omega))
          have HCN2 := Lib.hid hcn2.put
          have e1 := wrap_next i m him Hm2.out
          clear hx h17 hW hcn2 hg2
          by_cases hst : (i : Int) + 1 = stop
          · have hst2 : ((i : Int) + 1 == stop) = true := by rw [beq_iff_eq]; exact hst
            have Hst := Lib.hid hst
            clear hst
            gi_wp2
            exact ⟨HKF.out, rfl, by rw [hpl1.out]; exact HCN2.out, by rw [hpl1.out]; exact next_eq i stop Hst.out, next_pos i stop Hst.out, by rw [hpl1.out]; exact him⟩
          · have hst2 : ((i : Int) + 1 == stop) = false := by rw [beq_eq_false_iff_ne]; exact hst
            have Hst := Lib.hid hst
            clear hst
            gi_wp2
            exact ⟨HKF.out, HKC.out, by rw [hpl1.out]; exact HCN2.out, by rw [hpl1.out]; exact next_on i stop hlt2 Hst.out⟩
    case rest =>
      intro D W0 hD hJ hK
      obtain ⟨cnt, hcn, hk1, hk2⟩ := hJ
      have h9 := H8.out.later hcn.below (by omega)
      have q9 := hcn.cell
      have q5 := h9.stopCell
      have q8 : W0.cell? ⟨w7.heap.size, 0, none⟩ = some (.slice (some ⟨b7, 0, none⟩) m c7) := by
        have : W0.heap[w7.heap.size]? = _ := (hcn.below.block w7.heap.size (by omega)).trans HX8.out
        simp [World.cell?, this]
      have hw8 : Below W.heap.size W W0 := (HB7.out.trans (HB8.out.mono hs7)).trans (hcn.below.mono (by omega))
      have hcb := HCB6.out.below hw8 HCB6.out.lt
      have hfc := HFC6.out.belowM hw8 (show gc ≤ W.heap.size by omega)
      have HCBR := Lib.hid hcb
      have HFCR := Lib.hid hfc
      have HKD := Lib.hid hK
      have hD0 := lt_of_block hK
      have hN0 := Nat.le_of_lt (lt_of_block hcn.box)
      have HBW := Lib.hid hw8
      have H9 := Lib.hid h9
      obtain ⟨z0, z1, z2, z3⟩ := h9.a.cells
      clear hcn h9 hw8 hcb hfc hK
      gi_upto_region 15 with (fail)
      gi_cut [111] from 83 (fun s W' => s = .bool false ∧ W' = W0)
      case first =>
        rcases (by omega : (1 ≤ stop ∧ stop ≤ (m : Int)) ∨ stop < 1 ∨ (1 ≤ stop ∧ (m : Int) < stop)) with ⟨h1, h2⟩ | h1 | ⟨h1, h2⟩
        · have e := hk1 h1 h2
          have e1 : ((cnt : Int) != stop) = false := by rw [e]; simp
          have e2 : ¬ stop < 1 := by omega
          by_cases h3 : stop < (m : Int)
          · have e4 : ¬ (m : Int) ≤ stop := by omega
            clear hk1 hk2 e
            gi_wp2
            gi_meet
            case rel => exact ⟨rfl, rfl⟩
          · have e4 : (m : Int) ≤ stop := by omega
            have e5 : ((cnt : Int) != (m : Int)) = false := by rw [e, show stop = (m : Int) by omega]; simp
            clear hk1 hk2 e
            gi_wp2
            gi_meet
            case rel => exact ⟨rfl, rfl⟩
        · have e := hk2 (.inl h1)
          subst e
          have e1 : ((cnt : Int) != (cnt : Int)) = false := by simp
          have e2 : ¬ 1 ≤ stop := by omega
          clear hk1 hk2
          gi_wp2
          gi_meet
          case rel => exact ⟨rfl, rfl⟩
        · have e := hk2 (.inr h2)
          subst e
          have e1 : ((cnt : Int) != (cnt : Int)) = false := by simp
          have e2 : ¬ stop < 1 := by omega
          have e3 : ¬ stop < (cnt : Int) := by omega
          have e4 : (cnt : Int) ≤ stop := by omega
          clear hk1 hk2
          gi_wp2
          gi_meet
          case rel => exact ⟨rfl, rfl⟩
      case rest =>
        obtain ⟨rfl, rfl⟩ := hcut
        clear hk1 hk2 q9 q8 q5
        obtain ⟨W5, hW5⟩ : ∃ W5 : World, W5 = wc := ⟨_, rfl⟩
        subst hW5
        have HCp := Lib.hid (copy_any c.size k x y A n C c W5 (Nat.le_refl _) HZ.out (HF0.out W5 H9.out.bel))
        gi_wp2
        refine ⟨trivial, (callsIn_wide.2 HCp.out).mono ?_⟩
        rintro e w12 ⟨hb12, Ar, nr, Cr, rfl, ho12, hd12⟩
        clear z0 z1 z2 z3 HCp
        have b13 := below1 w12 (.cells #[.int .i64 k, .string x, .string y, .slice Ar nr Cr] 24)
        have hwas := boxed_new w12 k x y (.slice Ar nr Cr)
        have hb13 := hb12.trans (b13.mono hb12.size)
        obtain ⟨z0, z1, z2, z3⟩ := (HCBR.out.below hb13 HCBR.out.lt).cells
        have h13 := H9.out.below hb13
        have hk13 := (hb13.block D hD0).trans HKD.out
        have H13 := Lib.hid h13; have HK13 := Lib.hid hk13; have HWAS := Lib.hid hwas
        obtain ⟨u0, u1, u2, u3⟩ := h13.a.cells
        have ur := h13.r
        have ur1 := cellB ur
        have ur2 := frzB ur
        by_cases hn0 : 0 < nc
        · have hn1 : (0 : Int) < (nc : Int) := by omega
          have HO12 := Lib.hid ho12; have HD12 := Lib.hid hd12; have HB12 := Lib.hid hb12; have HB13 := Lib.hid b13
          obtain ⟨k0, x0, y0, c0, r0, hc⟩ : ∃ k0 x0 y0 c0 r0, c = F.cons k0 x0 y0 c0 r0 := by
            cases hc : c with
            | nil =>
              have hf := HFCR.out
              rw [hc] at hf
              obtain ⟨_, _, e, _⟩ := hf
              injection e with _ e2 _
              omega
            | cons k0 x0 y0 c0 r0 => exact ⟨_, _, _, _, _, rfl⟩
          have hfcr := HFCR.out
          rw [hc] at hfcr
          obtain ⟨bc, off, n1, C1, s0, e, _, _, _, hS, d0, d1, d2, d3, _⟩ := hfcr
          injection e with e1 e2 e3
          subst e1
          obtain ⟨vals, hv⟩ := (HTF6.out.below HBW.out).below hb13 bc rfl
          have hfz : (w12.alloc (.cells #[.int .i64 k, .string x, .string y, .slice Ar nr Cr] 24)).frozen? ⟨bc, off + 1, none⟩ = false := by simp [World.frozen?, hv]
          have hbcl : bc < W5.heap.size := by have := hS.2; have := HBW.out.size; omega
          have d1' := (hb13.cell (p := ⟨bc, off + 1, none⟩) hbcl).trans d1
          have HS := Lib.hid hS
          have hp1 : ¬ 9223372036854775807 < x0.size + 1 := by
            have hsm := HSM.out
            rw [hc] at hsm
            have := hsm.1
            omega
          clear hv vals d0 d2 d3 d1 ho12 hd12 hb12 b13 hb13 hwas h13 hk13 ur e2 e3
          gi_wp2
          gi_region
          clear z0 z1 z2 z3 u0 u1 u2 u3 ur1 ur2 hfz d1' hp1
          have hbc : s2 ≤ bc ∧ bc < gc := HS.out
          have bs := (Below.refl s2 (w12.alloc (.cells #[.int .i64 k, .string x, .string y, .slice Ar nr Cr] 24))).setCell (p := ⟨bc, off + 1, none⟩) (show s2 ≤ bc from hbc.1) (.string (x0 ++ ⟨#[120]⟩))
          have b14 : Below s2 (w12.alloc (.cells #[.int .i64 k, .string x, .string y, .slice Ar nr Cr] 24)) ((w12.alloc (.cells #[.int .i64 k, .string x, .string y, .slice Ar nr Cr] 24)).setCell ⟨bc, off + 1, none⟩ (.string (x0 ++ ⟨#[120]⟩))).drew := ⟨bs.os, bs.tape, bs.output, bs.size, bs.block⟩
          have hoth : ∀ b, b ≠ bc → (((w12.alloc (.cells #[.int .i64 k, .string x, .string y, .slice Ar nr Cr] 24)).setCell ⟨bc, off + 1, none⟩ (.string (x0 ++ ⟨#[120]⟩))).drew).heap[b]? = ((w12.alloc (.cells #[.int .i64 k, .string x, .string y, .slice Ar nr Cr] 24))).heap[b]? := fun b hb => Below.heap_setCell _ _ _ _ hb
          have s12 : W5.heap.size ≤ w12.heap.size := HB12.out.size
          have s13 : w12.heap.size ≤ ((w12.alloc (.cells #[.int .i64 k, .string x, .string y, .slice Ar nr Cr] 24))).heap.size := HB13.out.size
          have hfw : Fs w12 (fun b => W5.heap.size ≤ b ∧ b < w12.heap.size) (.slice Ar nr Cr) (ofL (toL c)) := HO12.out.fs (fun b hb => ⟨hb.1, hb.2.1⟩) (fun g e => ⟨HD12.out g e, HO12.out.lt e⟩)
          rw [ofL_toL] at hfw
          obtain ⟨w14, hw14⟩ : ∃ W, ((w12.alloc (.cells #[.int .i64 k, .string x, .string y, .slice Ar nr Cr] 24)).setCell ⟨bc, off + 1, none⟩ (.string (x0 ++ ⟨#[120]⟩))).drew = W := ⟨_, rfl⟩
          rw [hw14] at b14 hoth ⊢
          clear hw14 bs
          have h14 := H13.out.later b14 (by omega)
          have hbw : Boxed w14 w12.heap.size k x y (.slice Ar nr Cr) := (hoth _ (by omega)).trans HWAS.out
          have hk14 := (hoth D (by omega)).trans HK13.out
          have hfw14 : Fs w14 (Lo w14.heap.size) (.slice Ar nr Cr) c := (hfw.keep fun b hb => (hoth b (by have := hb.1; omega)).trans (HB13.out.block b hb.2)).more fun b hb => Nat.lt_of_lt_of_le hb.2 (Nat.le_trans s13 b14.size)
          have HSA := Lib.hid (rsame_any c.size k x y A n C c k x y Ar nr Cr c w14 (Nat.le_refl _) HZ.out (HF0.out w14 h14.bel) hfw14)
          rw [sameT_refl] at HSA
          obtain ⟨z0, z1, z2, z3⟩ := h14.a.cells
          obtain ⟨u0, u1, u2, u3⟩ := hbw.cells
          have H14 := Lib.hid h14
          have HK14 := Lib.hid hk14
          clear b14 hoth s13 hfw h14 hbw hk14 hfw14
          gi_wp2
          refine ⟨trivial, (callsIn_wide.2 HSA.out).mono ?_⟩
          rintro e w15 ⟨rfl, hb15⟩
          have h15 := H14.out.below hb15
          have hk15 := (hb15.block D (lt_of_block HK14.out)).trans HK14.out
          have ur1 := cellB h15.r
          have ur2 := frzB h15.r
          have H15 := Lib.hid h15
          have HK15 := Lib.hid hk15
          clear z0 z1 z2 z3 u0 u1 u2 u3 h15 hk15 hb15
          gi_wp2
          exact same_end w _ D _ rfl H15.out.r HK15.out H15.out.bel (by omega)
        · obtain rfl : nc = 0 := by omega
          gi_wp2
          exact same_end w _ D _ rfl H13.out.r HK13.out H13.out.bel (by omega)
end Go.Proofs.YtoecimgmghlfpaaDoor.Tree

/-
  Layer 5 (tree): the walk of TreeSame, for all arguments.
-/
namespace Go.Proofs.YtoecimgmghlfpaaDoor.Tree
open Go.ChangeShapes Go.WideShapes Go.ChangeAt Go.RowKit Mem
set_option linter.unusedVariables false

theorem same_res (w w2 : World) (tm : Array Value) (ht : tm.getD 6 undef = .pointer (some ⟨w.heap.size + 1 + 1 + 1, 0, none⟩)) (hr : w2.heap[w.heap.size + 3]? = some (.cells #[.bool false] 4 (0, 0))) :
    (results Tryd.f3 tm).run Tryd.prog (w2.setCell ⟨w.heap.size + 1 + 1 + 1, 0, none⟩ (.bool true)) = .ok (.bool true) (w2.setCell ⟨w.heap.size + 1 + 1 + 1, 0, none⟩ (.bool true)) := by
  have hrF : (w2.setCell ⟨w.heap.size + 1 + 1 + 1, 0, none⟩ (.bool true)).heap[w.heap.size + 3]? = some (.cells #[.bool true] 4 (0, 0)) := by
    have := set_at hr 0 (.bool true)
    simpa using this
  have ht' : tm[6]?.getD undef = .pointer (some ⟨w.heap.size + 1 + 1 + 1, 0, none⟩) := by simpa using ht
  generalize w2.setCell ⟨w.heap.size + 1 + 1 + 1, 0, none⟩ (.bool true) = W at *
  have hld : W.cell? ⟨w.heap.size + 1 + 1 + 1, 0, none⟩ = some (.bool true) := by
    simp [World.cell?, hrF]
  simp [results, Tryd.results3, go_sem, ht', hld]

set_option maxRecDepth 100000 in
set_option maxHeartbeats 16000000 in
theorem treeSame_walk (k : Int) (x y : ByteArray) (A : Option Addr) (n C : Nat) (c : F) (k' : Int) (x' y' : ByteArray) (A' : Option Addr) (n' C' : Nat) (c' : F) (stop : Int) (w : World)
    (hf : Fs w (Lo w.heap.size) (.slice A n C) c) (hf' : Fs w (Lo w.heap.size) (.slice A' n' C') c') (hT : Lex.Tab w) :
    Calls Tryd.prog 3 #[.agg #[.int .i64 k, .string x, .string y, .slice A n C], .agg #[.int .i64 k', .string x', .string y', .slice A' n' C'], .int .i64 stop] w fun e w' => e = .returned (.bool true) ∧ Below w.heap.size w w' := by
  have H4 := Lib.hid (four_new w k x y (.slice A n C) k' x' y' (.slice A' n' C') stop)
  have HFW1 := Lib.hid (few_any k x y A n C c _ (hf.later H4.out.bel))
  cases hfb : fewB k x y c with
  | false =>
    rw [hfb] at HFW1
    have HT : Hid (∀ W, Below w.heap.size w W → Lex.Tab W) := fun W hW => hT.below hW hT.pos
    clear hfb hf hf' hT
    go_enter Tryd.func3, Tryd.ntmps3
    go_wp2_with fail
    refine HFW1.out.mono ?_
    rintro e w1 ⟨rfl, hb⟩
    have H1 := Lib.hid (H4.out.below hb)
    have HK := Lib.hid (known_any w1 (HT.out w1 H1.out.bel))
    clear hb HFW1 H4
    go_wp2_with fail
    refine HK.out.mono ?_
    rintro e w2 ⟨rfl, hb⟩
    have H2 := Lib.hid (H1.out.below hb)
    have ur1 := cellB H2.out.r
    have ur2 := frzB H2.out.r
    have ur3 : (w2.setCell ⟨w.heap.size + 3, 0, none⟩ (.bool true)).cell? ⟨w.heap.size + 3, 0, none⟩ = some (.bool true) := by
      have := set_at H2.out.r 0 (.bool true)
      simp [World.cell?, this]
    have HB2 := Lib.hid (H2.out.bel.setCell (p := ⟨w.heap.size + 3, 0, none⟩) (show w.heap.size ≤ w.heap.size + 3 by omega) (.bool true))
    clear hb H1 HK
    go_wp2
    refine bodyPost_ret (same_res w _ _ rfl H2.out.r) rfl ?_
    exact ⟨rfl, HB2.out⟩
  | true =>
    cases hfb' : fewB k' x' y' c' with
    | true => exact callsIn_wide.1 (treeSame_in k x y A n C c k' x' y' A' n' C' c' stop w hf hf' hT hfb hfb')
    | false =>
      rw [hfb] at HFW1
      have HT : Hid (∀ W, Below w.heap.size w W → Lex.Tab W) := fun W hW => hT.below hW hT.pos
      have HF0' : Hid (∀ W, Below w.heap.size w W → Fs W (Lo W.heap.size) (.slice A' n' C') c') := fun W hW => hf'.later hW
      have HE := Lib.hid hfb'
      clear hfb hfb' hf hf' hT
      go_enter Tryd.func3, Tryd.ntmps3
      go_wp2_with fail
      refine HFW1.out.mono ?_
      rintro e w1 ⟨rfl, hb⟩
      have H1 := Lib.hid (H4.out.below hb)
      have HFW2 := Lib.hid (few_any k' x' y' A' n' C' c' w1 (HF0'.out w1 H1.out.bel))
      rw [HE.out] at HFW2
      obtain ⟨p0, p1, p2, p3⟩ := H1.out.b.cells
      clear hb HFW1 H4
      go_wp2_with fail
      refine HFW2.out.mono ?_
      rintro e w1' ⟨rfl, hb⟩
      have H1' := Lib.hid (H1.out.below hb)
      have HK := Lib.hid (known_any w1' (HT.out w1' H1'.out.bel))
      clear hb HFW2 H1 p0 p1 p2 p3
      go_wp2_with fail
      refine HK.out.mono ?_
      rintro e w2 ⟨rfl, hb⟩
      have H2 := Lib.hid (H1'.out.below hb)
      have ur1 := cellB H2.out.r
      have ur2 := frzB H2.out.r
      have ur3 : (w2.setCell ⟨w.heap.size + 3, 0, none⟩ (.bool true)).cell? ⟨w.heap.size + 3, 0, none⟩ = some (.bool true) := by
        have := set_at H2.out.r 0 (.bool true)
        simp [World.cell?, this]
      have HB2 := Lib.hid (H2.out.bel.setCell (p := ⟨w.heap.size + 3, 0, none⟩) (show w.heap.size ≤ w.heap.size + 3 by omega) (.bool true))
      clear hb H1' HK
      go_wp2
      refine bodyPost_ret (same_res w _ _ rfl H2.out.r) rfl ?_
      exact ⟨rfl, HB2.out⟩
end Go.Proofs.YtoecimgmghlfpaaDoor.Tree
