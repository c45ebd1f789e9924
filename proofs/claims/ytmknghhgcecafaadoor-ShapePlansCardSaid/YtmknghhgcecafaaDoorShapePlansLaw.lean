/-
  Layer 10 (shape): the walk of ShapePlans. Written by gen_shapeplans.py.
-/
import Derived.Test.YtmknghhgcecafaaDoorShapeAlikeLaw
namespace Go.Proofs.YtmknghhgcecafaaDoor.Shape
open Go.ChangeShapes Go.WideShapes Go.ChangeAt Go.RowKit Mem Tree MemC
set_option linter.unusedVariables false

/-- A plan and the variable that holds it, beside another such pair, while they come to be in any order: what the plan's call (iC), the variable's making (iV) and its filling (iS) leave; iF: the other pair's variable. -/
structure Half (B0 : Nat) (T : F) (ty : TypeId) (iC iV iS iF : Nat) (L : Nat → Bool) (x : Nat → Value) (W : World) : Prop where
  plan : L iC = true → ∃ s t, B0 ≤ s ∧ t ≤ W.heap.size ∧ PlanRd W (Sx B0 s t) T (x iC) ∧ (∀ g, L iV = true → x iV = .pointer (some ⟨g, 0, none⟩) → ¬ (s ≤ g ∧ g < t)) ∧ ∀ g, L iF = true → x iF = .pointer (some ⟨g, 0, none⟩) → ¬ (s ≤ g ∧ g < t)
  var : L iV = true → ∃ g, x iV = .pointer (some ⟨g, 0, none⟩) ∧ B0 ≤ g ∧ g < W.heap.size ∧ (L iS = false → W.heap[g]? = some (.cells #[.slice none 0 0, .slice none 0 0, .slice none 0 0, .slice none 0 0] ty (0, 0))) ∧
    (L iS = true → ∃ va vb vc vd, x iC = .agg #[va, vb, vc, vd] ∧ W.heap[g]? = some (.cells #[va, vb, vc, vd] ty (0, 0))) ∧ (L iF = true → x iF ≠ .pointer (some ⟨g, 0, none⟩))
  fv : L iF = true → ∃ g, x iF = .pointer (some ⟨g, 0, none⟩) ∧ B0 ≤ g ∧ g < W.heap.size
  dS : L iS = true → L iV = true ∧ L iC = true
theorem ptr_inj {g g' : Nat} (h : Value.pointer (some ⟨g, 0, none⟩) = .pointer (some ⟨g', 0, none⟩)) : g = g' := by
  injection h with h
  injection h with h
  injection h
section
variable {B0 : Nat} {T : F} {ty : TypeId} {iC iV iS iF i : Nat} {L : Nat → Bool} {x : Nat → Value} {W W' : World} {v : Value}
theorem Half.start : Half B0 T ty iC iV iS iF (fun _ => false) x W := ⟨fun h => (by cases h), fun h => (by cases h), fun h => (by cases h), fun h => (by cases h)⟩
/-- An operation of another sort that changes, of the old blocks, at most that of the other variable. -/
theorem Half.other (h : Half B0 T ty iC iV iS iF L x W) (hs : W.heap.size ≤ W'.heap.size) (hb : ∀ b, b < W.heap.size → (L iF = true → x iF ≠ .pointer (some ⟨b, 0, none⟩)) → W'.heap[b]? = W.heap[b]?) (h0 : B0 ≤ W.heap.size)
    (e1 : iC ≠ i) (e2 : iV ≠ i) (e3 : iS ≠ i) (e4 : iF ≠ i) : Half B0 T ty iC iV iS iF (updL L i) (updX x i v) W' := by
  refine ⟨?_, ?_, ?_, ?_⟩
  all_goals simp only [updL_ne e1, updL_ne e2, updL_ne e3, updL_ne e4, updX_ne e1, updX_ne e2, updX_ne e4]
  · intro hC
    obtain ⟨s, t, h1, h2, h3, h4, h5⟩ := h.plan hC
    refine ⟨s, t, h1, by omega, h3.keep fun b hbS => hb b ?_ fun hF hx => ?_, h4, h5⟩
    · rcases hbS with hbS | hbS <;> omega
    · rcases hbS with hbS | hbS
      · obtain ⟨g, e, hg, _⟩ := h.fv hF
        have := ptr_inj (e.symm.trans hx)
        omega
      · exact h5 b hF hx hbS
  · intro hV
    obtain ⟨g, h1, h2, h3, h4, h5, h6⟩ := h.var hV
    refine ⟨g, h1, h2, by omega, fun hS => (hb g h3 h6).trans (h4 hS), fun hS => ?_, h6⟩
    obtain ⟨va, vb, vc, vd, e, hh⟩ := h5 hS
    exact ⟨va, vb, vc, vd, e, (hb g h3 h6).trans hh⟩
  · intro hF
    obtain ⟨g, e, h1, h2⟩ := h.fv hF
    exact ⟨g, e, h1, by omega⟩
  · exact h.dS
theorem Half.quiet (h : Half B0 T ty iC iV iS iF L x W) (h0 : B0 ≤ W.heap.size) (hb : Below W.heap.size W W') (e1 : iC ≠ i) (e2 : iV ≠ i) (e3 : iS ≠ i) (e4 : iF ≠ i) : Half B0 T ty iC iV iS iF (updL L i) (updX x i v) W' :=
  h.other hb.size (fun b hb' _ => hb.block b hb') h0 e1 e2 e3 e4
/-- The plan's call. -/
theorem Half.call (h : Half B0 T ty iC iV iS iF L x W) (h0 : B0 ≤ W.heap.size) (hb : Below W.heap.size W W') (hp : PlanRd W' (Sx B0 W.heap.size W'.heap.size) T v) (hL : L iC = false) (e2 : iV ≠ iC) (e3 : iS ≠ iC) (e4 : iF ≠ iC) : Half B0 T ty iC iV iS iF (updL L iC) (updX x iC v) W' := by
  have s0 : L iS = false := by cases e : L iS with | false => rfl | true => rw [(h.dS e).2] at hL; cases hL
  refine ⟨fun _ => ⟨W.heap.size, W'.heap.size, h0, Nat.le_refl _, by rw [updX_eq]; exact hp, ?_, ?_⟩, ?_, ?_, ?_⟩
  all_goals simp only [updL_ne e2, updL_ne e3, updL_ne e4, updX_ne e2, updX_ne e4, s0]
  · intro g hV hg hin
    obtain ⟨g', h1, _, h3, _⟩ := h.var hV
    have := ptr_inj (h1.symm.trans hg)
    omega
  · intro g hV hg hin
    obtain ⟨g', h1, _, h3⟩ := h.fv hV
    have := ptr_inj (h1.symm.trans hg)
    omega
  · intro hV
    obtain ⟨g, h1, h2, h3, h4, h5, h6⟩ := h.var hV
    exact ⟨g, h1, h2, Nat.lt_of_lt_of_le h3 hb.size, fun _ => (hb.block g h3).trans (h4 s0), fun q => (by cases q), h6⟩
  · intro hF
    obtain ⟨g, e, h1, h2⟩ := h.fv hF
    exact ⟨g, e, h1, Nat.lt_of_lt_of_le h2 hb.size⟩
  · intro q; cases q
/-- The variable's making. -/
theorem Half.make (h : Half B0 T ty iC iV iS iF L x W) (h0 : B0 ≤ W.heap.size) (hL : L iV = false) (e1 : iC ≠ iV) (e3 : iS ≠ iV) (e4 : iF ≠ iV) :
    Half B0 T ty iC iV iS iF (updL L iV) (updX x iV (.pointer (some ⟨W.heap.size, 0, none⟩))) (W.alloc (.cells #[.slice none 0 0, .slice none 0 0, .slice none 0 0, .slice none 0 0] ty)) := by
  have hb := bel1 W (.cells #[.slice none 0 0, .slice none 0 0, .slice none 0 0, .slice none 0 0] ty)
  have s0 : L iS = false := by cases e : L iS with | false => rfl | true => rw [(h.dS e).1] at hL; cases hL
  refine ⟨?_, fun _ => ⟨W.heap.size, by rw [updX_eq], h0, by simp, fun _ => heap_alloc_new W _, ?_, ?_⟩, ?_, ?_⟩
  all_goals simp only [updL_ne e1, updL_ne e3, updL_ne e4, updX_ne e1, updX_ne e4, s0]
  · intro hC
    obtain ⟨s, t, h1, h2, h3, _, h5⟩ := h.plan hC
    refine ⟨s, t, h1, Nat.le_trans h2 hb.size, h3.keep fun b hbS => hb.block b ?_, fun g _ hg hin => ?_, h5⟩
    · rcases hbS with hbS | hbS
      · exact Nat.lt_of_lt_of_le hbS h0
      · omega
    · rw [updX_eq] at hg
      have := ptr_inj hg
      omega
  · intro q; cases q
  · intro hF hx
    obtain ⟨g, e, _, h2⟩ := h.fv hF
    have := ptr_inj (e.symm.trans hx)
    omega
  · intro hF
    obtain ⟨g, e, h1, h2⟩ := h.fv hF
    exact ⟨g, e, h1, Nat.lt_of_lt_of_le h2 hb.size⟩
  · intro q; cases q
/-- The other variable's making. -/
theorem Half.makeF (h : Half B0 T ty iC iV iS iF L x W) (h0 : B0 ≤ W.heap.size) (o : Obj) (hL : L iF = false) (e1 : iC ≠ iF) (e2 : iV ≠ iF) (e3 : iS ≠ iF) : Half B0 T ty iC iV iS iF (updL L iF) (updX x iF (.pointer (some ⟨W.heap.size, 0, none⟩))) (W.alloc o) := by
  have hb := bel1 W o
  refine ⟨?_, ?_, fun _ => ⟨W.heap.size, by rw [updX_eq], h0, by simp⟩, ?_⟩
  all_goals simp only [updL_ne e1, updL_ne e2, updL_ne e3, updX_ne e1, updX_ne e2]
  · intro hC
    obtain ⟨s, t, h1, h2, h3, h4, _⟩ := h.plan hC
    refine ⟨s, t, h1, Nat.le_trans h2 hb.size, h3.keep fun b hbS => hb.block b ?_, h4, fun g _ hg hin => ?_⟩
    · rcases hbS with hbS | hbS
      · exact Nat.lt_of_lt_of_le hbS h0
      · omega
    · rw [updX_eq] at hg
      have := ptr_inj hg
      omega
  · intro hV
    obtain ⟨g, h1, h2, h3, h4, h5, _⟩ := h.var hV
    refine ⟨g, h1, h2, Nat.lt_of_lt_of_le h3 hb.size, fun hS => (hb.block g h3).trans (h4 hS), fun hS => ?_, fun _ hx => ?_⟩
    · obtain ⟨va, vb, vc, vd, e, hh⟩ := h5 hS
      exact ⟨va, vb, vc, vd, e, (hb.block g h3).trans hh⟩
    · rw [updX_eq] at hx
      have := ptr_inj hx
      omega
  · exact h.dS
/-- The filling. -/
theorem Half.fill (h : Half B0 T ty iC iV iS iF L x W) (hC : L iC = true) (hV : L iV = true) (hL : L iS = false) (e1 : iC ≠ iS) (e2 : iV ≠ iS) (e4 : iF ≠ iS) {g : Nat} {va vb vc vd : Value} (hx : x iC = .agg #[va, vb, vc, vd]) (hg : x iV = .pointer (some ⟨g, 0, none⟩)) :
    Half B0 T ty iC iV iS iF (updL L iS) (updX x iS v) ((((W.setCell ⟨g, 0, none⟩ va).setCell ⟨g, 1, none⟩ vb).setCell ⟨g, 2, none⟩ vc).setCell ⟨g, 3, none⟩ vd) := by
  obtain ⟨g', h1, h2, h3, h4, _, h6⟩ := h.var hV
  obtain rfl : g' = g := ptr_inj (h1.symm.trans hg)
  refine ⟨?_, ?_, ?_, fun _ => ?_⟩
  all_goals simp only [updL_ne e1, updL_ne e2, updL_ne e4, updX_ne e1, updX_ne e2, updX_ne e4]
  · intro _
    obtain ⟨s, t, q1, q2, q3, q4, q5⟩ := h.plan hC
    refine ⟨s, t, q1, by simpa using q2, q3.keep fun b hbS => set4_other _ _ _ _ _ _ _ (fun e => ?_), q4, q5⟩
    subst e
    rcases hbS with hbS | hbS
    · omega
    · exact q4 _ hV h1 hbS
  · intro _
    refine ⟨_, h1, h2, by simpa using h3, fun q => (by rw [updL_eq] at q; cases q), fun _ => ⟨va, vb, vc, vd, hx, ?_⟩, h6⟩
    have := set_here (set_here (set_here (set_here (h4 hL) 0 va) 1 vb) 2 vc) 3 vd
    simpa using this
  · intro hF
    obtain ⟨q, e, q1, q2⟩ := h.fv hF
    exact ⟨q, e, q1, by simpa using q2⟩
  · exact ⟨hV, hC⟩
/-- The other one's filling. -/
theorem Half.fillF (h : Half B0 T ty iC iV iS iF L x W) (h0 : B0 ≤ W.heap.size) (hF : L iF = true) {g : Nat} {va vb vc vd : Value} (hg : x iF = .pointer (some ⟨g, 0, none⟩)) (e1 : iC ≠ i) (e2 : iV ≠ i) (e3 : iS ≠ i) (e4 : iF ≠ i) :
    Half B0 T ty iC iV iS iF (updL L i) (updX x i v) ((((W.setCell ⟨g, 0, none⟩ va).setCell ⟨g, 1, none⟩ vb).setCell ⟨g, 2, none⟩ vc).setCell ⟨g, 3, none⟩ vd) :=
  h.other (by simp) (fun b _ hne => set4_other _ _ _ _ _ _ _ fun e => hne hF (by rw [e]; exact hg)) h0 e1 e2 e3 e4
end
theorem agg4_inj {a b c d a' b' c' d' : Value} (h : Value.agg #[a, b, c, d] = .agg #[a', b', c', d']) : a = a' ∧ b = b' ∧ c = c' ∧ d = d' := by
  injection h with h
  simpa using h
/-- A plan, read at all later worlds. -/
theorem plan_read {W : World} {S : Nat → Prop} {T : F} {v : Value} {N : Nat} (h : PlanRd W S T v) (hS : ∀ b, S b → b < W.heap.size) (hT : T.size = N) (hN : 1 ≤ N) :
    ∃ (aN : Option Addr) (cN bP oP cP bS oS cS bK oK cK : Nat) (us : List Value), v = .agg #[.slice aN N cN, .slice (some ⟨bP, oP, none⟩) N cP, .slice (some ⟨bS, oS, none⟩) N cS, .slice (some ⟨bK, oK, none⟩) N cK] ∧
      (∀ W', Below W.heap.size W W' → Fs W' (Lo W'.heap.size) (.slice aN N cN) (ofL (nodes T))) ∧ (∀ W', Below W.heap.size W W' → RI W' W'.heap.size (some ⟨bP, oP, none⟩) (parF (-1) 0 T)) ∧ (∀ W', Below W.heap.size W W' → RI W' W'.heap.size (some ⟨bS, oS, none⟩) (sizF T)) ∧
      (∀ W', Below W.heap.size W W' → ∀ (i : Nat) (z : Value), us[i]? = some z → W'.cell? ⟨bK, oK + i, none⟩ = some z) ∧
      ∀ (i : Nat) (l : List Int), (kidI T)[i]? = some l → ∃ A c, us[i]? = some (.slice A l.length c) ∧ ∀ W', Below W.heap.size W W' → RI W' W'.heap.size A l := by
  obtain ⟨vN, vP, vS, vK, rfl, pN, pP, pS, pK⟩ := h
  obtain ⟨aN, cN, e0, _, _⟩ := pN.slice
  have k1 : (ofL (nodes T)).len = N := by rw [ofL_len, nodes_len, hT]
  have k2 : (parF (-1) 0 T).length = N := by rw [parF_len, hT]
  have k3 : (sizF T).length = N := by rw [sizF_len, hT]
  have k4 : (kidI T).length = N := by unfold kidI; rw [List.length_map, kidF_len, hT]
  obtain ⟨bP, oP, cP, e1, _⟩ := sl_read pP hS (by rw [List.length_map, k2]; exact hN)
  obtain ⟨bS, oS, cS, e2, _⟩ := sl_read pS hS (by rw [List.length_map, k3]; exact hN)
  obtain ⟨bK, oK, cK, us, e3, _, rK, rKK⟩ := rows_read pK hS (by rw [k4]; exact hN)
  rw [k1] at e0
  rw [List.length_map, k2] at e1
  rw [List.length_map, k3] at e2
  rw [k4] at e3
  subst e0; subst e1; subst e2; subst e3
  refine ⟨aN, cN, bP, oP, cP, bS, oS, cS, bK, oK, cK, us, rfl, fun W' hW => (pN.more hS).later hW, fun W' hW => ?_, fun W' hW => ?_, rK, rKK⟩
  · obtain ⟨A', c', e, hr⟩ := ri_of (B := W.heap.size) pP hS
    injection e with e _ _
    subst e
    exact (hr.below hW (Nat.le_refl _)).more hW.size
  · obtain ⟨A', c', e, hr⟩ := ri_of (B := W.heap.size) pS hS
    injection e with e _ _
    subst e
    exact (hr.below hW (Nat.le_refl _)).more hW.size
/-- The region 'p, q := Of(t), ref.Of(t, n)': what its operations leave. -/
structure PI (w1 : World) (T : F) (arg : Value) (L : Nat → Bool) (x : Nat → Value) (W : World) : Prop where
  bel : Below w1.heap.size w1 W
  l0 : L 0 = true → x 0 = arg
  l2 : L 2 = true → x 2 = arg
  h1 : Half w1.heap.size T 30 1 4 6 5 L x W
  h2 : Half w1.heap.size T 32 3 5 7 4 L x W
section
variable {w1 W W' : World} {T : F} {arg v : Value} {L : Nat → Bool} {x : Nat → Value}
theorem PI.ls (h : PI w1 T arg L x W) {i : Nat} (hi : i = 0 ∨ i = 2 → v = arg) : (updL L i 0 = true → updX x i v 0 = arg) ∧ (updL L i 2 = true → updX x i v 2 = arg) := by
  constructor
  · intro hl
    by_cases e : (0 : Nat) = i
    · subst e; rw [updX_eq]; exact hi (.inl rfl)
    · rw [updX_ne e]; rw [updL_ne e] at hl; exact h.l0 hl
  · intro hl
    by_cases e : (2 : Nat) = i
    · subst e; rw [updX_eq]; exact hi (.inr rfl)
    · rw [updX_ne e]; rw [updL_ne e] at hl; exact h.l2 hl
theorem PI.load (h : PI w1 T arg L x W) {i : Nat} (h0 : w1.heap.size ≤ W.heap.size) (hi : i = 0 ∨ i = 2) : PI w1 T arg (updL L i) (updX x i arg) W :=
  ⟨h.bel, (h.ls fun _ => rfl).1, (h.ls fun _ => rfl).2, h.h1.quiet h0 (Below.refl _ _) (by omega) (by omega) (by omega) (by omega), h.h2.quiet h0 (Below.refl _ _) (by omega) (by omega) (by omega) (by omega)⟩
end

set_option maxRecDepth 100000 in
set_option maxHeartbeats 16000000 in
theorem shapePlans_walk (HO : OfSpec) (HMk : MarksSpec) (HTr : TreeSpec) (HTn : TreeNone) (k : Int) (x y : ByteArray) (A : Option Addr) (n C : Nat) (c : F) (w : World) (hf : Fs w (Lo w.heap.size) (.slice A n C) c) (hP : Pow w) :
    Calls Tryd.prog 3 #[.agg #[.int .i64 k, .string x, .string y, .slice A n C]] w fun e w' => e = .returned (.bool true) ∧ Below w.heap.size w w' := by
  have b1 := bel1 w (.cells #[.int .i64 k, .string x, .string y, .slice A n C] 24)
  have HX := Lib.hid (box_cl' w k x y (.slice A n C))
  have HF := Lib.hid (hf.later b1)
  have HFEW := Lib.hid (few10_any k x y A n C c 1000 _ (hf.later b1) (by decide))
  have HB1 := Lib.hid b1
  have HOO := Lib.hid HO
  have HTT := Lib.hid HTr
  have HNN := Lib.hid HTn
  have HKN := Lib.hid (fun W hW => known_any HO HMk HTr W hW)
  have HPW := Lib.hid hP
  clear hP
  obtain ⟨q0, q1, q2, q3⟩ := HX.out _ (Below.refl _ _)
  obtain ⟨fb, hfb⟩ : ∃ fb, fewS k x y c 1000 = fb := ⟨_, rfl⟩
  rw [hfb] at HFEW
  have HFB := Lib.hid hfb
  clear hf b1 hfb HO HMk HTr HTn
  go_enter Tryd.func3, Tryd.ntmps3
  go_wp2_with fail
  obtain ⟨w0, hw0⟩ : ∃ w0, w.alloc (.cells #[.int .i64 k, .string x, .string y, .slice A n C] 24) = w0 := ⟨_, rfl⟩
  rw [hw0] at HX HF HFEW HB1 q0 q1 q2 q3 ⊢
  clear hw0
  refine HFEW.out.mono ?_
  rintro e w1 ⟨rfl, hb⟩
  have HB01 := Lib.hid hb
  have HB2 := Lib.hid (HB1.out.trans (hb.mono HB1.out.size))
  clear hb q0 q1 q2 q3 HFEW
  cases fb with
  | false =>
    go_wp2_with fail
    refine (HKN.out w1 (HPW.out.on HB2.out)).mono ?_
    rintro e w2 ⟨rfl, hb⟩
    have HB3 := Lib.hid (HB2.out.trans (hb.mono HB2.out.size))
    clear hb
    go_wp2
    go_ret
    exact ⟨rfl, HB3.out⟩
  | true =>
    have hN : c.size + 1 ≤ 1000 := (few_small HFB.out).1
    have HF1 := Lib.hid (HF.out.later HB01.out)
    have HCO : Hid (∀ W, Below w1.heap.size w1 W → Calls Tryd.prog 10 #[.agg #[.int .i64 k, .string x, .string y, .slice A n C]] W fun e w' => Below W.heap.size W w' ∧ ∃ v, e = .returned v ∧ PlanRd w' (Sx w1.heap.size W.heap.size w'.heap.size) (one k x y c) v) := fun W hW =>
      (HOO.out k x y A n C c W (HF1.out.later hW) (by omega)).mono fun e w' hp => by
        obtain ⟨h1, v, h2, h3⟩ := hp
        exact ⟨h1, v, h2, h3.more fun b hb => .inr hb⟩
    have HCR : Hid (∀ W, Below w1.heap.size w1 W → Calls Tryd.prog 11 #[.agg #[.int .i64 k, .string x, .string y, .slice A n C], .int .i64 1001] W fun e w' => Below W.heap.size W w' ∧ ∃ v, e = .returned v ∧ PlanRd w' (Sx w1.heap.size W.heap.size w'.heap.size) (one k x y c) v) := fun W hW =>
      (refOf_any k x y A n C c 1001 W w1.heap.size hW.size (HF1.out.below hW (Nat.le_refl _)) (by omega) (by decide)).mono fun e w' hp => plan_rd hp
    have HN := Lib.hid hN
    clear hN HOO HFB
    go_wp2
    refine region_inv2 (PI w1 (one k x y c) (.agg #[.int .i64 k, .string x, .string y, .slice A n C])) (by kernel_rfl) (by decide) (by kernel_rfl) (fun _ => ⟨⟨rfl, rfl, rfl, Nat.le_refl _, fun _ _ => rfl⟩, fun h => (by cases h), fun h => (by cases h), Half.start, Half.start⟩) ?steps ?done
    case steps =>
      intro L xv W hI hcl a ha
      have h0 := hI.bel.size
      simp only [fillA] at ha
      simp only [List.setIfInBounds_toArray, List.set_cons_succ, List.set_cons_zero, Nat.zero_add, Nat.reduceAdd] at ha
      subst ha
      refine ⟨fun hL hd K hK => ?s0, fun hL hd K hK => ?s1, fun hL hd K hK => ?s2, fun hL hd K hK => ?s3, fun hL hd K hK => ?s4, fun hL hd K hK => ?s5, fun hL hd K hK => ?s6, fun hL hd K hK => ?s7, trivial⟩
      case s0 =>
        clear hd
        obtain ⟨p0, p1, p2, p3⟩ := HX.out W (HB01.out.trans (hI.bel.mono HB01.out.size))
        simp only [Act.put, List.setIfInBounds_toArray, List.set_cons_succ, List.set_cons_zero] at hK
        refine (if_pos (by rfl)).mpr ?_
        go_simp
        exact hK.out _ _ (hI.load h0 (by omega))
      case s2 =>
        clear hd
        obtain ⟨p0, p1, p2, p3⟩ := HX.out W (HB01.out.trans (hI.bel.mono HB01.out.size))
        simp only [Act.put, List.setIfInBounds_toArray, List.set_cons_succ, List.set_cons_zero] at hK
        refine (if_pos (by rfl)).mpr ?_
        go_simp
        exact hK.out _ _ (hI.load h0 (by omega))
      case s1 =>
        have hx := hI.l0 (hd 0 (by kernel_rfl))
        clear hd
        simp only [Act.put, List.setIfInBounds_toArray, List.set_cons_succ, List.set_cons_zero] at hK
        rw [hx] at hK ⊢
        refine (if_pos (by rfl)).mpr ?_
        go_simp
        go_at_call 10
        refine (HCO.out W hI.bel).mono ?_
        rintro e W' ⟨hb, v, rfl, hp⟩
        exact hK.out _ _ ⟨hI.bel.trans (hb.mono h0), (hI.ls (by omega)).1, (hI.ls (by omega)).2, hI.h1.call h0 hb hp hL (by decide) (by decide) (by decide), hI.h2.quiet h0 hb (by decide) (by decide) (by decide) (by decide)⟩
      case s3 =>
        have hx := hI.l2 (hd 2 (by kernel_rfl))
        clear hd
        simp only [Act.put, List.setIfInBounds_toArray, List.set_cons_succ, List.set_cons_zero] at hK
        rw [hx] at hK ⊢
        refine (if_pos (by rfl)).mpr ?_
        go_simp
        go_at_call 11
        refine (HCR.out W hI.bel).mono ?_
        rintro e W' ⟨hb, v, rfl, hp⟩
        exact hK.out _ _ ⟨hI.bel.trans (hb.mono h0), (hI.ls (by omega)).1, (hI.ls (by omega)).2, hI.h1.quiet h0 hb (by decide) (by decide) (by decide) (by decide), hI.h2.call h0 hb hp hL (by decide) (by decide) (by decide)⟩
      case s4 =>
        clear hd
        have hbn := bel1 W (.cells #[.slice none 0 0, .slice none 0 0, .slice none 0 0, .slice none 0 0] 30)
        simp only [Act.put, List.setIfInBounds_toArray, List.set_cons_succ, List.set_cons_zero] at hK
        refine (if_pos (by rfl)).mpr ?_
        go_simp
        exact hK.out _ _ ⟨hI.bel.trans (hbn.mono h0), (hI.ls (by omega)).1, (hI.ls (by omega)).2, hI.h1.make h0 hL (by decide) (by decide) (by decide), hI.h2.makeF h0 _ hL (by decide) (by decide) (by decide)⟩
      case s5 =>
        clear hd
        have hbn := bel1 W (.cells #[.slice none 0 0, .slice none 0 0, .slice none 0 0, .slice none 0 0] 32)
        simp only [Act.put, List.setIfInBounds_toArray, List.set_cons_succ, List.set_cons_zero] at hK
        refine (if_pos (by rfl)).mpr ?_
        go_simp
        exact hK.out _ _ ⟨hI.bel.trans (hbn.mono h0), (hI.ls (by omega)).1, (hI.ls (by omega)).2, hI.h1.makeF h0 _ hL (by decide) (by decide) (by decide), hI.h2.make h0 hL (by decide) (by decide) (by decide)⟩
      case s6 =>
        have hC := hd 1 (by kernel_rfl)
        have hV := hd 4 (by kernel_rfl)
        obtain ⟨s, t, _, _, ⟨vN, vP, vS, vK, hx, pN, pP, pS, us, hus, pK, _⟩, _⟩ := hI.h1.plan hC
        obtain ⟨aN, cN, rfl, _, _⟩ := pN.slice
        obtain ⟨aP, cP, rfl, _, _, _⟩ := pP
        obtain ⟨aS, cS, rfl, _, _, _⟩ := pS
        obtain ⟨aK, cK, rfl, _, _, _⟩ := pK
        rw [hus] at hx
        clear hus
        obtain ⟨g, hg, hg0, hg1, hh, _⟩ := hI.h1.var hV
        have hh := hh hL
        obtain ⟨y0, y1, y2, y3⟩ : W.cell? ⟨g, 0, none⟩ = some (.slice none 0 0) ∧ W.cell? ⟨g, 1, none⟩ = some (.slice none 0 0) ∧ W.cell? ⟨g, 2, none⟩ = some (.slice none 0 0) ∧ W.cell? ⟨g, 3, none⟩ = some (.slice none 0 0) := by
          refine ⟨?_, ?_, ?_, ?_⟩ <;> simp [World.cell?, hh]
        obtain ⟨z0, z1, z2, z3⟩ : W.frozen? ⟨g, 0, none⟩ = false ∧ W.frozen? ⟨g, 1, none⟩ = false ∧ W.frozen? ⟨g, 2, none⟩ = false ∧ W.frozen? ⟨g, 3, none⟩ = false := by
          refine ⟨?_, ?_, ?_, ?_⟩ <;> simp [World.frozen?, hh]
        have e1 := hI.h1
        clear hd
        simp only [Act.put] at hK
        rw [hx, hg] at hK ⊢
        refine (if_pos (by rfl)).mpr ?_
        generalize (ofL (nodes (one k x y c))).len = l0 at *
        generalize ((parF (-1) 0 (one k x y c)).map iv).length = l1 at *
        generalize ((sizF (one k x y c)).map iv).length = l2 at *
        generalize (kidI (one k x y c)).length = l3 at *
        go_simp
        exact hK.out undef _ ⟨hI.bel.trans (((((Below.refl _ _).setCell hg0 _).setCell hg0 _).setCell hg0 _).setCell hg0 _), (hI.ls (by omega)).1, (hI.ls (by omega)).2, hI.h1.fill hC hV hL (by decide) (by decide) (by decide) hx hg, hI.h2.fillF h0 hV hg (by decide) (by decide) (by decide) (by decide)⟩
      case s7 =>
        have hC := hd 3 (by kernel_rfl)
        have hV := hd 5 (by kernel_rfl)
        obtain ⟨s, t, _, _, ⟨vN, vP, vS, vK, hx, pN, pP, pS, us, hus, pK, _⟩, _⟩ := hI.h2.plan hC
        obtain ⟨aN, cN, rfl, _, _⟩ := pN.slice
        obtain ⟨aP, cP, rfl, _, _, _⟩ := pP
        obtain ⟨aS, cS, rfl, _, _, _⟩ := pS
        obtain ⟨aK, cK, rfl, _, _, _⟩ := pK
        rw [hus] at hx
        clear hus
        obtain ⟨g, hg, hg0, hg1, hh, _⟩ := hI.h2.var hV
        have hh := hh hL
        obtain ⟨y0, y1, y2, y3⟩ : W.cell? ⟨g, 0, none⟩ = some (.slice none 0 0) ∧ W.cell? ⟨g, 1, none⟩ = some (.slice none 0 0) ∧ W.cell? ⟨g, 2, none⟩ = some (.slice none 0 0) ∧ W.cell? ⟨g, 3, none⟩ = some (.slice none 0 0) := by
          refine ⟨?_, ?_, ?_, ?_⟩ <;> simp [World.cell?, hh]
        obtain ⟨z0, z1, z2, z3⟩ : W.frozen? ⟨g, 0, none⟩ = false ∧ W.frozen? ⟨g, 1, none⟩ = false ∧ W.frozen? ⟨g, 2, none⟩ = false ∧ W.frozen? ⟨g, 3, none⟩ = false := by
          refine ⟨?_, ?_, ?_, ?_⟩ <;> simp [World.frozen?, hh]
        have e1 := hI.h2
        clear hd
        simp only [Act.put] at hK
        rw [hx, hg] at hK ⊢
        refine (if_pos (by rfl)).mpr ?_
        generalize (ofL (nodes (one k x y c))).len = l0 at *
        generalize ((parF (-1) 0 (one k x y c)).map iv).length = l1 at *
        generalize ((sizF (one k x y c)).map iv).length = l2 at *
        generalize (kidI (one k x y c)).length = l3 at *
        go_simp
        exact hK.out undef _ ⟨hI.bel.trans (((((Below.refl _ _).setCell hg0 _).setCell hg0 _).setCell hg0 _).setCell hg0 _), (hI.ls (by omega)).1, (hI.ls (by omega)).2, hI.h1.fillF h0 hV hg (by decide) (by decide) (by decide) (by decide), hI.h2.fill hC hV hL (by decide) (by decide) (by decide) hx hg⟩
    case done =>
      intro L xv W hI hall a ha
      have hT1 : (one k x y c).size = c.size + 1 := one_size ..
      obtain ⟨s1, t1, _, ht1, P1, _⟩ := hI.h1.plan (hall 1 (by decide))
      obtain ⟨s2, t2, _, ht2, P2, _⟩ := hI.h2.plan (hall 3 (by decide))
      obtain ⟨g1, x4, _, hg1, _, V1, _⟩ := hI.h1.var (hall 4 (by decide))
      obtain ⟨g2, x5, _, hg2, _, V2, _⟩ := hI.h2.var (hall 5 (by decide))
      obtain ⟨va, vb, vc, vd, e1, h1⟩ := V1 (hall 6 (by decide))
      obtain ⟨va', vb', vc', vd', e2, h2⟩ := V2 (hall 7 (by decide))
      have h0 := hI.bel.size
      have hBW := hI.bel
      obtain ⟨N, hTN⟩ : ∃ N, c.size + 1 = N := ⟨_, rfl⟩
      rw [hTN] at hT1
      obtain ⟨aN, cN, bP, oP, cP, bS, oS, cS, bK, oK, cK, us, f1, rN, rP, rS, rK, rKK⟩ := plan_read P1 (fun b hb => by rcases hb with hb | hb <;> omega) hT1 (by omega)
      obtain ⟨aN', cN', bP', oP', cP', bS', oS', cS', bK', oK', cK', us', f2, rN', rP', rS', rK', rKK'⟩ := plan_read P2 (fun b hb => by rcases hb with hb | hb <;> omega) hT1 (by omega)
      obtain ⟨rfl, rfl, rfl, rfl⟩ := agg4_inj (e1.symm.trans f1)
      obtain ⟨rfl, rfl, rfl, rfl⟩ := agg4_inj (e2.symm.trans f2)
      have HY : Hid (∀ W', Below W.heap.size W W' → W'.cell? ⟨g1, 0, none⟩ = some (.slice aN N cN) ∧ W'.cell? ⟨g1, 1, none⟩ = some (.slice (some ⟨bP, oP, none⟩) N cP) ∧ W'.cell? ⟨g1, 2, none⟩ = some (.slice (some ⟨bS, oS, none⟩) N cS) ∧ W'.cell? ⟨g1, 3, none⟩ = some (.slice (some ⟨bK, oK, none⟩) N cK)) := fun W' hW => by
        have h := (hW.block g1 hg1).trans h1
        refine ⟨?_, ?_, ?_, ?_⟩ <;> simp [World.cell?, h]
      have HZ : Hid (∀ W', Below W.heap.size W W' → W'.cell? ⟨g2, 0, none⟩ = some (.slice aN' N cN') ∧ W'.cell? ⟨g2, 1, none⟩ = some (.slice (some ⟨bP', oP', none⟩) N cP') ∧ W'.cell? ⟨g2, 2, none⟩ = some (.slice (some ⟨bS', oS', none⟩) N cS') ∧ W'.cell? ⟨g2, 3, none⟩ = some (.slice (some ⟨bK', oK', none⟩) N cK')) := fun W' hW => by
        have h := (hW.block g2 hg2).trans h2
        refine ⟨?_, ?_, ?_, ?_⟩ <;> simp [World.cell?, h]
      have HPL : Hid (∀ W', Below W.heap.size W W' → PlanRd W' (Lo W'.heap.size) (one k x y c) (.agg #[.slice aN N cN, .slice (some ⟨bP, oP, none⟩) N cP, .slice (some ⟨bS, oS, none⟩) N cS, .slice (some ⟨bK, oK, none⟩) N cK])) := fun W' hW => by
        have := plan_later P1 (fun b hb => by rcases hb with hb | hb <;> omega) hW
        rwa [f1] at this
      have RN := Lib.hid rN; have RP := Lib.hid rP; have RS := Lib.hid rS; have RK := Lib.hid rK; have RKK := Lib.hid rKK
      have RN' := Lib.hid rN'; have RP' := Lib.hid rP'; have RS' := Lib.hid rS'; have RK' := Lib.hid rK'; have RKK' := Lib.hid rKK'
      have HT1 := Lib.hid hT1
      have HBW := Lib.hid (HB2.out.trans (hBW.mono HB2.out.size))
      have HTF := Lib.hid (HF1.out.later hBW)
      have HXW : Hid (∀ W', Below W.heap.size W W' → Below w0.heap.size w0 W') := fun W' hW => HB01.out.trans ((hBW.trans (hW.mono hBW.size)).mono HB01.out.size)
      have hN5 : N ≤ 1000 := by have := HN.out; omega
      have HKW := Lib.hid (HKN.out W (HPW.out.on HBW.out))
      simp only [fillA] at ha
      simp only [List.setIfInBounds_toArray, List.set_cons_succ, List.set_cons_zero, Nat.zero_add, Nat.reduceAdd] at ha
      rw [x4, x5] at ha
      subst ha
      clear hI hall P1 P2 V1 V2 e1 e2 f1 f2 h1 h2 h0 hBW hTN hT1 rN rP rS rK rKK rN' rP' rS' rK' rKK' ht1 ht2 hg1 hg2 x4 x5 HB2 HF1 HB01 HF HCO HCR HN HB1
      go_wp2_with fail
      refine HKW.out.mono ?_
      rintro e w4 ⟨rfl, hb⟩
      obtain ⟨y0, y1, y2, y3⟩ := HY.out w4 hb
      obtain ⟨z0, z1, z2, z3⟩ := HZ.out w4 hb
      have HW4 := Lib.hid hb
      have n0 : ((N : Int) != (N : Int)) = false := by simp
      have hr1 := refInts_any (some ⟨bP, oP, none⟩) (some ⟨bP', oP', none⟩) N N cP cP' _ _ w4 _ _ (RP.out w4 hb) (RP'.out w4 hb) (by rw [parF_len]; exact HT1.out) (by rw [parF_len]; exact HT1.out) (by omega)
      rw [decide_eq_true rfl] at hr1
      have HR1 := Lib.hid hr1
      clear hb hr1 HKW
      go_wp2_with fail
      refine HR1.out.mono ?_
      rintro e w5 ⟨rfl, hb⟩
      have HW5 := Lib.hid (HW4.out.trans (hb.mono HW4.out.size))
      clear y0 y1 y2 y3 z0 z1 z2 z3
      obtain ⟨y0, y1, y2, y3⟩ := HY.out w5 HW5.out
      obtain ⟨z0, z1, z2, z3⟩ := HZ.out w5 HW5.out
      have hr1 := refInts_any (some ⟨bS, oS, none⟩) (some ⟨bS', oS', none⟩) N N cS cS' _ _ w5 _ _ (RS.out w5 HW5.out) (RS'.out w5 HW5.out) (by rw [sizF_len]; exact HT1.out) (by rw [sizF_len]; exact HT1.out) (by omega)
      rw [decide_eq_true rfl] at hr1
      have HR2 := Lib.hid hr1
      clear hb hr1 HR1 HW4
      go_wp2_with fail
      refine HR2.out.mono ?_
      rintro e w6 ⟨rfl, hb⟩
      have HW6 := Lib.hid (HW5.out.trans (hb.mono HW5.out.size))
      clear y0 y1 y2 y3 z0 z1 z2 z3
      obtain ⟨y0, y1, y2, y3⟩ := HY.out w6 HW6.out
      obtain ⟨z0, z1, z2, z3⟩ := HZ.out w6 HW6.out
      clear hb HR2 HW5
      go_wp2
      clear y0 y1 y2 y3 z0 z1 z2 z3 n0
      go_loopw [5] (fun s5 wr => ∃ i : Nat, i ≤ N ∧ s5 = .int .i64 (i : Int) ∧ Hid (Below W.heap.size W wr)) (fun s _ => N - (intOf s).toNat)
      case atStart => exact ⟨0, Nat.zero_le _, rfl, HW6.out⟩
      case round =>
        obtain ⟨i, hi, rfl, HB⟩ := hrel
        obtain ⟨y0, y1, y2, y3⟩ := HY.out wr HB.out
        by_cases hlt : i < N
        · have hlt' : (i : Int) < (N : Int) := by omega
          have hi0 : (0 : Int) ≤ (i : Int) := by omega
          have HLT := Lib.hid hlt
          obtain ⟨⟨nk, nx, ny, nc⟩, hnd⟩ : ∃ nd, (nodes (one k x y c))[i]? = some nd := ⟨_, List.getElem?_eq_getElem (by rw [nodes_len, HT1.out]; exact hlt)⟩
          have hki := kidI_at (kidF_at _ 0 i _ hnd)
          obtain ⟨Ai, ci, hui, hri⟩ := RKK.out i _ hki
          obtain ⟨Ai', ci', hui', hri'⟩ := RKK'.out i _ hki
          have K0 := Lib.hid (fun W' h => RK.out W' h i _ hui)
          have K1 := Lib.hid (fun W' h => RK'.out W' h i _ hui')
          obtain ⟨bX, oX, sX, hX, hbX, atX⟩ := nds_at (RN.out wr HB.out) hnd
          obtain ⟨bY, oY, sY, hY, hbY, atY⟩ := nds_at (RN'.out wr HB.out) hnd
          obtain ⟨A1, C1, rfl, _, _⟩ := atX.kids.slice
          obtain ⟨A2, C2, rfl, _, _⟩ := atY.kids.slice
          have hnz : nc.size ≤ 1000 := by have h1 := nd_size_le _ i _ hnd; have h2 := HT1.out; simp only at h1; omega
          have HSAME : Hid (∀ W', Below wr.heap.size wr W' → Calls Tryd.prog 13 #[.agg #[.int .i64 nk, .string nx, .string ny, .slice A1 nc.len C1], .agg #[.int .i64 nk, .string nx, .string ny, .slice A2 nc.len C2]] W' fun e w' => e = .returned (.bool true) ∧ Below W'.heap.size W' w') := fun W' hW' => by
            have h := rsame_any nc.size nk nx ny A1 nc.len C1 nc nk nx ny A2 nc.len C2 nc W' (Nat.le_refl _) (by omega) (atX.kids.later hW') (atY.kids.later hW')
            rwa [sameT_refl] at h
          have hl5 : (ints (places (0 + i + 1) nc)).length ≤ 1000 := by unfold ints; rw [List.length_map, places_len]; have := F.len_le_size nc; omega
          have HINT : Hid (∀ W', Below W.heap.size W W' → Calls Tryd.prog 12 #[.slice Ai (ints (places (0 + i + 1) nc)).length ci, .slice Ai' (ints (places (0 + i + 1) nc)).length ci'] W' fun e w' => e = .returned (.bool true) ∧ Below W'.heap.size W' w') := fun W' hW' => by
            have h := refInts_any Ai Ai' _ _ ci ci' _ _ W' _ _ (hri W' hW') (hri' W' hW') rfl rfl (Nat.le_trans hl5 (by decide))
            rwa [decide_eq_true rfl] at h
          have HAX := Lib.hid atX; have HAY := Lib.hid atY; have HBX := Lib.hid hbX; have HBY := Lib.hid hbY
          generalize (ints (places (0 + i + 1) nc)).length = li at *
          generalize nc.len = l1 at *
          have hX' := Lib.hid hX; have hY' := Lib.hid hY
          clear hnd hki hui hui' hri hri' atX atY hbX hbY hnz hl5
          subst hX
          subst hY
          go_wp2
          clear y0 y1 y2 y3
          refine region_rel (TB) [Cd.is (.pointer (some ⟨g1, 0, none⟩)), Cd.is (.slice (some ⟨bX, oX, none⟩) N cN), Cd.is (.int .i64 (i : Int)), Cd.is (.pointer (some ⟨bX, oX + i * 4, none⟩)), Cd.is (.agg #[.int .i64 nk, .string nx, .string ny, .slice A1 l1 C1]), Cd.is (.pointer (some ⟨g2, 0, none⟩)), Cd.is (.slice (some ⟨bY, oY, none⟩) N cN'), Cd.is (.int .i64 (i : Int)), Cd.is (.pointer (some ⟨bY, oY + i * 4, none⟩)), Cd.is (.agg #[.int .i64 nk, .string nx, .string ny, .slice A2 l1 C2]), Cd.is (.bool true), Cd.is (.bool false), Cd.is (.bool false), Cd.is (.pointer (some ⟨g1, 3, none⟩)), Cd.is (.slice (some ⟨bK, oK, none⟩) N cK), Cd.is (.int .i64 (i : Int)), Cd.is (.pointer (some ⟨bK, oK + i, none⟩)), Cd.is (.slice Ai li ci), Cd.is (.pointer (some ⟨g2, 3, none⟩)), Cd.is (.slice (some ⟨bK', oK', none⟩) N cK'), Cd.is (.int .i64 (i : Int)), Cd.is (.pointer (some ⟨bK', oK' + i, none⟩)), Cd.is (.slice Ai' li ci'), Cd.is (.bool true), Cd.is (.bool false), Cd.is (.bool false)] (by kernel_rfl) (by decide) (by kernel_rfl) (Below.refl _ _) (fun _ _ _ h k => h.trans (k.mono h.size)) ?steps ?behind
          case steps =>
            intro xv W1 hW a ha
            replace hW := undrew hW
            simp only [fillA] at ha
            simp only [List.setIfInBounds_toArray, List.set_cons_succ, List.set_cons_zero, Nat.zero_add, Nat.reduceAdd] at ha
            subst ha
            refine ⟨fun hd K hK => ?s0, fun hd K hK => ?s1, fun hd K hK => ?s2, fun hd K hK => ?s3, fun hd K hK => ?s4, fun hd K hK => ?s5, fun hd K hK => ?s6, fun hd K hK => ?s7, fun hd K hK => ?s8, fun hd K hK => ?s9, fun hd K hK => ?s10, fun hd K hK => ?s11, fun hd K hK => ?s12, fun hd K hK => ?s13, fun hd K hK => ?s14, fun hd K hK => ?s15, fun hd K hK => ?s16, fun hd K hK => ?s17, fun hd K hK => ?s18, fun hd K hK => ?s19, fun hd K hK => ?s20, fun hd K hK => ?s21, fun hd K hK => ?s22, fun hd K hK => ?s23, fun hd K hK => ?s24, fun hd K hK => ?s25, trivial⟩
            case s0 =>
              clear hd
              simp only [Act.put, List.setIfInBounds_toArray, List.set_cons_succ, List.set_cons_zero] at hK
              refine (if_pos (by rfl)).mpr ?_
              go_simp
              exact hK.out _ _ (Below.refl _ _) rfl
            case s1 =>
              have hx0 : xv 0 = .pointer (some ⟨g1, 0, none⟩) := hd 0 (by kernel_rfl)
              clear hd
              simp only [Act.put, List.setIfInBounds_toArray, List.set_cons_succ, List.set_cons_zero] at hK
              rw [hx0] at hK ⊢
              refine (if_pos (by rfl)).mpr ?_
              obtain ⟨p0, p1, p2, p3⟩ := HY.out W1 (HB.out.trans (hW.mono HB.out.size))
              go_simp
              exact hK.out _ _ (Below.refl _ _) rfl
            case s2 =>
              clear hd
              simp only [Act.put, List.setIfInBounds_toArray, List.set_cons_succ, List.set_cons_zero] at hK
              refine (if_pos (by rfl)).mpr ?_
              go_simp
              exact hK.out _ _ (Below.refl _ _) rfl
            case s3 =>
              have hx1 : xv 1 = .slice (some ⟨bX, oX, none⟩) N cN := hd 1 (by kernel_rfl)
              have hx2 : xv 2 = .int .i64 (i : Int) := hd 2 (by kernel_rfl)
              clear hd
              simp only [Act.put, List.setIfInBounds_toArray, List.set_cons_succ, List.set_cons_zero] at hK
              rw [hx1] at hK ⊢
              rw [hx2] at hK ⊢
              refine (if_pos (by rfl)).mpr ?_
              go_simp
              exact hK.out _ _ (Below.refl _ _) rfl
            case s4 =>
              have hx3 : xv 3 = .pointer (some ⟨bX, oX + i * 4, none⟩) := hd 3 (by kernel_rfl)
              clear hd
              simp only [Act.put, List.setIfInBounds_toArray, List.set_cons_succ, List.set_cons_zero] at hK
              rw [hx3] at hK ⊢
              refine (if_pos (by rfl)).mpr ?_
              have e0 := (hW.cell (p := ⟨bX, oX + i * 4, none⟩) HBX.out).trans HAX.out.c0
              have e1 := (hW.cell (p := ⟨bX, oX + i * 4 + 1, none⟩) HBX.out).trans HAX.out.c1
              have e2 := (hW.cell (p := ⟨bX, oX + i * 4 + 2, none⟩) HBX.out).trans HAX.out.c2
              have e3 := (hW.cell (p := ⟨bX, oX + i * 4 + 3, none⟩) HBX.out).trans HAX.out.c3
              go_simp
              exact hK.out _ _ (Below.refl _ _) rfl
            case s5 =>
              clear hd
              simp only [Act.put, List.setIfInBounds_toArray, List.set_cons_succ, List.set_cons_zero] at hK
              refine (if_pos (by rfl)).mpr ?_
              go_simp
              exact hK.out _ _ (Below.refl _ _) rfl
            case s6 =>
              have hx5 : xv 5 = .pointer (some ⟨g2, 0, none⟩) := hd 5 (by kernel_rfl)
              clear hd
              simp only [Act.put, List.setIfInBounds_toArray, List.set_cons_succ, List.set_cons_zero] at hK
              rw [hx5] at hK ⊢
              refine (if_pos (by rfl)).mpr ?_
              obtain ⟨p0, p1, p2, p3⟩ := HZ.out W1 (HB.out.trans (hW.mono HB.out.size))
              go_simp
              exact hK.out _ _ (Below.refl _ _) rfl
            case s7 =>
              clear hd
              simp only [Act.put, List.setIfInBounds_toArray, List.set_cons_succ, List.set_cons_zero] at hK
              refine (if_pos (by rfl)).mpr ?_
              go_simp
              exact hK.out _ _ (Below.refl _ _) rfl
            case s8 =>
              have hx6 : xv 6 = .slice (some ⟨bY, oY, none⟩) N cN' := hd 6 (by kernel_rfl)
              have hx7 : xv 7 = .int .i64 (i : Int) := hd 7 (by kernel_rfl)
              clear hd
              simp only [Act.put, List.setIfInBounds_toArray, List.set_cons_succ, List.set_cons_zero] at hK
              rw [hx6] at hK ⊢
              rw [hx7] at hK ⊢
              refine (if_pos (by rfl)).mpr ?_
              go_simp
              exact hK.out _ _ (Below.refl _ _) rfl
            case s9 =>
              have hx8 : xv 8 = .pointer (some ⟨bY, oY + i * 4, none⟩) := hd 8 (by kernel_rfl)
              clear hd
              simp only [Act.put, List.setIfInBounds_toArray, List.set_cons_succ, List.set_cons_zero] at hK
              rw [hx8] at hK ⊢
              refine (if_pos (by rfl)).mpr ?_
              have e0 := (hW.cell (p := ⟨bY, oY + i * 4, none⟩) HBY.out).trans HAY.out.c0
              have e1 := (hW.cell (p := ⟨bY, oY + i * 4 + 1, none⟩) HBY.out).trans HAY.out.c1
              have e2 := (hW.cell (p := ⟨bY, oY + i * 4 + 2, none⟩) HBY.out).trans HAY.out.c2
              have e3 := (hW.cell (p := ⟨bY, oY + i * 4 + 3, none⟩) HBY.out).trans HAY.out.c3
              go_simp
              exact hK.out _ _ (Below.refl _ _) rfl
            case s10 =>
              have hx4 : xv 4 = .agg #[.int .i64 nk, .string nx, .string ny, .slice A1 l1 C1] := hd 4 (by kernel_rfl)
              have hx9 : xv 9 = .agg #[.int .i64 nk, .string nx, .string ny, .slice A2 l1 C2] := hd 9 (by kernel_rfl)
              clear hd
              simp only [Act.put, List.setIfInBounds_toArray, List.set_cons_succ, List.set_cons_zero] at hK
              rw [hx4] at hK ⊢
              rw [hx9] at hK ⊢
              refine (if_pos (by rfl)).mpr ?_
              go_simp
              go_at_call 13
              refine (HSAME.out W1 hW).mono ?_
              rintro e W' ⟨rfl, hb⟩
              exact hK.out _ _ hb rfl
            case s11 =>
              have hx10 : xv 10 = .bool true := hd 10 (by kernel_rfl)
              clear hd
              simp only [Act.put, List.setIfInBounds_toArray, List.set_cons_succ, List.set_cons_zero] at hK
              rw [hx10] at hK ⊢
              refine (if_pos (by rfl)).mpr ?_
              go_simp
              exact hK.out _ _ (Below.refl _ _) rfl
            case s12 =>
              have hx11 : xv 11 = .bool false := hd 11 (by kernel_rfl)
              clear hd
              simp only [Act.put, List.setIfInBounds_toArray, List.set_cons_succ, List.set_cons_zero] at hK
              rw [hx11] at hK ⊢
              refine (if_pos (by rfl)).mpr ?_
              go_simp
              exact hK.out _ _ (Below.refl _ _) rfl
            case s13 =>
              have hx12 : xv 12 = .bool false := hd 12 (by kernel_rfl)
              clear hd
              simp only [Act.put, List.setIfInBounds_toArray, List.set_cons_succ, List.set_cons_zero] at hK
              rw [hx12] at hK ⊢
              refine (if_pos (by rfl)).mpr ?_
              go_simp
              exact hK.out _ _ (Below.refl _ _) rfl
            case s14 =>
              have hx12 : xv 12 = .bool false := hd 12 (by kernel_rfl)
              have hx13 : xv 13 = .pointer (some ⟨g1, 3, none⟩) := hd 13 (by kernel_rfl)
              clear hd
              simp only [Act.put, List.setIfInBounds_toArray, List.set_cons_succ, List.set_cons_zero] at hK
              rw [hx12] at hK ⊢
              rw [hx13] at hK ⊢
              refine (if_pos (by rfl)).mpr ?_
              obtain ⟨p0, p1, p2, p3⟩ := HY.out W1 (HB.out.trans (hW.mono HB.out.size))
              go_simp
              exact hK.out _ _ (Below.refl _ _) rfl
            case s15 =>
              have hx12 : xv 12 = .bool false := hd 12 (by kernel_rfl)
              clear hd
              simp only [Act.put, List.setIfInBounds_toArray, List.set_cons_succ, List.set_cons_zero] at hK
              rw [hx12] at hK ⊢
              refine (if_pos (by rfl)).mpr ?_
              go_simp
              exact hK.out _ _ (Below.refl _ _) rfl
            case s16 =>
              have hx12 : xv 12 = .bool false := hd 12 (by kernel_rfl)
              have hx14 : xv 14 = .slice (some ⟨bK, oK, none⟩) N cK := hd 14 (by kernel_rfl)
              have hx15 : xv 15 = .int .i64 (i : Int) := hd 15 (by kernel_rfl)
              clear hd
              simp only [Act.put, List.setIfInBounds_toArray, List.set_cons_succ, List.set_cons_zero] at hK
              rw [hx12] at hK ⊢
              rw [hx14] at hK ⊢
              rw [hx15] at hK ⊢
              refine (if_pos (by rfl)).mpr ?_
              go_simp
              exact hK.out _ _ (Below.refl _ _) rfl
            case s17 =>
              have hx12 : xv 12 = .bool false := hd 12 (by kernel_rfl)
              have hx16 : xv 16 = .pointer (some ⟨bK, oK + i, none⟩) := hd 16 (by kernel_rfl)
              clear hd
              simp only [Act.put, List.setIfInBounds_toArray, List.set_cons_succ, List.set_cons_zero] at hK
              rw [hx12] at hK ⊢
              rw [hx16] at hK ⊢
              refine (if_pos (by rfl)).mpr ?_
              have hcc := K0.out W1 (HB.out.trans (hW.mono HB.out.size))
              go_simp
              exact hK.out _ _ (Below.refl _ _) rfl
            case s18 =>
              have hx12 : xv 12 = .bool false := hd 12 (by kernel_rfl)
              clear hd
              simp only [Act.put, List.setIfInBounds_toArray, List.set_cons_succ, List.set_cons_zero] at hK
              rw [hx12] at hK ⊢
              refine (if_pos (by rfl)).mpr ?_
              go_simp
              exact hK.out _ _ (Below.refl _ _) rfl
            case s19 =>
              have hx12 : xv 12 = .bool false := hd 12 (by kernel_rfl)
              have hx18 : xv 18 = .pointer (some ⟨g2, 3, none⟩) := hd 18 (by kernel_rfl)
              clear hd
              simp only [Act.put, List.setIfInBounds_toArray, List.set_cons_succ, List.set_cons_zero] at hK
              rw [hx12] at hK ⊢
              rw [hx18] at hK ⊢
              refine (if_pos (by rfl)).mpr ?_
              obtain ⟨p0, p1, p2, p3⟩ := HZ.out W1 (HB.out.trans (hW.mono HB.out.size))
              go_simp
              exact hK.out _ _ (Below.refl _ _) rfl
            case s20 =>
              have hx12 : xv 12 = .bool false := hd 12 (by kernel_rfl)
              clear hd
              simp only [Act.put, List.setIfInBounds_toArray, List.set_cons_succ, List.set_cons_zero] at hK
              rw [hx12] at hK ⊢
              refine (if_pos (by rfl)).mpr ?_
              go_simp
              exact hK.out _ _ (Below.refl _ _) rfl
            case s21 =>
              have hx12 : xv 12 = .bool false := hd 12 (by kernel_rfl)
              have hx19 : xv 19 = .slice (some ⟨bK', oK', none⟩) N cK' := hd 19 (by kernel_rfl)
              have hx20 : xv 20 = .int .i64 (i : Int) := hd 20 (by kernel_rfl)
              clear hd
              simp only [Act.put, List.setIfInBounds_toArray, List.set_cons_succ, List.set_cons_zero] at hK
              rw [hx12] at hK ⊢
              rw [hx19] at hK ⊢
              rw [hx20] at hK ⊢
              refine (if_pos (by rfl)).mpr ?_
              go_simp
              exact hK.out _ _ (Below.refl _ _) rfl
            case s22 =>
              have hx12 : xv 12 = .bool false := hd 12 (by kernel_rfl)
              have hx21 : xv 21 = .pointer (some ⟨bK', oK' + i, none⟩) := hd 21 (by kernel_rfl)
              clear hd
              simp only [Act.put, List.setIfInBounds_toArray, List.set_cons_succ, List.set_cons_zero] at hK
              rw [hx12] at hK ⊢
              rw [hx21] at hK ⊢
              refine (if_pos (by rfl)).mpr ?_
              have hcc := K1.out W1 (HB.out.trans (hW.mono HB.out.size))
              go_simp
              exact hK.out _ _ (Below.refl _ _) rfl
            case s23 =>
              have hx12 : xv 12 = .bool false := hd 12 (by kernel_rfl)
              have hx17 : xv 17 = .slice Ai li ci := hd 17 (by kernel_rfl)
              have hx22 : xv 22 = .slice Ai' li ci' := hd 22 (by kernel_rfl)
              clear hd
              simp only [Act.put, List.setIfInBounds_toArray, List.set_cons_succ, List.set_cons_zero] at hK
              rw [hx12] at hK ⊢
              rw [hx17] at hK ⊢
              rw [hx22] at hK ⊢
              refine (if_pos (by rfl)).mpr ?_
              go_simp
              go_at_call 12
              refine (HINT.out W1 (HB.out.trans (hW.mono HB.out.size))).mono ?_
              rintro e W' ⟨rfl, hb⟩
              exact hK.out _ _ hb rfl
            case s24 =>
              have hx12 : xv 12 = .bool false := hd 12 (by kernel_rfl)
              have hx23 : xv 23 = .bool true := hd 23 (by kernel_rfl)
              clear hd
              simp only [Act.put, List.setIfInBounds_toArray, List.set_cons_succ, List.set_cons_zero] at hK
              rw [hx12] at hK ⊢
              rw [hx23] at hK ⊢
              refine (if_pos (by rfl)).mpr ?_
              go_simp
              exact hK.out _ _ (Below.refl _ _) rfl
            case s25 =>
              have hx12 : xv 12 = .bool false := hd 12 (by kernel_rfl)
              have hx24 : xv 24 = .bool false := hd 24 (by kernel_rfl)
              clear hd
              simp only [Act.put, List.setIfInBounds_toArray, List.set_cons_succ, List.set_cons_zero] at hK
              rw [hx12] at hK ⊢
              rw [hx24] at hK ⊢
              refine (if_pos (by rfl)).mpr ?_
              go_simp
              exact hK.out _ _ (Below.refl _ _) rfl
          case behind =>
            intro xv W1 hW hx a ha
            replace hW := undrew hW
            simp only [fillA] at ha
            simp only [List.setIfInBounds_toArray, List.set_cons_succ, List.set_cons_zero, Nat.zero_add, Nat.reduceAdd] at ha
            subst ha
            have hx25 : xv 25 = .bool false := hx 25 (by decide)
            rw [hx25]
            have HBZ := Lib.hid (HB.out.trans (hW.mono HB.out.size))
            clear hx hW
            go_wp2
            go_roundw
            case rel => exact ⟨i + 1, (by have := HLT.out; omega), by go_num, HBZ.out⟩
            case measure => have := HLT.out; simp [intOf]; omega
        · obtain rfl : N = i := by omega
          have hlt' : ¬ (N : Int) < (N : Int) := by omega
          clear hlt
          go_wp2
          clear y0 y1 y2 y3
          refine region_rel (TB) [Cd.is (.agg #[.slice aN N cN, .slice (some ⟨bP, oP, none⟩) N cP, .slice (some ⟨bS, oS, none⟩) N cS, .slice (some ⟨bK, oK, none⟩) N cK]), cNode k x y c, Cd.is (.agg #[.int .i64 k, .string x, .string y, .slice A n C]), Cd.is (.bool true), Cd.is (.bool true), Cd.is (.agg #[.slice none 0 0, .slice none 0 0, .slice none 0 0, .slice none 0 0]), Cd.is (.agg #[.int .i64 0, .string ⟨#[]⟩, .string ⟨#[]⟩, .slice none 0 0]), Cd.is (.agg #[.int .i64 0, .string ⟨#[]⟩, .string ⟨#[]⟩, .slice none 0 0]), Cd.is (.bool true), Cd.is (.bool true), Cd.is (.bool true)] (by kernel_rfl) (by decide) (by kernel_rfl) (Below.refl _ _) (fun _ _ _ h k => h.trans (k.mono h.size)) ?steps ?behind
          case steps =>
            intro xv W1 hW a ha
            replace hW := undrew hW
            simp only [fillA] at ha
            simp only [List.setIfInBounds_toArray, List.set_cons_succ, List.set_cons_zero, Nat.zero_add, Nat.reduceAdd] at ha
            subst ha
            refine ⟨fun hd K hK => ?s0, fun hd K hK => ?s1, fun hd K hK => ?s2, fun hd K hK => ?s3, fun hd K hK => ?s4, fun hd K hK => ?s5, fun hd K hK => ?s6, fun hd K hK => ?s7, fun hd K hK => ?s8, fun hd K hK => ?s9, fun hd K hK => ?s10, trivial⟩
            case s0 =>
              clear hd
              simp only [Act.put, List.setIfInBounds_toArray, List.set_cons_succ, List.set_cons_zero] at hK
              refine (if_pos (by rfl)).mpr ?_
              obtain ⟨p0, p1, p2, p3⟩ := HY.out W1 (HB.out.trans (hW.mono HB.out.size))
              go_simp
              exact hK.out _ _ (Below.refl _ _) rfl
            case s1 =>
              have hx0 : xv 0 = .agg #[.slice aN N cN, .slice (some ⟨bP, oP, none⟩) N cP, .slice (some ⟨bS, oS, none⟩) N cS, .slice (some ⟨bK, oK, none⟩) N cK] := hd 0 (by kernel_rfl)
              clear hd
              simp only [Act.put, List.setIfInBounds_toArray, List.set_cons_succ, List.set_cons_zero] at hK
              rw [hx0] at hK ⊢
              refine (if_pos (by rfl)).mpr ?_
              go_simp
              go_at_call 14
              refine (HTT.out k x y c _ W1 (HPL.out W1 (HB.out.trans (hW.mono HB.out.size))) (by have := HT1.out; rw [one_size] at this; omega)).mono ?_
              rintro e W' ⟨hb, A7, n7, C7, rfl, hf7⟩
              exact hK.out _ _ hb ⟨A7, n7, C7, rfl, hf7.more fun b h => h.2⟩
            case s2 =>
              clear hd
              simp only [Act.put, List.setIfInBounds_toArray, List.set_cons_succ, List.set_cons_zero] at hK
              refine (if_pos (by rfl)).mpr ?_
              obtain ⟨p0, p1, p2, p3⟩ := HX.out W1 (HXW.out W1 (HB.out.trans (hW.mono HB.out.size)))
              go_simp
              exact hK.out _ _ (Below.refl _ _) rfl
            case s3 =>
              have hx2 : xv 2 = .agg #[.int .i64 k, .string x, .string y, .slice A n C] := hd 2 (by kernel_rfl)
              have hx1 : ∃ A7 n7 C7, (xv 1) = .agg #[.int .i64 k, .string x, .string y, .slice A7 n7 C7] ∧ Fs W1 (Lo W1.heap.size) (.slice A7 n7 C7) c := hd 1 (by kernel_rfl)
              clear hd
              simp only [Act.put, List.setIfInBounds_toArray, List.set_cons_succ, List.set_cons_zero] at hK
              rw [hx2] at hK ⊢
              refine (if_pos (by rfl)).mpr ?_
              obtain ⟨A7, n7, C7, e7, r7⟩ := hx1
              rw [e7] at hK ⊢
              go_simp
              go_at_call 13
              have hsm := rsame_any c.size k x y A7 n7 C7 c k x y A n C c W1 (Nat.le_refl _) (by have := HT1.out; rw [one_size] at this; omega) r7 (HTF.out.later (HB.out.trans (hW.mono HB.out.size)))
              rw [sameT_refl] at hsm
              refine hsm.mono ?_
              rintro e W' ⟨rfl, hb⟩
              exact hK.out _ _ hb rfl
            case s4 =>
              have hx3 : xv 3 = .bool true := hd 3 (by kernel_rfl)
              clear hd
              simp only [Act.put, List.setIfInBounds_toArray, List.set_cons_succ, List.set_cons_zero] at hK
              rw [hx3] at hK ⊢
              refine (if_pos (by rfl)).mpr ?_
              go_simp
              exact hK.out _ _ (Below.refl _ _) rfl
            case s5 =>
              have hx4 : xv 4 = .bool true := hd 4 (by kernel_rfl)
              clear hd
              simp only [Act.put, List.setIfInBounds_toArray, List.set_cons_succ, List.set_cons_zero] at hK
              rw [hx4] at hK ⊢
              refine (if_pos (by rfl)).mpr ?_
              go_simp
              exact hK.out _ _ (Below.refl _ _) rfl
            case s6 =>
              have hx4 : xv 4 = .bool true := hd 4 (by kernel_rfl)
              have hx5 : xv 5 = .agg #[.slice none 0 0, .slice none 0 0, .slice none 0 0, .slice none 0 0] := hd 5 (by kernel_rfl)
              clear hd
              simp only [Act.put, List.setIfInBounds_toArray, List.set_cons_succ, List.set_cons_zero] at hK
              rw [hx4] at hK ⊢
              rw [hx5] at hK ⊢
              refine (if_pos (by rfl)).mpr ?_
              go_simp
              go_at_call 14
              refine (HNN.out W1).mono ?_
              rintro e W' ⟨hb, rfl⟩
              exact hK.out _ _ hb rfl
            case s7 =>
              have hx4 : xv 4 = .bool true := hd 4 (by kernel_rfl)
              clear hd
              simp only [Act.put, List.setIfInBounds_toArray, List.set_cons_succ, List.set_cons_zero] at hK
              rw [hx4] at hK ⊢
              refine (if_pos (by rfl)).mpr ?_
              go_simp
              exact hK.out _ _ (Below.refl _ _) rfl
            case s8 =>
              have hx4 : xv 4 = .bool true := hd 4 (by kernel_rfl)
              have hx6 : xv 6 = .agg #[.int .i64 0, .string ⟨#[]⟩, .string ⟨#[]⟩, .slice none 0 0] := hd 6 (by kernel_rfl)
              have hx7 : xv 7 = .agg #[.int .i64 0, .string ⟨#[]⟩, .string ⟨#[]⟩, .slice none 0 0] := hd 7 (by kernel_rfl)
              clear hd
              simp only [Act.put, List.setIfInBounds_toArray, List.set_cons_succ, List.set_cons_zero] at hK
              rw [hx4] at hK ⊢
              rw [hx6] at hK ⊢
              rw [hx7] at hK ⊢
              refine (if_pos (by rfl)).mpr ?_
              go_simp
              go_at_call 13
              have hsm := rsame_any 0 0 ⟨#[]⟩ ⟨#[]⟩ none 0 0 .nil 0 ⟨#[]⟩ ⟨#[]⟩ none 0 0 .nil W1 (Nat.le_refl _) (by decide) (fs_empty _ _) (fs_empty _ _)
              rw [sameT_refl] at hsm
              refine hsm.mono ?_
              rintro e W' ⟨rfl, hb⟩
              exact hK.out _ _ hb rfl
            case s9 =>
              have hx4 : xv 4 = .bool true := hd 4 (by kernel_rfl)
              have hx8 : xv 8 = .bool true := hd 8 (by kernel_rfl)
              clear hd
              simp only [Act.put, List.setIfInBounds_toArray, List.set_cons_succ, List.set_cons_zero] at hK
              rw [hx4] at hK ⊢
              rw [hx8] at hK ⊢
              refine (if_pos (by rfl)).mpr ?_
              go_simp
              exact hK.out _ _ (Below.refl _ _) rfl
            case s10 =>
              have hx9 : xv 9 = .bool true := hd 9 (by kernel_rfl)
              clear hd
              simp only [Act.put, List.setIfInBounds_toArray, List.set_cons_succ, List.set_cons_zero] at hK
              rw [hx9] at hK ⊢
              refine (if_pos (by rfl)).mpr ?_
              go_simp
              exact hK.out _ _ (Below.refl _ _) rfl
          case behind =>
            intro xv W1 hW hx a ha
            replace hW := undrew hW
            simp only [fillA] at ha
            simp only [List.setIfInBounds_toArray, List.set_cons_succ, List.set_cons_zero, Nat.zero_add, Nat.reduceAdd] at ha
            subst ha
            have hx10 : xv 10 = .bool true := hx 10 (by decide)
            rw [hx10]
            have HBF := Lib.hid (HBW.out.trans ((HB.out.trans (hW.mono HB.out.size)).mono HBW.out.size))
            clear hx hW
            go_wp2
            go_ret
            exact ⟨rfl, HBF.out⟩
end Go.Proofs.YtmknghhgcecafaaDoor.Shape
