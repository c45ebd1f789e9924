/-
  Layer 7 (doc): Join.
-/
import Derived.Test.YtpankfbdlakmcaaDocDel
namespace Go.Proofs.Ytpankfbdlakmcaa.Doc
open Go.ChangeShapes Go.WideShapes Go.ChangeAt Go.RowKit Mem
set_option linter.unusedVariables false

/-- Documents with one between any two. -/
def jn (by_ : Nd) : List Nd → List Nd
  | [] => []
  | a :: r => a :: r.flatMap fun d => [by_, d]
theorem jn_snoc (by_ d : Nd) : ∀ l : List Nd, l ≠ [] → jn by_ (l ++ [d]) = jn by_ l ++ [by_, d]
  | [], h => absurd rfl h
  | a :: r, _ => by simp [jn]
theorem jn_mem {by_ : Nd} {P : Nd → Prop} {l : List Nd} (hb : P by_) (hl : ∀ d ∈ l, P d) : ∀ d ∈ jn by_ l, P d := by
  cases l with
  | nil => intro d h; cases h
  | cons a r =>
    intro d h
    simp only [jn, List.mem_cons, List.mem_flatMap, List.not_mem_nil, or_false] at h
    rcases h with rfl | ⟨x, hx, rfl | rfl⟩
    · exact hl _ (List.mem_cons_self ..)
    · exact hb
    · exact hl _ (List.mem_cons_of_mem _ hx)
theorem jn_len (by_ : Nd) : ∀ l : List Nd, (jn by_ l).length ≤ 2 * l.length
  | [] => Nat.le_refl _
  | a :: r => by
    have : (r.flatMap fun d => [by_, d]).length = 2 * r.length := by
      induction r with
      | nil => rfl
      | cons b r ih => rw [List.flatMap_cons, List.length_append, ih]; simp; omega
    simp only [jn, List.length_cons, this]; omega
/-- A row of documents of one's own, in a world behind W2; its documents' parts lie in w. -/
structure JR (X : Nat → Prop) (w W2 : World) (B : Nat) (v : Value) (cur : List Nv) (W : World) : Prop where
  own : W.ownsRow B 32 3 v cur.length (cur.flatMap ndC)
  kids : ∀ p ∈ cur, Gs w (Dx X w) p.2 p.1.c
  bel : Below B W2 W
  big : B ≤ W.heap.size
section
variable {X : Nat → Prop} {w W2 W W' : World} {B : Nat} {v v' : Value} {cur : List Nv}
theorem JR.form (h : JR X w W2 B v cur W) : ∃ a c, v = .slice a cur.length c ∧ cur.length ≤ c ∧ c ≤ maxLen := by
  rcases h.own.2 with ⟨e, h0⟩ | ⟨g, cap, c, e, _, _, h3, h4, _⟩
  · exact ⟨none, 0, by rw [e, h0], by omega, by unfold maxLen; omega⟩
  · exact ⟨_, _, e, h3, h4⟩
theorem JR.later (h : JR X w W2 B v cur W) (hb : Below W.heap.size W W') : JR X w W2 B v cur W' := ⟨own_below' h.own hb, h.kids, h.bel.trans (hb.mono h.big), Nat.le_trans h.big hb.size⟩
theorem JR.add (h : JR X w W2 B v cur W) {k : Int} {x : ByteArray} {c : G} {s : Value} (hs : Gs w (Dx X w) s c) (hown : W'.ownsRow B 32 3 v' (cur.length + 1) (cur.flatMap ndC ++ [.int .i64 k, .string x, s]))
    (hbel : ∀ B', (∀ b, v.ownBlock = some b → B' ≤ b) → B' ≤ W.heap.size → Below B' W W') : JR X w W2 B v' (cur ++ [(⟨k, x, c⟩, s)]) W' := by
  have hb := hbel B (fun b hb => (h.own.lt b hb).1) h.big
  refine ⟨?_, fun p hp => ?_, h.bel.trans hb, Nat.le_trans h.big hb.size⟩
  · rw [List.length_append, List.length_singleton, List.flatMap_append]
    simpa [ndC] using hown
  · rcases List.mem_append.1 hp with hp | hp
    · exact h.kids p hp
    · rw [List.mem_singleton.1 hp]; exact hs
/-- The row as documents. -/
theorem JR.gs (h : JR X w W2 B v cur W) {R : Nat} (hR : w.heap.size ≤ R) (hRB : R < B) (hX : ∀ b, X b → b < w.heap.size) (hb : Below w.heap.size w W) {a : Option Addr} {C : Nat} (hv : v = .slice a cur.length C) : Gs W (Dx (fun b => X b ∨ b = R) W) (.slice a cur.length C) (ofL (cur.map (·.1))) := by
  have hk : ∀ p ∈ cur, Gs W (Dx (fun b => X b ∨ b = R) W) p.2 p.1.c := fun p hp => ((h.kids p hp).keep (fun b hb' => hb.block b hb'.1.lt)).more fun b hb' => by
    obtain ⟨⟨cs, fz, e⟩, hx⟩ := hb'
    have hlt := lt_of e
    refine ⟨⟨cs, fz, (hb.block b hlt).trans e⟩, ?_⟩
    rintro (h | h)
    · exact hx h
    · omega
  rcases h.own.2 with ⟨e, h0⟩ | hne
  · have hc : cur = [] := List.eq_nil_of_length_eq_zero h0
    subst hc
    rw [e] at hv
    injection hv with e1 e2 e3
    subst e1; subst e3
    exact ⟨none, 0, rfl, by omega⟩
  · obtain ⟨g, cap, c, e, _⟩ := hne
    have hne : Value.slice a cur.length C ≠ .slice none 0 0 := by rw [← hv, e]; intro h; cases h
    obtain ⟨g, rfl, hg, hnc, hcm, hrow⟩ := RowC.of_own (hv ▸ h.own) hne
    refine RowC.gs cur 0 cur.length C rfl hnc (by unfold maxLen at hcm; omega) ⟨⟨_, _, hrow.1.choose_spec⟩, ?_⟩ (fun i p hp => by simp only [Nat.zero_add]; exact hrow.2 i p hp) hk _ (.inr rfl)
    rintro (h | h)
    · have := hX _ h; omega
    · omega
end
theorem join_mid {X : Nat → Prop} {w W2 wr W w2 : World} {B : Nat} {a : Option Addr} {cc : Nat} {v' : Value} {cur : List Nv} {kb : Int} {xb : ByteArray} {cb : G} {sb : Value} {ca cd : Array Value} (h : JR X w W2 B (.slice a cur.length cc) cur W) (hs : Gs w (Dx X w) sb cb)
    (hown : w2.ownsRow B 32 3 v' (cur.length + 1) (cur.flatMap ndC ++ [.int .i64 kb, .string xb, sb])) (hgrow : (W.alloc (.cells ca 32)).grownBy w2 (Value.slice a cur.length cc).ownBlock) (hbel : ∀ B', (∀ b, (Value.slice a cur.length cc).ownBlock = some b → B' ≤ b) → B' ≤ W.heap.size → Below B' W w2)
    (hz : W.heap.size = wr.heap.size + 1) (hob : ∀ r, (Value.slice a cur.length cc).ownBlock = some r → r < wr.heap.size) (hx : W.heap[wr.heap.size]? = some (Obj.cells cd 32 (0, 0))) :
    JR X w W2 B v' (cur ++ [(⟨kb, xb, cb⟩, sb)]) w2 ∧ ∃ a2 c2, v' = .slice a2 (cur.length + 1) c2 ∧ w2.heap[wr.heap.size]? = some (Obj.cells cd 32 (0, 0)) := by
  have hj := h.add hs hown hbel
  obtain ⟨a2, c2, hv, _⟩ := hj.form
  rw [List.length_append, List.length_singleton] at hv
  refine ⟨hj, a2, c2, hv, ?_⟩
  have hb1 := (Below.refl W.heap.size W).alloc (Nat.le_refl _) (.cells ca 32)
  refine (hgrow.block wr.heap.size (by simp; omega) (fun e => ?_)).trans ((hb1.block _ (by omega)).trans hx)
  have := hob _ e.symm
  omega
theorem toL_get : ∀ {f : G} {i : Nat} {k : Int} {x : ByteArray} {c r : G}, f.drop i = .cons k x c r → (toL f)[i]? = some ⟨k, x, c⟩
  | .nil, i, k, x, c, r, h => by rw [G.drop_nil] at h; cases h
  | .cons k' x' c' r', 0, k, x, c, r, h => by
    simp only [G.drop, G.cons.injEq] at h
    obtain ⟨rfl, rfl, rfl, rfl⟩ := h
    rfl
  | .cons k' x' c' r', i + 1, k, x, c, r, h => by simp only [toL, List.getElem?_cons_succ]; exact toL_get (f := r') h
theorem fl_snoc (cur : List Nv) (p : Nv) : (cur ++ [p]).flatMap ndC = cur.flatMap ndC ++ [.int .i64 p.1.k, .string p.1.x, p.2] := by simp [ndC]
end Go.Proofs.Ytpankfbdlakmcaa.Doc
