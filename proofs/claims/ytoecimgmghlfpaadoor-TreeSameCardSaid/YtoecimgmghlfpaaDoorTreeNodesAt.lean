/-
  Layer 5 (tree): the program's rows of a tree's nodes: the chain of first Kids, and what is still ahead; the variable that holds the row; what a call of the closure leaves.
-/
import Derived.Test.YtoecimgmghlfpaaDoorTreeCopy
namespace Go.Proofs.YtoecimgmghlfpaaDoor.Tree
open Go.ChangeShapes Go.WideShapes Go.ChangeAt Go.RowKit Mem
set_option linter.unusedVariables false

/-- The chain of first Kids below a node whose Kids are c, and all other nodes below it, from the deepest up. -/
def chF : F → List Nd
  | .nil => []
  | .cons k x y c _ => ⟨k, x, y, c⟩ :: chF c
def dnF : F → List Nd
  | .nil => []
  | .cons _ _ _ c r => dnF c ++ nodes r
theorem nodes_ch : ∀ c : F, nodes c = chF c ++ dnF c
  | .nil => rfl
  | .cons k x y c r => by simp only [nodes, chF, dnF, nodes_ch c, List.cons_append, List.append_assoc]
/-- The Kids of the chain's node number i (0: the node itself). -/
def subF : Nat → F → F
  | 0, c => c
  | _ + 1, .nil => .nil
  | i + 1, .cons _ _ _ c _ => subF i c
theorem subF_end : ∀ c : F, subF (chF c).length c = .nil
  | .nil => rfl
  | .cons k x y c r => subF_end c
theorem subF_cons : ∀ (i : Nat) (c : F), i < (chF c).length → ∃ k x y c' r, subF i c = .cons k x y c' r ∧ subF (i + 1) c = c'
  | i, .nil, h => by simp [chF] at h
  | 0, .cons k x y c r, _ => ⟨k, x, y, c, r, rfl, by cases c <;> rfl⟩
  | i + 1, .cons k x y c r, h => subF_cons i c (by simpa [chF] using h)
theorem chain_at : ∀ (i : Nat) (nd : Nd), i ≤ (chF nd.c).length → ∃ n', (nd :: chF nd.c)[i]? = some n' ∧ n'.c = subF i nd.c
  | 0, nd, _ => ⟨nd, rfl, rfl⟩
  | i + 1, nd, h => by
    cases hc : nd.c with
    | nil => rw [hc] at h; simp [chF] at h
    | cons k x y c r =>
      rw [hc] at h
      obtain ⟨n', h1, h2⟩ := chain_at i ⟨k, x, y, c⟩ (by simpa [chF] using h)
      exact ⟨n', by simpa [chF] using h1, h2⟩
theorem subF_size : ∀ (i : Nat) (c : F), (subF i c).size ≤ c.size
  | 0, c => Nat.le_refl _
  | i + 1, .nil => Nat.le_refl _
  | i + 1, .cons k x y c r => by have := subF_size i c; simp only [subF, F.size]; omega

/-- The blocks from one on and below another. -/
def Mi (B0 B : Nat) : Nat → Prop := fun b => B0 ≤ b ∧ b < B
theorem Fs.belowM {w w' : World} {B0 B n : Nat} {v : Value} {f : F} (h : Fs w (Mi B0 B) v f) (hb : Below n w w') (hB : B ≤ n) : Fs w' (Mi B0 B) v f :=
  h.keep fun b hb' => hb.block b (Nat.lt_of_lt_of_le hb'.2 hB)
/-- Block g is a variable that holds a row. -/
def BoxL (w : World) (g : Nat) (v : Value) : Prop := w.heap[g]? = some (.cells #[v] 22 (0, 0))
theorem BoxL.cell {w : World} {g : Nat} {v : Value} (h : BoxL w g v) : w.cell? ⟨g, 0, none⟩ = some v := by
  unfold BoxL at h; simp [World.cell?, h]
theorem BoxL.frz {w : World} {g : Nat} {v : Value} (h : BoxL w g v) : w.frozen? ⟨g, 0, none⟩ = false := by
  unfold BoxL at h; simp [World.frozen?, h]
theorem BoxL.lt {w : World} {g : Nat} {v : Value} (h : BoxL w g v) : g < w.heap.size := lt_of_block h
theorem BoxL.set {w : World} {g : Nat} {v : Value} (h : BoxL w g v) (u : Value) : BoxL (w.setCell ⟨g, 0, none⟩ u) g u := by
  have := set_at h 0 u
  unfold BoxL
  simpa using this

/-- All but the variable's block and the row's is as it was. -/
structure FRm (w W : World) (gl : Nat) (v : Value) : Prop where
  os : W.os = w.os
  tape : W.tape = w.tape
  output : W.output = w.output
  size : w.heap.size ≤ W.heap.size
  block : ∀ b, b < w.heap.size → b ≠ gl → some b ≠ v.ownBlock → W.heap[b]? = w.heap[b]?
/-- The row of one's own that the variable holds. -/
structure LAt (w : World) (B0 B gl ga : Nat) (v : Value) (L : List Nd) : Prop where
  box : BoxL w gl v
  own : OwnS w (Mi B0 B) v L
  d : ∀ g, v.ownBlock = some g → B ≤ g ∧ g ≠ gl ∧ g ≠ ga
  fn : w.cell? ⟨ga, 0, none⟩ = some (.func (.func 34) #[] #[.pointer (some ⟨gl, 0, none⟩), .pointer (some ⟨ga, 0, none⟩)])
  hB : B ≤ gl ∧ B ≤ ga ∧ gl ≠ ga ∧ B ≤ w.heap.size
  ha : ga < w.heap.size
/-- Behind a call that adds nodes. -/
structure AddP (w W : World) (B0 B gl ga : Nat) (v v' : Value) (L' : List Nd) : Prop where
  fr : FRm w W gl v
  at_ : LAt W B0 B gl ga v' L'
  nb : v'.ownBlock = v.ownBlock ∨ ∃ g, v'.ownBlock = some g ∧ w.heap.size ≤ g

section
variable {w W W' : World} {B0 B gl ga : Nat} {v v' v2 : Value} {L L' L2 : List Nd}
theorem FRm.refl (w : World) (gl : Nat) (v : Value) : FRm w w gl v := ⟨rfl, rfl, rfl, Nat.le_refl _, fun _ _ _ _ => rfl⟩
theorem FRm.below (h : Below w.heap.size w W) (gl : Nat) (v : Value) : FRm w W gl v := ⟨h.os, h.tape, h.output, h.size, fun b hb _ _ => h.block b hb⟩
theorem FRm.trans (h : FRm w W gl v) (h2 : FRm W W' gl v') (nb : v'.ownBlock = v.ownBlock ∨ ∃ g, v'.ownBlock = some g ∧ w.heap.size ≤ g) : FRm w W' gl v :=
  ⟨h2.os.trans h.os, h2.tape.trans h.tape, h2.output.trans h.output, Nat.le_trans h.size h2.size, fun b hb h1 h3 => (h2.block b (Nat.lt_of_lt_of_le hb h.size) h1 (fun e => by
    rcases nb with nb | ⟨g, nb, hg⟩
    · exact h3 (e.trans nb)
    · rw [nb] at e
      have := Option.some.inj e
      omega)).trans (h.block b hb h1 h3)⟩
theorem LAt.later (h : LAt w B0 B gl ga v L) (hb : Below w.heap.size w W) : LAt W B0 B gl ga v L :=
  ⟨(hb.block gl h.box.lt).trans h.box, h.own.later hb fun b hb' => Nat.lt_of_lt_of_le hb'.2 h.hB.2.2.2, h.d, (hb.cell (p := ⟨ga, 0, none⟩) h.ha).trans h.fn, ⟨h.hB.1, h.hB.2.1, h.hB.2.2.1, Nat.le_trans h.hB.2.2.2 hb.size⟩, Nat.lt_of_lt_of_le h.ha hb.size⟩
theorem AddP.refl (h : LAt w B0 B gl ga v L) : AddP w w B0 B gl ga v v L := ⟨FRm.refl _ _ _, h, .inl rfl⟩
theorem AddP.later (h : AddP w W B0 B gl ga v v' L') (hb : Below W.heap.size W W') : AddP w W' B0 B gl ga v v' L' :=
  ⟨h.fr.trans (FRm.below hb gl v') h.nb, h.at_.later hb, h.nb⟩
theorem AddP.trans (h : AddP w W B0 B gl ga v v' L') (h2 : AddP W W' B0 B gl ga v' v2 L2) : AddP w W' B0 B gl ga v v2 L2 :=
  ⟨h.fr.trans h2.fr h.nb, h2.at_, by
    rcases h2.nb with e | ⟨g, e, hg⟩
    · rw [e]; exact h.nb
    · exact .inr ⟨g, e, Nat.le_trans h.fr.size hg⟩⟩
/-- A block of the caller's own is as it was. -/
theorem AddP.keep (h : AddP w W B0 B gl ga v v' L') {b : Nat} (hb : b < w.heap.size) (h1 : b ≠ gl) (h2 : some b ≠ v.ownBlock) : W.heap[b]? = w.heap[b]? := h.fr.block b hb h1 h2
theorem FRm.lo (h : FRm w W gl v) (h0 : LAt w B0 B gl ga v L) {s : Value} {f : F} (hf : Fs w (Mi B0 B) s f) : Fs W (Mi B0 B) s f :=
  hf.keep fun b hb => by
    have hb' : b < B := hb.2
    have := h0.hB
    exact h.block b (by omega) (by omega) fun e => by have := (h0.d b e.symm).1; omega
theorem AddP.lo (h : AddP w W B0 B gl ga v v' L') (h0 : LAt w B0 B gl ga v L) {s : Value} {f : F} (hf : Fs w (Mi B0 B) s f) : Fs W (Mi B0 B) s f :=
  hf.keep fun b hb => by
    have hb' : b < B := hb.2
    have := h0.hB
    exact h.keep (by omega) (by omega) fun e => by have := (h0.d b e.symm).1; omega
end

/-- While one node is appended: q: has the node been written into the row? r: has the row been written into the variable? -/
structure PhA (w W : World) (B0 B gl ga : Nat) (v v' : Value) (L : List Nd) (nd : Nd) (q r : Bool) : Prop where
  fr : FRm w W gl v
  own : OwnS W (Mi B0 B) v' (L ++ [if q = true then nd else ⟨0, ⟨#[]⟩, ⟨#[]⟩, .nil⟩])
  box : BoxL W gl (if r = true then v' else v)
  d : ∀ g, v'.ownBlock = some g → B ≤ g ∧ g ≠ gl ∧ g ≠ ga
  nb : v'.ownBlock = v.ownBlock ∨ ∃ g, v'.ownBlock = some g ∧ w.heap.size ≤ g
  hB : B ≤ gl ∧ B ≤ W.heap.size
section
variable {w W W' : World} {B0 B gl ga : Nat} {v v' : Value} {L : List Nd} {nd : Nd} {q r : Bool}
theorem PhA.later (h : PhA w W B0 B gl ga v v' L nd q r) (hb : Below W.heap.size W W') : PhA w W' B0 B gl ga v v' L nd q r :=
  ⟨h.fr.trans (FRm.below hb gl v') h.nb, h.own.later hb fun b hb' => Nat.lt_of_lt_of_le hb'.2 h.hB.2, (hb.block gl h.box.lt).trans h.box, h.d, h.nb, h.hB.1, Nat.le_trans h.hB.2 hb.size⟩
/-- The append. -/
theorem PhA.start (h : LAt W B0 B gl ga v L) (hw : Below w.heap.size w W) (ho : OwnS W' (Mi B0 B) v' (L ++ [⟨0, ⟨#[]⟩, ⟨#[]⟩, .nil⟩])) (hg : W.grownBy W' v.ownBlock) (hv : v'.ownBlock = v.ownBlock ∨ v'.ownBlock = some W.heap.size) : PhA w W' B0 B gl ga v v' L nd false false := by
  have hgl := h.box.lt
  refine ⟨(FRm.below hw gl v).trans ⟨hg.os, hg.tape, hg.output, hg.size, fun b hb _ hne => hg.block b hb hne⟩ (.inl rfl), ho, (hg.block gl hgl fun e => (h.d gl e.symm).2.1 rfl).trans h.box, fun g e => ?_, ?_, h.hB.1, Nat.le_trans h.hB.2.2.2 hg.size⟩
  · rcases hv with hv | hv
    · exact h.d g (hv ▸ e)
    · rw [hv] at e
      obtain rfl := Option.some.inj e
      have := h.ha; have := h.hB
      exact ⟨by omega, by omega, by omega⟩
  · rcases hv with hv | hv
    · exact .inl hv
    · exact .inr ⟨_, hv, hw.size⟩
/-- The node is written. -/
theorem PhA.putN {g n c : Nat} {s : Value} (h : PhA w W B0 B gl ga v (.slice (some ⟨g, 0, none⟩) n c) L nd false r) (hf : Fs W (Mi B0 B) s nd.c) : PhA w (put4 W g L.length nd.k nd.x nd.y s) B0 B gl ga v (.slice (some ⟨g, 0, none⟩) n c) L nd true r := by
  have hg := put4_grown W g L.length nd.k nd.x nd.y s
  have hd := h.d g rfl
  have ho := h.own.put L.length (by simp) nd.k nd.x nd.y s nd.c hf (fun b hb => by
    have hb' : b < B := hb.2
    have := h.hB.2
    exact ⟨by omega, by omega⟩)
  rw [List.set_append_right _ _ (Nat.le_refl _), Nat.sub_self] at ho
  refine ⟨h.fr.trans (v' := .slice (some ⟨g, 0, none⟩) n c) ⟨hg.os, hg.tape, hg.output, hg.size, fun b hb _ hne => hg.block b hb hne⟩ h.nb, ho, (hg.block gl h.box.lt fun e => hd.2.1 (Option.some.inj e).symm).trans h.box, h.d, h.nb, h.hB.1, Nat.le_trans h.hB.2 hg.size⟩
/-- The variable is written. -/
theorem PhA.putL (h : PhA w W B0 B gl ga v v' L nd q false) : PhA w (W.setCell ⟨gl, 0, none⟩ v') B0 B gl ga v v' L nd q true := by
  have hg := set_grown W gl 0 v'
  refine ⟨⟨hg.os.trans h.fr.os, hg.tape.trans h.fr.tape, hg.output.trans h.fr.output, Nat.le_trans h.fr.size hg.size, fun b hb h1 h2 => (hg.block b (Nat.lt_of_lt_of_le hb h.fr.size) fun e => h1 (Option.some.inj e)).trans (h.fr.block b hb h1 h2)⟩, h.own.grown hg (.inr fun e => (h.d _ e).2.1 rfl) fun b hb => ?_, h.box.set v', h.d, h.nb, h.hB.1, Nat.le_trans h.hB.2 hg.size⟩
  have hb' : b < B := hb.2
  have := h.hB
  exact ⟨by omega, fun e => by have := Option.some.inj e; omega⟩
theorem PhA.form {ln : Nat} (h : PhA w W B0 B gl ga v v' L nd q r) (hl : L.length = ln) : ∃ g c, v' = .slice (some ⟨g, 0, none⟩) (ln + 1) c := by
  obtain ⟨a, c, e, _, _⟩ := h.own.slice
  have ho := h.own
  rw [e] at ho
  obtain ⟨g, s, e2, _⟩ := ho.at_ (i := L.length) (nd := if q = true then nd else ⟨0, ⟨#[]⟩, ⟨#[]⟩, .nil⟩) (by simp)
  exact ⟨g, c, by rw [e, e2, List.length_append, hl]; rfl⟩
theorem PhA.cells {g n c ln : Nat} (h : PhA w W B0 B gl ga v (.slice (some ⟨g, 0, none⟩) n c) L nd q r) (hl : L.length = ln) :
    (∃ k x y s, W.cell? ⟨g, ln * 4, none⟩ = some (.int .i64 k) ∧ W.cell? ⟨g, ln * 4 + 1, none⟩ = some (.string x) ∧ W.cell? ⟨g, ln * 4 + 2, none⟩ = some (.string y) ∧ W.cell? ⟨g, ln * 4 + 3, none⟩ = some s) ∧
    W.frozen? ⟨g, ln * 4, none⟩ = false ∧ W.frozen? ⟨g, ln * 4 + 1, none⟩ = false ∧ W.frozen? ⟨g, ln * 4 + 2, none⟩ = false ∧ W.frozen? ⟨g, ln * 4 + 3, none⟩ = false := by
  obtain ⟨g', s, e2, _, c0, c1, c2, c3, _⟩ := h.own.at_ (i := L.length) (nd := if q = true then nd else ⟨0, ⟨#[]⟩, ⟨#[]⟩, .nil⟩) (by simp)
  have e3 := Option.some.inj e2
  injection e3 with e4
  subst e4
  rw [hl] at c0 c1 c2 c3
  obtain ⟨ps, _, ho, _⟩ := h.own
  obtain ⟨_, _, e, _, _⟩ := own_slice' ho
  injection e with _ e2' _
  rw [← e2'] at ho
  exact ⟨⟨_, _, _, _, c0, c1, c2, c3⟩, ho.frozenAt _, ho.frozenAt _, ho.frozenAt _, ho.frozenAt _⟩
/-- The variable of the node is written anew. -/
theorem AddP.set4 {W0 : World} {g : Nat} {v0 v1 v2' v3 : Value} {L' : List Nd} (h : AddP W0 W B0 B gl ga v v' L') (hg : W0.heap.size ≤ g) (hB0 : B ≤ W0.heap.size) (hgl : g ≠ gl) (hga : g ≠ ga) (hgo : some g ≠ v'.ownBlock) : AddP W0 ((((W.setCell ⟨g, 0, none⟩ v0).setCell ⟨g, 1, none⟩ v1).setCell ⟨g, 2, none⟩ v2').setCell ⟨g, 3, none⟩ v3) B0 B gl ga v v' L' := by
  have hbb := box_below W g v0 v1 v2' v3
  have hoth := fun b (hb : b ≠ g) => set4_other W g b v0 v1 v2' v3 hb
  have hB := h.at_.hB
  refine ⟨⟨hbb.os.trans h.fr.os, hbb.tape.trans h.fr.tape, hbb.output.trans h.fr.output, Nat.le_trans h.fr.size hbb.size, fun b hb h1 h2 => (hoth b (by omega)).trans (h.fr.block b hb h1 h2)⟩, ⟨(hoth gl (Ne.symm hgl)).trans h.at_.box, ?_, h.at_.d, ?_, ⟨hB.1, hB.2.1, hB.2.2.1, Nat.le_trans hB.2.2.2 hbb.size⟩, Nat.lt_of_lt_of_le h.at_.ha hbb.size⟩, h.nb⟩
  · refine h.at_.own.grown ⟨hbb.os, hbb.tape, hbb.output, hbb.size, fun b _ hne => hoth b fun e => hne (by rw [e])⟩ (row := some g) (.inr (Ne.symm hgo)) fun b hb => ?_
    have hb' : b < B := hb.2
    have := h.fr.size
    have := h.at_.box.lt
    refine ⟨by omega, fun e => ?_⟩
    have := Option.some.inj e
    omega
  · exact (World.cell?_of_block (a := ⟨ga, 0, none⟩) (hoth ga (Ne.symm hga))).trans h.at_.fn
theorem PhA.done (h : PhA w W B0 B gl ga v v' L nd true true) (h0 : LAt w B0 B gl ga v L) : AddP w W B0 B gl ga v v' (L ++ [nd]) := by
  refine ⟨h.fr, ⟨h.box, h.own, h.d, ?_, ⟨h0.hB.1, h0.hB.2.1, h0.hB.2.2.1, h.hB.2⟩, Nat.lt_of_lt_of_le h0.ha h.fr.size⟩, h.nb⟩
  exact (World.cell?_of_block (a := ⟨ga, 0, none⟩) (h.fr.block ga h0.ha (Ne.symm h0.hB.2.2.1) fun e => (h0.d ga e.symm).2.2 rfl)).trans h0.fn
end
end Go.Proofs.YtoecimgmghlfpaaDoor.Tree
