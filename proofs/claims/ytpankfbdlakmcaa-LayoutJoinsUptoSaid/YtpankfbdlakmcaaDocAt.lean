/-
  Layer 7 (doc): the closure that goes through a document: what it goes by: nodes in memory, the way down, what is still to be told, the function that takes pieces.
-/
import Derived.Test.YtpankfbdlakmcaaDocBack
import Derived.Test.YtpankfbdlakmcaaMemCall
import Derived.Sort.CutIn
import Derived.Deep.Cut
import Derived.Shelf.Abstract
namespace Go.Proofs.Ytpankfbdlakmcaa.Doc
open Go.ChangeShapes Go.WideShapes Go.ChangeAt Go.RowKit Mem
set_option linter.unusedVariables false

/-- A document's node at block b, place off. -/
structure NdAt (w : World) (b off : Nat) (nd : Nd) (s : Value) : Prop where
  db : Db w b
  c0 : w.cell? ⟨b, off, none⟩ = some (.int .i64 nd.k)
  c1 : w.cell? ⟨b, off + 1, none⟩ = some (.string nd.x)
  c2 : w.cell? ⟨b, off + 2, none⟩ = some s
  kids : Gs w (Db w) s nd.c
  ok : okN nd
section
variable {w w' : World} {b off : Nat} {nd : Nd} {s : Value} {B0 : Nat}
theorem NdAt.kept (h : NdAt w b off nd s) (hk : Kept B0 w w') : NdAt w' b off nd s := ⟨hk.db h.db, hk.dcell h.db h.c0, hk.dcell h.db h.c1, hk.dcell h.db h.c2, hk.ds h.kids, h.ok⟩
theorem NdAt.below (h : NdAt w b off nd s) (hk : Below w.heap.size w w') : NdAt w' b off nd s := h.kept (B0 := 0) (Kept.ofB hk)
theorem Gs.getN {A : Option Addr} {n C i : Nat} {f : G} {k : Int} {x : ByteArray} {c r : G} (h : Gs w (Db w) (.slice A n C) f) (hf : f.drop i = .cons k x c r) (hok : okG f) : ∃ b off s, A = some ⟨b, off, none⟩ ∧ i < n ∧ NdAt w b (off + i * 3) ⟨k, x, c⟩ s := by
  obtain ⟨b, off, s, hA, hb, hi, hat⟩ := h.at_ hf
  exact ⟨b, off, s, hA, hi, hb, hat.c0, hat.c1, hat.c2, hat.kids, (okG_drop hok hf).1⟩
theorem NdAt.form (h : NdAt w b off nd s) : ∃ A C, s = .slice A nd.c.len C ∧ nd.c.len ≤ C ∧ C ≤ 9223372036854775807 := h.kids.slice
end

/-- A place on the way down. -/
structure Lk where
  b : Nat
  off : Nat
  nd : Nd
  s : Value
def Lk.at (e : Lk) (w : World) : Prop := NdAt w e.b e.off e.nd e.s
def ad (e : Lk) : Addr := ⟨e.b, e.off, none⟩
/-- What is told behind a node's first part. -/
def tl (e : Lk) : List Pc := pcs (e.nd.c.drop 1) ++ cls e.nd.k
def backs : List Lk → List Pc
  | [] => []
  | e :: l => backs l ++ tl e
theorem backs_app : ∀ l m : List Lk, backs (l ++ m) = backs m ++ backs l
  | [], m => by simp [backs]
  | e :: l, m => by simp only [List.cons_append, backs, backs_app l m, List.append_assoc]
theorem backs_snoc (l : List Lk) (e : Lk) : backs (l ++ [e]) = tl e ++ backs l := by rw [backs_app]; simp [backs]
theorem backs_take {l : List Lk} {q : Nat} {e : Lk} (h : l[q]? = some e) : backs (l.take (q + 1)) = tl e ++ backs (l.take q) := by
  rw [List.take_add_one, h]
  exact backs_snoc _ _
theorem pcs1_node {k : Int} {x : ByteArray} {k' : Int} {x' : ByteArray} {c' r : G} : pcs1 ⟨k, x, .cons k' x' c' r⟩ = opn k ++ (pcs1 ⟨k', x', c'⟩ ++ (pcs r ++ cls k)) := by
  show one k x (r.len + 1) (pcs1 ⟨k', x', c'⟩ ++ pcs r) = _
  unfold one
  rw [if_neg (by omega)]
  simp only [List.append_assoc]
theorem pcs1_leaf {k : Int} {x : ByteArray} {c : G} (h : c.len = 0) : pcs1 ⟨k, x, c⟩ = if k = 0 then [] else [(k, x)] := by
  show one k x c.len (pcs c) = _
  unfold one
  rw [if_pos h]

/-- The function that takes pieces, one by one: what it holds (I) tells which it has taken; full: all that it may take. -/
structure Sink (B0 : Nat) (I : World → List Pc → Prop) (full : List Pc) (gto : Nat) (caps : Array Value) : Prop where
  keep : ∀ W W' pre, I W pre → QK W W' → I W' pre
  call : ∀ W pre p, I W pre → (∃ rest, pre ++ p :: rest = full) → Calls Try.prog gto (#[.agg #[.int .i64 p.1, .string p.2]] ++ caps) W fun e W' => e = .returned (.tuple #[]) ∧ I W' (pre ++ [p]) ∧ Kept B0 W W'
  enter : ∀ args w, (callFunc gto args).run Try.prog w = .ok (.enter gto args) w
/-- The variables of that function, and of the closure. -/
structure Bxs (gto : Nat) (caps : Array Value) (gt gg : Nat) (W : World) : Prop where
  b1 : W.heap[gt]? = some (Obj.cells #[.func (.func gto) #[] caps] 71 (0, 0))
  b2 : W.heap[gg]? = some (Obj.cells #[.func (.func 47) #[] #[.pointer (some ⟨gt, 0, none⟩), .pointer (some ⟨gg, 0, none⟩)]] 87 (0, 0))
/-- How far it is: l is still to be told of T. -/
def Pg (B0 : Nat) (I : World → List Pc → Prop) (w : World) (T l : List Pc) (W : World) : Prop := Kept B0 w W ∧ ∃ X, I W X ∧ X ++ l = T
section
variable {B0 gto gt gg : Nat} {I : World → List Pc → Prop} {full T l : List Pc} {caps : Array Value} {w W W' : World}
theorem Bxs.kept (h : Bxs gto caps gt gg W) (hk : Kept B0 W W') : Bxs gto caps gt gg W' := ⟨hk.obj h.b1 (by decide), hk.obj h.b2 (by decide)⟩
theorem Bxs.c1 (h : Bxs gto caps gt gg W) : W.cell? ⟨gt, 0, none⟩ = some (.func (.func gto) #[] caps) := by simp [World.cell?, h.b1]
theorem Bxs.c2 (h : Bxs gto caps gt gg W) : W.cell? ⟨gg, 0, none⟩ = some (.func (.func 47) #[] #[.pointer (some ⟨gt, 0, none⟩), .pointer (some ⟨gg, 0, none⟩)]) := by simp [World.cell?, h.b2]
theorem Pg.kept (h : Pg B0 I w T l W) : Kept B0 w W := h.1
theorem Pg.later (hS : Sink B0 I full gto caps) (h : Pg B0 I w T l W) (hb : Below W.heap.size W W') : Pg B0 I w T l W' := by
  obtain ⟨hk, X, h1, h2⟩ := h
  exact ⟨hk.later hb, X, hS.keep _ _ _ h1 (QK.ofB hb), h2⟩
theorem Pg.grown (hS : Sink B0 I full gto caps) (h : Pg B0 I w T l W) {row : Option Nat} (hg : W.grownBy W' row) (hr : ∀ r, row = some r → w.heap.size ≤ r) (hT : ∀ r cs T fz, row = some r → W.heap[r]? = some (Obj.cells cs T fz) → T = 88) : Pg B0 I w T l W' := by
  obtain ⟨hk, X, h1, h2⟩ := h
  exact ⟨hk.grown hg hr, X, hS.keep _ _ _ h1 (QK.grown hg hT), h2⟩
theorem Pg.own (hS : Sink B0 I full gto caps) {B : Nat} (hB : w.heap.size ≤ B) (h : Pg B0 I w T l W) {row : Option Nat} (hg : W.grownBy W' row) (hr : ∀ r, row = some r → B ≤ r ∧ ∃ o : Obj, W.heap[r]? = some o ∧ o.isCells = false) : Pg B0 I w T l W' :=
  h.grown hS hg (fun r e => Nat.le_trans hB (hr r e).1) (fun r cs T fz e ho => by
    obtain ⟨o, q1, q2⟩ := (hr r e).2
    rw [ho] at q1; cases q1; cases q2)
/-- One piece more. -/
theorem Sink.step (hS : Sink B0 I full gto caps) {rest : List Pc} (hf : T ++ rest = full) {k : Int} {x : ByteArray} (h : Pg B0 I w T ((k, x) :: l) W) :
    Calls Try.prog gto (#[.agg #[.int .i64 k, .string x]] ++ caps) W fun e W' => e = .returned (.tuple #[]) ∧ Pg B0 I w T l W' ∧ Kept B0 W W' := by
  obtain ⟨hk, X, h1, h2⟩ := h
  refine (hS.call W X (k, x) h1 ⟨l ++ rest, by rw [← hf, ← h2]; simp⟩).mono ?_
  rintro e W' ⟨he, hi, hk2⟩
  exact ⟨he, ⟨hk.trans hk2, X ++ [(k, x)], hi, by rw [← h2]; simp⟩, hk2⟩
end
/-- What the closure does, at all documents of at most N nodes. -/
def GSpec (B0 : Nat) (I : World → List Pc → Prop) (full : List Pc) (gto : Nat) (caps : Array Value) (gt gg N : Nat) : Prop :=
  ∀ (nd : Nd) (b off : Nat) (s : Value) (w : World) (X rest : List Pc), nsize nd ≤ N → NdAt w b off nd s → Bxs gto caps gt gg w → I w X → X ++ (pcs1 nd ++ rest) = full →
    Calls Try.prog 47 #[.pointer (some ⟨b, off, none⟩), .pointer (some ⟨gt, 0, none⟩), .pointer (some ⟨gg, 0, none⟩)] w fun e w' => e = .returned (.tuple #[]) ∧ I w' (X ++ pcs1 nd) ∧ Kept B0 w w'
section
variable {B0 gto gt gg N : Nat} {I : World → List Pc → Prop} {full T l : List Pc} {caps : Array Value} {w W W' : World}
theorem GSpec.step (hG : GSpec B0 I full gto caps gt gg N) {rest : List Pc} (hf : T ++ rest = full) {nd : Nd} {b off : Nat} {s : Value} (hn : nsize nd ≤ N) (ha : NdAt W b off nd s) (hb : Bxs gto caps gt gg W) (h : Pg B0 I w T (pcs1 nd ++ l) W) :
    Calls Try.prog 47 #[.pointer (some ⟨b, off, none⟩), .pointer (some ⟨gt, 0, none⟩), .pointer (some ⟨gg, 0, none⟩)] W fun e W' => e = .returned (.tuple #[]) ∧ Pg B0 I w T l W' ∧ Kept B0 W W' := by
  obtain ⟨hk, X, h1, h2⟩ := h
  refine (hG nd b off s W X (l ++ rest) hn ha hb h1 (by rw [← hf, ← h2]; simp)).mono ?_
  rintro e W' ⟨he, hi, hk2⟩
  exact ⟨he, ⟨hk.trans hk2, X ++ pcs1 nd, hi, by rw [← h2]; simp⟩, hk2⟩
end
section
variable {B0 gto gt gg : Nat} {I : World → List Pc → Prop} {full T l : List Pc} {caps : Array Value} {w W W' : World}
theorem QK.nd {b off : Nat} {nd : Nd} {s : Value} (h : NdAt W b off nd s) (hk : QK W W') : NdAt W' b off nd s := by
  have hb : ∀ b, Db W b → W'.heap[b]? = W.heap[b]? := fun b hb => by obtain ⟨cs, fz, e⟩ := hb; rw [e]; exact hk.block b cs _ fz e (by decide)
  have e := hb b h.db
  refine ⟨?_, (World.cell?_of_block (a := ⟨b, off, none⟩) e).trans h.c0, (World.cell?_of_block (a := ⟨b, off + 1, none⟩) e).trans h.c1, (World.cell?_of_block (a := ⟨b, off + 2, none⟩) e).trans h.c2, h.kids.db hb, h.ok⟩
  obtain ⟨cs, fz, q⟩ := h.db
  exact ⟨cs, fz, e.trans q⟩
theorem app_facts (hS : Sink B0 I full gto caps) {base n : Nat} {v u : Value} {vs : List Value} (hB : w.heap.size ≤ base) (hbw : base ≤ W.heap.size) (ho : W.ownsRow base 88 1 v n vs) (hp : Pg B0 I w T l W) (hg : (W.alloc (.cells #[u] 88)).grownBy W' v.ownBlock) : QK W W' ∧ Pg B0 I w T l W' := by
  have hb1 := (Below.refl W.heap.size W).alloc (Nat.le_refl _) (.cells #[u] 88)
  have ho1 := ho.alloc (.cells #[u] 88)
  have hT : ∀ r cs T fz, v.ownBlock = some r → (W.alloc (.cells #[u] 88)).heap[r]? = some (Obj.cells cs T fz) → T = 88 := fun r cs T fz e hr => by
    rcases ho1.2 with ⟨rfl, _⟩ | ⟨b, cap, cur, rfl, _, h2, _⟩
    · cases e
    · have e : b = r := by simpa [Value.ownBlock] using e
      subst e
      rw [h2] at hr
      cases hr
      rfl
  exact ⟨(QK.ofB hb1).trans (QK.grown hg hT), (hp.later hS hb1).grown hS hg (fun r e => Nat.le_trans hB (ho1.lt r e).1) hT⟩
end
/-- The end of a round that goes its way to its end. -/
def finP (Fin : World → Prop) : Exit → Act → World → Prop
  | .normal, _, W => Fin W
  | _, _, _ => False
/-- The variable of the slice that is gone through, and its row. -/
structure BR (g base m : Nat) (v : Value) (vs : List Value) (W : World) : Prop where
  box : W.heap[g]? = some (Obj.cells #[v] 89 (0, 0))
  own : W.ownsRow base 88 1 v m vs
section
variable {B0 g base m : Nat} {v : Value} {vs : List Value} {W W' : World}
theorem BR.kept (h : BR g base m v vs W) (hk : Kept B0 W W') : BR g base m v vs W' := ⟨hk.obj h.box (by decide), hk.own h.own⟩
theorem BR.nc (h : BR g base m v vs W) {row : Option Nat} (hg : W.grownBy W' row) (hr : ∀ r, row = some r → ∃ o : Obj, W.heap[r]? = some o ∧ o.isCells = false) : BR g base m v vs W' := by
  have hne : ∀ k cs T fz, W.heap[k]? = some (Obj.cells cs T fz) → W'.heap[k]? = some (Obj.cells cs T fz) := fun k cs T fz hk => (hg.block k (lt_of hk) (fun e => by
    obtain ⟨o, q1, q2⟩ := hr k e.symm
    rw [hk] at q1; cases q1; cases q2)).trans hk
  refine ⟨hne _ _ _ _ h.box, h.own.1, ?_⟩
  rcases h.own.2 with hn | ⟨b, cap, cur, e, h1, h2, h3⟩
  · exact .inl hn
  · exact .inr ⟨b, cap, cur, e, h1, hne _ _ _ _ h2, h3⟩
theorem BR.kp (h : BR g base m v vs W) (hk : Kept B0 W W') : KpB g v W W' := ⟨(hk.obj h.box (by decide)).trans h.box.symm, fun a ha => by
  rcases h.own.2 with ⟨rfl, _⟩ | ⟨b, cap, cur, rfl, _, h2, _⟩
  · cases ha
  · have e : b = a := by simpa [Value.ownBlock] using ha
    subst e
    exact (hk.obj h2 ptr_not).trans h2.symm⟩
theorem Kept.from (hk : Kept B0 W W') (B : Nat) : KeepsFrom B W W' := ⟨hk.size, fun k o _ h hc => hk.nc h hc⟩
theorem KpB.put {w : World} (hg : g < w.heap.size) (hv : ∀ a, v.ownBlock = some a → a < w.heap.size) (W : World) (l : Nat) (o o' : Obj) (hl : w.heap.size ≤ l) (_ : W.heap[l]? = some o) (_ : o.isCells = false) (_ : o.isWalk = false) : KpB g v W (W.putObj l o') :=
  ⟨World.putObj_heap_other (by omega), fun a ha => World.putObj_heap_other (by have := hv a ha; omega)⟩
end
theorem nothing_any (k : Int) (x : ByteArray) (A : Option Addr) (n C : Nat) (w : World) :
    Calls Try.prog 41 #[.agg #[.int .i64 k, .string x, .slice A n C]] w fun e w' => e = .returned (.bool (k == 0 && n == 0)) ∧ Below w.heap.size w w' := by
  have hb := (Below.refl w.heap.size w).alloc (Nat.le_refl _) (.cells #[.int .i64 k, .string x, .slice A n C] 32)
  by_cases hk : k = 0
  · subst hk
    by_cases hn : n = 0
    · subst hn
      go_enter Try.func41, Try.ntmps41
      go_wp2
      go_ret
      exact ⟨rfl, hb⟩
    · have h1 : ((n : Int) == 0) = false := by simpa using (show ¬ (n : Int) = 0 by omega)
      have h2 : (n == 0) = false := by simpa using hn
      rw [h2]
      go_enter Try.func41, Try.ntmps41
      go_wp2
      go_ret
      exact ⟨rfl, hb⟩
  · have h1 : (k == 0) = false := by simpa using hk
    rw [h1]
    go_enter Try.func41, Try.ntmps41
    go_wp2
    go_ret
    exact ⟨rfl, hb⟩
theorem tail_slice (b off n C : Nat) (hn : 1 ≤ n) (hC : n ≤ C) : ∃ A' n' C', (∀ W, (Instr.slice 30 (.slice (some ⟨b, off, none⟩) n C) (some (.int .i64 1)) none none).run Try.prog W = .ok (.slice A' n' C') W) ∧ n' = n - 1 ∧ C' = C - 1 ∧ (n - 1 = 0 ∨ A' = some ⟨b, off + 3, none⟩) := by
  have h2 : (1 : Int) ≤ (n : Int) := by omega
  refine ⟨if C = 1 then some ⟨b, off, none⟩ else some ⟨b, off + 3, none⟩, n - 1, C - 1, fun W => ?_, rfl, rfl, ?_⟩
  · rw [run_slice_l (P := Try.prog) W 30 _ n C (by kernel_rfl) .i64 1 (by omega) h2]
    have hs : (sizeOf (Try.prog.elem 30)).run Try.prog W = .ok 3 W := by kernel_rfl
    rw [hs]
    simp only [Result.andThen_ok, sliced, Addr.add]
    by_cases hc : C = 1 <;> simp [hc]
  · by_cases hc : C = 1
    · left; omega
    · right; rw [if_neg hc]
end Go.Proofs.Ytpankfbdlakmcaa.Doc
