/-
 Layer 4 (lex): the document's Tokens, at every slice of bytes up to a hundred thousand.
-/
import Derived.Test.YtaiihnniblibaaaGreatDoorJpL
import Derived.Test.YtaiihnniblibaaaGreatDoorJpJ
import Derived.Deep.RegionHeldLaw
namespace Go.Proofs.YtaiihnniblibaaaGreatDoor.Lex
open Go.ChangeShapes Go.WideShapes Go.ChangeAt Go.RowKit Utf MemT
set_option linter.unusedVariables false

theorem tokR_info : (Tryz.prog.info? 51).map (fun i => (i.zero, i.size, i.bytes)) = some (some (.agg #[.int .i64 0, .string ⟨#[]⟩, .int .i64 0, .bool false]), 4, 40) := by kernel_rfl

/-- Rows of the call's own: of the document's tokens, of integers. -/
def OwnR (w : World) (base : Nat) (v : Value) (L : List Tok) : Prop := w.ownsRow base 51 4 v L.length (L.flatMap tokC)
def OwnI (w : World) (base : Nat) (v : Value) (ks : List Int) : Prop := w.ownsRow base 3 1 v ks.length (ks.map (Value.int .i64))
theorem ownR_slice {w : World} {base : Nat} {v : Value} {L : List Tok} (h : OwnR w base v L) : ∃ a cap, v = .slice a L.length cap ∧ L.length ≤ cap ∧ cap ≤ maxLen := own_slice h
theorem ownI_slice {w : World} {base : Nat} {v : Value} {L : List Int} (h : OwnI w base v L) : ∃ a cap, v = .slice a L.length cap ∧ L.length ≤ cap ∧ cap ≤ maxLen := own_slice h
theorem ownR_base {w : World} {base base' : Nat} {v : Value} {L : List Tok} (h : OwnR w base v L) (hb : base' ≤ base) : OwnR w base' v L :=
 ⟨h.1, by
  rcases h.2 with h' | ⟨g, cap, cur, a, b, c⟩
  ·exact .inl h'
  ·exact .inr ⟨g, cap, cur, a, by omega, c⟩⟩

theorem app_tokR (w : World) {ops : Array Oper} {rest : List Oper} {o : Oper} {a : Act} {Q : Exit → Act → World → Prop} (hgd : o.guard = none) (s x : Operand)
  (ho : o.op = .call { callee := .builtin .append, args := #[s, x], argTypes := #[47, 47] }) (base : Nat) (v u : Value) (L : List Tok) (I : List Int) (t : Tok) (hs : a.eval s = v) (hown : OwnR w base v L) (hother : OwnI w base u I)
  (g : Nat) (hg : g = w.heap.size) (hx : a.eval x = .slice (some ⟨g, 0, none⟩) 1 1) (h63 : L.length ≤ 10000000) (hbase : base ≤ w.heap.size)
  (h : ∀ v' w', OwnR w' base v' (L ++ [t]) → OwnI w' base u I → Below base w w' → wpList Tryz.prog ops Q rest (a.put o.dst v') w') :
  wpList Tryz.prog ops Q (o :: rest) a (w.alloc (.cells (tokC t).toArray 51)) := by
 obtain ⟨i0, hi0, hz0, hz1, hz2⟩ := info_parts tokR_info
 refine app_cells w hgd s x ho Tryz.underlying47 hi0 hz0 hz1 hz2 rfl (by decide) base v L.length _ (tokC t) hs hown rfl (by intro u hu; simp [tokC] at hu; rcases hu with rfl | rfl | rfl | rfl <;> rfl) g hg hx h63 (by omega) hbase fun v' w' h1 h2 h3 h4 => ?_
 exact h v' w' (by unfold OwnR; rw [List.length_append, List.flatMap_append]; simpa using h1) ((hother.alloc _).kept h2 (own_apart hother hown (by decide))) (h3 base (fun b hb => (hown.lt b hb).1) hbase)

theorem app_intR (w : World) {ops : Array Oper} {rest : List Oper} {o : Oper} {a : Act} {Q : Exit → Act → World → Prop} (hgd : o.guard = none) (s x : Operand)
  (ho : o.op = .call { callee := .builtin .append, args := #[s, x], argTypes := #[61, 61] }) (base : Nat) (v u : Value) (L : List Tok) (I : List Int) (k : Int) (hs : a.eval s = v) (hown : OwnI w base v I) (hother : OwnR w base u L)
  (g : Nat) (hg : g = w.heap.size) (hx : a.eval x = .slice (some ⟨g, 0, none⟩) 1 1) (h63 : I.length ≤ 10000000) (hbase : base ≤ w.heap.size)
  (h : ∀ v' w', OwnI w' base v' (I ++ [k]) → OwnR w' base u L → Below base w w' → wpList Tryz.prog ops Q rest (a.put o.dst v') w') :
  wpList Tryz.prog ops Q (o :: rest) a (w.alloc (.cells #[.int .i64 k] 3)) := by
 obtain ⟨i0, hi0, hz0, hz1, hz2⟩ := info_parts int_info
 refine app_cells w hgd s x ho Tryz.underlying61 hi0 hz0 hz1 hz2 rfl (by decide) base v I.length _ [.int .i64 k] hs hown rfl (by intro u hu; simp at hu; subst hu; rfl) g hg hx h63 (by omega) hbase fun v' w' h1 h2 h3 h4 => ?_
 exact h v' w' (by unfold OwnI; rw [List.length_append, List.map_append]; simpa using h1) ((hother.alloc _).kept h2 (own_apart hother hown (by decide))) (h3 base (fun b hb => (hown.lt b hb).1) hbase)

/-- A new token's cells. -/
theorem tok_new (w : World) (t : Tok) : ∀ j u, (tokC t)[j]? = some u → ((w.alloc (.cells (tokC t).toArray 51)).drew).cell? ⟨w.heap.size, j, none⟩ = some u := fun j u hj => by
 have : (w.alloc (.cells (tokC t).toArray 51)).cell? ⟨w.heap.size, j, none⟩ = some u := by
  rw [World.cell?_alloc_at _ _ _ _ rfl]; simpa using hj
 exact this
/-- append of one token, as a step of a region that draws its order. -/
theorem step_app_tokR {ops : Array Oper} {o : Oper} {a : Act} {w : World} {K : Act → World → Prop} {Q : Exit → Act → World → Prop} {R : Prop} (hgd : o.guard = none) (s x : Operand)
  (ho : o.op = .call { callee := .builtin .append, args := #[s, x], argTypes := #[47, 47] }) (base : Nat) (v : Value) (L : List Tok) (t : Tok) (hs : a.eval s = v) (hown : OwnR w base v L)
  (g : Nat) (hx : a.eval x = .slice (some ⟨g, 0, none⟩) 1 1) (hcell : ∀ j u, (tokC t)[j]? = some u → w.cell? ⟨g, j, none⟩ = some u) (h63 : L.length ≤ 10000000) (hbase : base ≤ w.heap.size)
  (hK : ∀ v' w', OwnR w' base v' (L ++ [t]) → (∀ w0, Below base w0 w → Below base w0 w') → K (a.put o.dst v') w') :
  if Region.wanted o (yielded ops a.tmps) = true then Oper.wp Tryz.prog o a w K Q else R := by
 have hw : Region.wanted o (yielded ops a.tmps) = true := by simp [Region.wanted, hgd]
 rw [if_pos hw]
 obtain ⟨i0, hi0, hz0, hz1, hz2⟩ := info_parts tokR_info
 have hmul : (L.length + 1) * 40 ≤ 10000001 * 40 := Nat.mul_le_mul (by omega) (Nat.le_refl _)
 obtain ⟨v', w', hrun, h1, h2, h3⟩ := run_append_own_at (P := Tryz.prog) w base 47 o.type 51 i0 _ 4 40 Tryz.underlying47 hi0 hz0 hz1 hz2 rfl (by decide) v L.length _ hown ⟨g, 0, none⟩ 1 1 (tokC t) rfl (fun j u hj => by
  have e2 : (⟨g, 0, none⟩ : Addr).add j = ⟨g, j, none⟩ := by unfold Addr.add; split <;> simp_all
  rw [e2]; exact hcell j u hj) (by intro u hu; simp [tokC] at hu; rcases hu with rfl | rfl | rfl | rfl <;> rfl) (by unfold maxLen; omega) (by omega) hbase
 unfold Oper.wp
 simp [execOp, ho, resolve, invoke, builtin, hs, hx, hrun, Result.andThen]
 exact hK v' w' (by unfold OwnR; rw [List.length_append, List.flatMap_append]; simpa using h1) (fun w0 hb => hb.grown h2 hbase (fun q hq => (hown.lt q hq).1))

/-- What Tokens leaves. -/
def RefTPost (xs : List Int) (w : World) (e : Ending) (w' : World) : Prop :=
 ∃ v, e = .returned (.tuple #[v, .int .i64 (lexN xs : Int), .int .i64 (lexE xs)]) ∧ OwnR w' w.heap.size v (lexT xs) ∧ Below w.heap.size w w'
theorem refT_post {xs : List Int} {w w' : World} {v : Value} {nn : Int} {ee : Int} (h1 : nn = (lexN xs : Int)) (h2 : ee = lexE xs) (h3 : OwnR w' w.heap.size v (lexT xs)) (h4 : Below w.heap.size w w') :
  RefTPost xs w (.returned (.tuple #[v, .int .i64 nn, .int .i64 ee])) w' := ⟨v, by rw [h1, h2], h3, h4⟩

theorem ext_drop (xs : List Int) (hb : Byt xs) (a b : Nat) : (strOfNums xs).extract a b = strOfNums ((xs.drop a).take (b - a)) := by
 have : (strOfNums xs).extract a b = strOfNums (((nums (strOfNums xs)).drop a).take (b - a)) := by
  rw [← str_nums ((strOfNums xs).extract a b)]
  congr 1
  simp [nums, List.map_take, List.map_drop]
 rw [this, strOfNums_inj (nums_byt _) hb (str_nums _)]

/-- What the first walk holds. -/
def FI (wr : World) (B : Nat) (v8 v9 : Value) (P : List (Tok × Nat)) : Prop := OwnR wr B v8 (P.map (·.1)) ∧ OwnI wr B v9 (P.map fun x => (x.2 : Int))

end Go.Proofs.YtaiihnniblibaaaGreatDoor.Lex
