/-
 Layer 6 (parse): appending onto the bytes of a literal; whether a node is such a remark.
-/
import Derived.Test.YtaiihnniblibaaaDoorJpA
import Derived.Test.YtaiihnniblibaaaDoorParseKnown
import Derived.ArgAppend
namespace Go.Proofs.YtaiihnniblibaaaDoor.Parse
open Go.ChangeShapes Go.WideShapes Go.ChangeAt Go.RowKit Tree MemT Mem Utf
set_option linter.unusedVariables false

set_option maxRecDepth 100000 in
theorem app_lit (w : World) {ops : Array Oper} {rest : List Oper} {o : Oper} {a : Act} {Q : Exit → Act → World → Prop} (hgd : o.guard = none) (s x : Operand)
  (ho : o.op = .call { callee := .builtin .append, args := #[s, x], argTypes := #[22, 22] }) (g n : Nat) (ys : List Int) (hs : a.eval s = .slice (some ⟨g, 0, none⟩) n n)
  (hys : RB w (g + 1) (some ⟨g, 0, none⟩) ys) (hyn : ys.length = n) (hg : g < w.heap.size) (hn1 : n ≤ 1000) (B : Nat) (A : Option Addr) (m c : Nat) (xs : List Int) (hx : a.eval x = .slice A m c) (hr : RB w B A xs) (hm : xs.length = m)
  (hsm : m ≤ 1000000)
  (h : ∀ A' c' w', n + m ≤ c' → c' ≤ maxLen → RB w' w'.heap.size A' (ys ++ xs) → Below w.heap.size w w' → wpList Tryd.prog ops Q rest (a.put o.dst (.slice A' (n + m) c')) w') :
  wpList Tryd.prog ops Q (o :: rest) a w := by
 obtain ⟨i0, hi0, hz0, hz1, hz2⟩ := info_parts u8_info
 by_cases hm0 : m = 0
 ·subst hm0
  have hnil : xs = [] := List.eq_nil_of_length_eq_zero hm
  subst hnil
  have hrun : (Builtin.append_ #[22, 22] o.type #[.slice (some ⟨g, 0, none⟩) n n, .slice A 0 c]).run Tryd.prog w = .ok (.slice (some ⟨g, 0, none⟩) n n) w := by
   cases A with
   | none => simp [Builtin.append_, run_underlying Tryd.underlying22, sizeOf, typeInfo, hi0, Builtin.lenOf, Builtin.firstCells, storeCells]
   | some ad =>
    have hf := run_firstCells_some (P := Tryd.prog) w i0.size 0 ad 0 c [] (by simp) (by intro j v hj; simp at hj)
    simp [Builtin.append_, run_underlying Tryd.underlying22, sizeOf, typeInfo, hi0, Builtin.lenOf, hf, storeCells]
  refine wpList_plain hgd fun K hK => ?_
  unfold Oper.wp execOp
  simp only [ho, resolve, invoke, builtin, Sem.run_bind, Sem.run_pure, Result.andThen_ok, List.map_toArray, List.map_cons, List.map_nil, hs, hx, hrun]
  exact hK _ _ (h (some ⟨g, 0, none⟩) n w (Nat.le_refl _) (by unfold maxLen; omega) (by rw [List.append_nil]; exact hys.more (by omega)) (Below.refl _ _))
 ·rcases hr.2 with e | ⟨b, off, rfl, hb, hc⟩
  ·subst e; exact absurd hm.symm hm0
  rcases hys.2 with e | ⟨b2, off2, e, _, hc2⟩
  ·subst e
   simp only [List.length_nil] at hyn
   subst hyn
   refine wpList_append_grows (P := Tryd.prog) w hgd s x 22 ho 5 i0 (.int .u8 0) 1 1 Tryd.underlying22 hi0 hz0 hz1 hz2 rfl (by decide) _ _ _ [] hs (by intro e; cases e) rfl (by intro b _ j u hj; simp at hj)
    _ m c (xs.map (Value.int .u8)) hx (by simp [hm]) ?_ ?_ (by omega) (by unfold maxLen; omega) (by omega) ?_
   ·intro j u hj
    have hj' : j < xs.length := by
     rcases Nat.lt_or_ge j xs.length with h' | h'
     ·exact h'
     ·rw [List.getElem?_eq_none (by simpa using h')] at hj; cases hj
    have e2 : (⟨b, off, none⟩ : Addr).add j = ⟨b, off + j, none⟩ := by unfold Addr.add; split <;> simp_all
    rw [e2, hc j hj']
    simpa [List.getD, hj'] using hj
   ·intro u hu
    simp only [List.mem_map] at hu
    obtain ⟨y, _, rfl⟩ := hu; rfl
   ·intro v' w' hown hgr
    obtain ⟨A', c', rfl, h1, h2⟩ := own_slice hown
    exact h A' c' w' h1 h2 (own_rb (xs := [] ++ xs) (by simpa using hown) (by simpa using hr.1)) ((Below.refl _ _).grown hgr (Nat.le_refl _) (by intro k hk; cases hk))
  ·injection e with e
   injection e with e1 e2
   subst e1; subst e2
   refine wpList_append_grows (P := Tryd.prog) w hgd s x 22 ho 5 i0 (.int .u8 0) 1 1 Tryd.underlying22 hi0 hz0 hz1 hz2 rfl (by decide) _ _ _ (ys.map (Value.int .u8)) hs (by intro e; cases e) (by simp [hyn]) ?_
    _ m c (xs.map (Value.int .u8)) hx (by simp [hm]) ?_ ?_ (by omega) (by unfold maxLen; omega) (by omega) ?_
   ·intro ad had j u hj
    injection had with had
    subst had
    have hj' : j < ys.length := by
     rcases Nat.lt_or_ge j ys.length with h' | h'
     ·exact h'
     ·rw [List.getElem?_eq_none (by simpa using h')] at hj; cases hj
    have e2 : (⟨g, 0, none⟩ : Addr).add j = ⟨g, 0 + j, none⟩ := by unfold Addr.add; split <;> simp_all
    rw [e2, hc2 j hj']
    simpa [List.getD, hj'] using hj
   ·intro j u hj
    have hj' : j < xs.length := by
     rcases Nat.lt_or_ge j xs.length with h' | h'
     ·exact h'
     ·rw [List.getElem?_eq_none (by simpa using h')] at hj; cases hj
    have e2 : (⟨b, off, none⟩ : Addr).add j = ⟨b, off + j, none⟩ := by unfold Addr.add; split <;> simp_all
    rw [e2, hc j hj']
    simpa [List.getD, hj'] using hj
   ·intro u hu
    simp only [List.mem_map] at hu
    obtain ⟨y, _, rfl⟩ := hu; rfl
   ·intro v' w' hown hgr
    obtain ⟨A', c', rfl, h1, h2⟩ := own_slice hown
    exact h A' c' w' h1 h2 (own_rb (by rw [List.map_append]; exact hown) (hys.1.append hr.1)) ((Below.refl _ _).grown hgr (Nat.le_refl _) (by intro k hk; cases hk))

set_option maxRecDepth 100000 in
set_option maxHeartbeats 4000000 in
/-- note: is a node such a remark? -/
theorem note_any (w : World) (k : Int) (x y : ByteArray) (A : Option Addr) (n C : Nat) (c : F) (s : ByteArray) (hf : Fs w (Lo w.heap.size) (.slice A n C) c) :
  Calls Tryd.prog 7 #[.agg #[.int .i64 k, .string x, .string y, .slice A n C], .string s] w fun e w' => SamePost (sameT k x y c 8 s ⟨#[]⟩ .nil) w e w' := by
 have hb : Below w.heap.size w (w.alloc (.cells #[.int .i64 k, .string x, .string y, .slice A n C] 26)) := (Below.refl _ _).alloc (Nat.le_refl _) _
 have HR := Lib.hid (rsame_any c.size k x y A n C c 8 s ⟨#[]⟩ none 0 0 .nil _ (Nat.le_refl _) (hf.later hb) ⟨none, 0, rfl, Nat.zero_le _⟩)
 have HB := Lib.hid hb
 clear hf hb
 go_enter Tryd.func7, Tryd.ntmps7
 go_wp2_with fail
 refine HR.out.mono ?_
 rintro e w1 ⟨rfl, hb1⟩
 go_wp2
 go_ret
 exact ⟨rfl, HB.out.trans (hb1.mono (by simp))⟩
end Go.Proofs.YtaiihnniblibaaaDoor.Parse
