/-
  Layer 5 (tree): slices.Clone at a row of nodes: a row of the call's own, whose Kids are those of the row that came in.
-/
import Derived.Test.YtoecimgmghlfpaaDoorTreeOwnPut
namespace Go.Proofs.YtoecimgmghlfpaaDoor.Tree
open Go.ChangeShapes Go.WideShapes Go.ChangeAt Go.RowKit Mem
set_option linter.unusedVariables false

/-- append of nothing. -/
theorem app_nil (w : World) {ops : Array Oper} {rest : List Oper} {o : Oper} {a : Act} {Q : Exit → Act → World → Prop} (hgd : o.guard = none) (s x : Operand)
    (ho : o.op = .call { callee := .builtin .append, args := #[s, x], argTypes := #[22, 22] }) (B base : Nat) (v : Value) (L1 : List Nd) (ad : Addr) (c : Nat) (hs : a.eval s = v) (hx : a.eval x = .slice (some ad) 0 c)
    (h1 : OwnN w B base v L1) (hB : B ≤ base) (hbase : base ≤ w.heap.size) (hlen : L1.length ≤ 1000000)
    (h : ∀ v' w', OwnN w' B base v' L1 → Below base w w' → wpList Tryd.prog ops Q rest (a.put o.dst v') w') : wpList Tryd.prog ops Q (o :: rest) a w := by
  obtain ⟨i0, hi0, hz0, hz1, hz2⟩ := info_parts node_info
  obtain ⟨ps1, e1, ho1, hf1⟩ := h1
  refine wpList_append_own_at (P := Tryd.prog) w hgd s x 22 ho base 24 i0 (.agg #[.int .i64 0, .string ⟨#[]⟩, .string ⟨#[]⟩, .slice none 0 0]) 4 64 Tryd.underlying22 hi0 hz0 hz1 hz2 rfl (by decide) v L1.length _ hs ho1 ad 0 c [] hx rfl (fun j u hu => by simp at hu) (fun u hu => by cases hu) (by unfold maxLen; omega) (by omega) hbase fun v' w' r1 r2 _ _ => ?_
  have hbl : Below base w w' := (Below.refl _ _).grown r2 hbase (fun k hk => (ho1.lt k hk).1)
  exact h v' w' ⟨ps1, e1, by simpa using r1, fun p hp => (hf1 p hp).below hbl hB⟩ hbl

theorem OwnN.owns {w : World} {B base : Nat} {v : Value} {L : List Nd} (h : OwnN w B base v L) : OwnS w (Lo B) v L ∧ ∀ g, v.ownBlock = some g → base ≤ g := by
  obtain ⟨ps, e, ho, hf⟩ := h
  refine ⟨⟨ps, e, ⟨ho.1, ?_⟩, hf⟩, fun g hg => (ho.lt g hg).1⟩
  rcases ho.2 with h' | ⟨g, cap, cur, h1, h2, h3⟩
  · exact .inl h'
  · exact .inr ⟨g, cap, cur, h1, Nat.zero_le _, h3⟩
theorem ownN_empty (w : World) (B : Nat) : OwnN (w.alloc (.cells #[] 24)) B w.heap.size (.slice (some ⟨w.heap.size, 0, none⟩) 0 0) [] :=
  ⟨[], rfl, World.ownsRow_lit w #[] 0 (Nat.le_refl _) (Nat.zero_le _) rfl, fun p hp => by cases hp⟩

def ClonePost (B : Nat) (w : World) (c : F) (e : Ending) (w' : World) : Prop := Below w.heap.size w w' ∧ ∃ (Ar : Option Addr) (nr Cr : Nat), e = .returned (.slice Ar nr Cr) ∧ OwnS w' (Lo B) (.slice Ar nr Cr) (toL c) ∧ ∀ g, (Value.slice Ar nr Cr).ownBlock = some g → w.heap.size ≤ g

set_option maxRecDepth 100000 in
set_option maxHeartbeats 8000000 in
theorem clone_any (B : Nat) (A : Option Addr) (n C : Nat) (c : F) (w : World) (hf : Fs w (Lo B) (.slice A n C) c) (hBw : B ≤ w.heap.size) (hlen : c.len ≤ 1000000) :
    Calls Tryd.prog 24 #[.slice A n C] w fun e w' => ClonePost B w c e w' := by
  cases A with
  | none =>
    have hc : c = .nil := by
      cases c with
      | nil => rfl
      | cons k x y c r =>
        obtain ⟨b, off, n', C', s, e, _⟩ := hf
        injection e with e1 _ _
        cases e1
    subst hc
    obtain ⟨A', C', e, hC⟩ := hf
    injection e with e1 e2 e3
    subst e2
    have HB := Lib.hid (Below.refl w.heap.size w)
    clear e1 e3 hlen
    have hnil : ∀ W : World, (binOp .eql 22 (.slice none 0 C) (.slice none 0 0)).run Tryd.prog W = .ok (.bool true) W := fun _ => rfl
    go_enter Tryd.func24, Tryd.ntmps24
    go_wp2
    go_ret
    exact ⟨HB.out, none, 0, 0, rfl, OwnS.nil _ _, fun g e => by cases e⟩
  | some ad =>
    have b1 := below1 w (.cells #[] 24)
    have HO := Lib.hid (ownN_empty w B)
    have HB1 := Lib.hid b1
    obtain ⟨A', C', e, hnC, hCm⟩ := hf.slice
    injection e with e1 e2 e3
    have hn : n ≤ 1000000 := by omega
    have HSZ : Hid (w.heap.size ≤ (w.alloc (.cells #[] 24)).heap.size) := b1.size
    cases c with
    | nil =>
      have hn0 : n = 0 := e2
      subst hn0
      clear e1 e2 e3 hlen hf b1 hn hnC hCm
      have hnil : ∀ W : World, (binOp .eql 22 (.slice (some ad) 0 C) (.slice none 0 0)).run Tryd.prog W = .ok (.bool false) W := fun _ => rfl
      go_enter Tryd.func24, Tryd.ntmps24
      go_wp2_with (at_builtin; refine app_nil _ rfl _ _ rfl B w.heap.size _ [] ad C rfl rfl HO.out hBw HSZ.out (by simp) ?_)
      intro v3 w3 ho3 hb3
      obtain ⟨a3, c3, rfl, _, _⟩ := ho3.slice
      have HE := Lib.hid ho3.owns
      have HB3 := Lib.hid (HB1.out.trans hb3)
      clear ho3 hb3
      go_wp2
      go_ret
      exact ⟨HB3.out, a3, _, c3, rfl, HE.out.1, HE.out.2⟩
    | cons k x y c r =>
      have had : ∃ b off, ad = ⟨b, off, none⟩ := by
        obtain ⟨b, off, n', C', s, e, _⟩ := hf
        injection e with q1 _ _
        exact ⟨b, off, Option.some.inj q1⟩
      obtain ⟨b, off, rfl⟩ := had
      have HF := Lib.hid (hf.below b1 hBw)
      clear e1 e2 e3 hlen hf b1 hnC hCm
      have hnil : ∀ W : World, (binOp .eql 22 (.slice (some ⟨b, off, none⟩) n C) (.slice none 0 0)).run Tryd.prog W = .ok (.bool false) W := fun _ => rfl
      go_enter Tryd.func24, Tryd.ntmps24
      go_wp2_with (at_builtin; refine app_fs _ rfl _ _ rfl B w.heap.size _ [] _ b off n C rfl rfl HO.out HF.out hBw HSZ.out (by simpa using hn) ?_)
      intro v3 w3 ho3 hb3
      obtain ⟨a3, c3, rfl, _, _⟩ := ho3.slice
      have HE := Lib.hid ho3.owns
      have HB3 := Lib.hid (HB1.out.trans hb3)
      obtain ⟨m3, hm3⟩ : ∃ m, (toL (.cons k x y c r)).length = m := ⟨_, rfl⟩
      rw [hm3] at HE ⊢
      clear ho3 hb3 hm3
      go_wp2
      go_ret
      exact ⟨HB3.out, a3, _, c3, rfl, HE.out.1, HE.out.2⟩
end Go.Proofs.YtoecimgmghlfpaaDoor.Tree
