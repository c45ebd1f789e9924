import Derived.Test.YtaiihnniblibaaaGreatDoorJpF
import Derived.Laws.OwnMore
import Derived.Test.YtaiihnniblibaaaGreatDoorJpE
import Derived.Deep.LoopGhost
import Derived.Test.YtaiihnniblibaaaGreatDoorParseDecl

/-
 Layer 6 (parse): rows of nodes of one's own, whose Kids lie in blocks of a set.
-/
namespace Go.Proofs.YtaiihnniblibaaaGreatDoor.Parse
open Go.ChangeShapes Go.WideShapes Go.ChangeAt Go.RowKit Tree MemT Mem
set_option linter.unusedVariables false

theorem ndCt_len (p : Nd × Value) : (ndC' p).length = 4 := rfl
theorem own_slice' {w : World} {base : Nat} {e : TypeId} {size n : Nat} {v : Value} {xs : List Value} (h : w.ownsRow base e size v n xs) : ∃ a c, v = .slice a n c ∧ n ≤ c ∧ c ≤ maxLen := by
 rcases h.2 with ⟨rfl, rfl⟩ | ⟨g, cap, cur, rfl, _, _, h1, h2, _⟩
 ·exact ⟨none, 0, rfl, Nat.le_refl _, Nat.zero_le _⟩
 ·exact ⟨_, _, rfl, h1, h2⟩


def OwnS (w : World) (S : Nat → Prop) (v : Value) (L : List Nd) : Prop :=
 ∃ ps : List (Nd × Value), ps.map (·.1) = L ∧ w.ownsRow 0 24 4 v L.length (ps.flatMap ndC') ∧ ∀ p ∈ ps, Fs w S p.2 p.1.c
theorem OwnS.nil (w : World) (S : Nat → Prop) : OwnS w S (.slice none 0 0) [] := ⟨[], rfl, World.ownsRow_nil _ _ _ _, fun p hp => by cases hp⟩
theorem OwnS.slice {w : World} {S : Nat → Prop} {v : Value} {L : List Nd} (h : OwnS w S v L) : ∃ a c, v = .slice a L.length c ∧ L.length ≤ c ∧ c ≤ maxLen := by
 obtain ⟨ps, _, ho, _⟩ := h
 exact own_slice' ho
theorem OwnS.lt {w : World} {S : Nat → Prop} {v : Value} {L : List Nd} (h : OwnS w S v L) {g : Nat} (hg : v.ownBlock = some g) : g < w.heap.size := by
 obtain ⟨ps, _, ho, _⟩ := h
 exact (ho.lt g hg).2
theorem OwnS.grown {w w' : World} {S : Nat → Prop} {v : Value} {L : List Nd} {row : Option Nat} (h : OwnS w S v L) (hg : w.grownBy w' row) (hne : v.ownBlock = none ∨ v.ownBlock ≠ row) (hS : ∀ b, S b → b < w.heap.size ∧ some b ≠ row) : OwnS w' S v L := by
 obtain ⟨ps, e, ho, hf⟩ := h
 exact ⟨ps, e, ho.kept hg hne, fun p hp => (hf p hp).keep fun b hb => hg.block b (hS b hb).1 (hS b hb).2⟩
theorem OwnS.more {w : World} {S S' : Nat → Prop} {v : Value} {L : List Nd} (h : OwnS w S v L) (hS : ∀ b, S b → S' b) : OwnS w S' v L := by
 obtain ⟨ps, e, ho, hf⟩ := h
 exact ⟨ps, e, ho, fun p hp => (hf p hp).more hS⟩
theorem grown_below {w w' : World} (h : Below w.heap.size w w') (row : Option Nat) : w.grownBy w' row := ⟨h.os, h.tape, h.output, h.size, fun k hk _ => h.block k hk⟩
theorem below_grown {w w' : World} {B : Nat} {row : Option Nat} (h : w.grownBy w' row) (hB : B ≤ w.heap.size) (hr : ∀ k, row = some k → B ≤ k) : Below B w w' :=
 ⟨h.os, h.tape, h.output, h.size, fun k hk => h.block k (Nat.lt_of_lt_of_le hk hB) (fun e => by have := hr k e.symm; omega)⟩
theorem OwnS.later {w w' : World} {S : Nat → Prop} {v : Value} {L : List Nd} (h : OwnS w S v L) (hb : Below w.heap.size w w') (hS : ∀ b, S b → b < w.heap.size) : OwnS w' S v L := by
 cases hv : v.ownBlock with
 | none => exact h.grown (grown_below hb none) (.inl hv) (fun b hbS => ⟨hS b hbS, by simp⟩)
 | some g => exact h.grown (grown_below hb none) (.inr (by simp [hv])) (fun b hbS => ⟨hS b hbS, by simp⟩)
/-- append of one node, that has just been laid, onto a row of one's own: the row's block alone may change, or a new one is laid. -/
theorem run_app_own (w : World) (ty : TypeId) (S : Nat → Prop) (v : Value) (L : List Nd) (b c : Nat) (nd : Nd) (s : Value)
  (hc : w.cell? ⟨b, 0, none⟩ = some (.int .i64 nd.k) ∧ w.cell? ⟨b, 1, none⟩ = some (.string nd.x) ∧ w.cell? ⟨b, 2, none⟩ = some (.string nd.y) ∧ w.cell? ⟨b, 3, none⟩ = some s) (h1 : OwnS w S v L) (h2 : Fs w S s nd.c)
  (hS : ∀ b, S b → b < w.heap.size ∧ some b ≠ v.ownBlock) (hlen : L.length ≤ 10000000) :
  ∃ v' w', (Builtin.append_ #[22, 22] ty #[v, .slice (some ⟨b, 0, none⟩) 1 c]).run Tryz.prog w = .ok v' w' ∧ OwnS w' S v' (L ++ [nd]) ∧ w.grownBy w' v.ownBlock ∧ (v'.ownBlock = v.ownBlock ∨ v'.ownBlock = some w.heap.size) := by
 obtain ⟨i0, hi0, hz0, hz1, hz2⟩ := nd_parts
 obtain ⟨ps, e1, ho, hf⟩ := h1
 obtain ⟨A2, C2, e2, _, _⟩ := h2.slice
 have hmul : (L.length + 1) * 64 ≤ 10000001 * 64 := Nat.mul_le_mul (by omega) (Nat.le_refl _)
 obtain ⟨v', w', hrun, r1, r2, _, r3⟩ := run_append_own_at (P := Tryz.prog) w 0 22 ty 24 i0 _ 4 64 Tryz.underlying22 hi0 hz0 hz1 hz2 rfl (by decide) v L.length _ ho ⟨b, 0, none⟩ 1 c (ndC' (nd, s)) rfl (fun j u hj => by
  have ad : (⟨b, 0, none⟩ : Addr).add j = ⟨b, j, none⟩ := by unfold Addr.add; split <;> simp_all
  rw [ad]
  match j, hj with
  | 0, hj => simp [ndC'] at hj; rw [← hj]; exact hc.1
  | 1, hj => simp [ndC'] at hj; rw [← hj]; exact hc.2.1
  | 2, hj => simp [ndC'] at hj; rw [← hj]; exact hc.2.2.1
  | 3, hj => simp [ndC'] at hj; rw [← hj]; exact hc.2.2.2
  | j + 4, hj => simp [ndC'] at hj) (by intro u hu; simp [ndC'] at hu; rcases hu with rfl | rfl | rfl | rfl <;> first | rfl | (rw [e2]; rfl)) (by unfold maxLen; omega) (by omega) (Nat.zero_le _)
 refine ⟨v', w', hrun, ⟨ps ++ [(nd, s)], by rw [List.map_append, e1]; rfl, by rw [List.length_append, List.flatMap_append]; simpa using r1, fun p hp => ?_⟩, r2, r3⟩
 rcases List.mem_append.1 hp with hp | hp
 ·exact (hf p hp).keep fun b hb => r2.block b (hS b hb).1 (hS b hb).2
 ·simp only [List.mem_singleton] at hp
  subst hp
  exact h2.keep fun b hb => r2.block b (hS b hb).1 (hS b hb).2
theorem wp_app_own {o : Oper} {a : Act} {w : World} {K : Act → World → Prop} {Q : Exit → Act → World → Prop} (s x : Operand)
  (ho : o.op = .call { callee := .builtin .append, args := #[s, x], argTypes := #[22, 22] }) (S : Nat → Prop) (v : Value) (L : List Nd) (b c : Nat) (nd : Nd) (sv : Value) (hs : a.eval s = v) (hx : a.eval x = .slice (some ⟨b, 0, none⟩) 1 c)
  (hc : w.cell? ⟨b, 0, none⟩ = some (.int .i64 nd.k) ∧ w.cell? ⟨b, 1, none⟩ = some (.string nd.x) ∧ w.cell? ⟨b, 2, none⟩ = some (.string nd.y) ∧ w.cell? ⟨b, 3, none⟩ = some sv) (h1 : OwnS w S v L) (h2 : Fs w S sv nd.c)
  (hS : ∀ b, S b → b < w.heap.size ∧ some b ≠ v.ownBlock) (hlen : L.length ≤ 10000000)
  (hK : ∀ v' w', OwnS w' S v' (L ++ [nd]) → w.grownBy w' v.ownBlock → (v'.ownBlock = v.ownBlock ∨ v'.ownBlock = some w.heap.size) → K (a.put o.dst v') w') : Oper.wp Tryz.prog o a w K Q := by
 obtain ⟨v', w', hrun, r1, r2, r3⟩ := run_app_own w o.type S v L b c nd sv hc h1 h2 hS hlen
 unfold Oper.wp
 simp [execOp, ho, resolve, invoke, builtin, hs, hx, hrun, Result.andThen]
 exact hK v' w' r1 r2 r3
theorem flat_set (p' : Nd × Value) : ∀ (ps : List (Nd × Value)) (i : Nat), i < ps.length →
  ((((ps.flatMap ndC').set (i * 4) (.int .i64 p'.1.k)).set (i * 4 + 1) (.string p'.1.x)).set (i * 4 + 2) (.string p'.1.y)).set (i * 4 + 3) p'.2 = (ps.set i p').flatMap ndC'
 | [], i, h => by simp at h
 | p :: ps, 0, h => by simp [ndC']
 | p :: ps, i + 1, h => by
  have ih := flat_set p' ps i (by simpa using h)
  have e : ∀ (j : Nat) (l : List Value) (u : Value), (ndC' p ++ l).set (4 + j) u = ndC' p ++ l.set j u := fun j l u => by
   rw [List.set_append, if_neg (by rw [ndCt_len]; omega), ndCt_len, show 4 + j - 4 = j by omega]
  rw [List.flatMap_cons, List.set_cons_succ, List.flatMap_cons, ← ih, show (i + 1) * 4 = 4 + i * 4 by omega, show 4 + i * 4 + 1 = 4 + (i * 4 + 1) by omega, show 4 + i * 4 + 2 = 4 + (i * 4 + 2) by omega, show 4 + i * 4 + 3 = 4 + (i * 4 + 3) by omega, e, e, e, e]

/-- One node of such a row. -/
theorem OwnS.at_ {w : World} {S : Nat → Prop} {A : Option Addr} {n c : Nat} {L : List Nd} (h : OwnS w S (.slice A n c) L) {i : Nat} {nd : Nd} (hi : L[i]? = some nd) :
  ∃ g s, A = some ⟨g, 0, none⟩ ∧ g < w.heap.size ∧ w.cell? ⟨g, i * 4, none⟩ = some (.int .i64 nd.k) ∧ w.cell? ⟨g, i * 4 + 1, none⟩ = some (.string nd.x) ∧ w.cell? ⟨g, i * 4 + 2, none⟩ = some (.string nd.y) ∧ w.cell? ⟨g, i * 4 + 3, none⟩ = some s ∧ Fs w S s nd.c := by
 obtain ⟨ps, h1, ho, hf⟩ := h
 have hlen : ps.length = L.length := by rw [← h1]; simp
 have hil : i < L.length := (List.getElem?_eq_some_iff.1 hi).1
 obtain ⟨p, hp⟩ : ∃ p, ps[i]? = some p := ⟨_, List.getElem?_eq_getElem (by omega)⟩
 have hpn : p.1 = nd := by
  have : (ps.map (·.1))[i]? = some p.1 := by rw [List.getElem?_map, hp]; rfl
  rw [h1, hi] at this
  exact (Option.some.inj this).symm
 rcases ho.2 with ⟨_, h0⟩ | ⟨g, cap, cur, hv, hg0, hg, q1, q2, q3, q4⟩
 ·omega
 ·injection hv with e1 e2 e3
  have hc := ho.cells (g := g) (by rw [e1]; rfl)
  have ad : ∀ j, (⟨g, 0, none⟩ : Addr).add j = ⟨g, j, none⟩ := fun j => by unfold Addr.add; split <;> simp_all
  have at_ : ∀ j u, (ndC' p)[j]? = some u → w.cell? ⟨g, i * 4 + j, none⟩ = some u := fun j u hu => by
   have := hc (i * 4 + j) u (MemT.flat_at (sz := 4) ndCt_len ps i p hp j u hu)
   rwa [ad] at this
  refine ⟨g, p.2, e1, lt_of_block hg, ?_, ?_, ?_, ?_, ?_⟩
  ·have := at_ 0 _ rfl; rwa [hpn] at this
  ·have := at_ 1 _ rfl; rwa [hpn] at this
  ·have := at_ 2 _ rfl; rwa [hpn] at this
  ·exact at_ 3 _ rfl
  ·have := hf p (List.mem_of_getElem? hp); rwa [hpn] at this

/-- The world with one node of block g written anew. -/
def put4 (w : World) (g i : Nat) (k : Int) (x y : ByteArray) (s : Value) : World := (((w.setCell ⟨g, i * 4, none⟩ (.int .i64 k)).setCell ⟨g, i * 4 + 1, none⟩ (.string x)).setCell ⟨g, i * 4 + 2, none⟩ (.string y)).setCell ⟨g, i * 4 + 3, none⟩ s
theorem put4_grown (w : World) (g i : Nat) (k : Int) (x y : ByteArray) (s : Value) : w.grownBy (put4 w g i k x y s) (some g) := by
 have hb : Below 0 w (put4 w g i k x y s) := by
  unfold put4
  exact ((((Below.refl 0 w).setCell (Nat.zero_le _) _).setCell (Nat.zero_le _) _).setCell (Nat.zero_le _) _).setCell (Nat.zero_le _) _
 refine ⟨hb.os, hb.tape, hb.output, hb.size, fun b _ hne => ?_⟩
 have hne' : b ≠ g := fun e => hne (by rw [e])
 unfold put4
 rw [Below.heap_setCell _ _ _ _ hne', Below.heap_setCell _ _ _ _ hne', Below.heap_setCell _ _ _ _ hne', Below.heap_setCell _ _ _ _ hne']
theorem OwnS.put {w : World} {S : Nat → Prop} {g n c : Nat} {L : List Nd} (h : OwnS w S (.slice (some ⟨g, 0, none⟩) n c) L) (i : Nat) (hi : i < L.length) (k : Int) (x y : ByteArray) (s : Value) (c' : F) (hf : Fs w S s c') (hS : ∀ b, S b → b < w.heap.size ∧ b ≠ g) :
  OwnS (put4 w g i k x y s) S (.slice (some ⟨g, 0, none⟩) n c) (L.set i ⟨k, x, y, c'⟩) := by
 obtain ⟨ps, e1, ho, hfs⟩ := h
 obtain ⟨a', c'', e, _, _⟩ := own_slice' ho
 injection e with _ e2 _
 subst e2
 have hlen : ps.length = L.length := by rw [← e1]; simp
 have r1 := (ho.stored (i * 4) (.int .i64 k)).1
 have r2 := (r1.stored (i * 4 + 1) (.string x)).1
 have r3 := (r2.stored (i * 4 + 2) (.string y)).1
 have r4 := (r3.stored (i * 4 + 3) s).1
 rw [flat_set (⟨k, x, y, c'⟩, s) ps i (by omega)] at r4
 have hg := put4_grown w g i k x y s
 have keep : ∀ {v : Value} {f : F}, Fs w S v f → Fs (put4 w g i k x y s) S v f := fun hv => hv.keep fun b hb => hg.block b (hS b hb).1 (fun e => (hS b hb).2 (Option.some.inj e))
 refine ⟨ps.set i (⟨k, x, y, c'⟩, s), by rw [List.map_set, e1], by rw [List.length_set]; exact r4, fun p hp => ?_⟩
 rcases List.mem_or_eq_of_mem_set hp with hp | rfl
 ·exact keep (hfs p hp)
 ·exact keep hf
end Go.Proofs.YtaiihnniblibaaaGreatDoor.Parse

/-
 Layer 6 (parse): slices.Contains at words.
-/
namespace Go.Proofs.YtaiihnniblibaaaGreatDoor.Parse
open Go.ChangeShapes Go.WideShapes Go.ChangeAt Go.RowKit Tree MemT Mem
set_option linter.unusedVariables false

/-- A slice of these words. -/
def WordsAt (w : World) (v : Value) (us : List ByteArray) : Prop := ∃ A C, v = .slice A us.length C ∧ us.length ≤ 100 ∧ (us = [] ∨ ∃ g, A = some ⟨g, 0, none⟩ ∧ ∀ j u, us[j]? = some u → w.cell? ⟨g, j, none⟩ = some (.string u))
def hasW (us : List ByteArray) (x : ByteArray) : Bool := us.any fun u => x.toList == u.toList
set_option maxHeartbeats 4000000 in
theorem index_any (us : List ByteArray) (v : Value) (x : ByteArray) (w : World) (h : WordsAt w v us) :
  Calls Tryz.prog 65 #[v, .string x] w fun e w' => (∃ r : Int, e = .returned (.int .i64 r) ∧ decide (0 ≤ r) = hasW us x) ∧ w' = w := by
 obtain ⟨A, C, rfl, hn, hc⟩ := h
 obtain ⟨n, hN⟩ : ∃ n, us.length = n := ⟨_, rfl⟩
 rw [hN] at hn ⊢
 have HC := Lib.hid hc
 clear hc
 go_enter Tryz.func65, Tryz.ntmps65
 go_wp2
 go_loopg [8] (n + 1) (fun p s8 wr => ∃ i : Nat, i ≤ n ∧ n - i < p ∧ s8 = .int .i64 (i : Int) ∧ wr = w ∧ Hid (hasW us x = hasW (us.drop i) x))
 case atStart => exact ⟨0, by omega, by omega, rfl, rfl, rfl⟩
 case round =>
  obtain ⟨i, hi, hp, rfl, rfl, HI⟩ := hrel
  by_cases hin : i < n
  ·have hlt : (i : Int) < (n : Int) := by omega
   have hex : ∃ u, us[i]? = some u := ⟨_, List.getElem?_eq_getElem (by omega)⟩
   obtain ⟨u, hu⟩ := hex
   have hd : us.drop i = u :: us.drop (i + 1) := by
    rw [List.drop_eq_getElem_cons (by omega)]
    congr 1
    have := List.getElem?_eq_getElem (l := us) (i := i) (by omega)
    rw [hu] at this
    exact (Option.some.inj this).symm
   have h1 : hasW (us.drop i) x = ((x.toList == u.toList) || hasW (us.drop (i + 1)) x) := by rw [hd]; rfl
   rcases HC.out with he | ⟨g, rfl, hg⟩
   ·rw [he] at hN; simp at hN; omega
   have hcell := hg i u hu
   clear hg
   obtain ⟨bb, hb⟩ : ∃ bb, (x.toList == u.toList) = bb := ⟨_, rfl⟩
   rw [hb] at h1
   have HB := Lib.hid hb
   cases bb with
   | true =>
    have hall : Hid (hasW us x = true) := by show _ = _; rw [HI.out, h1]; rfl
    clear h1 hd hu
    go_wp2
    go_ret
    have hr : decide ((0 : Int) ≤ (i : Int)) = hasW us x := by rw [hall.out]; simp
    exact ⟨⟨_, rfl, hr⟩, rfl⟩
   | false =>
    have hall : Hid (hasW us x = hasW (us.drop (i + 1)) x) := by show _ = _; rw [HI.out, h1]; rfl
    clear h1 hd hu
    go_wp2
    go_roundg (n - i)
    case rel => exact ⟨i + 1, by omega, by omega, by simp, rfl, hall⟩
    case measure => omega
  ·have hlt : ¬ (i : Int) < (n : Int) := by omega
   have hall : Hid (hasW us x = false) := by show _ = _; rw [HI.out, List.drop_eq_nil_of_le (by omega)]; rfl
   go_wp2
   go_ret
   have hr : decide ((0 : Int) ≤ -1) = hasW us x := by rw [hall.out]; rfl
   exact ⟨⟨_, rfl, hr⟩, rfl⟩
theorem contains_any (us : List ByteArray) (v : Value) (x : ByteArray) (w : World) (h : WordsAt w v us) :
  Calls Tryz.prog 46 #[v, .string x] w fun e w' => e = .returned (.bool (hasW us x)) ∧ w' = w := by
 have HI := Lib.hid (index_any us v x w h)
 obtain ⟨A, C, rfl, hn, hc⟩ := h
 generalize hasW us x = bb at HI ⊢
 clear hc
 go_enter Tryz.func46, Tryz.ntmps46
 go_wp2_with fail
 refine HI.out.mono ?_
 rintro e w' ⟨⟨r, rfl, hr⟩, rfl⟩
 go_wp2
 go_ret
 exact ⟨by rw [← hr]; simp, rfl⟩
end Go.Proofs.YtaiihnniblibaaaGreatDoor.Parse

/-
 Layer 6 (parse): a variable that holds a row of nodes, and how it grows by a node that is read.
-/
namespace Go.Proofs.YtaiihnniblibaaaGreatDoor.Parse
open Go.ChangeShapes Go.WideShapes Go.ChangeAt Go.RowKit Tree MemT Mem
set_option linter.unusedVariables false

/-- All below B0 but blocks P and V is as it was. -/
structure Bel2 (P V B0 X : Nat) (w w' : World) : Prop where
 os : w'.os = w.os
 tape : w'.tape = w.tape
 output : w'.output = w.output
 size : w.heap.size ≤ w'.heap.size
 block : ∀ b, b < w.heap.size → (b < B0 ∨ b = X) → b ≠ P → b ≠ V → w'.heap[b]? = w.heap[b]?
section
variable {P V B0 X : Nat} {w w' w2 : World}
theorem Bel2.refl (P V B0 X : Nat) (w : World) : Bel2 P V B0 X w w := ⟨rfl, rfl, rfl, Nat.le_refl _, fun _ _ _ _ _ => rfl⟩
theorem Bel2.of (h : Below w.heap.size w w') : Bel2 P V B0 X w w' := ⟨h.os, h.tape, h.output, h.size, fun b hb _ _ _ => h.block b hb⟩
theorem Bel2.bes (h : Bes P w w') : Bel2 P V B0 X w w' := ⟨h.os, h.tape, h.output, h.size, fun b hb _ h1 _ => h.block b hb h1⟩
theorem Bel2.trans (h : Bel2 P V B0 X w w') (k : Bel2 P V B0 X w' w2) : Bel2 P V B0 X w w2 :=
 ⟨k.os.trans h.os, k.tape.trans h.tape, k.output.trans h.output, Nat.le_trans h.size k.size, fun b hb h0 h1 h2 => (k.block b (Nat.lt_of_lt_of_le hb h.size) h0 h1 h2).trans (h.block b hb h0 h1 h2)⟩
theorem Bel2.undrew (h : Bel2 P V B0 X w.drew w') : Bel2 P V B0 X w w' := ⟨h.os, h.tape, h.output, h.size, h.block⟩
theorem Bel2.cell (h : Bel2 P V B0 X w w') {p : Addr} (hp : p.block < w.heap.size) (h0 : p.block < B0 ∨ p.block = X) (h1 : p.block ≠ P) (h2 : p.block ≠ V) : w'.cell? p = w.cell? p := World.cell?_of_block (w := w) (h.block p.block hp h0 h1 h2)
theorem Bel2.grown (h : w.grownBy w' (some V)) : Bel2 P V B0 X w w' := ⟨h.os, h.tape, h.output, h.size, fun b hb _ _ h2 => h.block b hb (fun e => h2 (Option.some.inj e))⟩
theorem Bel2.own {r : Option Nat} (h : w.grownBy w' r) (hr : ∀ g, r = some g → B0 ≤ g ∧ g ≠ X) : Bel2 P V B0 X w w' := ⟨h.os, h.tape, h.output, h.size, fun b hb h0 _ _ => h.block b hb (fun e => by have := hr b e.symm; omega)⟩
/-- Seen from a world in which V was not there. -/
theorem Bel2.back {w0 : World} (h0 : Bes P w0 w) (h : Bel2 P V B0 X w w') (hV : w0.heap.size ≤ V) (hB : w0.heap.size ≤ B0) : Bes P w0 w' :=
 ⟨h.os.trans h0.os, h.tape.trans h0.tape, h.output.trans h0.output, Nat.le_trans h0.size h.size, fun b hb hP => (h.block b (Nat.lt_of_lt_of_le hb h0.size) (.inl (by omega)) hP (by omega)).trans (h0.block b hb hP)⟩
end
theorem set_at {w : World} {g : Nat} {cs : Array Value} {T : TypeId} (h : w.heap[g]? = some (.cells cs T (0, 0))) (i : Nat) (v : Value) : (w.setCell ⟨g, i, none⟩ v).heap[g]? = some (.cells (cs.setIfInBounds i v) T (0, 0)) := by
 have hlt := lt_block h
 have h' : w.heap[g] = .cells cs T (0, 0) := by simpa [Array.getElem?_eq_getElem hlt] using h
 show (w.heap.modify g _)[g]? = _
 rw [Array.getElem?_eq_getElem (by simpa using hlt), Array.getElem_modify_self, h']
 simp
/-- Block V is a variable that holds a row. -/
def BoxL (w : World) (g : Nat) (v : Value) : Prop := w.heap[g]? = some (.cells #[v] 22 (0, 0))
theorem BoxL.cell {w : World} {g : Nat} {v : Value} (h : BoxL w g v) : w.cell? ⟨g, 0, none⟩ = some v := by
 unfold BoxL at h; simp [World.cell?, h]
theorem BoxL.frz {w : World} {g : Nat} {v : Value} (h : BoxL w g v) : w.frozen? ⟨g, 0, none⟩ = false := by
 unfold BoxL at h; simp [World.frozen?, h]
theorem BoxL.lt {w : World} {g : Nat} {v : Value} (h : BoxL w g v) : g < w.heap.size := lt_block h
theorem BoxL.set {w : World} {g : Nat} {v : Value} (h : BoxL w g v) (u : Value) : BoxL (w.setCell ⟨g, 0, none⟩ u) g u := by
 have := set_at h 0 u
 unfold BoxL
 simpa using this
theorem grown_set (w : World) (V : Nat) (u : Value) : w.grownBy (w.setCell ⟨V, 0, none⟩ u) (some V) := by
 have hb : Below 0 w (w.setCell ⟨V, 0, none⟩ u) := (Below.refl 0 w).setCell (Nat.zero_le _) _
 exact ⟨hb.os, hb.tape, hb.output, hb.size, fun b _ hne => Below.heap_setCell _ _ _ _ (fun e => hne (by rw [e]))⟩

def zN : Nd := ⟨0, ⟨#[]⟩, ⟨#[]⟩, .nil⟩
/-- Where Kids may lie: from B0 on, not in the row's own block. -/
def Kd (B0 : Nat) (W : World) (u : Value) : Nat → Prop := fun b => B0 ≤ b ∧ b < W.heap.size ∧ some b ≠ u.ownBlock
def NdK (B0 : Nat) (W : World) (u v : Value) (n : Nd) : Prop := ∃ A C, v = .agg #[.int .i64 n.k, .string n.x, .string n.y, .slice A n.c.len C] ∧ Fs W (Kd B0 W u) (.slice A n.c.len C) n.c
/-- The variable V holds the row v of the nodes L; the parser is at l. -/
structure FAt (P z d V B0 X : Nat) (l : List Tk) (v : Value) (L : List Nd) (W : World) : Prop where
 own : OwnS W (Kd B0 W v) v L
 lo : ∀ g, v.ownBlock = some g → B0 ≤ g ∧ g ≠ X
 box : BoxL W V v
 ps : PS W P z l d
 ne : P < B0 ∧ V < B0 ∧ P < V ∧ B0 ≤ W.heap.size ∧ X < W.heap.size
/-- While it grows: c: has the node been read? i: has the new row been laid? a: appended? e: addressed? q: the node written into the row? r: the row written into the variable? -/
structure FPh (P z d V B0 X : Nat) (l l2 : List Tk) (n : Nd) (v : Value) (L : List Nd) (c i a e q r : Bool) (x4 x6 x7 x8 : Value) (W : World) : Prop where
 own : OwnS W (Kd B0 W (bif a then x7 else v)) (bif a then x7 else v) (bif a then L ++ [bif q then n else zN] else L)
 lo : ∀ g, (bif a then x7 else v).ownBlock = some g → B0 ≤ g ∧ g ≠ X
 box : BoxL W V (bif r then x7 else v)
 ps : PS W P z (bif c then l2 else l) d
 nd : c = true → NdK B0 W (bif a then x7 else v) x4 n
 row : i = true → a = false → ∃ b, x6 = .slice (some ⟨b, 0, none⟩) 1 1 ∧ B0 ≤ b ∧ b < W.heap.size ∧ W.cell? ⟨b, 0, none⟩ = some (.int .i64 0) ∧ W.cell? ⟨b, 1, none⟩ = some (.string ⟨#[]⟩) ∧ W.cell? ⟨b, 2, none⟩ = some (.string ⟨#[]⟩) ∧ W.cell? ⟨b, 3, none⟩ = some (.slice none 0 0)
 at_ : e = true → ∀ g m C, x7 = .slice (some ⟨g, 0, none⟩) m C → x8 = .pointer (some ⟨g, L.length * 4, none⟩)
 ne : P < B0 ∧ V < B0 ∧ P < V ∧ B0 ≤ W.heap.size ∧ X < W.heap.size
 ord : (r = true → a = true) ∧ (e = true → a = true)
section
variable {P z d V B0 X : Nat} {l l2 : List Tk} {n : Nd} {v : Value} {L : List Nd} {c i a e q r : Bool} {x4 x6 x7 x8 : Value} {W W' : World} {u : Value} {K : List Nd}
/-- A row, and Kids, in a world in which one block below B0 alone, or none, has changed. -/
theorem own_low {k : Option Nat} (h : OwnS W (Kd B0 W u) u K) (lo : ∀ g, u.ownBlock = some g → B0 ≤ g) (hg : W.grownBy W' k) (hk : ∀ g, k = some g → g < B0) : OwnS W' (Kd B0 W' u) u K := by
 refine (h.grown (row := k) hg ?_ fun b hb => ⟨hb.2.1, fun e => by have := hk b e.symm; have := hb.1; omega⟩).more fun b hb => ⟨hb.1, Nat.lt_of_lt_of_le hb.2.1 hg.size, hb.2.2⟩
 cases hu : u.ownBlock with
 | none => exact .inl rfl
 | some g => exact .inr fun e => by have := hk g e.symm; have := lo g hu; omega
theorem ndk_low {k : Option Nat} {x : Value} (h : NdK B0 W u x n) (hg : W.grownBy W' k) (hk : ∀ g, k = some g → g < B0) : NdK B0 W' u x n := by
 obtain ⟨A, C, e, hf⟩ := h
 exact ⟨A, C, e, (hf.keep fun b hb => hg.block b hb.2.1 fun e => by have := hk b e.symm; have := hb.1; omega).more fun b hb => ⟨hb.1, Nat.lt_of_lt_of_le hb.2.1 hg.size, hb.2.2⟩⟩
theorem grown_none (hb : Below W.heap.size W W') : W.grownBy W' none := grown_below hb none
theorem bes_grown (hb : Bes P W W') : W.grownBy W' (some P) := ⟨hb.os, hb.tape, hb.output, hb.size, fun b h1 h2 => hb.block b h1 (fun e => h2 (by rw [e]))⟩
theorem FAt.bes (h : FAt P z d V B0 X l v L W) (hb : Bes P W W') (hps : PS W' P z l2 d) : FAt P z d V B0 X l2 v L W' :=
 ⟨own_low h.own (fun g e => (h.lo g e).1) (bes_grown hb) (fun g e => by obtain rfl := Option.some.inj e; exact h.ne.1), h.lo, (hb.block V h.box.lt (Nat.ne_of_gt h.ne.2.2.1)).trans h.box, hps, ⟨h.ne.1, h.ne.2.1, h.ne.2.2.1, Nat.le_trans h.ne.2.2.2.1 hb.size, Nat.lt_of_lt_of_le h.ne.2.2.2.2 hb.size⟩⟩
theorem FAt.later (h : FAt P z d V B0 X l v L W) (hb : Below W.heap.size W W') : FAt P z d V B0 X l v L W' := h.bes (Bes.of hb P) (h.ps.later hb)
theorem FPh.start (h : FAt P z d V B0 X l v L W) : FPh P z d V B0 X l l2 n v L false false false false false false x4 x6 x7 x8 W :=
 ⟨h.own, h.lo, h.box, h.ps, fun h => (by cases h), fun h => (by cases h), fun h => (by cases h), h.ne, ⟨fun h => (by cases h), fun h => (by cases h)⟩⟩
theorem FPh.later (h : FPh P z d V B0 X l l2 n v L c i a e q r x4 x6 x7 x8 W) (hb : Below W.heap.size W W') : FPh P z d V B0 X l l2 n v L c i a e q r x4 x6 x7 x8 W' := by
 refine ⟨own_low h.own (fun g e => (h.lo g e).1) (grown_none hb) (fun g e => by cases e), h.lo, (hb.block V h.box.lt).trans h.box, h.ps.later hb, fun hc => ndk_low (h.nd hc) (grown_none hb) (fun g e => by cases e), fun h1 h2 => ?_, h.at_, ⟨h.ne.1, h.ne.2.1, h.ne.2.2.1, Nat.le_trans h.ne.2.2.2.1 hb.size, Nat.lt_of_lt_of_le h.ne.2.2.2.2 hb.size⟩, h.ord⟩
 obtain ⟨b, e, hB, hl, c0, c1, c2, c3⟩ := h.row h1 h2
 exact ⟨b, e, hB, Nat.lt_of_lt_of_le hl hb.size, (hb.cell (p := ⟨b, 0, none⟩) hl).trans c0, (hb.cell (p := ⟨b, 1, none⟩) hl).trans c1, (hb.cell (p := ⟨b, 2, none⟩) hl).trans c2, (hb.cell (p := ⟨b, 3, none⟩) hl).trans c3⟩
/-- The node is read. -/
theorem FPh.call {v4 : Value} (h : FPh P z d V B0 X l l2 n v L false i a e q r x4 x6 x7 x8 W) (hv : NV W W' v4 n) (hps : PS W' P z l2 d) (hb : Bes P W W') : FPh P z d V B0 X l l2 n v L true i a e q r v4 x6 x7 x8 W' := by
 refine ⟨own_low h.own (fun g e => (h.lo g e).1) (bes_grown hb) (fun g e => by obtain rfl := Option.some.inj e; exact h.ne.1), h.lo, (hb.block V h.box.lt (Nat.ne_of_gt h.ne.2.2.1)).trans h.box, hps, fun _ => ?_, fun h1 h2 => ?_, h.at_, ⟨h.ne.1, h.ne.2.1, h.ne.2.2.1, Nat.le_trans h.ne.2.2.2.1 hb.size, Nat.lt_of_lt_of_le h.ne.2.2.2.2 hb.size⟩, h.ord⟩
 ·obtain ⟨A, C, e, hf⟩ := hv
  refine ⟨A, C, e, hf.more fun b hb' => ⟨Nat.le_trans h.ne.2.2.2.1 hb'.1, hb'.2, fun e => ?_⟩⟩
  have := h.own.lt e.symm
  have := hb'.1
  omega
 ·obtain ⟨b, e, hB, hl, c0, c1, c2, c3⟩ := h.row h1 h2
  have hne : b ≠ P := by have := h.ne.1; omega
  exact ⟨b, e, hB, Nat.lt_of_lt_of_le hl hb.size, (hb.cell (p := ⟨b, 0, none⟩) hl hne).trans c0, (hb.cell (p := ⟨b, 1, none⟩) hl hne).trans c1, (hb.cell (p := ⟨b, 2, none⟩) hl hne).trans c2, (hb.cell (p := ⟨b, 3, none⟩) hl hne).trans c3⟩
/-- The new row is laid. -/
theorem FPh.lay (h : FPh P z d V B0 X l l2 n v L c false a e q r x4 x6 x7 x8 W) : FPh P z d V B0 X l l2 n v L c true a e q r x4 (.slice (some ⟨W.heap.size, 0, none⟩) 1 1) x7 x8 (W.alloc (.cells #[.int .i64 0, .string ⟨#[]⟩, .string ⟨#[]⟩, .slice none 0 0] 24)) := by
 have h' := h.later ((Below.refl _ _).alloc (Nat.le_refl _) (.cells #[.int .i64 0, .string ⟨#[]⟩, .string ⟨#[]⟩, .slice none 0 0] 24))
 refine ⟨h'.own, h'.lo, h'.box, h'.ps, h'.nd, fun _ _ => ⟨W.heap.size, rfl, h.ne.2.2.2.1, by simp, ?_, ?_, ?_, ?_⟩, h'.at_, h'.ne, h'.ord⟩
 all_goals rw [World.cell?_alloc_at _ _ _ _ rfl]; rfl
/-- The append. -/
theorem FPh.app {v' : Value} (h : FPh P z d V B0 X l l2 n v L c i false e q false x4 x6 x7 x8 W) (he : e = false) (hq : q = false) (ho : OwnS W' (Kd B0 W v) v' (L ++ [zN])) (hg : W.grownBy W' v.ownBlock) (hv : v'.ownBlock = v.ownBlock ∨ v'.ownBlock = some W.heap.size) :
  FPh P z d V B0 X l l2 n v L c i true e q false x4 x6 v' x8 W' := by
 subst he hq
 have hlo2 : ∀ g, v.ownBlock = some g → B0 ≤ g ∧ g ≠ X := h.lo
 have hlo : ∀ g, v.ownBlock = some g → B0 ≤ g := fun g e => (hlo2 g e).1
 have hB := h.ne.2.2.2.1
 have hk : ∀ b, Kd B0 W v b → Kd B0 W' v' b := fun b hb => ⟨hb.1, Nat.lt_of_lt_of_le hb.2.1 hg.size, fun e => by
  rcases hv with hv | hv
  ·exact hb.2.2 (e.trans hv)
  ·rw [hv] at e; have := Option.some.inj e; have := hb.2.1; omega⟩
 refine ⟨ho.more hk, fun g e => ?_, (hg.block V h.box.lt fun e => by have := hlo V e.symm; have := h.ne.2.1; omega).trans h.box, h.ps.below (below_grown hg (B := B0) hB hlo) h.ne.1, fun hc => ?_, fun _ h2 => (by cases h2), fun h => (by cases h), ⟨h.ne.1, h.ne.2.1, h.ne.2.2.1, Nat.le_trans hB hg.size, Nat.lt_of_lt_of_le h.ne.2.2.2.2 hg.size⟩, ⟨fun _ => rfl, fun _ => rfl⟩⟩
 ·rcases hv with hv | hv
  ·exact hlo2 g (hv ▸ e)
  ·have : v'.ownBlock = some g := e
   rw [hv] at this
   obtain rfl := Option.some.inj this
   exact ⟨hB, by have := h.ne.2.2.2.2; omega⟩
 ·obtain ⟨A, C, e, hf⟩ := h.nd hc
  exact ⟨A, C, e, (hf.keep fun b hb => hg.block b hb.2.1 hb.2.2).more hk⟩
/-- The place is told. -/
theorem FPh.addr {g m C : Nat} (h : FPh P z d V B0 X l l2 n v L c i true e q r x4 x6 x7 x8 W) (hx : x7 = .slice (some ⟨g, 0, none⟩) m C) : FPh P z d V B0 X l l2 n v L c i true true q r x4 x6 x7 (.pointer (some ⟨g, L.length * 4, none⟩)) W :=
 ⟨h.own, h.lo, h.box, h.ps, h.nd, h.row, fun _ g' m' C' e' => by rw [hx] at e'; injection e' with e1; injection e1 with e1; injection e1 with e1; rw [e1], h.ne, ⟨fun _ => rfl, fun _ => rfl⟩⟩
theorem FPh.form (h : FPh P z d V B0 X l l2 n v L c i true e q r x4 x6 x7 x8 W) : ∃ g C, x7 = .slice (some ⟨g, 0, none⟩) (L.length + 1) C ∧ B0 ≤ g ∧ g ≠ X := by
 have ho := h.own
 obtain ⟨A, C, hx, _, _⟩ := ho.slice
 have hx' : x7 = .slice A (L ++ [bif q then n else zN]).length C := hx
 have ho' : OwnS W (Kd B0 W x7) x7 (L ++ [bif q then n else zN]) := ho
 rw [hx'] at ho'
 obtain ⟨g, s, hA, _⟩ := ho'.at_ (i := L.length) (nd := bif q then n else zN) (by simp)
 refine ⟨g, C, by rw [hx', hA]; simp, (h.lo g ?_).1, (h.lo g ?_).2⟩
 all_goals
  show x7.ownBlock = some g
  rw [hx', hA]; rfl
/-- The cells into which the node is written. -/
theorem FPh.cells {g C : Nat} (h : FPh P z d V B0 X l l2 n v L c i true e q r x4 x6 x7 x8 W) (hx : x7 = .slice (some ⟨g, 0, none⟩) (L.length + 1) C) :
  (∃ k x y s, W.cell? ⟨g, L.length * 4, none⟩ = some k ∧ W.cell? ⟨g, L.length * 4 + 1, none⟩ = some x ∧ W.cell? ⟨g, L.length * 4 + 2, none⟩ = some y ∧ W.cell? ⟨g, L.length * 4 + 3, none⟩ = some s) ∧ W.frozen? ⟨g, L.length * 4, none⟩ = false ∧ W.frozen? ⟨g, L.length * 4 + 1, none⟩ = false ∧ W.frozen? ⟨g, L.length * 4 + 2, none⟩ = false ∧ W.frozen? ⟨g, L.length * 4 + 3, none⟩ = false := by
 have ho' : OwnS W (Kd B0 W x7) x7 (L ++ [bif q then n else zN]) := h.own
 have hfz : ∀ j, W.frozen? ⟨g, j, none⟩ = false := by
  intro j
  obtain ⟨ps, _, ho, _⟩ := ho'
  rcases ho.2 with ⟨_, h0⟩ | ⟨g', cap, cur, hv, hg0, hg, q1, q2, q3, q4⟩
  ·simp at h0
  ·rw [hx] at hv
   injection hv with e1
   injection e1 with e1
   injection e1 with e1
   subst e1
   simp [World.frozen?, hg]
 refine ⟨?_, hfz _, hfz _, hfz _, hfz _⟩
 rw [hx] at ho'
 obtain ⟨g', s, hA, _, c0, c1, c2, c3, _⟩ := ho'.at_ (i := L.length) (nd := bif q then n else zN) (by simp)
 obtain rfl : g = g' := by injection hA with hA; injection hA
 exact ⟨_, _, _, _, c0, c1, c2, c3⟩
theorem FPh.put {g C m Cn : Nat} {An : Option Addr} (h : FPh P z d V B0 X l l2 n v L true i true e q r x4 x6 x7 x8 W) (hq : q = false) (hx : x7 = .slice (some ⟨g, 0, none⟩) (L.length + 1) C) (h4 : x4 = .agg #[.int .i64 n.k, .string n.x, .string n.y, .slice An m Cn]) :
  FPh P z d V B0 X l l2 n v L true i true e true r x4 x6 x7 x8 (put4 W g L.length n.k n.x n.y (.slice An m Cn)) := by
 subst hq
 have hg := put4_grown W g L.length n.k n.x n.y (.slice An m Cn)
 have hlo : B0 ≤ g := (h.lo g (by show x7.ownBlock = some g; rw [hx]; rfl)).1
 have hown : x7.ownBlock = some g := by rw [hx]; rfl
 have hB := h.ne.2.2.2.1
 obtain ⟨A', C', e', hf⟩ := h.nd rfl
 rw [h4] at e'
 simp only [Value.agg.injEq, Array.mk.injEq, List.cons.injEq, Value.slice.injEq, and_true, true_and] at e'
 have hf' : Fs W (Kd B0 W x7) (.slice An m Cn) n.c := by
  obtain ⟨e1, e2, e3⟩ := e'
  rw [e1, e2, e3]; exact hf
 have hk : ∀ b, Kd B0 W x7 b → Kd B0 (put4 W g L.length n.k n.x n.y (.slice An m Cn)) x7 b := fun b hb => ⟨hb.1, Nat.lt_of_lt_of_le hb.2.1 hg.size, hb.2.2⟩
 have ho : OwnS W (Kd B0 W x7) x7 (L ++ [zN]) := h.own
 have hp : OwnS (put4 W g L.length n.k n.x n.y (.slice An m Cn)) (Kd B0 W x7) x7 ((L ++ [zN]).set L.length n) := by
  have hx2 := hx
  rw [hx] at ho
  have hkk : ∀ b, Kd B0 W x7 b → b < W.heap.size ∧ b ≠ g := fun b hb => ⟨hb.2.1, fun e => hb.2.2 (by rw [hown, e])⟩
  rw [hx] at hkk hf' ⊢
  exact ho.put L.length (by simp) n.k n.x n.y _ n.c hf' hkk
 rw [List.set_append_right _ _ (Nat.le_refl _), Nat.sub_self] at hp
 refine ⟨hp.more hk, h.lo, (hg.block V h.box.lt fun e => by have := Option.some.inj e; have := h.ne.2.1; omega).trans h.box, h.ps.below (below_grown hg (B := B0) hB fun k e => by have := Option.some.inj e; omega) h.ne.1, fun _ => ⟨An, Cn, ?_, ?_⟩, fun _ h2 => (by cases h2), h.at_, ⟨h.ne.1, h.ne.2.1, h.ne.2.2.1, Nat.le_trans hB hg.size, Nat.lt_of_lt_of_le h.ne.2.2.2.2 hg.size⟩, ⟨fun _ => rfl, fun _ => rfl⟩⟩
 ·rw [h4, e'.2.1]
 ·rw [← e'.2.1]
  exact (hf'.keep fun b hb => hg.block b hb.2.1 fun e => hb.2.2 (by rw [hown]; exact e)).more hk
/-- The row is written into the variable. -/
theorem FPh.set (h : FPh P z d V B0 X l l2 n v L c i true e q r x4 x6 x7 x8 W) : FPh P z d V B0 X l l2 n v L c i true e q true x4 x6 x7 x8 (W.setCell ⟨V, 0, none⟩ x7) := by
 have hg := grown_set W V x7
 have hk : ∀ g, some V = some g → g < B0 := fun g e => by have := Option.some.inj e; have := h.ne.2.1; omega
 have hps : PS (W.setCell ⟨V, 0, none⟩ x7) P z (bif c then l2 else l) d := h.ps.set h.ne.2.2.1 _
 exact ⟨own_low h.own (fun g e => (h.lo g e).1) hg hk, h.lo, h.box.set x7, hps, fun hc => ndk_low (h.nd hc) hg hk, fun _ h2 => (by cases h2), h.at_, ⟨h.ne.1, h.ne.2.1, h.ne.2.2.1, Nat.le_trans h.ne.2.2.2.1 hg.size, Nat.lt_of_lt_of_le h.ne.2.2.2.2 hg.size⟩, ⟨fun _ => rfl, fun _ => rfl⟩⟩
theorem FPh.end_ (h : FPh P z d V B0 X l l2 n v L true i true e true true x4 x6 x7 x8 W) : FAt P z d V B0 X l2 x7 (L ++ [n]) W := ⟨h.own, h.lo, h.box, h.ps, h.ne⟩
theorem FPh.congr {y4 y6 y7 y8 : Value} (h : FPh P z d V B0 X l l2 n v L c i a e q r x4 x6 x7 x8 W) (h4 : c = true → y4 = x4) (h6 : i = true → y6 = x6) (h7 : a = true → y7 = x7) (h8 : e = true → y8 = x8) : FPh P z d V B0 X l l2 n v L c i a e q r y4 y6 y7 y8 W := by
 have hnd : ∀ u, (c = true → NdK B0 W u x4 n) → c = true → NdK B0 W u y4 n := fun u hh hc => by rw [h4 hc]; exact hh hc
 cases a with
 | true =>
  obtain rfl := h7 rfl
  exact ⟨h.own, h.lo, h.box, h.ps, hnd _ h.nd, fun _ h2 => (by cases h2), fun he => by rw [h8 he]; exact h.at_ he, h.ne, h.ord⟩
 | false =>
  have hr : r = false := by cases r with | false => rfl | true => exact (h.ord.1 rfl).symm
  have he : e = false := by cases e with | false => rfl | true => exact (h.ord.2 rfl).symm
  subst hr he
  exact ⟨h.own, h.lo, h.box, h.ps, hnd _ h.nd, fun h1 h2 => by rw [h6 h1]; exact h.row h1 h2, fun h => (by cases h), h.ne, h.ord⟩
/-- The same as region_ph asks for it: 4: read, 6: laid, 7: appended, 8: addressed, 9: written, 10: set. -/
def FG (P z d V B0 X : Nat) (l l2 : List Tk) (n : Nd) (v : Value) (L : List Nd) : (Nat → Bool) → (Nat → Value) → World → Prop :=
 fun dn x W => FPh P z d V B0 X l l2 n v L (dn 4) (dn 6) (dn 7) (dn 8) (dn 9) (dn 10) (x 4) (x 6) (x 7) (x 8) W
theorem FG.keep : ∀ d1 d2 x x' W W', (∀ j, [4, 6, 7, 8, 9, 10].contains j = true → d2 j = d1 j ∧ (d1 j = true → x' j = x j)) → Below W.heap.size W W' → FG P z d V B0 X l l2 n v L d1 x W → FG P z d V B0 X l l2 n v L d2 x' W' := by
 intro d1 d2 x x' W W' hj hb hg
 unfold FG at hg ⊢
 rw [(hj 4 (by decide)).1, (hj 6 (by decide)).1, (hj 7 (by decide)).1, (hj 8 (by decide)).1, (hj 9 (by decide)).1, (hj 10 (by decide)).1]
 exact (hg.later hb).congr (hj 4 (by decide)).2 (hj 6 (by decide)).2 (hj 7 (by decide)).2 (hj 8 (by decide)).2
variable {dn : Nat → Bool} {x : Nat → Value}
theorem FG.start (h : FAt P z d V B0 X l v L W) : FG P z d V B0 X l l2 n v L (fun _ => false) x W := FPh.start h
theorem FG.call {v4 : Value} (hg : FG P z d V B0 X l l2 n v L dn x W) (hd : dn 4 = false) (hv : NV W W' v4 n) (hps : PS W' P z l2 d) (hb : Bes P W W') : FG P z d V B0 X l l2 n v L (setD dn 4) (updX x 4 v4) W' := by
 unfold FG at hg
 rw [hd] at hg
 exact hg.call hv hps hb
theorem FG.ps (hg : FG P z d V B0 X l l2 n v L dn x W) (hd : dn 4 = false) : PS W P z l d := by
 unfold FG at hg
 rw [hd] at hg
 exact hg.ps
theorem FG.lay (hg : FG P z d V B0 X l l2 n v L dn x W) (hd : dn 6 = false) : FG P z d V B0 X l l2 n v L (setD dn 6) (updX x 6 (.slice (some ⟨W.heap.size, 0, none⟩) 1 1)) (W.alloc (.cells #[.int .i64 0, .string ⟨#[]⟩, .string ⟨#[]⟩, .slice none 0 0] 24)) := by
 unfold FG at hg
 rw [hd] at hg
 exact hg.lay
theorem FG.app {v' : Value} (hg : FG P z d V B0 X l l2 n v L dn x W) (h7 : dn 7 = false) (h8 : dn 8 = false) (h9 : dn 9 = false) (h10 : dn 10 = false) (ho : OwnS W' (Kd B0 W v) v' (L ++ [zN])) (hw : W.grownBy W' v.ownBlock) (hv : v'.ownBlock = v.ownBlock ∨ v'.ownBlock = some W.heap.size) :
  FG P z d V B0 X l l2 n v L (setD dn 7) (updX x 7 v') W' := by
 unfold FG at hg
 rw [h7, h10] at hg
 have := hg.app h8 h9 ho hw hv
 show FPh P z d V B0 X l l2 n v L (dn 4) (dn 6) true (dn 8) (dn 9) (dn 10) (x 4) (x 6) _ (x 8) _
 rw [h10]
 exact this
theorem FG.before (hg : FG P z d V B0 X l l2 n v L dn x W) (h7 : dn 7 = false) : OwnS W (Kd B0 W v) v L ∧ ∀ g, v.ownBlock = some g → B0 ≤ g ∧ g ≠ X := by
 unfold FG at hg
 rw [h7] at hg
 exact ⟨hg.own, hg.lo⟩
theorem FG.form (hg : FG P z d V B0 X l l2 n v L dn x W) (h7 : dn 7 = true) : ∃ g C, x 7 = .slice (some ⟨g, 0, none⟩) (L.length + 1) C ∧ B0 ≤ g ∧ g ≠ X := by
 unfold FG at hg
 rw [h7] at hg
 exact hg.form
theorem FG.addr {g m C : Nat} (hg : FG P z d V B0 X l l2 n v L dn x W) (h7 : dn 7 = true) (hx : x 7 = .slice (some ⟨g, 0, none⟩) m C) : FG P z d V B0 X l l2 n v L (setD dn 8) (updX x 8 (.pointer (some ⟨g, L.length * 4, none⟩))) W := by
 unfold FG at hg
 rw [h7] at hg
 have := hg.addr hx
 show FPh P z d V B0 X l l2 n v L (dn 4) (dn 6) (dn 7) true (dn 9) (dn 10) (x 4) (x 6) (x 7) _ W
 rw [h7]
 exact this
theorem FG.put {g C m Cn : Nat} {An : Option Addr} {u : Value} (hg : FG P z d V B0 X l l2 n v L dn x W) (h4 : dn 4 = true) (h7 : dn 7 = true) (h9 : dn 9 = false) (hx : x 7 = .slice (some ⟨g, 0, none⟩) (L.length + 1) C) (hx4 : x 4 = .agg #[.int .i64 n.k, .string n.x, .string n.y, .slice An m Cn]) :
  FG P z d V B0 X l l2 n v L (setD dn 9) (updX x 9 u) (put4 W g L.length n.k n.x n.y (.slice An m Cn)) := by
 unfold FG at hg
 rw [h4, h7, h9] at hg
 have := hg.put rfl hx hx4
 show FPh P z d V B0 X l l2 n v L (dn 4) (dn 6) (dn 7) (dn 8) true (dn 10) (x 4) (x 6) (x 7) (x 8) _
 rw [h4, h7]
 exact this
theorem FG.set {u u' : Value} (hg : FG P z d V B0 X l l2 n v L dn x W) (h7 : dn 7 = true) (hx : x 7 = u) : FG P z d V B0 X l l2 n v L (setD dn 10) (updX x 10 u') (W.setCell ⟨V, 0, none⟩ u) := by
 unfold FG at hg
 rw [h7] at hg
 have := hg.set
 rw [hx] at this
 show FPh P z d V B0 X l l2 n v L (dn 4) (dn 6) (dn 7) (dn 8) (dn 9) true (x 4) (x 6) (x 7) (x 8) _
 rw [h7, hx]
 exact this
theorem FG.var (hg : FG P z d V B0 X l l2 n v L dn x W) (h10 : dn 10 = false) : BoxL W V v := by
 unfold FG at hg
 rw [h10] at hg
 exact hg.box
theorem FG.laid (hg : FG P z d V B0 X l l2 n v L dn x W) (h6 : dn 6 = true) (h7 : dn 7 = false) : ∃ b, x 6 = .slice (some ⟨b, 0, none⟩) 1 1 ∧ B0 ≤ b ∧ b < W.heap.size ∧ W.cell? ⟨b, 0, none⟩ = some (.int .i64 0) ∧ W.cell? ⟨b, 1, none⟩ = some (.string ⟨#[]⟩) ∧ W.cell? ⟨b, 2, none⟩ = some (.string ⟨#[]⟩) ∧ W.cell? ⟨b, 3, none⟩ = some (.slice none 0 0) := by
 unfold FG at hg
 exact hg.row h6 h7
theorem FG.cells {g C : Nat} (hg : FG P z d V B0 X l l2 n v L dn x W) (h7 : dn 7 = true) (hx : x 7 = .slice (some ⟨g, 0, none⟩) (L.length + 1) C) :
  (∃ k x y s, W.cell? ⟨g, L.length * 4, none⟩ = some k ∧ W.cell? ⟨g, L.length * 4 + 1, none⟩ = some x ∧ W.cell? ⟨g, L.length * 4 + 2, none⟩ = some y ∧ W.cell? ⟨g, L.length * 4 + 3, none⟩ = some s) ∧ W.frozen? ⟨g, L.length * 4, none⟩ = false ∧ W.frozen? ⟨g, L.length * 4 + 1, none⟩ = false ∧ W.frozen? ⟨g, L.length * 4 + 2, none⟩ = false ∧ W.frozen? ⟨g, L.length * 4 + 3, none⟩ = false := by
 unfold FG at hg
 rw [h7] at hg
 exact hg.cells hx
theorem FG.node (hg : FG P z d V B0 X l l2 n v L dn x W) (h4 : dn 4 = true) : ∃ A C, x 4 = .agg #[.int .i64 n.k, .string n.x, .string n.y, .slice A n.c.len C] := by
 unfold FG at hg
 obtain ⟨A, C, e, _⟩ := hg.nd h4
 exact ⟨A, C, e⟩
theorem FG.at8 {g m C : Nat} (hg : FG P z d V B0 X l l2 n v L dn x W) (h8 : dn 8 = true) (hx : x 7 = .slice (some ⟨g, 0, none⟩) m C) : x 8 = .pointer (some ⟨g, L.length * 4, none⟩) := by
 unfold FG at hg
 exact hg.at_ h8 g m C hx
def cNo2 {P V B0 X : Nat} : Cd (Bel2 P V B0 X) := ⟨fun _ _ => False, fun _ _ _ _ h => h⟩
/-- Words that lie in block X. -/
def WordsX (X : Nat) (w : World) (v : Value) (us : List ByteArray) : Prop := ∃ A C, v = .slice A us.length C ∧ us.length ≤ 100 ∧ (us = [] ∨ A = some ⟨X, 0, none⟩ ∧ ∀ j u, us[j]? = some u → w.cell? ⟨X, j, none⟩ = some (.string u))
theorem WordsX.at_ {v : Value} {us : List ByteArray} (h : WordsX X W v us) : WordsAt W v us := by
 obtain ⟨A, C, e, hn, h⟩ := h
 exact ⟨A, C, e, hn, h.imp id fun h => ⟨X, h⟩⟩
theorem WordsX.keep {v : Value} {us : List ByteArray} (h : WordsX X W v us) (hb : Bel2 P V B0 X W W') (hX : X < W.heap.size) (h1 : X ≠ P) (h2 : X ≠ V) : WordsX X W' v us := by
 obtain ⟨A, C, e, hn, h⟩ := h
 exact ⟨A, C, e, hn, h.imp id fun h => ⟨h.1, fun j u hu => (hb.cell (p := ⟨X, j, none⟩) hX (.inr rfl) h1 h2).trans (h.2 j u hu)⟩⟩
/-- Behind a call that reads rows of items into the variable. -/
def RowsPost (P z V B0 X : Nat) (l : List Tk) (L : List Nd) (w : World) (R : Rd F) (e : Ending) (w' : World) : Prop :=
 match R with
 | .ok c l' => ∃ v' L2, e = .returned (.tuple #[]) ∧ c = ofL' L2 ∧ FAt P z 0 V B0 X l' v' (L ++ L2) w' ∧ L2.length + l'.length ≤ l.length ∧ Bel2 P V B0 X w w'
 | .bad p er => e = .panicked (pan p er) ∧ Bel2 P V B0 X w w'
theorem rows_bad {R : Rd F} {p : Nat} {er : Int} (hR : R = .bad p er) (hb : Bel2 P V B0 X W W') : RowsPost P z V B0 X l L W R (.panicked (pan p er)) W' := by
 rw [hR]; exact ⟨rfl, hb⟩
theorem rows_ok {R : Rd F} {v' : Value} {L2 : List Nd} {l' : List Tk} (hR : R = .ok (ofL' L2) l') (hf : FAt P z 0 V B0 X l' v' (L ++ L2) W') (hl : L2.length + l'.length ≤ l.length) (hb : Bel2 P V B0 X W W') : RowsPost P z V B0 X l L W R (.returned (.tuple #[])) W' := by
 rw [hR]; exact ⟨v', L2, rfl, rfl, hf, hl, hb⟩
theorem FG.end_ (hg : FG P z d V B0 X l l2 n v L dn x W) (h : ∀ i, i < 11 → dn i = true) : FAt P z d V B0 X l2 (x 7) (L ++ [n]) W := by
 unfold FG at hg
 rw [h 4 (by decide), h 7 (by decide), h 9 (by decide), h 10 (by decide)] at hg
 exact hg.end_
theorem FAt.newX {X' : Nat} (h : FAt P z d V B0 X l v L W) (hX : W.heap.size ≤ X') (hb : Below W.heap.size W W') (hX' : X' < W'.heap.size) : FAt P z d V B0 X' l v L W' := by
 have k := h.later hb
 exact ⟨k.own, fun g e => ⟨(k.lo g e).1, by have := h.own.lt e; omega⟩, k.box, k.ps, k.ne.1, k.ne.2.1, k.ne.2.2.1, k.ne.2.2.2.1, hX'⟩
end
end Go.Proofs.YtaiihnniblibaaaGreatDoor.Parse
