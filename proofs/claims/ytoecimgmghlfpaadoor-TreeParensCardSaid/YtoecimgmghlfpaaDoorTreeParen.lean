/-
  Layer 5 (tree): what stands in parentheses.
-/
import Derived.Test.YtoecimgmghlfpaaDoorTreeTests
import Derived.Deep.QuietTactic
import Derived.BigQuiet
namespace Go.Proofs.YtoecimgmghlfpaaDoor.Tree
open Go.ChangeShapes Go.WideShapes Go.ChangeAt Go.RowKit
set_option linter.unusedVariables false

/-- Paren at any place. -/
def parenI (pk : Int) (px : ByteArray) (f : F) (p : Int) : Bool :=
  if 0 ≤ p then (match f.drop p.toNat with
    | .nil => false
    | .cons kk kx _ _ _ => paren pk px p.toNat kk kx) else false

theorem paren_out (pk : Int) (px y : ByteArray) (A : Option Addr) (n C : Nat) (p : Int) (hp : p < 0 ∨ (n : Int) ≤ p) (w : World) :
    Calls Tryd.prog 15 #[.agg #[.int .i64 pk, .string px, .string y, .slice A n C], .int .i64 p] w fun e w' => e = .returned (.bool false) ∧ Below w.heap.size w w' := by
  by_cases h0 : p < 0
  · clear hp
    go_enter Tryd.func15, Tryd.ntmps15
    go_wp2
    go_ret
    exact ⟨rfl, (Below.refl _ _).alloc (Nat.le_refl _) _⟩
  · have hn : (n : Int) ≤ p := by omega
    clear hp
    go_enter Tryd.func15, Tryd.ntmps15
    go_wp2
    go_ret
    exact ⟨rfl, (Below.refl _ _).alloc (Nat.le_refl _) _⟩

theorem below2 (w : World) (o1 o2 : Obj) : Below w.heap.size w ((w.alloc o1).alloc o2) := ((Below.refl _ _).alloc (Nat.le_refl _) _).alloc (by simp) _
theorem below2q (w : World) (o1 o2 : Obj) (q : Nat) : Below w.heap.size w (((w.alloc o1).alloc o2).drewN q) := ⟨(below2 w o1 o2).os, (below2 w o1 o2).tape, (below2 w o1 o2).output, (below2 w o1 o2).size, (below2 w o1 o2).block⟩
theorem paren_b0 (px kx : ByteArray) : paren 29 px 0 29 kx = decide (level kx < level px) := rfl
theorem paren_b1 (px kx : ByteArray) : paren 29 px 1 29 kx = decide (level kx ≤ level px) := rfl

set_option maxHeartbeats 4000000 in
theorem paren_at0 (As : Option Addr) (ns Cs b off n C : Nat) (pk kk : Int) (px py kx ky : ByteArray) (w : World) (hb : b < w.heap.size) (hi : (0 : Int) < (n : Int)) (hC : n ≤ C) (hm : C ≤ 9223372036854775807) (c0 : w.cell? ⟨b, off, none⟩ = some (.int .i64 kk)) (c1 : w.cell? ⟨b, off + 1, none⟩ = some (.string kx)) (c2 : w.cell? ⟨b, off + 2, none⟩ = some (.string ky)) (c3 : w.cell? ⟨b, off + 3, none⟩ = some (.slice As ns Cs)) :
    Calls Tryd.prog 15 #[.agg #[.int .i64 pk, .string px, .string py, .slice (some ⟨b, off, none⟩) n C], .int .i64 0] w fun e w' => e = .returned (.bool (paren pk px 0 kk kx)) ∧ Below w.heap.size w w' := by
  have hn0 : ¬ (n : Int) ≤ 0 := by omega
  by_cases p29 : pk = 29
  · subst p29
    by_cases k29 : kk = 29
    · subst k29
      rw [paren_b0]
      have hL := Lib.hid (fun (s : ByteArray) (w : World) => level_any s w)
      go_enter Tryd.func15, Tryd.ntmps15
      go_wp2
      go_quiet (first | (go_at_call 17; refine Calls.quiet_of_same (hL.out _ _)))
      go_wp2
      go_ret
      exact ⟨rfl, below2q _ _ _ _⟩
    · have k29' := kno k29
      rw [show paren 29 px 0 kk kx = false by simp [paren, k29]]
      clear k29
      go_enter Tryd.func15, Tryd.ntmps15
      go_wp2
      go_quiet (fail)
      go_wp2
      go_ret
      exact ⟨rfl, below2q _ _ _ _⟩
  have p29' := kno p29
  by_cases p28 : pk = 28
  · subst p28
    by_cases k29 : kk = 29
    · subst k29
      rw [show paren 28 px 0 29 kx = true from rfl]
      go_enter Tryd.func15, Tryd.ntmps15
      go_wp2
      go_ret
      exact ⟨rfl, below2 _ _ _⟩
    by_cases k28 : kk = 28
    · subst k28
      rw [show paren 28 px 0 28 kx = true from rfl]
      go_enter Tryd.func15, Tryd.ntmps15
      go_wp2
      go_ret
      exact ⟨rfl, below2 _ _ _⟩
    have k29' := kno k29; have k28' := kno k28
    rw [show paren 28 px 0 kk kx = false by simp [paren, k29, k28]]
    clear k29 k28 p29
    go_enter Tryd.func15, Tryd.ntmps15
    go_wp2
    go_ret
    exact ⟨rfl, below2 _ _ _⟩
  have p28' := kno p28
  by_cases p30 : pk = 30
  · subst p30
    by_cases k29 : kk = 29
    · subst k29
      rw [show paren 30 px 0 29 kx = true from rfl]
      go_enter Tryd.func15, Tryd.ntmps15
      go_wp2
      go_ret
      exact ⟨rfl, below2 _ _ _⟩
    by_cases k28 : kk = 28
    · subst k28
      rw [show paren 30 px 0 28 kx = true from rfl]
      go_enter Tryd.func15, Tryd.ntmps15
      go_wp2
      go_ret
      exact ⟨rfl, below2 _ _ _⟩
    have k29' := kno k29; have k28' := kno k28
    rw [show paren 30 px 0 kk kx = false by simp [paren, k29, k28]]
    clear k29 k28
    go_enter Tryd.func15, Tryd.ntmps15
    go_wp2
    go_ret
    exact ⟨rfl, below2 _ _ _⟩
  have p30' := kno p30
  by_cases p31 : pk = 31
  · subst p31
    by_cases k29 : kk = 29
    · subst k29
      rw [show paren 31 px 0 29 kx = true from rfl]
      go_enter Tryd.func15, Tryd.ntmps15
      go_wp2
      go_ret
      exact ⟨rfl, below2 _ _ _⟩
    by_cases k28 : kk = 28
    · subst k28
      rw [show paren 31 px 0 28 kx = true from rfl]
      go_enter Tryd.func15, Tryd.ntmps15
      go_wp2
      go_ret
      exact ⟨rfl, below2 _ _ _⟩
    have k29' := kno k29; have k28' := kno k28
    rw [show paren 31 px 0 kk kx = false by simp [paren, k29, k28]]
    clear k29 k28
    go_enter Tryd.func15, Tryd.ntmps15
    go_wp2
    go_ret
    exact ⟨rfl, below2 _ _ _⟩
  have p31' := kno p31
  by_cases p32 : pk = 32
  · subst p32
    by_cases k29 : kk = 29
    · subst k29
      rw [show paren 32 px 0 29 kx = true from rfl]
      go_enter Tryd.func15, Tryd.ntmps15
      go_wp2
      go_ret
      exact ⟨rfl, below2 _ _ _⟩
    by_cases k28 : kk = 28
    · subst k28
      rw [show paren 32 px 0 28 kx = true from rfl]
      go_enter Tryd.func15, Tryd.ntmps15
      go_wp2
      go_ret
      exact ⟨rfl, below2 _ _ _⟩
    have k29' := kno k29; have k28' := kno k28
    rw [show paren 32 px 0 kk kx = false by simp [paren, k29, k28]]
    clear k29 k28
    go_enter Tryd.func15, Tryd.ntmps15
    go_wp2
    go_ret
    exact ⟨rfl, below2 _ _ _⟩
  have p32' := kno p32
  rw [show paren pk px 0 kk kx = false by simp [paren, p29, p28, p30, p31, p32]]
  clear p29 p28 p30 p31 p32
  go_enter Tryd.func15, Tryd.ntmps15
  go_wp2
  go_ret
  exact ⟨rfl, below2 _ _ _⟩

set_option maxHeartbeats 4000000 in
theorem paren_at1 (As : Option Addr) (ns Cs b off n C : Nat) (pk kk : Int) (px py kx ky : ByteArray) (w : World) (hb : b < w.heap.size) (hi : (1 : Int) < (n : Int)) (hC : n ≤ C) (hm : C ≤ 9223372036854775807) (c0 : w.cell? ⟨b, off + 4, none⟩ = some (.int .i64 kk)) (c1 : w.cell? ⟨b, off + 5, none⟩ = some (.string kx)) (c2 : w.cell? ⟨b, off + 6, none⟩ = some (.string ky)) (c3 : w.cell? ⟨b, off + 7, none⟩ = some (.slice As ns Cs)) :
    Calls Tryd.prog 15 #[.agg #[.int .i64 pk, .string px, .string py, .slice (some ⟨b, off, none⟩) n C], .int .i64 1] w fun e w' => e = .returned (.bool (paren pk px 1 kk kx)) ∧ Below w.heap.size w w' := by
  have hn0 : ¬ (n : Int) ≤ 1 := by omega
  by_cases p29 : pk = 29
  · subst p29
    by_cases k29 : kk = 29
    · subst k29
      rw [paren_b1]
      have hL := Lib.hid (fun (s : ByteArray) (w : World) => level_any s w)
      go_enter Tryd.func15, Tryd.ntmps15
      go_wp2
      go_quiet (first | (go_at_call 17; refine Calls.quiet_of_same (hL.out _ _)))
      go_wp2
      go_ret
      exact ⟨rfl, below2q _ _ _ _⟩
    · have k29' := kno k29
      rw [show paren 29 px 1 kk kx = false by simp [paren, k29]]
      clear k29
      go_enter Tryd.func15, Tryd.ntmps15
      go_wp2
      go_quiet (fail)
      go_wp2
      go_ret
      exact ⟨rfl, below2q _ _ _ _⟩
  have p29' := kno p29
  by_cases p28 : pk = 28
  · subst p28
    by_cases k29 : kk = 29
    · subst k29
      rw [show paren 28 px 1 29 kx = true from rfl]
      go_enter Tryd.func15, Tryd.ntmps15
      go_wp2
      go_ret
      exact ⟨rfl, below2 _ _ _⟩
    by_cases k28 : kk = 28
    · subst k28
      rw [show paren 28 px 1 28 kx = true from rfl]
      go_enter Tryd.func15, Tryd.ntmps15
      go_wp2
      go_ret
      exact ⟨rfl, below2 _ _ _⟩
    have k29' := kno k29; have k28' := kno k28
    rw [show paren 28 px 1 kk kx = false by simp [paren, k29, k28]]
    clear k29 k28 p29
    go_enter Tryd.func15, Tryd.ntmps15
    go_wp2
    go_ret
    exact ⟨rfl, below2 _ _ _⟩
  have p28' := kno p28
  by_cases p30 : pk = 30
  · subst p30
    rw [show paren 30 px 1 kk kx = false by simp [paren]]
    by_cases k29 : kk = 29
    · subst k29
      go_enter Tryd.func15, Tryd.ntmps15
      go_wp2
      go_ret
      exact ⟨rfl, below2 _ _ _⟩
    have k29' := kno k29
    clear k29
    go_enter Tryd.func15, Tryd.ntmps15
    go_wp2
    go_ret
    exact ⟨rfl, below2 _ _ _⟩
  have p30' := kno p30
  by_cases p31 : pk = 31
  · subst p31
    rw [show paren 31 px 1 kk kx = false by simp [paren]]
    by_cases k29 : kk = 29
    · subst k29
      go_enter Tryd.func15, Tryd.ntmps15
      go_wp2
      go_ret
      exact ⟨rfl, below2 _ _ _⟩
    have k29' := kno k29
    clear k29
    go_enter Tryd.func15, Tryd.ntmps15
    go_wp2
    go_ret
    exact ⟨rfl, below2 _ _ _⟩
  have p31' := kno p31
  by_cases p32 : pk = 32
  · subst p32
    rw [show paren 32 px 1 kk kx = false by simp [paren]]
    by_cases k29 : kk = 29
    · subst k29
      go_enter Tryd.func15, Tryd.ntmps15
      go_wp2
      go_ret
      exact ⟨rfl, below2 _ _ _⟩
    have k29' := kno k29
    clear k29
    go_enter Tryd.func15, Tryd.ntmps15
    go_wp2
    go_ret
    exact ⟨rfl, below2 _ _ _⟩
  have p32' := kno p32
  rw [show paren pk px 1 kk kx = false by simp [paren, p29, p28, p30, p31, p32]]
  clear p29 p28 p30 p31 p32
  go_enter Tryd.func15, Tryd.ntmps15
  go_wp2
  go_ret
  exact ⟨rfl, below2 _ _ _⟩

set_option maxHeartbeats 4000000 in
theorem paren_ati (As : Option Addr) (ns Cs b off n C i : Nat) (pk kk : Int) (px py kx ky : ByteArray) (w : World) (hb : b < w.heap.size) (hi : (i : Int) < (n : Int)) (hC : n ≤ C) (hm : C ≤ 9223372036854775807) (c0 : w.cell? ⟨b, off + i * 4, none⟩ = some (.int .i64 kk)) (c1 : w.cell? ⟨b, off + i * 4 + 1, none⟩ = some (.string kx)) (c2 : w.cell? ⟨b, off + i * 4 + 2, none⟩ = some (.string ky)) (c3 : w.cell? ⟨b, off + i * 4 + 3, none⟩ = some (.slice As ns Cs)) (h0 : ((i : Int) == 0) = false) (h1 : ((i : Int) == 1) = false) :
    Calls Tryd.prog 15 #[.agg #[.int .i64 pk, .string px, .string py, .slice (some ⟨b, off, none⟩) n C], .int .i64 (i : Int)] w fun e w' => e = .returned (.bool (paren pk px i kk kx)) ∧ Below w.heap.size w w' := by
  have hn0 : ¬ (n : Int) ≤ (i : Int) := by omega
  have hi0 : ¬ (i : Int) < 0 := by omega
  have hip : (0 : Int) ≤ (i : Int) := by omega
  have i0 : ¬ i = 0 := by rintro rfl; simp at h0
  have i1 : ¬ i = 1 := by rintro rfl; simp at h1
  by_cases p28 : pk = 28
  · subst p28
    by_cases k29 : kk = 29
    · subst k29
      rw [show paren 28 px i 29 kx = true from rfl]
      clear i0 i1
      go_enter Tryd.func15, Tryd.ntmps15
      go_wp2
      go_ret
      exact ⟨rfl, below2 _ _ _⟩
    by_cases k28 : kk = 28
    · subst k28
      rw [show paren 28 px i 28 kx = true from rfl]
      clear i0 i1
      go_enter Tryd.func15, Tryd.ntmps15
      go_wp2
      go_ret
      exact ⟨rfl, below2 _ _ _⟩
    have k29' := kno k29; have k28' := kno k28
    rw [show paren 28 px i kk kx = false by simp [paren, k29, k28]]
    clear k29 k28 i0 i1
    go_enter Tryd.func15, Tryd.ntmps15
    go_wp2
    go_ret
    exact ⟨rfl, below2 _ _ _⟩
  have p28' := kno p28
  rw [show paren pk px i kk kx = false by unfold paren; simp [p28, i0, i1]]
  by_cases p29 : pk = 29
  · subst p29
    clear i0 i1 p28
    go_enter Tryd.func15, Tryd.ntmps15
    go_wp2
    go_ret
    exact ⟨rfl, below2 _ _ _⟩
  have p29' := kno p29
  by_cases p30 : pk = 30
  · subst p30
    clear i0 i1 p28
    go_enter Tryd.func15, Tryd.ntmps15
    go_wp2
    go_ret
    exact ⟨rfl, below2 _ _ _⟩
  have p30' := kno p30
  by_cases p31 : pk = 31
  · subst p31
    clear i0 i1 p28
    go_enter Tryd.func15, Tryd.ntmps15
    go_wp2
    go_ret
    exact ⟨rfl, below2 _ _ _⟩
  have p31' := kno p31
  by_cases p32 : pk = 32
  · subst p32
    clear i0 i1 p28
    go_enter Tryd.func15, Tryd.ntmps15
    go_wp2
    go_ret
    exact ⟨rfl, below2 _ _ _⟩
  have p32' := kno p32
  clear p28 p29 p30 p31 p32 i0 i1
  go_enter Tryd.func15, Tryd.ntmps15
  go_wp2
  go_ret
  exact ⟨rfl, below2 _ _ _⟩

theorem paren_is (w : World) (pk : Int) (px py : ByteArray) (A : Option Addr) (n C : Nat) (f : F) (p : Int) (hf : Fs w (Lo w.heap.size) (.slice A n C) f) :
    Calls Tryd.prog 15 #[.agg #[.int .i64 pk, .string px, .string py, .slice A n C], .int .i64 p] w fun e w' => e = .returned (.bool (parenI pk px f p)) ∧ Below w.heap.size w w' := by
  obtain ⟨A', C', e, hnC, hCm⟩ := hf.slice
  injection e with e1 e2 e3
  subst e1; subst e2; subst e3
  by_cases hp : p < 0 ∨ ((f.len : Nat) : Int) ≤ p
  · have e : parenI pk px f p = false := by
      unfold parenI
      split
      · rw [F.drop_all _ _ (by omega)]
      · rfl
    rw [e]
    exact paren_out pk px py A _ C p hp w
  · obtain ⟨i, rfl⟩ : ∃ i : Nat, p = (i : Int) := ⟨p.toNat, by omega⟩
    obtain ⟨k, x, y, c, r, hd, _⟩ := F.drop_cons (n := i) (f := f) (by omega)
    have e : parenI pk px f (i : Int) = paren pk px i k x := by
      unfold parenI
      rw [if_pos (by omega), Int.toNat_natCast, hd]
    rw [e]
    obtain ⟨b, off, s, rfl, hb, hi, hat⟩ := hf.at_ hd
    obtain ⟨As, Cs, rfl, _, _⟩ := hat.kids.slice
    have c0 := hat.c0; have c1 := hat.c1; have c2 := hat.c2; have c3 := hat.c3
    by_cases i0 : i = 0
    · subst i0
      simp only [Nat.zero_mul, Nat.add_zero] at c0 c1 c2 c3
      exact paren_at0 As _ Cs b off _ C pk k px py x y w hb (by omega) hnC hCm c0 c1 c2 c3
    by_cases i1 : i = 1
    · subst i1
      exact paren_at1 As _ Cs b off _ C pk k px py x y w hb (by omega) hnC hCm c0 c1 c2 c3
    exact paren_ati As _ Cs b off _ C i pk k px py x y w hb (by omega) hnC hCm c0 c1 c2 c3 (by simpa using i0) (by simpa using (show ¬ (i : Int) = 1 by omega))
end Go.Proofs.YtoecimgmghlfpaaDoor.Tree
