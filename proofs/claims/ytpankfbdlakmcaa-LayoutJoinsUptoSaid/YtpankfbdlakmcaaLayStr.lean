/-
  Layer 8 (layout): String of a Builder within another variable. Written by gen_laystr.py.
-/
import Derived.Test.YtpankfbdlakmcaaLayBuild
import Derived.Test.YtpankfbdlakmcaaMemRel
namespace Go.Proofs.Ytpankfbdlakmcaa.Doc
open Go.ChangeShapes Go.WideShapes Go.ChangeAt Go.RowKit Mem
set_option linter.unusedVariables false

/-- All below block B is as it was, and all cells that are there read as they did. -/
structure Ks (B : Nat) (w w' : World) : Prop where
  bel : Below B w w'
  cell : ∀ (a : Addr) v, w.cell? a = some v → w'.cell? a = some v
  shape : ∀ k x, w.shape? k = some x → w'.shape? k = some x
theorem Ks.refl (B : Nat) (w : World) : Ks B w w := ⟨Below.refl B w, fun _ _ h => h, fun _ _ h => h⟩
theorem Ks.trans {B : Nat} {w w1 w2 : World} (h : Ks B w w1) (k : Ks B w1 w2) : Ks B w w2 := ⟨h.bel.trans k.bel, fun a v q => k.cell a v (h.cell a v q), fun a v q => k.shape a v (h.shape a v q)⟩
theorem Ks.undrew {B : Nat} {w w' : World} (h : Ks B w.drew w') : Ks B w w' := ⟨(Below.refl B w).drew.trans h.bel, h.cell, h.shape⟩
theorem Ks.alloc {B : Nat} {w : World} (hB : B ≤ w.heap.size) (o : Obj) : Ks B w (w.alloc o) := by
  refine ⟨(Below.refl B w).alloc hB o, fun a v h => ?_, fun k x h => ?_⟩
  · have hlt : a.block < w.heap.size := by
      rcases Nat.lt_or_ge a.block w.heap.size with h' | h'
      · exact h'
      · simp [World.cell?, Array.getElem?_eq_none h'] at h
    exact (World.cell?_of_block (Lib.alloc_old w o a.block hlt)).trans h
  · have hlt : k < w.heap.size := by
      rcases Nat.lt_or_ge k w.heap.size with h' | h'
      · exact h'
      · simp [World.shape?, Array.getElem?_eq_none h'] at h
    unfold World.shape? at h ⊢
    rw [Lib.alloc_old w o k hlt]
    exact h
theorem freeze_at (w : World) (a : Addr) (n k : Nat) : (w.freeze a n).heap[k]? = w.heap[k]? ∨ ∃ c e f f2, w.heap[k]? = some (.cells c e f) ∧ (w.freeze a n).heap[k]? = some (.cells c e f2) := by
  unfold World.freeze
  by_cases hn : n = 0
  · rw [if_pos hn]; exact .inl rfl
  · rw [if_neg hn]
    by_cases hk : a.block = k
    · subst hk
      cases ho : w.heap[a.block]? with
      | none => left; simp [Array.getElem?_modify, ho]
      | some o =>
        cases o with
        | cells c e f => right; exact ⟨c, e, f, _, rfl, by simp only [Array.getElem?_modify, ho, if_true, Option.map_some]; rfl⟩
        | _ => left; simp [Array.getElem?_modify, ho]
    · left
      simp [Array.getElem?_modify, hk]
theorem cell?_freeze (w : World) (a p : Addr) (n : Nat) : (w.freeze a n).cell? p = w.cell? p := by
  unfold World.cell?
  rcases freeze_at w a n p.block with h | ⟨c, e, f, f2, h1, h2⟩
  · rw [h]
  · rw [h1, h2]
theorem shape?_freeze (w : World) (a : Addr) (n k : Nat) : (w.freeze a n).shape? k = w.shape? k := by
  unfold World.shape?
  rcases freeze_at w a n k with h | ⟨c, e, f, f2, h1, h2⟩
  · rw [h]
  · rw [h1, h2]
theorem Ks.freeze {B : Nat} (w : World) {g : Nat} (hg : B ≤ g) (m : Nat) : Ks B w (w.freeze ⟨g, 0, none⟩ m) := by
  refine ⟨Lib.below_freeze (Below.refl B w) (p := ⟨g, 0, none⟩) hg m, fun a v h => ?_, fun k x h => ?_⟩
  · rw [cell?_freeze]; exact h
  · rw [shape?_freeze]; exact h

set_option maxHeartbeats 4000000 in
set_option maxRecDepth 100000 in
/-- String of a Builder whose second cell is a slice that reads as l. -/
theorem string_at (B b : Nat) (v : Value) (l : List UInt8) (w : World) (hb : b < w.heap.size) (hBw : B ≤ w.heap.size) (hc : w.cell? ⟨b, 1, none⟩ = some v) (hown : w.ownsRowF B 5 1 v l.length (Lib.byteCells l)) :
    Calls Try.prog 31 #[.pointer (some ⟨b, 0, none⟩)] w fun e w' => e = .returned (.string ⟨l.toArray⟩) ∧ Below B w w' := by
  by_cases hl0 : l = []
  · subst hl0
    obtain ⟨A, C, rfl, HSD⟩ : ∃ A C, v = .slice A 0 C ∧ Hid (∀ W, Ks B w W → ∃ (q : Option Addr) (W' : World), (Builtin.unsafeSliceData_ #[60] 86 #[.slice A 0 C]).run Try.prog W = .ok (.pointer q) W' ∧ Ks B W W') := by
      rcases hown.2 with ⟨rfl, _⟩ | ⟨g, cap, cur, fz, rfl, hbg, hg, _⟩
      · exact ⟨none, 0, rfl, fun W hW => ⟨none, W, rfl, Ks.refl B W⟩⟩
      · refine ⟨some ⟨g, 0, none⟩, cap, rfl, fun W hW => ?_⟩
        by_cases hc0 : cap = 0
        · subst hc0
          exact ⟨_, _, Lib.run_unsafeSliceData_zero W _ _ 5 Try.underlying86 ⟨g, 0, none⟩ 0 (5, cur.size) (hW.shape g _ (by simp [World.shape?, hg])), Ks.alloc (Nat.le_trans hBw hW.bel.size) _⟩
        · exact ⟨_, W, Lib.run_unsafeSliceData_row _ _ _ _ _ _ hc0, Ks.refl B W⟩
    obtain ⟨n, hn⟩ : ∃ n : Nat, n = 0 := ⟨0, rfl⟩
    have HUS : Hid (∀ W (q : Option Addr), Ks B w W → ∃ W' : World, (Builtin.unsafeString_ #[86, 3] 9 #[.pointer q, .int .i64 (n : Int)]).run Try.prog W = .ok (.string ⟨([] : List UInt8).toArray⟩) W' ∧ Ks B W W') := fun W q _ => ⟨W, by subst hn; exact Lib.run_unsafeString_none W _ _ _ q, Ks.refl B W⟩
    have HC := Lib.hid hc
    rw [← hn] at HC HSD
    generalize ([] : List UInt8) = l at *
    clear hown hc hn
    go_enter Try.func31, Try.ntmps31
    go_wp2
    refine region_rel (Ks B) [Cd.is (Value.pointer (some ⟨b, 0, none⟩)), Cd.is (Value.pointer (some ⟨b, 0, none⟩)), Cd.is (Value.pointer (some ⟨b, 1, none⟩)), Cd.is (Value.slice A n C), ⟨fun v _ => ∃ qa : Option Addr, v = .pointer qa, fun _ _ _ _ h => h⟩, Cd.is (Value.pointer (some ⟨b, 0, none⟩)), Cd.is (Value.pointer (some ⟨b, 0, none⟩)), Cd.is (Value.pointer (some ⟨b, 1, none⟩)), Cd.is (Value.slice A n C), Cd.is (Value.int .i64 (n : Int)), Cd.is (Value.string ⟨l.toArray⟩), Cd.is (Value.string ⟨l.toArray⟩)] (by kernel_rfl) (by decide) (by kernel_rfl) (Ks.refl B _) (fun _ _ _ h k => h.trans k) ?steps ?behind
    case steps =>
      intro xv W hW a ha
      replace hW := hW.undrew
      simp only [fillA] at ha
      simp only [List.setIfInBounds_toArray, List.set_cons_succ, List.set_cons_zero, Nat.zero_add, Nat.reduceAdd] at ha
      subst ha
      refine ⟨fun hd K hK => ?s0, fun hd K hK => ?s1, fun hd K hK => ?s2, fun hd K hK => ?s3, fun hd K hK => ?s4, fun hd K hK => ?s5, fun hd K hK => ?s6, fun hd K hK => ?s7, fun hd K hK => ?s8, fun hd K hK => ?s9, fun hd K hK => ?s10, fun hd K hK => ?s11, trivial⟩
      case s0 =>
        clear hd
        simp only [Act.put, List.setIfInBounds_toArray, List.set_cons_succ, List.set_cons_zero] at hK
        refine (if_pos (by rfl)).mpr ?_
        go_simp
        exact hK.out _ _ (Ks.refl B W) rfl
      case s1 =>
        have hx0 : xv 0 = Value.pointer (some ⟨b, 0, none⟩) := hd 0 (by kernel_rfl)
        clear hd
        simp only [Act.put, List.setIfInBounds_toArray, List.set_cons_succ, List.set_cons_zero] at hK
        rw [hx0] at hK ⊢
        refine (if_pos (by rfl)).mpr ?_
        go_simp
        exact hK.out _ _ (Ks.refl B W) rfl
      case s2 =>
        have hx1 : xv 1 = Value.pointer (some ⟨b, 0, none⟩) := hd 1 (by kernel_rfl)
        clear hd
        simp only [Act.put, List.setIfInBounds_toArray, List.set_cons_succ, List.set_cons_zero] at hK
        rw [hx1] at hK ⊢
        refine (if_pos (by rfl)).mpr ?_
        go_simp
        exact hK.out _ _ (Ks.refl B W) rfl
      case s3 =>
        have hx2 : xv 2 = Value.pointer (some ⟨b, 1, none⟩) := hd 2 (by kernel_rfl)
        clear hd
        simp only [Act.put, List.setIfInBounds_toArray, List.set_cons_succ, List.set_cons_zero] at hK
        rw [hx2] at hK ⊢
        refine (if_pos (by rfl)).mpr ?_
        have hc1 := hW.cell _ _ HC.out
        go_simp
        exact hK.out _ _ (Ks.refl B W) rfl
      case s4 =>
        have hx3 : xv 3 = Value.slice A n C := hd 3 (by kernel_rfl)
        clear hd
        simp only [Act.put, List.setIfInBounds_toArray, List.set_cons_succ, List.set_cons_zero] at hK
        rw [hx3] at hK ⊢
        refine (if_pos (by rfl)).mpr ?_
        obtain ⟨qa, W2, hr, ht⟩ := HSD.out W hW
        go_simp
        exact hK.out _ _ ht ⟨_, rfl⟩
      case s5 =>
        clear hd
        simp only [Act.put, List.setIfInBounds_toArray, List.set_cons_succ, List.set_cons_zero] at hK
        refine (if_pos (by rfl)).mpr ?_
        go_simp
        exact hK.out _ _ (Ks.refl B W) rfl
      case s6 =>
        have hx5 : xv 5 = Value.pointer (some ⟨b, 0, none⟩) := hd 5 (by kernel_rfl)
        clear hd
        simp only [Act.put, List.setIfInBounds_toArray, List.set_cons_succ, List.set_cons_zero] at hK
        rw [hx5] at hK ⊢
        refine (if_pos (by rfl)).mpr ?_
        go_simp
        exact hK.out _ _ (Ks.refl B W) rfl
      case s7 =>
        have hx6 : xv 6 = Value.pointer (some ⟨b, 0, none⟩) := hd 6 (by kernel_rfl)
        clear hd
        simp only [Act.put, List.setIfInBounds_toArray, List.set_cons_succ, List.set_cons_zero] at hK
        rw [hx6] at hK ⊢
        refine (if_pos (by rfl)).mpr ?_
        go_simp
        exact hK.out _ _ (Ks.refl B W) rfl
      case s8 =>
        have hx7 : xv 7 = Value.pointer (some ⟨b, 1, none⟩) := hd 7 (by kernel_rfl)
        clear hd
        simp only [Act.put, List.setIfInBounds_toArray, List.set_cons_succ, List.set_cons_zero] at hK
        rw [hx7] at hK ⊢
        refine (if_pos (by rfl)).mpr ?_
        have hc1 := hW.cell _ _ HC.out
        go_simp
        exact hK.out _ _ (Ks.refl B W) rfl
      case s9 =>
        have hx8 : xv 8 = Value.slice A n C := hd 8 (by kernel_rfl)
        clear hd
        simp only [Act.put, List.setIfInBounds_toArray, List.set_cons_succ, List.set_cons_zero] at hK
        rw [hx8] at hK ⊢
        refine (if_pos (by rfl)).mpr ?_
        go_simp
        exact hK.out _ _ (Ks.refl B W) rfl
      case s10 =>
        have hx4 : ∃ qa : Option Addr, xv 4 = .pointer qa := hd 4 (by kernel_rfl)
        have hx9 : xv 9 = Value.int .i64 (n : Int) := hd 9 (by kernel_rfl)
        clear hd
        simp only [Act.put, List.setIfInBounds_toArray, List.set_cons_succ, List.set_cons_zero] at hK
        rw [hx9] at hK ⊢
        refine (if_pos (by rfl)).mpr ?_
        obtain ⟨qa, e4⟩ := hx4
        rw [e4] at hK ⊢
        obtain ⟨W2, hr, ht⟩ := HUS.out W qa hW
        go_simp
        exact hK.out _ _ ht rfl
      case s11 =>
        have hx10 : xv 10 = Value.string ⟨l.toArray⟩ := hd 10 (by kernel_rfl)
        clear hd
        simp only [Act.put, List.setIfInBounds_toArray, List.set_cons_succ, List.set_cons_zero] at hK
        rw [hx10] at hK ⊢
        refine (if_pos (by rfl)).mpr ?_
        go_simp
        exact hK.out _ _ (Ks.refl B W) rfl
    case behind =>
      intro xv W hW hx a ha
      replace hW := hW.undrew
      simp only [fillA] at ha
      simp only [List.setIfInBounds_toArray, List.set_cons_succ, List.set_cons_zero, Nat.zero_add, Nat.reduceAdd] at ha
      subst ha
      have e11 : xv 11 = Value.string ⟨l.toArray⟩ := hx 11 (by decide)
      have HB := Lib.hid hW.bel
      rw [e11]
      clear hx hW e11 HSD HUS HC
      go_wp2
      go_ret
      exact ⟨rfl, HB.out⟩
  · obtain ⟨g, C, hv, hbg, HSD, HUS0⟩ : ∃ g C, v = .slice (some ⟨g, 0, none⟩) l.length C ∧ B ≤ g ∧ Hid (∀ W, Ks B w W → ∃ (q : Option Addr) (W' : World), (Builtin.unsafeSliceData_ #[60] 86 #[.slice (some ⟨g, 0, none⟩) l.length C]).run Try.prog W = .ok (.pointer q) W' ∧ Ks B W W' ∧ q = some ⟨g, 0, none⟩) ∧
        Hid (∀ W (q : Option Addr), q = some ⟨g, 0, none⟩ → Ks B w W → ∃ W' : World, (Builtin.unsafeString_ #[86, 3] 9 #[.pointer q, .int .i64 (l.length : Int)]).run Try.prog W = .ok (.string ⟨l.toArray⟩) W' ∧ Ks B W W') := by
      have hll : l.length ≠ 0 := by simpa using hl0
      have hcl := fun g => World.ownsRowF.cells (g := g) hown
      rcases hown.2 with ⟨rfl, h0⟩ | ⟨g, cap, cur, fz, rfl, hbg, hg, hfz, hnc, hcm, hcs, _⟩
      · exact absurd h0 hll
      · refine ⟨g, cap, rfl, hbg, fun W hW => ⟨_, W, Lib.run_unsafeSliceData_row _ _ _ _ _ _ (by omega), Ks.refl B W, rfl⟩, fun W q hq hW => ⟨_, ?_, Ks.freeze W hbg l.length⟩⟩
        subst hq
        refine Lib.run_unsafeString_row W 86 3 9 5 Try.underlying86 Try.Builder_Extra_169.cellsByte g cur.size (hW.shape g _ (by simp [World.shape?, hg])) l hl0 (by omega) (by unfold maxLen at hcm; omega) ?_
        intro j x hx
        have := hcl g rfl j (.int .u8 x.toNat) (by simp [Lib.byteCells, hx])
        exact hW.cell _ _ this
    subst hv
    obtain ⟨A, hA⟩ : ∃ A : Option Addr, A = some ⟨g, 0, none⟩ := ⟨_, rfl⟩
    obtain ⟨n, hn⟩ : ∃ n, n = l.length := ⟨_, rfl⟩
    have HC := Lib.hid hc
    have HUS := HUS0
    rw [← hn] at HC HSD HUS
    rw [← hn, ← hA] at *
    clear hown hc hl0 HUS0
    go_enter Try.func31, Try.ntmps31
    go_wp2
    refine region_rel (Ks B) [Cd.is (Value.pointer (some ⟨b, 0, none⟩)), Cd.is (Value.pointer (some ⟨b, 0, none⟩)), Cd.is (Value.pointer (some ⟨b, 1, none⟩)), Cd.is (Value.slice A n C), ⟨fun v _ => ∃ qa : Option Addr, v = .pointer qa ∧ qa = A, fun _ _ _ _ h => h⟩, Cd.is (Value.pointer (some ⟨b, 0, none⟩)), Cd.is (Value.pointer (some ⟨b, 0, none⟩)), Cd.is (Value.pointer (some ⟨b, 1, none⟩)), Cd.is (Value.slice A n C), Cd.is (Value.int .i64 (n : Int)), Cd.is (Value.string ⟨l.toArray⟩), Cd.is (Value.string ⟨l.toArray⟩)] (by kernel_rfl) (by decide) (by kernel_rfl) (Ks.refl B _) (fun _ _ _ h k => h.trans k) ?steps ?behind
    case steps =>
      intro xv W hW a ha
      replace hW := hW.undrew
      simp only [fillA] at ha
      simp only [List.setIfInBounds_toArray, List.set_cons_succ, List.set_cons_zero, Nat.zero_add, Nat.reduceAdd] at ha
      subst ha
      refine ⟨fun hd K hK => ?s0, fun hd K hK => ?s1, fun hd K hK => ?s2, fun hd K hK => ?s3, fun hd K hK => ?s4, fun hd K hK => ?s5, fun hd K hK => ?s6, fun hd K hK => ?s7, fun hd K hK => ?s8, fun hd K hK => ?s9, fun hd K hK => ?s10, fun hd K hK => ?s11, trivial⟩
      case s0 =>
        clear hd
        simp only [Act.put, List.setIfInBounds_toArray, List.set_cons_succ, List.set_cons_zero] at hK
        refine (if_pos (by rfl)).mpr ?_
        go_simp
        exact hK.out _ _ (Ks.refl B W) rfl
      case s1 =>
        have hx0 : xv 0 = Value.pointer (some ⟨b, 0, none⟩) := hd 0 (by kernel_rfl)
        clear hd
        simp only [Act.put, List.setIfInBounds_toArray, List.set_cons_succ, List.set_cons_zero] at hK
        rw [hx0] at hK ⊢
        refine (if_pos (by rfl)).mpr ?_
        go_simp
        exact hK.out _ _ (Ks.refl B W) rfl
      case s2 =>
        have hx1 : xv 1 = Value.pointer (some ⟨b, 0, none⟩) := hd 1 (by kernel_rfl)
        clear hd
        simp only [Act.put, List.setIfInBounds_toArray, List.set_cons_succ, List.set_cons_zero] at hK
        rw [hx1] at hK ⊢
        refine (if_pos (by rfl)).mpr ?_
        go_simp
        exact hK.out _ _ (Ks.refl B W) rfl
      case s3 =>
        have hx2 : xv 2 = Value.pointer (some ⟨b, 1, none⟩) := hd 2 (by kernel_rfl)
        clear hd
        simp only [Act.put, List.setIfInBounds_toArray, List.set_cons_succ, List.set_cons_zero] at hK
        rw [hx2] at hK ⊢
        refine (if_pos (by rfl)).mpr ?_
        have hc1 := hW.cell _ _ HC.out
        go_simp
        exact hK.out _ _ (Ks.refl B W) rfl
      case s4 =>
        have hx3 : xv 3 = Value.slice A n C := hd 3 (by kernel_rfl)
        clear hd
        simp only [Act.put, List.setIfInBounds_toArray, List.set_cons_succ, List.set_cons_zero] at hK
        rw [hx3] at hK ⊢
        refine (if_pos (by rfl)).mpr ?_
        obtain ⟨qa, W2, hr, ht, hq⟩ := HSD.out W hW
        go_simp
        exact hK.out _ _ ht ⟨_, rfl, rfl⟩
      case s5 =>
        clear hd
        simp only [Act.put, List.setIfInBounds_toArray, List.set_cons_succ, List.set_cons_zero] at hK
        refine (if_pos (by rfl)).mpr ?_
        go_simp
        exact hK.out _ _ (Ks.refl B W) rfl
      case s6 =>
        have hx5 : xv 5 = Value.pointer (some ⟨b, 0, none⟩) := hd 5 (by kernel_rfl)
        clear hd
        simp only [Act.put, List.setIfInBounds_toArray, List.set_cons_succ, List.set_cons_zero] at hK
        rw [hx5] at hK ⊢
        refine (if_pos (by rfl)).mpr ?_
        go_simp
        exact hK.out _ _ (Ks.refl B W) rfl
      case s7 =>
        have hx6 : xv 6 = Value.pointer (some ⟨b, 0, none⟩) := hd 6 (by kernel_rfl)
        clear hd
        simp only [Act.put, List.setIfInBounds_toArray, List.set_cons_succ, List.set_cons_zero] at hK
        rw [hx6] at hK ⊢
        refine (if_pos (by rfl)).mpr ?_
        go_simp
        exact hK.out _ _ (Ks.refl B W) rfl
      case s8 =>
        have hx7 : xv 7 = Value.pointer (some ⟨b, 1, none⟩) := hd 7 (by kernel_rfl)
        clear hd
        simp only [Act.put, List.setIfInBounds_toArray, List.set_cons_succ, List.set_cons_zero] at hK
        rw [hx7] at hK ⊢
        refine (if_pos (by rfl)).mpr ?_
        have hc1 := hW.cell _ _ HC.out
        go_simp
        exact hK.out _ _ (Ks.refl B W) rfl
      case s9 =>
        have hx8 : xv 8 = Value.slice A n C := hd 8 (by kernel_rfl)
        clear hd
        simp only [Act.put, List.setIfInBounds_toArray, List.set_cons_succ, List.set_cons_zero] at hK
        rw [hx8] at hK ⊢
        refine (if_pos (by rfl)).mpr ?_
        go_simp
        exact hK.out _ _ (Ks.refl B W) rfl
      case s10 =>
        have hx4 : ∃ qa : Option Addr, xv 4 = .pointer qa ∧ qa = A := hd 4 (by kernel_rfl)
        have hx9 : xv 9 = Value.int .i64 (n : Int) := hd 9 (by kernel_rfl)
        clear hd
        simp only [Act.put, List.setIfInBounds_toArray, List.set_cons_succ, List.set_cons_zero] at hK
        rw [hx9] at hK ⊢
        refine (if_pos (by rfl)).mpr ?_
        obtain ⟨qa, e4, hqa⟩ := hx4
        rw [e4, hqa] at hK ⊢
        obtain ⟨W2, hr, ht⟩ := HUS.out W A rfl hW
        go_simp
        exact hK.out _ _ ht rfl
      case s11 =>
        have hx10 : xv 10 = Value.string ⟨l.toArray⟩ := hd 10 (by kernel_rfl)
        clear hd
        simp only [Act.put, List.setIfInBounds_toArray, List.set_cons_succ, List.set_cons_zero] at hK
        rw [hx10] at hK ⊢
        refine (if_pos (by rfl)).mpr ?_
        go_simp
        exact hK.out _ _ (Ks.refl B W) rfl
    case behind =>
      intro xv W hW hx a ha
      replace hW := hW.undrew
      simp only [fillA] at ha
      simp only [List.setIfInBounds_toArray, List.set_cons_succ, List.set_cons_zero, Nat.zero_add, Nat.reduceAdd] at ha
      subst ha
      have e11 : xv 11 = Value.string ⟨l.toArray⟩ := hx 11 (by decide)
      have HB := Lib.hid hW.bel
      rw [e11]
      clear hx hW e11 HSD HUS HC
      go_wp2
      go_ret
      exact ⟨rfl, HB.out⟩
end Go.Proofs.Ytpankfbdlakmcaa.Doc
