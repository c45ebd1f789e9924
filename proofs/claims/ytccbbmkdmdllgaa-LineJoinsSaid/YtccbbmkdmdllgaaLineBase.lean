/-
  Layer 2 (line): the small functions: few, IndexByte, Count, lineEnd.
-/
import Derived.Test.YtccbbmkdmdllgaaMem
import Derived.Test.YtccbbmkdmdllgaaLineMath
import Derived.Lib.BytesEntry
import Derived.Shelf.Bytes.SlCountOne
import Derived.Shelf.Bytes.SlIndexAt
namespace Go.Proofs.Ytccbbmkdmdllgaa.Line
open Go.ChangeShapes Go.WideShapes Go.ChangeAt Go.RowKit Mem
set_option linter.unusedVariables false

theorem u8_ten {x : Int} (h0 : 0 ≤ x) (h1 : x < 256) : (UInt8.ofNat x.toNat == (10 : UInt8)) = decide (x = 10) := by
  by_cases h : x = 10
  · subst h; rfl
  · rw [decide_eq_false h, beq_eq_false_iff_ne]
    intro e
    have := congrArg UInt8.toNat e
    rw [u8_of x.toNat (by omega)] at this
    have h2 : (10 : UInt8).toNat = 10 := rfl
    omega

theorem idx_full : ∀ (body r : List Int), Byt (body ++ 10 :: r) → 10 ∉ body → Lib.indexByte (Lib.bytesOf (body ++ 10 :: r)) 10 = body.length
  | [], r, _, _ => by simp [Lib.bytesOf, Lib.indexByte]
  | x :: body, r, hb, h => by
    have h1 : x ≠ 10 := fun e => h (by simp [e])
    have hx := hb x (by simp)
    have ih := idx_full body r (fun y hy => hb y (by simp only [List.cons_append, List.mem_cons]; exact .inr hy)) (fun e => h (by simp [e]))
    unfold Lib.bytesOf at ih ⊢
    simp only [List.cons_append, List.map_cons, Lib.indexByte, u8_ten hx.1 hx.2, h1, decide_false, Bool.false_eq_true, if_false]
    simp only [List.map_append, List.map_cons] at ih ⊢
    rw [ih, if_neg (by rw [beq_iff_eq]; omega)]
    simp
theorem idx_none : ∀ (body : List Int), Byt body → 10 ∉ body → Lib.indexByte (Lib.bytesOf body) 10 = -1
  | [], _, _ => rfl
  | x :: body, hb, h => by
    have h1 : x ≠ 10 := fun e => h (by simp [e])
    have hx := hb x (by simp)
    have ih := idx_none body (fun y hy => hb y (by simp [hy])) (fun e => h (by simp [e]))
    unfold Lib.bytesOf at ih ⊢
    simp only [List.map_cons, Lib.indexByte, u8_ten hx.1 hx.2, h1, decide_false, Bool.false_eq_true, if_false, ih]
    rfl

theorem rb_dropAt {w : World} {B b off : Nat} {xs : List Int} (h : RB w B (some ⟨b, off, none⟩) xs) (k : Nat) : RB w B (some ⟨b, off + k, none⟩) (xs.drop k) :=
  ⟨h.1.drop k, by
    rcases h.2 with e | ⟨b', off', e, hb, hc⟩
    · exact .inl (by rw [e]; simp)
    · obtain ⟨rfl, rfl⟩ : b = b' ∧ off = off' := by simpa using e
      refine .inr ⟨b, off + k, rfl, hb, fun i hi => ?_⟩
      rw [List.length_drop] at hi
      rw [Nat.add_assoc, hc (k + i) (by omega)]
      simp [List.getD, List.getElem?_drop]⟩

theorem run_idx {P : Program} {w : World} {B : Nat} {A : Option Addr} {xs : List Int} (h : RB w B A xs) (n c : Nat) (hn : xs.length = n) :
    (Extern.BytealgIndexByte.indexByte #[.slice A n c, .int .u8 10]).run P w = .ok (.int .i64 (Lib.indexByte (Lib.bytesOf xs) 10)) w := by
  rcases h.2 with e | ⟨b, off, rfl, _, hc⟩
  · subst e
    simp only [List.length_nil] at hn; subst hn
    rcases A with _ | a
    · exact Lib.run_indexByteNil w 0 c 10
    · exact Lib.run_indexByteAt w a 0 c [] rfl (fun i hi => by omega) 10
  · exact Lib.run_indexByteSlice w b off n c xs hn (fun i hi => hc i (by omega)) 10

theorem run_cnt {P : Program} {w : World} {B : Nat} {A : Option Addr} {xs : List Int} (h : RB w B A xs) (n c : Nat) (hn : xs.length = n) :
    ∃ k : Nat, (Extern.BytealgCount.count #[.slice A n c, .int .u8 10]).run P w = .ok (.int .i64 k) w ∧ k ≤ n := by
  have hle : Lib.countByte (Lib.bytesOf xs) 10 ≤ n := by
    have := List.count_le_length (a := (10 : UInt8)) (l := Lib.bytesOf xs)
    unfold Lib.countByte; rw [Lib.bytesOf_length] at this; omega
  rcases h.2 with e | ⟨b, off, rfl, _, hc⟩
  · subst e
    simp only [List.length_nil] at hn; subst hn
    rcases A with _ | a
    · exact ⟨0, Lib.run_countNil w 0 c 10, Nat.zero_le _⟩
    · exact ⟨_, Lib.run_countAt w a 0 c [] rfl (fun i hi => by omega) 10, hle⟩
  · exact ⟨_, Lib.run_countSlice w b off n c xs hn (fun i hi => hc i (by omega)) 10, hle⟩

theorem few_any (A : Option Addr) (n cap : Nat) (w : World) (hcap : n ≤ cap) (hcap' : cap ≤ maxLen) :
    Calls Try.prog 8 #[.slice A n cap] w fun e w' => e = .returned (.slice A (min n 20000) cap) ∧ w = w' := by
  unfold maxLen at hcap'
  by_cases hl : n ≤ 20000
  · rw [Nat.min_eq_left hl]
    go_enter Try.func8, Try.ntmps8
    go_wp2
    go_ret
    exact ⟨rfl, rfl⟩
  · rw [Nat.min_eq_right (by omega)]
    have hcl : (20000 : Int) ≤ cap := by omega
    go_enter Try.func8, Try.ntmps8
    go_wp2
    go_ret
    exact ⟨rfl, rfl⟩

theorem indexByte_any (A : Option Addr) (n cap : Nat) (xs : List Int) (w : World) (B : Nat) (h : RB w B A xs) (hn : xs.length = n) :
    Calls Try.prog 30 #[.slice A n cap, .int .u8 10] w fun e w' => e = .returned (.int .i64 (Lib.indexByte (Lib.bytesOf xs) 10)) ∧ w = w' := by
  have hr := run_idx (P := Try.prog) h n cap hn
  generalize Lib.indexByte (Lib.bytesOf xs) 10 = r at *
  clear h hn
  go_enter Try.func30, Try.ntmps30
  go_wp2
  rw [run_callFunc_extern Try.func35 (by kernel_rfl) (by kernel_rfl) (by kernel_rfl) (e := Extern.BytealgIndexByte.indexByte) (by kernel_rfl), hr]
  simp only [Result.andThen]
  rw [Oper.upon_value]
  go_wp2
  go_ret
  exact ⟨rfl, rfl⟩

theorem count_any (A : Option Addr) (n cap : Nat) (xs : List Int) (w : World) (g : Nat) (h : RB w g A xs) (hn : xs.length = n) (hg : w.cell? ⟨g, 0, none⟩ = some (.int .u8 10)) :
    ∃ k : Nat, k ≤ n ∧ Calls Try.prog 18 #[.slice A n cap, .slice (some ⟨g, 0, none⟩) 1 1] w fun e w' => e = .returned (.int .i64 k) ∧ w = w' := by
  obtain ⟨k, hr, hk⟩ := run_cnt (P := Try.prog) h n cap hn
  refine ⟨k, hk, ?_⟩
  clear h hn hk
  go_enter Try.func18, Try.ntmps18
  go_wp2
  rw [run_callFunc_extern Try.func22 (by kernel_rfl) (by kernel_rfl) (by kernel_rfl) (e := Extern.BytealgCount.count) (by kernel_rfl), hr]
  simp only [Result.andThen]
  rw [Oper.upon_value]
  go_wp2
  go_ret
  exact ⟨rfl, rfl⟩

theorem lineEnd_any (b off n cap k : Nat) (xs : List Int) (w : World) (B : Nat) (h : RB w B (some ⟨b, off, none⟩) xs) (hn : xs.length = n) (hk : k < n) (hcap : n ≤ cap) (hcap' : cap ≤ maxLen) :
    Calls Try.prog 25 #[.slice (some ⟨b, off, none⟩) n cap, .int .i64 k] w fun e w' => e = .returned (.int .i64 ((k + lend (xs.drop k) : Nat))) ∧ w = w' := by
  have hd := rb_dropAt h k
  have hck : ¬ cap = k := by omega
  have hdl : (xs.drop k).length = n - k := by rw [List.length_drop, hn]
  have HC := Lib.hid (indexByte_any _ (n - k) (cap - k) (xs.drop k) w B hd hdl)
  have hbt := hd.byt
  have hne : xs.drop k ≠ [] := by intro e; rw [e] at hdl; simp at hdl; omega
  have hle := (lend_cut _ hne).2.1
  rw [hdl] at hle
  unfold maxLen at hcap'
  by_cases hm : (10 : Int) ∈ xs.drop k
  · obtain ⟨body, r, e, hb⟩ := List.eq_append_cons_of_mem hm
    rw [e] at hbt HC hle ⊢
    rw [idx_full body r hbt hb] at HC
    rw [lend_full body r hb] at hle ⊢
    generalize body.length = m at *
    clear hbt hm hne hd hdl e h hb
    have hkn : (k : Int) ≤ (n : Int) := by omega
    go_enter Try.func25, Try.ntmps25
    go_wp2_with fail
    refine HC.out.mono ?_
    rintro e w' ⟨rfl, rfl⟩
    go_wp2_with fail
    go_ret
    exact ⟨ret1 (by omega), rfl⟩
  · rw [idx_none _ hbt hm] at HC
    rw [lend_rest _ hm hne, hdl] at hle ⊢
    clear hbt hm hne hd hdl h
    have hkn : (k : Int) ≤ (n : Int) := by omega
    go_enter Try.func25, Try.ntmps25
    go_wp2_with fail
    refine HC.out.mono ?_
    rintro e w' ⟨rfl, rfl⟩
    go_wp2_with fail
    go_ret
    exact ⟨ret1 (by omega), rfl⟩
end Go.Proofs.Ytccbbmkdmdllgaa.Line
