/-
  Layer 4 (lex): mark, the longest mark that bytes begin with, over the program's table of marks.
-/
import Derived.Test.YtoecimgmghlfpaaDoorLexNum
import Derived.Laws.Rows
import Derived.Deep.QuietTactic
import Derived.BigQuiet
namespace Go.Proofs.YtoecimgmghlfpaaDoor.Lex
open Go.ChangeShapes Go.WideShapes Go.ChangeAt Go.RowKit Utf
set_option linter.unusedVariables false

def mkl : List (List Int) := marks2 ++ marks1
def mkS (k : Nat) : ByteArray := strOfNums (mkl.getD k [])
def mkV : Array Value := (mkl.map fun m => Value.string (strOfNums m)).toArray
/-- The program's table of marks is as its text lays it. -/
def Tab (w : World) : Prop := ∃ t fr, w.heap[0]? = some (.cells mkV t fr)
theorem Tab.below {w w' : World} {B : Nat} (h : Tab w) (hb : Below B w w') (hB : 0 < B) : Tab w' := by
  obtain ⟨t, fr, h⟩ := h
  exact ⟨t, fr, (hb.block 0 hB).trans h⟩
theorem Tab.pos {w : World} (h : Tab w) : 0 < w.heap.size := by
  obtain ⟨t, fr, h⟩ := h
  rcases Nat.lt_or_ge 0 w.heap.size with h' | h'
  · exact h'
  · rw [Array.getElem?_eq_none h'] at h; cases h
theorem mkl_len : mkl.length = 37 := by decide +kernel
theorem mkV_size : mkV.size = 37 := by simp [mkV, mkl_len]
theorem mk_sizes : ∀ k : Fin 37, ((mkl.getD k.val []).length = if k.val < 17 then 2 else 1) := by decide +kernel
theorem mk_size {k : Nat} (h : k < 37) : (mkl.getD k []).length = if k < 17 then 2 else 1 := mk_sizes ⟨k, h⟩
theorem mk_byts : ∀ m ∈ mkl, ∀ x ∈ m, 0 ≤ x ∧ x < 256 := by decide +kernel

theorem strOfNums_size (m : List Int) : (strOfNums m).size = m.length := by simp [strOfNums, ByteArray.size]
theorem strOfNums_at {m : List Int} (hb : Byt m) {i : Nat} (hi : i < m.length) (h' : i < (strOfNums m).size) : (((strOfNums m)[i]'h').toNat : Int) = m.getD i 0 := by
  have hx := hb m[i] (List.getElem_mem hi)
  have e : (strOfNums m)[i]'h' = UInt8.ofNat (m[i]).toNat := by
    show (strOfNums m).data[i] = _
    simp [strOfNums]
  rw [e, u8_of _ (by omega)]
  simp [List.getD, hi]; omega

theorem run_idx_str {P : Program} (t : TypeId) (ht : P.underlying t = some .string) {m : List Int} (hb : Byt m) {i : Nat} (hi : i < m.length) (w : World) :
    (Instr.index t (.string (strOfNums m)) (.int .i64 (i : Int))).run P w = .ok (.int .u8 (m.getD i 0)) w := by
  rw [run_index_string w t _ _ _ ht, dif_pos ⟨by omega, by rw [strOfNums_size]; omega⟩]
  have := strOfNums_at hb hi (by rw [strOfNums_size]; omega)
  simp only [Int.toNat_natCast]
  rw [this]
theorem run_idx_agg {P : Program} (t e : TypeId) (n : Nat) (cs : Array Value) (ht : P.underlying t = some (.array n e)) (hs : ∀ w, (sizeOf e).run P w = .ok 1 w) (ha : ∀ w, (isAgg e).run P w = .ok false w) {i : Nat} (hi : i < cs.size) (hn : cs.size = n) (w : World) :
    (Instr.index t (.agg cs) (.int .i64 (i : Int))).run P w = .ok cs[i] w := by
  have hx : cs[i * 1]? = some cs[i] := by rw [Nat.mul_one]; exact Array.getElem?_eq_getElem hi
  simp [Instr.index, run_underlying ht, asIntOf, go_sem, hs, ha, show i < n by omega, hi]
theorem mkV_at {k : Nat} (hk : k < mkV.size) : mkV[k] = .string (mkS k) := by
  have h37 : k < mkl.length := by rw [mkl_len]; rw [mkV_size] at hk; exact hk
  simp [mkV, mkS, List.getD, h37]
theorem run_mark {k : Nat} (hk : k < 37) (w : World) : (Instr.index 98 (.agg mkV) (.int .i64 (k : Int))).run Tryd.prog w = .ok (.string (mkS k)) w := by
  rw [run_idx_agg 98 9 37 mkV Tryd.underlying98 Tryd.sizeOf9 Tryd.isAgg9 (by rw [mkV_size]; exact hk) mkV_size w, mkV_at]

/-! ### Which mark -/
/-- Bytes begin with the k-th mark. -/
def Pre (xs : List Int) (k : Nat) : Prop := xs.take (mkl.getD k []).length = mkl.getD k []
theorem mkl_two {k : Nat} (h : k < 17) : mkl.getD k [] ∈ marks2 := by
  have : ∀ k : Fin 17, mkl.getD k.val [] ∈ marks2 := by decide +kernel
  exact this ⟨k, h⟩
theorem mkl_one {k : Nat} (h1 : 17 ≤ k) (h : k < 37) : mkl.getD k [] ∈ marks1 := by
  have : ∀ k : Fin 37, 17 ≤ k.val → mkl.getD k.val [] ∈ marks1 := by decide +kernel
  exact this ⟨k, h⟩ h1
theorem two_mkl {m : List Int} (h : m ∈ marks2) : ∃ k, k < 17 ∧ mkl.getD k [] = m := by
  have : ∀ m ∈ marks2, ∃ k : Fin 17, mkl.getD k.val [] = m := by decide +kernel
  obtain ⟨k, hk⟩ := this m h
  exact ⟨k.val, k.isLt, hk⟩
theorem one_mkl {m : List Int} (h : m ∈ marks1) : ∃ k, 17 ≤ k ∧ k < 37 ∧ mkl.getD k [] = m := by
  have : ∀ m ∈ marks1, ∃ k : Fin 37, 17 ≤ k.val ∧ mkl.getD k.val [] = m := by decide +kernel
  obtain ⟨k, hk1, hk⟩ := this m h
  exact ⟨k.val, hk1, k.isLt, hk⟩
theorem no_two {xs : List Int} (h : ∀ j, j < 17 → ¬ Pre xs j) : xs.take 2 ∉ marks2 := by
  intro hm
  obtain ⟨k, hk, e⟩ := two_mkl hm
  have hl := mk_size (k := k) (by omega)
  rw [if_pos hk] at hl
  exact h k hk (by unfold Pre; rw [hl, e])
theorem mark_at {xs : List Int} {k : Nat} (hk : k < 37) (h : ∀ j, j < k → ¬ Pre xs j) (hp : Pre xs k) : markL xs = (mkl.getD k []).length := by
  have hl := mk_size hk
  unfold Pre at hp
  unfold markL
  by_cases h17 : k < 17
  · rw [if_pos h17] at hl
    rw [hl] at hp ⊢
    rw [if_pos (by rw [hp]; exact mkl_two h17)]
  · rw [if_neg h17] at hl
    rw [hl] at hp ⊢
    rw [if_neg (no_two (fun j hj => h j (by omega))), if_pos (by rw [hp]; exact mkl_one (by omega) hk)]
theorem mark_none {xs : List Int} (h : ∀ j, j < 37 → ¬ Pre xs j) : markL xs = 0 := by
  unfold markL
  rw [if_neg (no_two (fun j hj => h j (by omega))), if_neg]
  intro hm
  obtain ⟨k, hk1, hk, e⟩ := one_mkl hm
  have hl := mk_size hk
  rw [if_neg (by omega)] at hl
  exact h k hk (by unfold Pre; rw [hl, e])
theorem pre_long {xs : List Int} {k : Nat} (h : xs.length < (mkl.getD k []).length) : ¬ Pre xs k := by
  intro hp
  have := congrArg List.length hp
  rw [List.length_take] at this; omega
theorem pre_off {xs : List Int} {k i : Nat} (hi : i < (mkl.getD k []).length) (h : (mkl.getD k []).getD i 0 ≠ xs.getD i 0) : ¬ Pre xs k := by
  intro hp
  unfold Pre at hp
  apply h
  have := getD_take (l := xs) hi
  rw [hp] at this; exact this
theorem pre_all {xs : List Int} {k : Nat} (hl : (mkl.getD k []).length ≤ xs.length) (h : ∀ i, i < (mkl.getD k []).length → (mkl.getD k []).getD i 0 = xs.getD i 0) : Pre xs k := by
  unfold Pre
  generalize mkl.getD k [] = m at *
  refine List.ext_getElem (by rw [List.length_take]; omega) (fun i h1 h2 => ?_)
  have := h i h2
  simp only [List.getD, List.getElem?_eq_getElem h2, List.getElem?_eq_getElem (show i < xs.length by omega), Option.getD_some] at this
  rw [List.getElem_take]; exact this.symm

set_option maxHeartbeats 2000000 in
theorem mark_any (A : Option Addr) (n cap : Nat) (xs : List Int) (w : World) (B : Nat) (h : RB w B A xs) (hn : xs.length = n) (hn0 : 0 < n) (hcap : n ≤ cap) (hcap' : cap ≤ maxLen) (hsm : n ≤ 1000000) (hT : Tab w) :
    Calls Tryd.prog 78 #[.slice A n cap] w fun e w' => e = .returned (.int .i64 (markL xs)) ∧ ∃ q, w.drewN q = w' := by
  obtain ⟨b, off, rfl, _, hc⟩ := h.cell (by intro e; rw [e] at hn; simp at hn; omega)
  have HC := Lib.hid hc; clear hc
  have HB := Lib.hid h.byt; clear h
  have Hn := Lib.hid hn; clear hn
  obtain ⟨tt, fr, hg⟩ := hT
  have hload : ∀ q, (w.drewN q).heap[0]? = some (.cells mkV tt fr) := fun q => hg
  have Hl := Lib.hid hload; clear hg hload
  have HM := Lib.hid (fun (k : Nat) (hk : k < 37) (W : World) => run_mark hk W)
  unfold maxLen at hcap'
  go_enter Tryd.func78, Tryd.ntmps78
  go_wp2
  go_step3
  go_wp2
  go_step3
  go_wp2_with (refine wpList_load_row rfl _ _ rfl 0 rfl _ _ _ _ (Hl.out 0) Tryd.underlying98 rfl (by kernel_rfl) ?_)
  go_loopw [4, 5, 7, 17] (fun _ _ i _ wr => ∃ k q : Nat, k ≤ 37 ∧ i = .int .i64 k ∧ wr = w.drewN q ∧ Hid (∀ j, j < k → ¬ Pre xs j)) (fun _ _ i _ _ => 37 - (intOf i).toNat)
  case atStart => exact ⟨0, 0, by omega, rfl, rfl, fun j hj => absurd hj (by omega)⟩
  case round =>
    obtain ⟨k, q, hk, rfl, rfl, hpre⟩ := hrel
    by_cases hlt : k < 37
    · have hix := Lib.hid (HM.out k hlt)
      obtain ⟨L, hL⟩ : ∃ L, (mkl.getD k []).length = L := ⟨_, rfl⟩
      have hL2 : 1 ≤ L ∧ L ≤ 2 := by
        have := mk_size hlt
        rw [hL] at this
        split at this <;> omega
      have hbm : Byt (mkl.getD k []) := fun x hx => mk_byts _ (by
        have : k < mkl.length := by rw [mkl_len]; exact hlt
        simp only [List.getD, List.getElem?_eq_getElem this, Option.getD_some]
        exact List.getElem_mem this) x hx
      have hs : (mkS k).size = L := by rw [mkS, strOfNums_size, hL]
      have HX : Hid (∀ (i : Nat), i < L → ∀ W : World, (Instr.index 9 (.string (mkS k)) (.int .i64 (i : Int))).run Tryd.prog W = .ok (.int .u8 ((mkl.getD k []).getD i 0)) W) := fun i hi W => run_idx_str 9 Tryd.underlying9 hbm (by rw [hL]; exact hi) W
      have HNO : Hid (∀ i, i < L → (mkl.getD k []).getD i 0 ≠ xs.getD i 0 → ∀ j, j < k + 1 → ¬ Pre xs j) := fun i hi he j hj => by
        by_cases e : j = k
        · subst e; exact pre_off (by rw [hL]; exact hi) he
        · exact hpre.out j (by omega)
      have HLONG : Hid (n < L → ∀ j, j < k + 1 → ¬ Pre xs j) := fun hi j hj => by
        by_cases e : j = k
        · subst e; exact pre_long (by rw [hL, Hn.out]; exact hi)
        · exact hpre.out j (by omega)
      have HYES : Hid (L ≤ n → (∀ i, i < L → (mkl.getD k []).getD i 0 = xs.getD i 0) → markL xs = L) := fun hi he => by
        rw [mark_at hlt hpre.out (pre_all (by rw [hL, Hn.out]; exact hi) (fun i hi => he i (by rw [← hL]; exact hi))), hL]
      have HBM : Hid (∀ i, 0 ≤ (mkl.getD k []).getD i 0 ∧ (mkl.getD k []).getD i 0 < 256) := fun i => hbm.getD i
      obtain ⟨hL1, hL2⟩ := hL2
      clear hL hbm hpre
      generalize mkl.getD k [] = m at *
      generalize mkS k = s at *
      have hi0 := hix.out; clear hix
      have hk' : (k : Int) < 37 := by omega
      by_cases hLn : n < L
      · have HN1 := Lib.hid (HLONG.out hLn)
        clear HNO HYES HX HLONG
        go_wp2
        go_roundw
        case rel => exact ⟨k + 1, q, by omega, by go_num, rfl, HN1.out⟩
        case measure => simp [intOf]; omega
      · clear HLONG
        go_wp2
        go_loopw [5, 17] (fun _ i wr => ∃ p r : Nat, p ≤ L ∧ i = .int .i64 p ∧ wr = w.drewN r ∧ Hid (∀ i, i < p → m.getD i 0 = xs.getD i 0)) (fun _ i _ => L - (intOf i).toNat)
        case atStart => exact ⟨0, q, by omega, rfl, rfl, fun i hi => absurd hi (by omega)⟩
        case round =>
          obtain ⟨p, r, hp, rfl, rfl, heq⟩ := hrel
          by_cases hpL : p < L
          · have hxi := HX.out p hpL
            have hbm := HBM.out p
            have hci : ∀ q, (w.drewN q).cell? ⟨b, off + p, none⟩ = some (.int .u8 (xs.getD p 0)) := fun q => HC.out p (by rw [Hn.out]; omega)
            have hbx := HB.out.getD p
            have HNO1 := Lib.hid (HNO.out p hpL)
            have HYE1 : Hid (m.getD p 0 = xs.getD p 0 → ∀ i, i < p + 1 → m.getD i 0 = xs.getD i 0) := fun he i hi => by
              by_cases e : i = p
              · rw [e]; exact he
              · exact heq.out i (by omega)
            clear heq HNO HYES HX HBM
            generalize m.getD p 0 = x at *
            generalize xs.getD p 0 = y at *
            have hpn : (p : Int) < n := by omega
            by_cases hxy : x = y
            · subst hxy
              have HY2 := Lib.hid (HYE1.out rfl)
              clear HNO1 HYE1
              go_wp2
              go_quiet (fail)
              go_wp2
              go_roundw
              case rel => exact ⟨p + 1, _, by omega, by go_num, rfl, HY2.out⟩
              case measure => simp [intOf]; omega
            · have HN2 := Lib.hid (HNO1.out hxy)
              have hne : (x != y) = true := by rw [bne_iff_ne]; exact hxy
              clear HNO1 HYE1 hxy
              go_wp2
              go_quiet (fail)
              go_wp2
              go_roundw
              case rel => exact ⟨k + 1, _, by omega, by go_num, rfl, HN2.out⟩
              case measure => simp [intOf]; omega
          · have HE := Lib.hid (HYES.out (by omega) (fun i hi => heq.out i (by omega)))
            clear heq HNO HYES HX HBM
            go_wp2
            rw [Exit.noGoto_ret]
            go_wp2
            go_ret
            rw [HE.out]
            exact ⟨rfl, r, rfl⟩
    · have HE := Lib.hid (mark_none (fun j hj => hpre.out j (by omega)))
      have hnl : ¬ (k : Int) < 37 := by omega
      clear hpre hlt
      go_wp2
      go_ret
      rw [HE.out]
      exact ⟨rfl, q, rfl⟩

end Go.Proofs.YtoecimgmghlfpaaDoor.Lex
