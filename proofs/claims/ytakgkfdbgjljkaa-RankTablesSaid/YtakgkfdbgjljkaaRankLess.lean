/-
  Layer 3 (rank): the document's Less, byte by byte; its Place.
-/
import Derived.Test.YtakgkfdbgjljkaaRankRef
namespace Go.Proofs.Ytakgkfdbgjljkaa.Rank
open Go.ChangeShapes Go.WideShapes Go.ChangeAt Go.RowKit MemC
set_option linter.unusedVariables false

theorem bl_drop (x y : List UInt8) (k : Nat) (hx : k < x.length) (hy : k < y.length) :
    Op.bytesLess (x.drop k) (y.drop k) = (decide (x[k] < y[k]) || (x[k] == y[k] && Op.bytesLess (x.drop (k + 1)) (y.drop (k + 1)))) := by
  rw [List.drop_eq_getElem_cons hx, List.drop_eq_getElem_cons hy]; rfl
theorem bl_end (x y : List UInt8) (k : Nat) (hx : k ≤ x.length) (hy : k ≤ y.length) (h : x.length ≤ k ∨ y.length ≤ k) : Op.bytesLess (x.drop k) (y.drop k) = decide (x.length < y.length) := by
  by_cases h1 : y.length ≤ k
  · rw [List.drop_eq_nil_of_le h1, Op.bytesLess, decide_eq_false (by omega)]
  · have h2 : x.length ≤ k := by omega
    rw [List.drop_eq_nil_of_le h2, List.drop_eq_getElem_cons (by omega), Op.bytesLess, decide_eq_true (by omega)]

theorem toList_len (x : ByteArray) : x.toList.length = x.size := by rw [ByteArray.toList_eq]; rfl
theorem toList_get (x : ByteArray) (k : Nat) (h : k < x.size) : x.toList[k]'(by rw [toList_len]; exact h) = x[k] := by
  simp only [ByteArray.toList_eq]; rfl

theorem bl_eq {a b : UInt8} (h : a = b) (r : Bool) : (decide (a < b) || (a == b && r)) = r := by
  subst h; simp
theorem bl_ne {a b : UInt8} (h : ¬ a = b) (r : Bool) : (decide (a < b) || (a == b && r)) = decide (a.toNat < b.toNat) := by
  rw [beq_eq_false_iff_ne.2 h, Bool.false_and, Bool.or_false]
  simp [UInt8.lt_iff_toNat_lt]

set_option maxRecDepth 100000 in
set_option maxHeartbeats 2000000 in
theorem lessR_any (x y : ByteArray) (w : World) (hx : x.size ≤ 1000000000) (hy : y.size ≤ 1000000000) :
    Calls Try.prog 32 #[.string x, .string y] w fun e w' => e = .returned (.bool (Op.bytesLess x.toList y.toList)) ∧ ∃ q, w' = w.drewN q := by
  go_enter Try.func32, Try.ntmps32
  go_wp2
  go_loopw [5] (fun s5 wr => ∃ k q : Nat, k ≤ x.size ∧ k ≤ y.size ∧ s5 = .int .i64 k ∧ Hid (Op.bytesLess x.toList y.toList = Op.bytesLess (x.toList.drop k) (y.toList.drop k)) ∧ wr = w.drewN q) (fun s5 _ => x.size - (intOf s5).toNat)
  case atStart => exact ⟨0, 0, Nat.zero_le _, Nat.zero_le _, rfl, by show _ = _; rw [List.drop_zero, List.drop_zero], rfl⟩
  case round =>
    obtain ⟨k, q, hkx, hky, rfl, HI, rfl⟩ := hrel
    by_cases hlt : k < x.size ∧ k < y.size
    · obtain ⟨h1, h2⟩ := hlt
      have h1' : (k : Int) < (x.size : Int) := by omega
      have h2' : (k : Int) < (y.size : Int) := by omega
      have hd := bl_drop x.toList y.toList k (by rw [toList_len]; exact h1) (by rw [toList_len]; exact h2)
      rw [toList_get x k h1, toList_get y k h2] at hd
      have HD := Lib.hid hd
      clear hd
      by_cases he : x[k] = y[k]
      · have hne : (((x[k]).toNat : Int) != ((y[k]).toNat : Int)) = false := by rw [he]; simp
        have HE := Lib.hid he
        clear he
        go_wp2
        go_quiet (fail)
        go_wp2
        go_roundw
        case rel => exact ⟨k + 1, _, by omega, by omega, by go_num, (by show _ = _; rw [HI.out, HD.out, bl_eq HE.out]), rfl⟩
        case measure => simp [intOf]; omega
      · have hne : (((x[k]).toNat : Int) != ((y[k]).toNat : Int)) = true := by
          rw [bne_iff_ne]; intro h; exact he (UInt8.toNat_inj.1 (by omega))
        have HE := Lib.hid he
        clear he
        go_wp2
        go_quiet (fail)
        go_wp2
        go_quiet (fail)
        go_wp2
        go_ret
        exact ⟨by rw [HI.out, HD.out, bl_ne HE.out]; rfl, by rw [World.drewN_drewN, World.drewN_drewN]; exact ⟨_, rfl⟩⟩
    · have HN : Hid (x.toList.length ≤ k ∨ y.toList.length ≤ k) := by show _ ∨ _; rw [toList_len, toList_len]; omega
      have hfin := bl_end x.toList y.toList k (by rw [toList_len]; exact hkx) (by rw [toList_len]; exact hky) HN.out
      rw [toList_len, toList_len] at hfin
      have HD := Lib.hid hfin
      clear hfin
      by_cases h1 : k < x.size
      · have h2 : ¬ (k : Int) < (y.size : Int) := by omega
        have h2' : decide ((k : Int) < (y.size : Int)) = false := by simpa using h2
        have h1' : (k : Int) < (x.size : Int) := by omega
        go_wp2
        go_ret
        exact ⟨by rw [HI.out, HD.out]; simp, _, rfl⟩
      · have h2 : ¬ (k : Int) < (x.size : Int) := by omega
        have h2' : decide ((k : Int) < (x.size : Int)) = false := by simpa using h2
        go_wp2
        go_ret
        exact ⟨by rw [HI.out, HD.out]; simp, _, rfl⟩
set_option maxHeartbeats 1000000 in
theorem refPlace_any (A : Option Addr) (n cap : Nat) (xs : List Int) (x : Int) (w : World) (B : Nat) (hr : RI w B A xs) (hx : xs.length = n) (hn : n ≤ 1000000) :
    Calls Try.prog 19 #[.slice A n cap, .int .i64 x] w fun e w' => e = .returned (.int .i64 (cnt x xs : Nat)) ∧ w = w' := by
  have H := Lib.hid hr
  have Hx := Lib.hid hx
  clear hr hx
  go_enter Try.func19, Try.ntmps19
  go_wp2
  go_loop [5, 6] (fun s5 s6 => ∃ k c : Nat, k ≤ n ∧ s6 = .int .i64 k ∧ s5 = .int .i64 c ∧ c ≤ k ∧ Hid (cnt x (xs.take k) = c)) (fun _ s6 => n - (intOf s6).toNat)
  case atStart => exact ⟨0, 0, Nat.zero_le _, rfl, rfl, Nat.le_refl _, rfl⟩
  case round =>
    obtain ⟨k, c, hk, rfl, rfl, hck, HC⟩ := hrel
    by_cases hlt : k < n
    · obtain ⟨b, off, rfl, _, hcell⟩ := H.out.at_ (i := k) (by rw [Hx.out]; exact hlt)
      have HS := Lib.hid (cnt_snoc x xs k (by rw [Hx.out]; exact hlt))
      have hlt' : (k : Int) < (n : Int) := by omega
      by_cases hy : xs.getD k 0 < x
      · have HY := Lib.hid hy
        generalize xs.getD k 0 = y at *
        go_wp2
        go_round
        case rel => exact ⟨k + 1, c + 1, by omega, by go_num, by go_num, by omega, (by have h1 := HS.out; rw [if_pos HY.out, HC.out] at h1; exact h1)⟩
        case measure => simp [intOf]; omega
      · have HY := Lib.hid hy
        generalize xs.getD k 0 = y at *
        go_wp2
        go_round
        case rel => exact ⟨k + 1, c, by omega, by go_num, rfl, by omega, (by have h1 := HS.out; rw [if_neg HY.out, HC.out] at h1; exact h1)⟩
        case measure => simp [intOf]; omega
    · obtain rfl : n = k := by omega
      have hge : ¬ (n : Int) < (n : Int) := by omega
      go_wp2
      go_ret
      have hfin : cnt x xs = c := by
        have h1 := HC.out
        rwa [List.take_of_length_le (by rw [Hx.out]; exact Nat.le_refl _)] at h1
      exact ⟨by rw [hfin]; rfl, rfl⟩
end Go.Proofs.Ytakgkfdbgjljkaa.Rank
