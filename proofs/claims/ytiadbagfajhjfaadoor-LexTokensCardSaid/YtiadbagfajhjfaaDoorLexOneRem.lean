/-
  Layer 4 (lex): the reference's 'one' at remarks.
-/
import Derived.Test.YtiadbagfajhjfaaDoorLexOneMark
namespace Go.Proofs.YtiadbagfajhjfaaDoor.Lex
open Go.ChangeShapes Go.WideShapes Go.ChangeAt Go.RowKit Utf MemT
set_option linter.unusedVariables false

def nonl (c : Int) : Bool := c != 10
theorem lineL_is (t : List Int) : lineL t = lead nonl t := rfl
theorem rem_heads : ∀ {t : List Int}, t.take 2 = [47, 47] → 1 < t.length ∧ t.getD 0 0 = 47 ∧ t.getD 1 0 = 47 ∧ 2 ≤ lead nonl t
  | [], h => by simp at h
  | [x], h => by simp at h
  | x :: y :: r, h => by
    simp only [List.take_succ_cons, List.take_zero, List.cons.injEq, and_true] at h
    obtain ⟨rfl, rfl⟩ := h
    refine ⟨by simp, by simp, by simp, ?_⟩
    simp [lead, nonl]
theorem rem_step {t : List Int} {L e : Nat} (hL : lineL t = L) (h1 : t.getD 1 0 = 47) (he : 2 ≤ e) (hl : e ≤ L) (h : ∀ i, e ≤ i → i < L → blk (t.getD i 0) = true) :
    (blk (t.getD (e - 1) 0) = true → 3 ≤ e ∧ ∀ i, e - 1 ≤ i → i < L → blk (t.getD i 0) = true) ∧ (blk (t.getD (e - 1) 0) = false → remL t = e) := by
  have hlen : L ≤ t.length := by rw [← hL]; exact lead_le _ _
  constructor
  · intro hb
    refine ⟨?_, fun i h2 h3 => ?_⟩
    · rcases Nat.lt_or_ge 2 e with h' | h'
      · exact h'
      · obtain rfl : e = 2 := by omega
        rw [show 2 - 1 = 1 from rfl, h1] at hb
        exact absurd hb (by decide)
    · by_cases hi : i = e - 1
      · rw [hi]; exact hb
      · exact h i (by omega) h3
  · intro hb
    unfold remL
    rw [hL]
    have hlt : (t.take L).length = L := by rw [List.length_take]; omega
    refine trimL_is (t.take L) e (by omega) (fun _ => ?_) (fun i h2 h3 => ?_)
    · rw [getD_take (by omega)]; exact hb
    · rw [getD_take (by omega)]; exact h i h2 (by omega)

set_option maxHeartbeats 4000000 in
theorem one_rem (t : List Int) (ht : Byt t) (hn : t.length ≤ 100000000) (hc : t.take 2 = [47, 47]) (w : World) :
    Calls Tryd.prog 22 #[.string (strOfNums t)] w fun e w' => e = .returned (.tuple #[.int .i64 5, .int .i64 (remL t : Int)]) ∧ w = w' := by
  obtain ⟨h1, c0, c1, hl2⟩ := rem_heads hc
  have hix := fun W => one_idx0 ht (by omega) W
  have hix1 : ∀ W : World, (Instr.index 9 (.string (strOfNums t)) (.int .i64 1)).run Tryd.prog W = .ok (.int .u8 (t.getD 1 0)) W := fun W => run_idx_str (P := Tryd.prog) 9 Tryd.underlying9 ht (i := 1) h1 W
  have HIX := one_idx ht
  have hsz : (strOfNums t).size = t.length := strOfNums_size t
  rw [c0] at hix
  rw [c1] at hix1
  have HB : Hid (∀ c W, Calls Tryd.prog 21 #[.int .u8 c] W fun e w' => e = .returned (.bool (blk c)) ∧ W = w') := blank_any
  have HSTEP : Hid (∀ L e, lineL t = L → 2 ≤ e → e ≤ L → (∀ i, e ≤ i → i < L → blk (t.getD i 0) = true) → _) := fun L e a b c d => rem_step a c1 b c d
  have HLS : Hid (∀ k, k ≤ lead nonl t → k < t.length → t.getD k 0 ≠ 10 → k + 1 ≤ lead nonl t) := fun k a b c => lead_step (p := nonl) a b (by unfold nonl; rw [bne_iff_ne]; exact c)
  have HLA : Hid (∀ k, k ≤ lead nonl t → t.getD k 0 = 10 → lineL t = k) := fun k a c => lead_at (p := nonl) a (by unfold nonl; rw [c]; rfl)
  have HLE : Hid (∀ k, k ≤ lead nonl t → t.length ≤ k → lineL t = k) := fun k a c => lead_end (p := nonl) a c
  have HL2 := Lib.hid hl2
  have HREM : Hid (∀ k, lineL t = k → k ≤ t.length) := fun k a => by rw [← a]; exact lead_le _ _
  obtain ⟨n, hnn⟩ : ∃ n, t.length = n := ⟨_, rfl⟩
  rw [hnn] at HIX hsz h1 hn HLS HLE HREM
  obtain ⟨s, hs⟩ : ∃ s, strOfNums t = s := ⟨_, rfl⟩
  rw [hs] at HIX hsz hix hix1 ⊢
  have h1' : (1 : Int) < (n : Int) := by omega
  generalize remL t = R at *
  clear hs hnn ht hc c0 c1 hl2
  go_enter Tryd.func22, Tryd.ntmps22
  go_wp2
  go_loop [4] (fun i => ∃ k : Nat, 2 ≤ k ∧ k ≤ n ∧ i = .int .i64 k ∧ Hid (k ≤ lead nonl t)) (fun i => n - (intOf i).toNat)
  case atStart => exact ⟨2, by omega, by omega, rfl, HL2.out⟩
  case round =>
    obtain ⟨k, hk1, hk, rfl, hle⟩ := hrel
    have hq : (k < n ∧ t.getD k 0 ≠ 10) ∨ (k < n ∧ t.getD k 0 = 10) ∨ ¬ k < n := by omega
    rcases hq with ⟨hlt, hd⟩ | ⟨hlt, hd⟩ | hlt
    · have hxi := HIX.out k hlt
      have HX := Lib.hid (HLS.out k hle.out hlt hd)
      have nd : (t.getD k 0 != 10) = true := by rw [bne_iff_ne]; exact hd
      have hlt' : (k : Int) < n := by omega
      clear hix hix1 hle
      generalize t.getD k 0 = c at *
      clear hd
      go_wp2
      go_round
      case rel => exact ⟨k + 1, by omega, by omega, by go_num, HX.out⟩
      case measure => simp [intOf]; omega
    case' inr.inl =>
      have hxi := HIX.out k hlt
      rw [hd] at hxi
      have hlk := HLA.out k hle.out hd
      have hlt' : (k : Int) < n := by omega
    case' inr.inr =>
      have hlk := HLE.out k hle.out (by omega)
      have hlt' : ¬ (k : Int) < n := by omega
    all_goals
      have HK := Lib.hid hlk
      clear hix hix1 hle hlk
      go_wp2
      go_loop [4] (fun i => ∃ e : Nat, 2 ≤ e ∧ e ≤ k ∧ i = .int .i64 e ∧ Hid (∀ i, e ≤ i → i < k → blk (t.getD i 0) = true)) (fun i => (intOf i).toNat)
      case atStart => exact ⟨k, by omega, by omega, rfl, fun i a b => absurd a (by omega)⟩
      case round =>
        obtain ⟨e, he1, he, rfl, hall⟩ := hrel
        obtain ⟨A1, A2⟩ := HSTEP.out k e HK.out he1 he hall.out
        obtain ⟨f, rfl⟩ : ∃ f, e = f + 1 := ⟨e - 1, by omega⟩
        rw [show f + 1 - 1 = f from rfl] at A1 A2
        have hxf := HIX.out f (by omega)
        have HC := Lib.hid (HB.out (t.getD f 0) w)
        have HA1 := Lib.hid A1; have HA2 := Lib.hid A2
        clear A1 A2 hall
        obtain ⟨b, hb⟩ : ∃ b, blk (t.getD f 0) = b := ⟨_, rfl⟩
        rw [hb] at HC HA1 HA2
        clear hb
        generalize t.getD f 0 = c at *
        cases b with
        | true =>
          obtain ⟨q1, q2⟩ := HA1.out rfl
          have HQ := Lib.hid q2
          clear HA1 HA2 q2
          go_wp2_with (first | (go_at_call 21; refine HC.out.mono ?_; rintro e w' ⟨rfl, rfl⟩))
          go_round
          case rel => exact ⟨f, by omega, by omega, by go_num, HQ.out⟩
          case measure => simp [intOf]
        | false =>
          have HR := Lib.hid (HA2.out rfl)
          clear HA1 HA2
          go_wp2_with (first | (go_at_call 21; refine HC.out.mono ?_; rintro e w' ⟨rfl, rfl⟩))
          go_ret2
          exact ⟨by rw [HR.out]; rfl, rfl⟩

end Go.Proofs.YtiadbagfajhjfaaDoor.Lex
