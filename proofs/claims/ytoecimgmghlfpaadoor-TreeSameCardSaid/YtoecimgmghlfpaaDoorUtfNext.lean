/-
  Layer 1 (utf): Next answers the sign with which bytes begin, at every slice of bytes.
-/
import Derived.Test.YtoecimgmghlfpaaDoorUtfBase
import Derived.Outline
namespace Go.Proofs.YtoecimgmghlfpaaDoor.Utf
open Go.ChangeShapes Go.WideShapes Go.ChangeAt Go.RowKit
set_option linter.unusedVariables false

theorem acc_small {c : Int} {n : Nat} {r : List Int} {k : Nat} (h0 : 0 ≤ c) (hn : begN c = n) (hk : k + 1 < n) : 0 ≤ acc (begB c) (r.take k) ∧ acc (begB c) (r.take k) < 32768 := by
  have hl : (r.take k).length ≤ k := List.length_take_le _ _
  rcases begN_cases c with ⟨e, _⟩ | ⟨e, b, _⟩ | ⟨e, b, _⟩ | ⟨e, b, _⟩ | ⟨e, b, _⟩
  · omega
  · omega
  · have := acc_bd (r.take k) (begB c) 32 (by omega) (by omega)
    have e0 : (r.take k).length = 0 := by omega
    rw [e0] at this; omega
  · have := acc_bd (r.take k) (begB c) 16 (by omega) (by omega)
    have e0 : (r.take k).length = 0 ∨ (r.take k).length = 1 := by omega
    rcases e0 with e0 | e0 <;> rw [e0] at this <;> omega
  · have := acc_bd (r.take k) (begB c) 8 (by omega) (by omega)
    have e0 : (r.take k).length = 0 ∨ (r.take k).length = 1 ∨ (r.take k).length = 2 := by omega
    rcases e0 with e0 | e0 | e0 <;> rw [e0] at this <;> omega

theorem acc_end {c s : Int} {n : Nat} {r : List Int} (h0 : 0 ≤ c) (h1 : c < 256) (hn : begN c = n) (hs : begB c = s) : 0 ≤ acc s (r.take (n - 1)) ∧ acc s (r.take (n - 1)) < 2147483648 := by
  have hl : (r.take (n - 1)).length ≤ n - 1 := List.length_take_le _ _
  have hle : n ≤ 4 := by rw [← hn]; exact begN_le c
  have hb : 0 ≤ s ∧ s < 256 := by
    rw [← hs]
    unfold begB; repeat' split
    all_goals omega
  have := acc_bd (r.take (n - 1)) s 256 hb.1 hb.2
  have e0 : (r.take (n - 1)).length = 0 ∨ (r.take (n - 1)).length = 1 ∨ (r.take (n - 1)).length = 2 ∨ (r.take (n - 1)).length = 3 := by omega
  rcases e0 with e0 | e0 | e0 | e0 <;> rw [e0] at this <;> omega

set_option maxHeartbeats 1000000 in
theorem next_cons (b off : Nat) (cap : Nat) (c : Int) (r : List Int) (w : World) (hb : Byt (c :: r)) (hcap : r.length + 1 ≤ cap) (hcap' : cap ≤ maxLen)
    (hcell : ∀ i, i < r.length + 1 → w.cell? ⟨b, off + i, none⟩ = some (.int .u8 ((c :: r).getD i 0))) :
    Calls Tryd.prog 70 #[.slice (some ⟨b, off, none⟩) (r.length + 1) cap] w fun e w' => e = .returned (.tuple #[.int .i64 (nxt (c :: r)).1, .int .i64 ((nxt (c :: r)).2 : Nat)]) ∧ w = w' := by
  have hc := hb c (by simp)
  unfold maxLen at hcap'
  have hc0 : w.cell? ⟨b, off, none⟩ = some (.int .u8 c) := by simpa using hcell 0 (by omega)
  have hbeg := begin_any c w hc.1 hc.2
  obtain ⟨n, hn⟩ : ∃ n, begN c = n := ⟨_, rfl⟩
  obtain ⟨s, hs⟩ : ∃ s, begB c = s := ⟨_, rfl⟩
  rw [hn, hs] at hbeg
  have Hbeg := Lib.hid hbeg; clear hbeg
  have hle : n ≤ 4 := by rw [← hn]; exact begN_le c
  have hx := nxt_cons c r
  rw [hn, hs] at hx
  have Hn := Lib.hid hn; have Hs := Lib.hid hs; clear hn hs
  by_cases h0 : n = 0
  · subst h0
    rw [if_pos (.inl rfl)] at hx
    rw [hx]; clear hx Hn Hs
    have hr : ((r.length : Int) + 1 == 0) = false := by rw [beq_eq_false_iff_ne]; omega
    go_enter Tryd.func70, Tryd.ntmps70
    go_wp2_with (go_at_call 72; refine Hbeg.out.mono ?_; rintro e w' ⟨rfl, rfl⟩)
    go_ret2
    exact ⟨rfl, rfl⟩
  have hr : ((r.length : Int) + 1 == 0) = false := by rw [beq_eq_false_iff_ne]; omega
  have hn0 : ((n : Int) == 0) = false := by rw [beq_eq_false_iff_ne]; omega
  by_cases h1 : r.length + 1 < n
  · rw [if_pos (.inr h1)] at hx
    rw [hx]; clear hx Hn Hs
    go_enter Tryd.func70, Tryd.ntmps70
    go_wp2_with (go_at_call 72; refine Hbeg.out.mono ?_; rintro e w' ⟨rfl, rfl⟩)
    go_ret2
    exact ⟨rfl, rfl⟩
  rw [if_neg (by omega)] at hx
  have Hx := Lib.hid hx; clear hx
  have hnr : n ≤ r.length + 1 := by omega
  have hn1 : 1 ≤ n := by omega
  have hnr' : (n : Int) ≤ (r.length : Int) + 1 := by omega
  by_cases hcap1 : cap = 1
  · subst hcap1
    obtain rfl : r = [] := List.eq_nil_of_length_eq_zero (by omega)
    simp only [List.length_nil, Nat.zero_add] at hnr
    obtain rfl : n = 1 := by omega
    have hres : nxt [c] = (c, 1) := by
      have hcs := begN_cases c
      rw [Hn.out] at hcs
      have h3 : c < 128 := by omega
      have := nxt_of (k := c) (by rw [lenI_is1 hc.1 h3]; omega) []
      rw [enc1 (lenI_is1 hc.1 h3), lenI_is1 hc.1 h3] at this
      exact this
    have hsc : s = c := by
      have hcs := begN_cases c
      rw [Hn.out, Hs.out] at hcs
      omega
    subst hsc
    have h3 : s < 128 := by
      have hcs := begN_cases s
      rw [Hn.out] at hcs
      omega
    obtain ⟨s0, s1⟩ := hc
    have Hres := Lib.hid hres; clear hres
    have hL := length_any s w
    rw [lenI_is1 s0 h3] at hL
    have HL := Lib.hid hL; clear hL
    go_enter Tryd.func70, Tryd.ntmps70
    go_wp2_with (go_at_call 72; refine Hbeg.out.mono ?_; rintro e w' ⟨rfl, rfl⟩)
    go_loop [5, 7, 30] (fun sg _ i => i = .int .i64 0 ∧ sg = .int .i32 s) (fun _ _ _ => 0)
    case atStart => exact ⟨rfl, rfl⟩
    case round =>
      obtain ⟨rfl, rfl⟩ := hrel
      go_wp2_with (go_at_call 73; refine HL.out.mono ?_; rintro e w' ⟨rfl, rfl⟩)
      go_ret2
      rw [Hres.out]
      exact ⟨rfl, rfl⟩
  go_enter Tryd.func70, Tryd.ntmps70
  go_wp2_with (go_at_call 72; refine Hbeg.out.mono ?_; rintro e w' ⟨rfl, rfl⟩)
  go_loop [5, 7, 30] (fun sg _ i => ∃ k : Nat, k ≤ n - 1 ∧ i = .int .i64 k ∧ sg = .int .i32 (acc s (r.take k)) ∧ (r.take k).all cont = true) (fun _ _ i => (n - 1) - (intOf i).toNat)
  case atStart => exact ⟨0, Nat.zero_le _, rfl, rfl, rfl⟩
  case round =>
    obtain ⟨k, hk, rfl, rfl, hall⟩ := hrel
    by_cases hlt : k < n - 1
    · have hkr : k < r.length := by omega
      have hd := hb (r.getD k 0) (by simp [List.getD, hkr])
      have hck : w.cell? ⟨b, off + 1 + k, none⟩ = some (.int .u8 (r.getD k 0)) := by
        have := hcell (k + 1) (by omega)
        rw [show off + (k + 1) = off + 1 + k from by omega] at this
        rw [this]; simp [List.getD]
      have htk : r.take (k + 1) = r.take k ++ [r.getD k 0] := by
        rw [List.take_succ_eq_append_getElem hkr]; simp [List.getD, hkr]
      have hS : 0 ≤ acc s (r.take k) ∧ acc s (r.take k) < 32768 := by
        have := acc_small (r := r) hc.1 Hn.out (k := k) (by omega)
        rw [Hs.out] at this; exact this
      have hsn := acc_snoc (r.take k) (r.getD k 0) s
      rw [← htk] at hsn
      obtain ⟨_, _, _, hb63⟩ := andNot_of _ hd.1 hd.2
      have hal2 : (r.take (k + 1)).all cont = cont (r.getD k 0) := by rw [htk, List.all_append, hall]; simp
      generalize hde : r.getD k 0 = d at *
      generalize hSe : acc s (r.take k) = S at *
      have Hsn := Lib.hid hsn; have Hde := Lib.hid hde; have HSe := Lib.hid hSe; have Htk := Lib.hid htk; have Hall := Lib.hid hall; have Hal2 := Lib.hid hal2
      clear hsn hde hSe htk hall hal2
      obtain ⟨hS0, hS1⟩ := hS
      obtain ⟨hd0, hd1⟩ := hd
      by_cases hcd : cont d = true
      · rw [hcd] at hb63
        go_wp2
        go_round
        case rel => exact ⟨k + 1, by omega, by go_num, by rw [Hsn.out], by rw [Hal2.out, hcd]⟩
        case measure => simp [intOf]; omega
      · have hcd' : cont d = false := by simpa using hcd
        rw [hcd'] at hb63
        have hres : nxt (c :: r) = (-1, 0) := by
          rw [Hx.out, if_pos]
          have e : r.take (n - 1) = r.take (k + 1) ++ (r.drop (k + 1)).take (n - 1 - (k + 1)) := by
            rw [← List.take_append_drop (k + 1) (r.take (n - 1)), List.take_take, List.drop_take, Nat.min_eq_left (by omega)]
          rw [e, List.all_append, Hal2.out, hcd', Bool.false_and]
        have Hres := Lib.hid hres; clear hres hcd
        go_wp2
        go_ret2
        rw [Hres.out]
        exact ⟨rfl, rfl⟩
    · obtain rfl : k = n - 1 := by omega
      have hS : 0 ≤ acc s (r.take (n - 1)) ∧ acc s (r.take (n - 1)) < 2147483648 := acc_end hc.1 hc.2 Hn.out Hs.out
      have hres := Hx.out
      rw [if_neg (by rw [hall]; simp)] at hres
      generalize acc s (r.take (n - 1)) = S at *
      clear hall
      obtain ⟨hS0, hS1⟩ := hS
      by_cases hlen : lenI S = n
      · rw [if_pos hlen] at hres
        have Hres := Lib.hid hres; clear hres
        have hL := length_any S w
        rw [hlen] at hL
        have HL := Lib.hid hL; clear hL hlen
        have hnn : ((n : Int) != n) = false := by simp
        go_wp2_with (go_at_call 73; refine HL.out.mono ?_; rintro e w' ⟨rfl, rfl⟩)
        go_ret2
        rw [Hres.out]
        exact ⟨rfl, rfl⟩
      · rw [if_neg hlen] at hres
        have Hres := Lib.hid hres; clear hres
        have hL := length_any S w
        have hnn : ((lenI S : Int) != n) = true := by rw [bne_iff_ne]; omega
        generalize lenI S = L at *
        have HL := Lib.hid hL; clear hL hlen
        go_wp2_with (go_at_call 73; refine HL.out.mono ?_; rintro e w' ⟨rfl, rfl⟩)
        go_ret2
        rw [Hres.out]
        exact ⟨rfl, rfl⟩
theorem next_nil (A : Option Addr) (cap : Nat) (w : World) :
    Calls Tryd.prog 70 #[.slice A 0 cap] w fun e w' => e = .returned (.tuple #[.int .i64 (-1), .int .i64 0]) ∧ w = w' := by
  go_enter Tryd.func70, Tryd.ntmps70
  go_wp2
  go_ret2
  exact ⟨rfl, rfl⟩

/-- utf.Next, at every slice of bytes. -/
theorem next_any (A : Option Addr) (cap : Nat) (xs : List Int) (w : World) (B : Nat) (h : RB w B A xs) (hcap : xs.length ≤ cap) (hcap' : cap ≤ maxLen) :
    Calls Tryd.prog 70 #[.slice A xs.length cap] w fun e w' => e = .returned (.tuple #[.int .i64 (nxt xs).1, .int .i64 ((nxt xs).2 : Nat)]) ∧ w = w' := by
  cases xs with
  | nil => exact next_nil A cap w
  | cons c r =>
    obtain ⟨b, off, rfl, _, hc⟩ := h.cell (by simp)
    exact next_cons b off cap c r w h.byt hcap hcap' hc

end Go.Proofs.YtoecimgmghlfpaaDoor.Utf
