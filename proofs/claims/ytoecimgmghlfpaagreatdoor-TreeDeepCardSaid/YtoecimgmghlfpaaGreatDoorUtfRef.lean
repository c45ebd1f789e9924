/-
  Layer 1 (utf): the document's own Next answers the sign with which bytes begin, at every slice of bytes.
-/
import Derived.Test.YtoecimgmghlfpaaGreatDoorUtfKnown
import Derived.Deep.QuietTactic
import Derived.BigQuiet
namespace Go.Proofs.YtoecimgmghlfpaaGreatDoor.Utf
open Go.ChangeShapes Go.WideShapes Go.ChangeAt Go.RowKit
set_option linter.unusedVariables false

theorem below_drewN {B : Nat} {a w : World} (h : Below B a w) (n : Nat) : Below B a (w.drewN n) := ⟨h.os, h.tape, h.output, h.size, h.block⟩

theorem str_toList {a b : ByteArray} (h : a.toList = b.toList) : a = b := by
  rw [ByteArray.toList_eq, ByteArray.toList_eq] at h
  cases a; cases b; simp at h; rw [h]

/-- No sign of fewer than m bytes stands at the front. -/
def NoHit (xs : List Int) (m : Nat) : Prop := ∀ j, 1 ≤ j → j < m → j ≤ xs.length → ¬ hit j xs

theorem md_bd {m : Nat} {c : Int} (h0 : 0 ≤ c) (h1 : c < 256) : 0 ≤ md m c ∧ md m c < 256 := by
  unfold md; repeat' split
  all_goals omega

theorem acc_mid {m : Nat} {c : Int} {r : List Int} {k : Nat} (h0 : 0 ≤ c) (h1 : c < 256) (hk : k ≤ 3) : 0 ≤ acc (md m c) (r.take k) ∧ acc (md m c) (r.take k) < 67108864 := by
  have hl : (r.take k).length ≤ k := List.length_take_le _ _
  have hb := md_bd (m := m) h0 h1
  have := acc_bd (r.take k) (md m c) 256 hb.1 hb.2
  have e0 : (r.take k).length = 0 ∨ (r.take k).length = 1 ∨ (r.take k).length = 2 ∨ (r.take k).length = 3 := by omega
  rcases e0 with e0 | e0 | e0 | e0 <;> rw [e0] at this <;> omega

set_option maxHeartbeats 4000000 in
theorem refNext_cons (b off : Nat) (cap : Nat) (c : Int) (r : List Int) (w : World) (hb : Byt (c :: r)) (hcap : r.length + 1 ≤ cap) (hcap' : cap ≤ maxLen) (hbw : b < w.heap.size)
    (hcell : ∀ i, i < r.length + 1 → w.cell? ⟨b, off + i, none⟩ = some (.int .u8 ((c :: r).getD i 0))) :
    Calls Tryz.prog 74 #[.slice (some ⟨b, off, none⟩) (r.length + 1) cap] w fun e w' => e = .returned (.tuple #[.int .i64 (nxt (c :: r)).1, .int .i64 ((nxt (c :: r)).2 : Nat)]) ∧ Below w.heap.size w w' := by
  unfold maxLen at hcap'
  obtain ⟨hc0, hc1⟩ := hb c (by simp)
  have hce : w.cell? ⟨b, off, none⟩ = some (.int .u8 c) := by simpa using hcell 0 (by omega)
  go_enter Tryz.func74, Tryz.ntmps74
  go_wp2
  go_loopw [4, 5, 6, 7, 8] (fun n _ _ _ _ wr => ∃ m : Nat, 1 ≤ m ∧ m ≤ 5 ∧ n = .int .i64 m ∧ NoHit (c :: r) m ∧ Below w.heap.size w wr) (fun n _ _ _ _ _ => 5 - (intOf n).toNat)
  case atStart => exact ⟨1, by omega, by omega, rfl, fun j _ _ => by omega, Below.refl _ _⟩
  case round =>
    obtain ⟨m, hm1, hm5, rfl, hno, hbel⟩ := hrel
    by_cases hend : m = 5 ∨ r.length + 1 < m
    · have hres : nxt (c :: r) = (-1, 0) := no_hit hb (fun j h1 h4 hl => hno j h1 (by rw [List.length_cons] at hl; omega) hl)
      have Hres := Lib.hid hres; clear hres
      rcases hend with hend | hend
      · have h54 : ¬ (m : Int) ≤ 4 := by omega
        clear hend
        go_wp2
        go_ret2
        rw [Hres.out]
        exact ⟨rfl, hbel⟩
      · have hlm : ¬ (m : Int) ≤ (r.length : Int) + 1 := by omega
        by_cases h54 : (m : Int) ≤ 4
        all_goals
          go_wp2
          go_ret2
          rw [Hres.out]
          exact ⟨rfl, hbel⟩
    · have hm4 : (m : Int) ≤ 4 := by omega
      have hml : (m : Int) ≤ (r.length : Int) + 1 := by omega
      have hce' : wr.cell? ⟨b, off, none⟩ = some (.int .u8 c) := (hbel.cell hbw).trans hce
      have hcell' : ∀ i, i < r.length + 1 → wr.cell? ⟨b, off + i, none⟩ = some (.int .u8 ((c :: r).getD i 0)) := fun i hi => (hbel.cell hbw).trans (hcell i hi)
      have Hcell := Lib.hid hcell'; clear hcell'
      have hmc : m = 1 ∨ m = 2 ∨ m = 3 ∨ m = 4 := by omega
      have hmd : md m c = if m = 2 then c % 32 else if m = 3 then c % 16 else if m = 4 then c % 8 else c := rfl
      have Hmid := Lib.hid (fun k (hk : k ≤ 3) => acc_mid (m := m) (r := r) (k := k) hc0 hc1 hk)
      have hK : refK m (c :: r) = acc (md m c) (r.take (m - 1)) := rfl
      generalize md m c = k0 at *
      have HK := Lib.hid hK; clear hK
      have h2 : ((m : Int) == 2) = decide (m = 2) := by by_cases h : m = 2 <;> simp [h]; omega
      have h3 : ((m : Int) == 3) = decide (m = 3) := by by_cases h : m = 3 <;> simp [h]; omega
      have h4 : ((m : Int) == 4) = decide (m = 4) := by by_cases h : m = 4 <;> simp [h]; omega
      obtain ⟨b2, e2⟩ : ∃ b2, decide (m = 2) = b2 := ⟨_, rfl⟩
      obtain ⟨b3, e3⟩ : ∃ b3, decide (m = 3) = b3 := ⟨_, rfl⟩
      obtain ⟨b4, e4⟩ : ∃ b4, decide (m = 4) = b4 := ⟨_, rfl⟩
      rw [e2] at h2; rw [e3] at h3; rw [e4] at h4
      have hk0 : k0 = if b2 then c % 32 else if b3 then c % 16 else if b4 then c % 8 else c := by rw [hmd, ← e2, ← e3, ← e4]; simp
      have hbs : (b2 = false ∧ b3 = false ∧ b4 = false) ∨ (b2 = true ∧ b3 = false ∧ b4 = false) ∨ (b2 = false ∧ b3 = true ∧ b4 = false) ∨ (b2 = false ∧ b3 = false ∧ b4 = true) := by
        rw [← e2, ← e3, ← e4]; simp; omega
      clear e2 e3 e4 hmd hmc hend
      rcases hbs with ⟨rfl, rfl, rfl⟩ | ⟨rfl, rfl, rfl⟩ | ⟨rfl, rfl, rfl⟩ | ⟨rfl, rfl, rfl⟩
      all_goals
        simp only [if_true, if_false, Bool.false_eq_true] at hk0
        have Hk0 := Lib.hid hk0; clear hk0
        go_wp2
        go_loop [5, 6] (fun k i => ∃ j : Nat, 1 ≤ j ∧ j ≤ m ∧ i = .int .i64 j ∧ k = .int .i64 (acc k0 (r.take (j - 1)))) (fun _ i => m - (intOf i).toNat)
        case atStart => exact ⟨1, by omega, hm1, rfl, by rw [Hk0.out]; rfl⟩
        case round =>
          obtain ⟨j, hj1, hjm, rfl, rfl⟩ := hrel
          by_cases hlt : j < m
          · have hck := Hcell.out j (by omega)
            have hd := hb.getD j
            have hj0 : (c :: r).getD j 0 = r.getD (j - 1) 0 := by
              obtain ⟨i, rfl⟩ : ∃ i, j = i + 1 := ⟨j - 1, by omega⟩
              simp [List.getD]
            have htk : r.take (j + 1 - 1) = r.take (j - 1) ++ [r.getD (j - 1) 0] := by
              have hjr : j - 1 < r.length := by omega
              rw [show j + 1 - 1 = (j - 1) + 1 from by omega, List.take_succ_eq_append_getElem hjr]; simp [List.getD, hjr]
            have hS := Hmid.out (j - 1) (by omega)
            have hsn := acc_snoc (r.take (j - 1)) (r.getD (j - 1) 0) k0
            rw [← htk] at hsn
            rw [hj0] at hck hd
            generalize r.getD (j - 1) 0 = d at *
            generalize acc k0 (r.take (j - 1)) = S at *
            have Hsn := Lib.hid hsn; clear hsn htk hj0
            obtain ⟨hd0, hd1⟩ := hd
            obtain ⟨hS0, hS1⟩ := hS
            have hjl : (j : Int) < (r.length : Int) + 1 := by omega
            go_wp2
            go_round
            case rel => exact ⟨j + 1, by omega, by omega, by go_num, by rw [Hsn.out]; congr 1; omega⟩
            case measure => simp [intOf]; omega
          · obtain rfl : j = m := by omega
            rw [← HK.out]
            obtain ⟨hS0, hS1⟩ := Hmid.out (j - 1) (by omega)
            rw [← HK.out] at hS0 hS1
            have hnh : ¬ hit j (c :: r) → NoHit (c :: r) (j + 1) := fun hh i h1 h2 h3 => by
              by_cases e : i = j
              · rw [e]; exact hh
              · exact hno i h1 (by omega) h3
            have hhit : hit j (c :: r) → nxt (c :: r) = (refK j (c :: r), j) := hit_nxt (by rw [List.length_cons]; omega)
            have hdef : hit j (c :: r) ↔ lenI (refK j (c :: r)) ≠ 0 ∧ enc (refK j (c :: r)) = (c :: r).take j := Iff.rfl
            generalize refK j (c :: r) = K at *
            generalize hit j (c :: r) = HIT at *
            have Hnh := Lib.hid hnh; have Hhit := Lib.hid hhit; have Hdef := Lib.hid hdef; clear hnh hhit hdef
            by_cases hz : lenI K = 0
            · have hB := Lib.hid (refBytes_no K wr hz)
              have hno' := Lib.hid (Hnh.out (fun h => (Hdef.out.1 h).1 hz))
              clear hz
              go_wp2_with (go_at_call 81; refine hB.out.mono ?_; rintro e w' ⟨rfl, rfl⟩)
              go_quiet (fail)
              go_wp2
              go_roundw
              case rel => exact ⟨j + 1, by omega, by omega, by go_num, hno'.out, below_drewN hbel _⟩
              case measure => simp [intOf]; omega
            · have hB := Lib.hid (refBytes_yes K wr hz)
              have hL := enc_length K
              have r1 := rb_enc wr K 5
              have hcw : ∀ i, i < r.length + 1 → (wr.alloc (.cells (encV K) 5)).cell? ⟨b, off + i, none⟩ = some (.int .u8 ((c :: r).getD i 0)) := fun i hi => by
                rw [World.cell?_alloc_lt _ _ _ (by have := hbel.size; show b < _; omega)]; exact Hcell.out i hi
              have hbelA : Below w.heap.size w (wr.alloc (.cells (encV K) 5)) := hbel.alloc hbel.size _
              have r2 : RB (wr.alloc (.cells (encV K) 5)) (b + 1) (some ⟨b, off, none⟩) (c :: r) := ⟨hb, .inr ⟨b, off, rfl, by omega, hcw⟩⟩
              have hlt2 : ((c :: r).take j).length = j := by rw [List.length_take, List.length_cons]; omega
              have c1 : ∀ nq, (convert 61 9 (.slice (some ⟨wr.heap.size, 0, none⟩) (lenI K) (lenI K))).run Tryz.prog ((wr.alloc (.cells (encV K) 5)).drewN nq) = .ok (.string (strOfNums (enc K))) ((wr.alloc (.cells (encV K) 5)).drewN nq) := fun nq => by
                have := run_conv (P := Tryz.prog) ((wr.alloc (.cells (encV K) 5)).drewN nq) 61 9 5 Tryz.underlying61 Tryz.underlying5 Tryz.underlying9 r1 (lenI K)
                rw [hL] at this; exact this
              have c2 : ∀ nq, (convert 61 9 (.slice (some ⟨b, off, none⟩) j cap)).run Tryz.prog ((wr.alloc (.cells (encV K) 5)).drewN nq) = .ok (.string (strOfNums ((c :: r).take j))) ((wr.alloc (.cells (encV K) 5)).drewN nq) := fun nq => by
                have := run_conv (P := Tryz.prog) ((wr.alloc (.cells (encV K) 5)).drewN nq) 61 9 5 Tryz.underlying61 Tryz.underlying5 Tryz.underlying9 (r2.take j) cap
                rw [hlt2] at this; exact this
              have hjc : (j : Int) ≤ cap := by omega
              by_cases heq : enc K = (c :: r).take j
              · have hres := Lib.hid (Hhit.out (Hdef.out.2 ⟨hz, heq⟩))
                rw [← heq] at c2
                clear hL hcw r1 r2 hlt2 hz heq
                generalize lenI K = L at *
                go_wp2_with (go_at_call 81; refine hB.out.mono ?_; rintro e w' ⟨rfl, rfl⟩)
                go_quiet (fail)
                go_wp2
                go_ret2
                rw [hres.out]
                exact ⟨rfl, below_drewN hbelA _⟩
              · have hno' := Lib.hid (Hnh.out (fun h => heq (Hdef.out.1 h).2))
                have hsne : ((strOfNums (enc K)).toList == (strOfNums ((c :: r).take j)).toList) = false := by
                  rw [beq_eq_false_iff_ne]; exact fun h => heq (strOfNums_inj (enc_byt K) (hb.take j) (str_toList h))
                clear hL hcw r1 r2 hlt2 hz heq
                generalize lenI K = L at *
                generalize strOfNums (enc K) = s1 at *
                generalize strOfNums ((c :: r).take j) = s2 at *
                go_wp2_with (go_at_call 81; refine hB.out.mono ?_; rintro e w' ⟨rfl, rfl⟩)
                go_quiet (fail)
                go_wp2
                go_roundw
                case rel => exact ⟨j + 1, by omega, by omega, by go_num, hno'.out, below_drewN hbelA _⟩
                case measure => simp [intOf]; omega

theorem refNext_nil (A : Option Addr) (cap : Nat) (w : World) :
    Calls Tryz.prog 74 #[.slice A 0 cap] w fun e w' => e = .returned (.tuple #[.int .i64 (-1), .int .i64 0]) ∧ Below w.heap.size w w' := by
  go_enter Tryz.func74, Tryz.ntmps74
  go_wp2
  go_loopw [4, 5, 6, 7, 8] (fun n _ _ _ _ wr => n = .int .i64 1 ∧ wr = w) (fun n _ _ _ _ _ => 5 - (intOf n).toNat)
  case atStart => exact ⟨rfl, rfl⟩
  case round =>
    obtain ⟨rfl, rfl⟩ := hrel
    go_wp2
    go_ret2
    exact ⟨rfl, Below.refl _ _⟩

/-- The document's Next, at every slice of bytes. -/
theorem refNext_any (A : Option Addr) (n cap : Nat) (xs : List Int) (w : World) (B : Nat) (h : RB w B A xs) (hn : xs.length = n) (hB : B ≤ w.heap.size) (hcap : n ≤ cap) (hcap' : cap ≤ maxLen) :
    Calls Tryz.prog 74 #[.slice A n cap] w fun e w' => e = .returned (.tuple #[.int .i64 (nxt xs).1, .int .i64 ((nxt xs).2 : Nat)]) ∧ Below w.heap.size w w' := by
  subst hn
  cases xs with
  | nil => exact refNext_nil A cap w
  | cons c r =>
    obtain ⟨b, off, rfl, hb, hc⟩ := h.cell (by simp)
    exact refNext_cons b off cap c r w h.byt hcap hcap' (by omega) hc

/-- utf.Next, its length by a name of its own. -/
theorem next_at (A : Option Addr) (n cap : Nat) (xs : List Int) (w : World) (B : Nat) (h : RB w B A xs) (hn : xs.length = n) (hcap : n ≤ cap) (hcap' : cap ≤ maxLen) :
    Calls Tryz.prog 82 #[.slice A n cap] w fun e w' => e = .returned (.tuple #[.int .i64 (nxt xs).1, .int .i64 ((nxt xs).2 : Nat)]) ∧ w = w' := by
  subst hn
  exact next_any A cap xs w B h hcap hcap'

/-- What the law's frame tells of a slice of integers that came in. -/
def Row (k : IntKind) (w : World) (a : Option Addr) (len cap : Nat) (zs : List Int) : Prop :=
  (a = none ∧ len = 0 ∧ cap = 0 ∧ zs = []) ∨
  ∃ x, a = some x ∧ len ≤ cap ∧ cap ≤ maxLen ∧ zs.length = cap ∧ (∀ i, i < zs.length → w.cell? (x.add i) = some (.int k (zs.getD i 0))) ∧ ∀ n ∈ zs, (Lit.int k n).wf = true

theorem block_lt {w : World} {a : Addr} {v : Value} (h : w.cell? a = some v) : a.block < w.heap.size := by
  rcases Nat.lt_or_ge a.block w.heap.size with h' | h'
  · exact h'
  · simp [World.cell?, Array.getElem?_eq_none h'] at h

theorem row_rb {w : World} {a : Option Addr} {len cap : Nat} {zs : List Int} (h : Row .u8 w a len cap zs) : ∃ xs, xs.length = len ∧ len ≤ cap ∧ cap ≤ maxLen ∧ RB w w.heap.size a xs := by
  rcases h with ⟨rfl, rfl, rfl, rfl⟩ | ⟨x, rfl, hl, hm, hz, hc, hw⟩
  · exact ⟨[], rfl, Nat.le_refl _, by simp [maxLen], RB.nil _ _ _⟩
  · refine ⟨zs.take len, by rw [List.length_take]; omega, hl, hm, ?_, ?_⟩
    · intro y hy
      have := bounds_u8 (hw y (List.mem_of_mem_take hy))
      omega
    · by_cases h0 : len = 0
      · subst h0; exact .inl rfl
      · obtain ⟨b, off, spot⟩ := x
        have hspot : spot = none := by simpa [Addr.add] using World.cell?_spot (hc 0 (by omega))
        subst hspot
        refine .inr ⟨b, off, rfl, by simpa [Addr.add] using block_lt (hc 0 (by omega)), fun i hi => ?_⟩
        rw [List.length_take] at hi
        have e : (⟨b, off, none⟩ : Addr).add i = ⟨b, off + i, none⟩ := by unfold Addr.add; split <;> simp_all
        rw [← e, hc i (by omega)]
        simp [List.getD, show i < len by omega]

end Go.Proofs.YtoecimgmghlfpaaGreatDoor.Utf
