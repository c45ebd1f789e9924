/-
  Layer 1 (utf): the walk over the signs from the front: Bad and Text.
-/
import Derived.Test.YtoecimgmghlfpaaDoorUtfRef
import Derived.Outline
import Derived.WalkMore
import Derived.OneCell
import Derived.OwnWalk
import Derived.Maps.AppendAt
namespace Go.Proofs.YtoecimgmghlfpaaDoor.Utf
open Go.ChangeShapes Go.WideShapes Go.ChangeAt Go.RowKit
set_option linter.unusedVariables false

/-- One sign more. -/
theorem step_more {xs ks : List Int} {k : Nat} (hb : Byt xs) (h1 : Sgs ks) (h2 : encs ks = xs.take k) (h0 : (nxt (xs.drop k)).2 ≠ 0) (hk : k ≤ xs.length) :
    k + (nxt (xs.drop k)).2 ≤ xs.length ∧ Sgs (ks ++ [(nxt (xs.drop k)).1]) ∧ encs (ks ++ [(nxt (xs.drop k)).1]) = xs.take (k + (nxt (xs.drop k)).2) := by
  obtain ⟨e1, e2⟩ := nxt_some (k := (nxt (xs.drop k)).1) (n := (nxt (xs.drop k)).2) (hb.drop k) rfl h0
  have hle := nxt_le (hb.drop k)
  rw [List.length_drop] at hle
  refine ⟨by omega, h1.snoc (by omega), ?_⟩
  rw [encs_snoc, h2, List.take_add]
  congr 1
  generalize nxt (xs.drop k) = p at *
  rw [e2, List.take_append_of_le_length (by rw [enc_length]; omega), List.take_of_length_le (by rw [enc_length]; omega)]

theorem bad1_any (k : Int) (w : World) : Calls Tryd.prog 66 #[.int .i64 k] w fun e w' => e = .returned (.tuple #[]) ∧ w = w' := by
  go_enter Tryd.func66, Tryd.ntmps66
  go_wp2
  go_end0
  exact ⟨rfl, rfl⟩

set_option maxHeartbeats 1000000 in
theorem bad_any (A : Option Addr) (n cap : Nat) (xs : List Int) (w : World) (B : Nat) (h : RB w B A xs) (hn : xs.length = n) (hcap : n ≤ cap) (hcap' : cap ≤ maxLen) :
    Calls Tryd.prog 61 #[.slice A n cap] w fun e w' => e = .returned (.int .i64 (bad xs)) ∧ w = w' := by
  have hB := Lib.hid h.byt
  have Hn := Lib.hid hn; clear hn
  have h := Lib.hid h
  unfold maxLen at hcap'
  go_enter Tryd.func61, Tryd.ntmps61
  go_wp2
  go_step3
  go_wp2
  go_step3
  go_wp2
  go_loop [5, 6, 7] (fun at_ _ _ => ∃ (k : Nat) (ks : List Int), k ≤ n ∧ at_ = .int .i64 k ∧ Hid (Sgs ks ∧ encs ks = xs.take k)) (fun at_ _ _ => n - (intOf at_).toNat)
  case atStart => exact ⟨0, [], Nat.zero_le _, rfl, Sgs.nil, rfl⟩
  case round =>
    obtain ⟨k, ks, hk, rfl, hks⟩ := hrel
    have hstep : Hid ((nxt (xs.drop k)).2 = 0 → k = bad xs) := fun h0 => (bad_of hB.out hks.out.1 (by rw [Hn.out]; exact hk) hks.out.2 h0).2
    have hmore : Hid ((nxt (xs.drop k)).2 ≠ 0 → k + (nxt (xs.drop k)).2 ≤ n ∧ Sgs (ks ++ [(nxt (xs.drop k)).1]) ∧ encs (ks ++ [(nxt (xs.drop k)).1]) = xs.take (k + (nxt (xs.drop k)).2)) := fun h0 => by
      have := step_more hB.out hks.out.1 hks.out.2 h0 (by rw [Hn.out]; exact hk)
      rw [Hn.out] at this; exact this
    have hC : ∀ A', (A' = if cap = k then A else A.map (·.add k)) → Calls Tryd.prog 70 #[.slice A' (n - k) (cap - k)] w fun e w' => e = .returned (.tuple #[.int .i64 (nxt (xs.drop k)).1, .int .i64 ((nxt (xs.drop k)).2 : Nat)]) ∧ w = w' := fun A' hA => by
      rw [hA]
      exact next_at _ (n - k) (cap - k) (xs.drop k) w _ (h.out.drop (by rw [Hn.out]; exact hk) (by rw [Hn.out]; omega)) (by rw [List.length_drop, Hn.out]) (by omega) (by unfold maxLen; omega)
    generalize nxt (xs.drop k) = p at *
    obtain ⟨sg, m⟩ := p
    have HC := Lib.hid hC; clear hC
    by_cases h0 : m = 0
    · subst h0
      have hend := Lib.hid (hstep.out rfl)
      clear hstep hmore hks
      by_cases hck : cap = k
      · have HC2 := Lib.hid (HC.out A (by rw [if_pos hck]))
        have hck2 : cap - k = 0 := by omega
        rw [hck2] at HC2
        go_wp2_with (go_at_call 70; refine HC2.out.mono ?_; rintro e w' ⟨rfl, rfl⟩)
        rw [Exit.noGoto_ret]
        go_wp2
        go_ret
        rw [← hend.out]
        exact ⟨rfl, rfl⟩
      · have HC2 := Lib.hid (HC.out _ (by rw [if_neg hck]))
        go_wp2_with (go_at_call 70; refine HC2.out.mono ?_; rintro e w' ⟨rfl, rfl⟩)
        rw [Exit.noGoto_ret]
        go_wp2
        go_ret
        rw [← hend.out]
        exact ⟨rfl, rfl⟩
    · have hm0 : ((m : Int) == 0) = false := by rw [beq_eq_false_iff_ne]; omega
      obtain ⟨hm1, hm2⟩ := hmore.out h0
      have HM := Lib.hid hm2; clear hm2 hstep hmore
      have hck : ¬ cap = k := by omega
      have HC2 := Lib.hid (HC.out _ (by rw [if_neg hck]))
      go_wp2_with (go_at_call 70; refine HC2.out.mono ?_; rintro e w' ⟨rfl, rfl⟩)
      refine (bad1_any _ _).mono ?_
      rintro e w' ⟨rfl, rfl⟩
      go_wp2
      go_round
      case rel => exact ⟨k + m, ks ++ [sg], by omega, by go_num, HM.out⟩
      case measure => simp [intOf]; omega

theorem int_info : (Tryd.prog.info? 3).map (fun i => (i.zero, i.size, i.bytes)) = some (some (.int .i64 0), 1, 8) := by kernel_rfl
theorem u8_info : (Tryd.prog.info? 5).map (fun i => (i.zero, i.size, i.bytes)) = some (some (.int .u8 0), 1, 1) := by kernel_rfl

theorem own_form {w : World} {base : Nat} {e : TypeId} {size : Nat} {v : Value} {n : Nat} {xs : List Value} (h : w.ownsRow base e size v n xs) (hn : 0 < n) : ∃ g cap, v = .slice (some ⟨g, 0, none⟩) n cap := by
  rcases h.2 with ⟨_, h0⟩ | ⟨g, cap, _, hv, _⟩
  · omega
  · exact ⟨g, cap, hv⟩
theorem own_slice {w : World} {base : Nat} {e : TypeId} {size : Nat} {v : Value} {n : Nat} {xs : List Value} (h : w.ownsRow base e size v n xs) : ∃ a cap, v = .slice a n cap ∧ n ≤ cap ∧ cap ≤ maxLen := by
  rcases h.2 with ⟨hv, h0⟩ | ⟨g, cap, _, hv, _, _, h1, h2, _⟩
  · exact ⟨none, 0, by rw [hv, h0], by omega, by unfold maxLen; omega⟩
  · exact ⟨_, cap, hv, h1, h2⟩

/-- The captured list holds the numbers ks, in a row of the call's own behind block g. -/
def Caught (g : Nat) (ks : List Int) (w : World) : Prop :=
  ∃ v, w.heap[g]? = some (.cells #[v] 72 (0, 0)) ∧ w.ownsRow (g + 1) 3 1 v ks.length (ks.map (Value.int .i64))
def SigPost (g : Nat) (ks : List Int) (w : World) (e : Ending) (w' : World) : Prop := e = .returned (.tuple #[]) ∧ Caught g ks w' ∧ Below g w w'

theorem sig_end {g : Nat} {ks : List Int} {sg : Int} {w w1 : World} {v v1 : Value} (hg : w.heap[g]? = some (.cells #[v] 72 (0, 0)))
    (hown1 : w1.ownsRow (g + 1) 3 1 v1 (ks.length + 1) (ks.map (Value.int .i64) ++ [.int .i64 sg])) (hgr : (w.alloc (.cells #[.int .i64 sg] 3)).grownBy w1 v.ownBlock)
    (hown : w.ownsRow (g + 1) 3 1 v ks.length (ks.map (Value.int .i64))) : SigPost g (ks ++ [sg]) w (.returned (.tuple #[])) (w1.setCell ⟨g, 0, none⟩ v1) := by
  have hlt := lt_of_block hg
  have hb : Below (g + 1) w w1 := ((Below.refl _ _).alloc (by omega) _).grown hgr (by simp; omega) (fun k hk => (hown.lt k hk).1)
  have hg1 : w1.heap[g]? = some (.cells #[v] 72 (0, 0)) := (hb.block g (by omega)).trans hg
  refine ⟨rfl, ⟨v1, one_setCell hg1, ?_⟩, (hb.mono (Nat.le_succ g)).setCell (p := ⟨g, 0, none⟩) (Nat.le_refl _) _⟩
  have := ownsRow_setCell_below hown1 (a := ⟨g, 0, none⟩) (Nat.lt_succ_self g) v1
  simpa using this

theorem sgs_len : ∀ (ks : List Int), Sgs ks → ks.length ≤ (encs ks).length
  | [], _ => Nat.le_refl _
  | k :: r, h => by
    have h1 := h k (by simp)
    have := sgs_len r (fun x hx => h x (by simp [hx]))
    simp only [encs, List.length_append, List.length_cons, enc_length]; omega

/-- What Signs leaves. -/
def SignsPost (xs : List Int) (w : World) (e : Ending) (w' : World) : Prop :=
  Below w.heap.size w w' ∧
  ((bad xs ≠ xs.length ∧ e = .returned (.tuple #[.slice none 0 0, .int .i64 3])) ∨
   (bad xs = xs.length ∧ ∃ v, e = .returned (.tuple #[v, .int .i64 0]) ∧ w'.ownsRow w.heap.size 3 1 v (sgn xs).length ((sgn xs).map (Value.int .i64))))

theorem caught_new (w : World) : Caught w.heap.size [] (w.alloc (.cells #[.slice none 0 0] 72)) :=
  ⟨.slice none 0 0, heap_alloc_new w _, World.ownsRow_nil _ _ _ _⟩

theorem own_base {w : World} {base base' : Nat} {e : TypeId} {size : Nat} {v : Value} {n : Nat} {xs : List Value} (h : w.ownsRow base e size v n xs) (hb : base' ≤ base) : w.ownsRow base' e size v n xs :=
  ⟨h.1, by
    rcases h.2 with h' | ⟨g, cap, cur, a, b, c⟩
    · exact .inl h'
    · exact .inr ⟨g, cap, cur, a, by omega, c⟩⟩

end Go.Proofs.YtoecimgmghlfpaaDoor.Utf
