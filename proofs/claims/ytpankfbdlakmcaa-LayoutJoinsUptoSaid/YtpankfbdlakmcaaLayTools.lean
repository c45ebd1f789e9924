/-
  Layer 8 (layout): what the laws have in common: page, plain, the bounds of a plan's document.
-/
import Derived.Test.YtpankfbdlakmcaaLayKnown
import Derived.Test.YtpankfbdlakmcaaLayFacts
import Derived.Test.YtpankfbdlakmcaaDocBulk
import Derived.Laws.IdiomStrings
import Derived.Laws.BytesArg
namespace Go.Proofs.Ytpankfbdlakmcaa.Doc
open Go.ChangeShapes Go.WideShapes Go.ChangeAt Go.RowKit Mem
set_option linter.unusedVariables false

/-! ### Bounds of a plan's document -/
theorem txL_app (a b : List Pc) : txL (a ++ b) = txL a + txL b := by unfold txL; rw [List.map_append, List.sum_append]
theorem txL_one (k : Int) (x : ByteArray) (l : List Pc) : txL (plOne k x l) ≤ x.size + txL l := by
  unfold plOne
  split
  · split
    · exact Nat.zero_le _
    · show x.size + 0 ≤ _; omega
  · split
    · show (0 : Nat) + 0 ≤ _; omega
    · have h1 : txL (wopn k) = 0 := by unfold wopn; split <;> rfl
      have h2 : txL (wcls k) = 0 := by unfold wcls; split <;> rfl
      rw [txL_app, txL_app, h1, h2]; omega
theorem txL_plP : ∀ c : G, txL (plP c) ≤ txt c
  | .nil => Nat.le_refl _
  | .cons k x c r => by
    have h1 := txL_plP c; have h2 := txL_plP r; have h3 := txL_one k x (plP c)
    simp only [plP, txL_app, txt]; omega
theorem plan_len {k : Int} {x : ByteArray} {c : G} (h : c.size + 1 < 400) : (plOne k x (plP c)).length ≤ 802 := by
  have h1 := plP_len c; have h2 := plOne_len2 k x (plP c); omega
theorem plan_txt {k : Int} {x : ByteArray} {c : G} (h : x.size + txt c ≤ 1048576) : txL (plOne k x (plP c)) ≤ 1048576 := by
  have h1 := txL_plP c; have h2 := txL_one k x (plP c); omega
theorem plan_bal (k : Int) (x : ByteArray) (c : G) : Bal (plOne k x (plP c)) := bal_one (bal_plP c)
theorem plan_ne (k : Int) (x : ByteArray) (c : G) : Ne (plOne k x (plP c)) := ne_one (ne_plP c)
/-- Only texts have letters. -/
def Emp (l : List Pc) : Prop := ∀ p ∈ l, p.1 ≠ 1 → p.2 = emp
theorem Emp.app {a b : List Pc} (ha : Emp a) (hb : Emp b) : Emp (a ++ b) := fun p hp => by
  rcases List.mem_append.1 hp with h | h
  · exact ha p h
  · exact hb p h
theorem emp_one {k : Int} {x : ByteArray} {l : List Pc} (h : Emp l) : Emp (plOne k x l) := by
  unfold plOne
  split
  · split
    · exact fun p hp => by cases hp
    · exact fun p hp h1 => by rw [List.mem_singleton.1 hp] at h1; exact absurd rfl h1
  · split
    · exact fun p hp _ => by rw [List.mem_singleton.1 hp]
    · refine Emp.app ?_ (h.app ?_)
      · unfold wopn; split
        · exact fun p hp _ => by rw [List.mem_singleton.1 hp]
        · exact fun p hp => by cases hp
      · unfold wcls; split
        · exact fun p hp _ => by rw [List.mem_singleton.1 hp]
        · exact fun p hp => by cases hp
theorem emp_plP : ∀ g : G, Emp (plP g)
  | .nil => fun p hp => by cases hp
  | .cons k x c r => (emp_one (emp_plP c)).app (emp_plP r)
theorem plan_emp (k : Int) (x : ByteArray) (c : G) : Emp (plOne k x (plP c)) := emp_one (emp_plP c)

/-! ### page -/
def pg (n : Int) : Nat := 1 + ((IntKind.u64.wrap n) % 200).toNat
theorem pg_low (n : Int) : 1 ≤ pg n := Nat.le_add_right _ _
theorem pg_high (n : Int) : pg n ≤ 200 := by unfold pg; omega
set_option maxRecDepth 100000 in
theorem page_any (n : Int) (w : World) : Calls Try.prog 17 #[.int .i64 n] w fun e w' => e = .returned (.int .i64 (pg n : Int)) ∧ w = w' := by
  have h0 : 0 ≤ IntKind.u64.wrap n := by simp only [IntKind.wrap_u64]; omega
  have h1 : (IntKind.u64.wrap n).tmod 200 = (IntKind.u64.wrap n) % 200 := Int.tmod_eq_emod_of_nonneg h0
  have h2 := Int.emod_nonneg (IntKind.u64.wrap n) (b := 200) (by omega)
  have h3 := Int.emod_lt_of_pos (IntKind.u64.wrap n) (b := 200) (by omega)
  have HP : Hid ((pg n : Int) = 1 + (IntKind.u64.wrap n) % 200) := by show _ = _; unfold pg; omega
  go_enter Try.func17, Try.ntmps17
  go_wp2
  go_ret
  refine ⟨?_, rfl⟩
  rw [HP.out]
  rfl

/-! ### plain -/
theorem conv_own {B : Nat} {v : Value} {l : List UInt8} {w : World} (h : w.ownsRowF B 5 1 v l.length (Lib.byteCells l)) : (convert 60 9 v).run Try.prog w = .ok (.string ⟨l.toArray⟩) w := by
  rcases h.2 with ⟨rfl, h0⟩ | ⟨g, cap, cur, fz, rfl, _, hg, _, h3, h4, h5, h6⟩
  · obtain rfl : l = [] := List.eq_nil_of_length_eq_zero h0
    exact run_convert_bytes_nil w _ 5 Try.underlying60 Try.underlying5 0 0 _ Try.underlying9
  · refine run_convert_bytes_back w _ _ 5 ⟨g, 0, none⟩ cap l Try.underlying60 Try.underlying5 Try.underlying9 fun j hj => ?_
    exact h.cells (g := g) rfl j _ (by simp [Lib.byteCells, List.getElem?_eq_getElem hj])
theorem at_list {s : ByteArray} {i : Nat} (hi : i < s.size) : s.data.toList[i]? = some (s.data.toList.getD i 0) := by
  have hl : i < s.data.toList.length := by rw [Array.length_toList]; exact hi
  simp [List.getD, List.getElem?_eq_getElem hl]
theorem all_take (s : ByteArray) : s.data.toList.take s.size = s.data.toList := by
  have : s.size = s.data.toList.length := by rw [Array.length_toList]; rfl
  rw [this, List.take_length]
theorem nb_snoc {s : ByteArray} {i : Nat} (hi : i < s.size) : nb (s.data.toList.take (i + 1)) = nb (s.data.toList.take i) ++ (if bAt s i = 32 ∨ bAt s i = 9 ∨ bAt s i = 10 then [] else [s.data.toList.getD i 0]) := by
  rw [List.take_add_one, at_list hi, nb_app]
  congr 1
  unfold bAt
  generalize s.data.toList.getD i 0 = b
  unfold nb nbk
  by_cases h1 : b.toNat = 32
  · simp [h1]
  · by_cases h2 : b.toNat = 9
    · simp [h2]
    · by_cases h3 : b.toNat = 10
      · simp [h3]
      · simp [h1, h2, h3]
theorem nb_le (l : List UInt8) : (nb l).length ≤ l.length := List.length_filter_le ..
set_option maxHeartbeats 4000000 in
set_option maxRecDepth 100000 in
theorem plain_str (s : ByteArray) (hs : s.size ≤ 1000000000) (w : World) : Calls Try.prog 19 #[.string s] w fun e w' => e = .returned (.string ⟨(nb s.data.toList).toArray⟩) ∧ Below w.heap.size w w' := by
  obtain ⟨i0, hi0, hz0, hz1, hz2⟩ := info_parts byte_info
  have HIX : Hid (∀ i, i < s.size → ∀ W : World, (Instr.index 9 (.string s) (.int .i64 (i : Int))).run Try.prog W = .ok (.int .u8 (bAt s i : Int)) W) := fun i hi W => idx_str 9 Try.underlying9 s hi W
  have HST : Hid (∀ i, i < s.size → nb (s.data.toList.take (i + 1)) = nb (s.data.toList.take i) ++ (if bAt s i = 32 ∨ bAt s i = 9 ∨ bAt s i = 10 then [] else [s.data.toList.getD i 0])) := fun i hi => nb_snoc hi
  have HAL := Lib.hid (all_take s)
  obtain ⟨n, hn⟩ : ∃ n, s.size = n := ⟨_, rfl⟩
  rw [hn] at HIX HST HAL hs
  go_enter Try.func19, Try.ntmps19
  go_wp2
  go_loopw [3, 4] (fun s3 s4 wr => ∃ i : Nat, i ≤ n ∧ s4 = .int .i64 (i : Int) ∧ Hid (wr.ownsRowF w.heap.size 5 1 s3 (nb (s.data.toList.take i)).length (Lib.byteCells (nb (s.data.toList.take i)))) ∧ Hid (Below w.heap.size w wr)) (fun _ s4 _ => n - (intOf s4).toNat)
  case atStart => exact ⟨0, Nat.zero_le _, rfl, World.ownsRowF_nil _ _ _ _, Below.refl _ _⟩
  case round =>
    obtain ⟨i, hi, rfl, hown, hbw⟩ := hrel
    by_cases hlt : i < n
    · have hix := HIX.out i hlt
      have hst := HST.out i hlt
      have hlt1 : (i : Int) < (n : Int) := by omega
      have hb := bAt_lt s i
      have hl : (nb (s.data.toList.take i)).length ≤ 1000000000 := Nat.le_trans (nb_le _) (by simp; omega)
      have HBD : Hid ((bAt s i : Int) = ((s.data.toList.getD i 0).toNat : Int)) := rfl
      obtain ⟨by_, hby⟩ : ∃ by_, s.data.toList.getD i 0 = by_ := ⟨_, rfl⟩
      rw [hby] at hst HBD
      obtain ⟨b, hbe⟩ : ∃ b, bAt s i = b := ⟨_, rfl⟩
      rw [hbe] at hst hix hb HBD
      obtain ⟨ys, hys⟩ : ∃ ys, nb (s.data.toList.take i) = ys := ⟨_, rfl⟩
      rw [hys] at hown hst hl
      have hw1 : IntKind.i64.wrap ((i : Int) + 1) = (i : Int) + 1 := by rw [IntKind.wrap_i64]; omega
      by_cases hq : b = 32 ∨ b = 9 ∨ b = 10
      · rw [if_pos hq, List.append_nil] at hst
        have HST2 := Lib.hid hst
        clear hst hbe hby hys
        rcases hq with rfl | rfl | rfl
        all_goals
          go_wp2
          go_roundw
          case rel => exact ⟨i + 1, by omega, by go_num, by show _; rw [HST2.out]; exact hown.out, hbw.out⟩
          case measure => simp [intOf]; omega
      · rw [if_neg hq] at hst
        have n1 : b ≠ 32 := fun e => hq (.inl e)
        have n2 : b ≠ 9 := fun e => hq (.inr (.inl e))
        have n3 : b ≠ 10 := fun e => hq (.inr (.inr e))
        have c1 : ((b : Int) != 32) = true := by simp; omega
        have c2 : ((b : Int) != 9) = true := by simp; omega
        have c3 : ((b : Int) != 10) = true := by simp; omega
        have HST2 := Lib.hid hst
        have hbs := hbw.out.size
        have hL : (Lib.byteCells ys).length = ys.length := Lib.byteCells_length _
        clear hst hbe hq hby hys
        go_wp2_with (at_builtin; refine wpList_append_ownF _ rfl _ _ 60 rfl w.heap.size 5 i0 (.int .u8 0) 1 1 Try.underlying60 hi0 hz0 hz1 hz2 rfl (by decide) _ _ _ rfl (hown.out.alloc _) ⟨wr.heap.size, 0, none⟩ 1 1 [.int .u8 (b : Int)] rfl rfl ?c1 ?c2 ?c3 ?c4 ?c5 ?_)
        case c1 =>
          intro j u hj
          match j, hj with
          | 0, hj => simp at hj; subst hj; simp [Addr.add]
        case c2 => intro u hu; simp at hu; subst hu; rfl
        case c3 => unfold maxLen; omega
        case c4 => omega
        case c5 => simp; omega
        intro v' w2 hown' hgrow _
        have HOW : Hid (w2.ownsRowF w.heap.size 5 1 v' (nb (s.data.toList.take (i + 1))).length (Lib.byteCells (nb (s.data.toList.take (i + 1))))) := by
          show World.ownsRowF _ _ _ _ _ _ _
          rw [HST2.out, Lib.byteCells_append, List.length_append, List.length_singleton]
          have : Lib.byteCells [by_] = [.int .u8 (b : Int)] := by rw [HBD.out]; rfl
          rw [this]
          exact hown'
        have HB2 := Lib.hid ((hbw.out.alloc hbs _).grown hgrow (by simp; omega) (fun k hk => (hown.out.lt k hk).1))
        clear hown' hgrow
        go_wp2
        go_roundw
        case rel => exact ⟨i + 1, by omega, by go_num, HOW.out, HB2.out⟩
        case measure => simp [intOf]; omega
    · obtain rfl : i = n := by omega
      have hlt1 : ¬ (i : Int) < (i : Int) := by omega
      have ho := hown.out
      rw [HAL.out] at ho
      have hcv := conv_own ho
      have HBW := Lib.hid hbw.out
      clear hown ho hbw
      go_wp2
      go_ret
      exact ⟨rfl, HBW.out⟩
end Go.Proofs.Ytpankfbdlakmcaa.Doc
