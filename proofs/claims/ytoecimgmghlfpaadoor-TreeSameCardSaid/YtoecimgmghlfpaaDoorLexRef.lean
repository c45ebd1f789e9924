/-
  Layer 4 (lex): strings as bytes, lex.Name, and what the document's own small functions answer (sort, Word, Name, Mark, Closes).
-/
import Derived.Test.YtoecimgmghlfpaaDoorLexWord
import Derived.Test.YtoecimgmghlfpaaDoorLexMore
import Derived.Lib.ConvBytes
namespace Go.Proofs.YtoecimgmghlfpaaDoor.Lex
open Go.ChangeShapes Go.WideShapes Go.ChangeAt Go.RowKit Utf
set_option linter.unusedVariables false

/-! ### Strings -/
def nums (s : ByteArray) : List Int := s.data.toList.map fun b => (b.toNat : Int)
theorem nums_byt (s : ByteArray) : Byt (nums s) := fun x hx => by
  obtain ⟨b, _, rfl⟩ := List.mem_map.1 hx
  have := b.toNat_lt
  omega
theorem nums_len (s : ByteArray) : (nums s).length = s.size := by
  unfold nums; rw [List.length_map, Array.length_toList]; rfl
theorem str_nums (s : ByteArray) : strOfNums (nums s) = s := by
  apply ByteArray.ext
  apply Array.ext'
  show ((s.data.toList.map fun b => (b.toNat : Int)).map fun n => UInt8.ofNat n.toNat).toArray.toList = _
  rw [List.map_map, show ((fun n : Int => UInt8.ofNat n.toNat) ∘ fun b : UInt8 => (b.toNat : Int)) = id from funext fun b => by simp, List.map_id]
theorem conv_str (w : World) (s : ByteArray) (hs : s.size ≤ maxLen) : ∃ c W1, (convert 9 64 (.string s)).run Tryd.prog w = .ok (.slice (some ⟨w.heap.size, 0, none⟩) s.size c) W1 ∧ s.size ≤ c ∧ c ≤ maxLen ∧ Below w.heap.size w W1 ∧ RB W1 W1.heap.size (some ⟨w.heap.size, 0, none⟩) (nums s) := by
  refine ⟨_, _, Lib.run_convert_string_bytes w 9 64 5 s Tryd.underlying9 Tryd.underlying64 Tryd.underlying5, grownCap_ge _ _ _ _, grownCap_le_maxLen _ _ _ _ hs, ?_, ?_⟩
  · refine ⟨?_, ?_, ?_, by rw [Lib.bytesWorld_size]; omega, fun g hg => Lib.bytesWorld_at_old w _ s g hg⟩
    all_goals (unfold Lib.bytesWorld World.freeze; split <;> rfl)
  · refine ⟨nums_byt s, ?_⟩
    by_cases h0 : nums s = []
    · exact .inl h0
    · refine .inr ⟨w.heap.size, 0, rfl, by rw [Lib.bytesWorld_size]; omega, fun i hi => ?_⟩
      rw [nums_len] at hi
      rw [Nat.zero_add, Lib.bytesWorld_cell w _ s i hi]
      have hi' : i < s.data.toList.length := by rw [Array.length_toList]; exact hi
      simp only [nums, List.getD, List.getElem?_map, List.getElem?_eq_getElem hi', Option.map_some, Option.getD_some]

/-! ### sort -/
def sortI (c : Int) : Int := if kd c = 1 then 1 else if kd c = 2 then 2 else 0
/-- A row of strings of the call's own, made whole. -/
theorem new_strs (w : World) (L : List (List Int)) (i : Nat) (hi : i < L.length) (fr : Nat × Nat) : (w.alloc (.cells (L.map fun m => Value.string (strOfNums m)).toArray 9 fr)).cell? ⟨w.heap.size, i, none⟩ = some (.string (strOfNums (L.getD i []))) := by
  rw [World.cell?_alloc_mark]
  simp [List.getD, hi]

def wlist : List (List Int) := [[112, 97, 99, 107, 97, 103, 101], [105, 109, 112, 111, 114, 116], [99, 111, 110, 115, 116], [118, 97, 114], [116, 121, 112, 101], [102, 117, 110, 99], [109, 97, 112], [115, 116, 114, 117, 99, 116], [105, 102], [101, 108, 115, 101], [102, 111, 114], [114, 101, 116, 117, 114, 110], [98, 114, 101, 97, 107], [99, 111, 110, 116, 105, 110, 117, 101]]
theorem wlist_byt : ∀ i : Fin 14, (wlist.getD i.val []).all (fun x => decide (0 ≤ x ∧ x < 256)) = true := by decide +kernel
theorem wlist_mem {t : List Int} (h : t ∈ wlist) : ∃ i, i < 14 ∧ wlist.getD i [] = t := by
  obtain ⟨i, hi, e⟩ := List.mem_iff_getElem.1 h
  exact ⟨i, hi, by simp [List.getD, hi, e]⟩
theorem mem_wlist {i : Nat} (h : i < 14) : wlist.getD i [] ∈ wlist := by
  have : ∀ i : Fin 14, wlist.getD i.val [] ∈ wlist := by decide +kernel
  exact this ⟨i, h⟩
theorem wlist_is : wlist = words := rfl
def mlist : List (List Int) := [[43], [45], [42], [47], [37], [38], [124], [94], [60, 60], [62, 62], [38, 94], [38, 38], [124, 124], [61, 61], [33, 61], [60], [60, 61], [62], [62, 61], [33], [61], [58, 61], [43, 61], [45, 61], [42, 61], [47, 61], [37, 61], [43, 43], [45, 45], [40], [41], [91], [93], [123], [125], [44], [46]]
theorem mlist_byt : ∀ i : Fin 37, (mlist.getD i.val []).all (fun x => decide (0 ≤ x ∧ x < 256)) = true := by decide +kernel
theorem mlist_mem {t : List Int} (h : t ∈ mlist) : ∃ i, i < 37 ∧ mlist.getD i [] = t := by
  obtain ⟨i, hi, e⟩ := List.mem_iff_getElem.1 h
  exact ⟨i, hi, by simp [List.getD, hi, e]⟩
theorem mem_mlist {i : Nat} (h : i < 37) : mlist.getD i [] ∈ mlist := by
  have : ∀ i : Fin 37, mlist.getD i.val [] ∈ mlist := by decide +kernel
  exact this ⟨i, h⟩
/-! ### Names -/
set_option maxHeartbeats 1000000 in
/-- lex.Name. -/
theorem name_any (t : List Int) (ht : Byt t) (hl : t.length ≤ 1000000) (w : World) :
    Calls Tryd.prog 38 #[.string (strOfNums t)] w fun e w' => e = .returned (.bool (isName t)) ∧ Below w.heap.size w w' := by
  have hbel : Below w.heap.size w w := Below.refl _ _
  have hsz : (strOfNums t).size = t.length := strOfNums_size t
  cases ht0 : t with
  | nil =>
    have he : ((strOfNums ([] : List Int)).toList) = [] := by rw [Lib.strOfNums_toList]; rfl
    have hr : isName [] = false := rfl
    rw [hr]
    clear hsz ht hl ht0
    go_enter Tryd.func38, Tryd.ntmps38
    go_wp2
    go_ret
    exact ⟨rfl, hbel⟩
  | cons c r =>
    rw [← ht0]
    have h0 : 0 < t.length := by rw [ht0]; simp
    have hne : (strOfNums t).toList.isEmpty = false := by
      rw [Lib.strOfNums_toList, List.isEmpty_eq_false_iff]
      intro e
      have := congrArg List.length e
      rw [Lib.bytesOf_length, List.length_nil] at this; omega
    have hne2 : ¬ (strOfNums t).toList = [] := by simpa using hne
    have hix : ∀ W : World, (Instr.index 9 (.string (strOfNums t)) (.int .i64 0)).run Tryd.prog W = .ok (.int .u8 (t.getD 0 0)) W := fun W => run_idx_str (P := Tryd.prog) 9 Tryd.underlying9 ht (i := 0) h0 W
    have hd := ht.getD 0
    have hname : isName t = ((kd (t.getD 0 0) == 1) && decide (wordL t = t.length) && !isWord t) := by
      unfold isName; rw [decide_eq_true h0]; rfl
    obtain ⟨cc, W1, hconv, hc1, hc2, hbW, hrb⟩ := conv_str w (strOfNums t) (by rw [hsz]; unfold maxLen; omega)
    have hnn : nums (strOfNums t) = t := by
      have : strOfNums (nums (strOfNums t)) = strOfNums t := str_nums _
      exact strOfNums_inj (nums_byt _) ht this
    rw [hnn] at hrb
    rw [hsz] at hconv hc1
    have HBEG := Lib.hid (begin_any (t.getD 0 0) w hd.1 hd.2)
    have HW := Lib.hid (word_any _ t.length cc t W1 _ hrb rfl h0 hc1 hc2)
    have HWD := Lib.hid (fun W : World => word_is t ht W)
    have HBW := Lib.hid hbW
    clear hnn hrb hbW hc1 hc2 ht0 ht
    generalize t.getD 0 0 = d at *
    have hwl : ((wordL t : Int) == (t.length : Int)) = decide (wordL t = t.length) := by
      by_cases e : wordL t = t.length
      · rw [e]; simp
      · rw [beq_no (by omega), decide_eq_false e]
    generalize wordL t = wl at *
    generalize isWord t = iw at *
    generalize isName t = nm at *
    generalize strOfNums t = s at *
    generalize t.length = n at *
    have hd0 := hd.1; have hd1 := hd.2
    clear hd
    by_cases k1 : kd d = 1
    · rw [k1] at HBEG hname
      rw [show ((1 : Int) == 1) = true from rfl, Bool.true_and] at hname
      obtain ⟨bw, hbw⟩ : ∃ b, decide (wl = n) = b := ⟨_, rfl⟩
      rw [hbw] at hname hwl
      clear k1 hbw
      cases bw
      · obtain rfl : nm = false := by rw [hname]; rfl
        clear hname
        go_enter Tryd.func38, Tryd.ntmps38
        go_wp2_with (first | (go_at_call 50; refine HBEG.out.mono ?_; rintro e w' ⟨rfl, rfl⟩) | (go_at_call 51; refine HW.out.mono ?_; rintro e w' ⟨rfl, rfl⟩))
        go_ret
        exact ⟨rfl, HBW.out⟩
      · obtain rfl : nm = !iw := by rw [hname]; rfl
        clear hname
        cases iw
        all_goals
          go_enter Tryd.func38, Tryd.ntmps38
          go_wp2_with (first | (go_at_call 50; refine HBEG.out.mono ?_; rintro e w' ⟨rfl, rfl⟩) | (go_at_call 51; refine HW.out.mono ?_; rintro e w' ⟨rfl, rfl⟩) | (go_at_call 52; refine (HWD.out _).mono ?_; rintro e w' ⟨rfl, rfl⟩))
          go_ret
          exact ⟨rfl, HBW.out⟩
    · have b1 := beq_no k1
      rw [b1] at hname
      obtain rfl : nm = false := by rw [hname]; rfl
      clear hname k1 hwl
      generalize kd d = q at *
      go_enter Tryd.func38, Tryd.ntmps38
      go_wp2_with (go_at_call 50; refine HBEG.out.mono ?_; rintro e w' ⟨rfl, rfl⟩)
      go_ret
      exact ⟨rfl, hbel⟩

end Go.Proofs.YtoecimgmghlfpaaDoor.Lex
