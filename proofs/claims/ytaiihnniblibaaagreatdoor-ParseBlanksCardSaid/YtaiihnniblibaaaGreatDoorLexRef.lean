/-
 Layer 4 (lex): strings as bytes, lex.Name, and what the document's own small functions answer (sort, Word, Name, Mark, Closes).
-/
import Derived.Test.YtaiihnniblibaaaGreatDoorLexWord
import Derived.Test.YtaiihnniblibaaaGreatDoorLexMore
import Derived.Lib.ConvBytes
namespace Go.Proofs.YtaiihnniblibaaaGreatDoor.Lex
open Go.ChangeShapes Go.WideShapes Go.ChangeAt Go.RowKit Utf
set_option linter.unusedVariables false

/-! ### Strings -/
def nums (s : ByteArray) : List Int := s.data.toList.map fun b => (b.toNat : Int)
theorem nums_byt (s : ByteArray) : Byt (nums s) := fun x hx => by
 obtain ⟨b, _, rfl⟩ := List.mem_map.1 hx
 have := b.toNat_lt
 omega
theorem nums_len (s : ByteArray) : (nums s).length = s.size := by
 unfold nums; rw [List.length_map, Array.length_toList]; rfl
theorem str_nums (s : ByteArray) : strOfNums (nums s) = s := by
 apply ByteArray.ext
 apply Array.ext'
 show ((s.data.toList.map fun b => (b.toNat : Int)).map fun n => UInt8.ofNat n.toNat).toArray.toList = _
 rw [List.map_map, show ((fun n : Int => UInt8.ofNat n.toNat) ∘ fun b : UInt8 => (b.toNat : Int)) = id from funext fun b => by simp, List.map_id]
theorem conv_str (w : World) (s : ByteArray) (hs : s.size ≤ maxLen) : ∃ c W1, (convert 9 30 (.string s)).run Tryz.prog w = .ok (.slice (some ⟨w.heap.size, 0, none⟩) s.size c) W1 ∧ s.size ≤ c ∧ c ≤ maxLen ∧ Below w.heap.size w W1 ∧ RB W1 W1.heap.size (some ⟨w.heap.size, 0, none⟩) (nums s) := by
 refine ⟨_, _, Lib.run_convert_string_bytes w 9 30 5 s Tryz.underlying9 Tryz.underlying30 Tryz.underlying5, grownCap_ge _ _ _ _, grownCap_le_maxLen _ _ _ _ hs, ?_, ?_⟩
 ·refine ⟨?_, ?_, ?_, by rw [Lib.bytesWorld_size]; omega, fun g hg => Lib.bytesWorld_at_old w _ s g hg⟩
  all_goals (unfold Lib.bytesWorld World.freeze; split <;> rfl)
 ·refine ⟨nums_byt s, ?_⟩
  by_cases h0 : nums s = []
  ·exact .inl h0
  ·refine .inr ⟨w.heap.size, 0, rfl, by rw [Lib.bytesWorld_size]; omega, fun i hi => ?_⟩
   rw [nums_len] at hi
   rw [Nat.zero_add, Lib.bytesWorld_cell w _ s i hi]
   have hi' : i < s.data.toList.length := by rw [Array.length_toList]; exact hi
   simp only [nums, List.getD, List.getElem?_map, List.getElem?_eq_getElem hi', Option.map_some, Option.getD_some]

/-! ### sort -/
def sortI (c : Int) : Int := if kd c = 1 then 1 else if kd c = 2 then 2 else 0
set_option maxHeartbeats 1000000 in
theorem sort_any (c : Int) (w : World) (h0 : 0 ≤ c) (h1 : c < 256) :
  Calls Tryz.prog 57 #[.int .u8 c] w fun e w' => e = .returned (.int .i64 (sortI c)) ∧ w = w' := by
 by_cases c95 : c = 95
 ·subst c95; rw [show sortI 95 = 1 from rfl]
  go_enter Tryz.func57, Tryz.ntmps57
  go_wp2
  go_ret
  exact ⟨rfl, rfl⟩
 have b95 := beq_no c95
 have hk : (c < 48 ∧ sortI c = 0) ∨ (48 ≤ c ∧ c ≤ 57 ∧ sortI c = 2) ∨ (57 < c ∧ c < 65 ∧ sortI c = 0) ∨ (65 ≤ c ∧ c ≤ 90 ∧ sortI c = 1) ∨ (90 < c ∧ c < 97 ∧ sortI c = 0) ∨ (97 ≤ c ∧ c ≤ 122 ∧ sortI c = 1) ∨ (122 < c ∧ sortI c = 0) := by
  have h1 := @kd_let c
  have h2 := @kd_dig c
  unfold sortI; repeat' split
  all_goals omega
 generalize sortI c = q at *
 clear c95
 rcases hk with ⟨d1, rfl⟩ | ⟨d1, d2, rfl⟩ | ⟨d1, d2, rfl⟩ | ⟨d1, d2, rfl⟩ | ⟨d1, d2, rfl⟩ | ⟨d1, d2, rfl⟩ | ⟨d1, rfl⟩
 all_goals
  go_enter Tryz.func57, Tryz.ntmps57
  go_wp2
  go_ret
  exact ⟨rfl, rfl⟩

/-- A row of strings of the call's own, made whole. -/
theorem new_strs (w : World) (L : List (List Int)) (i : Nat) (hi : i < L.length) (fr : Nat × Nat) : (w.alloc (.cells (L.map fun m => Value.string (strOfNums m)).toArray 9 fr)).cell? ⟨w.heap.size, i, none⟩ = some (.string (strOfNums (L.getD i []))) := by
 rw [World.cell?_alloc_mark]
 simp [List.getD, hi]

def wlist : List (List Int) := [[112, 97, 99, 107, 97, 103, 101], [105, 109, 112, 111, 114, 116], [99, 111, 110, 115, 116], [118, 97, 114], [116, 121, 112, 101], [102, 117, 110, 99], [109, 97, 112], [115, 116, 114, 117, 99, 116], [105, 102], [101, 108, 115, 101], [102, 111, 114], [114, 101, 116, 117, 114, 110], [98, 114, 101, 97, 107], [99, 111, 110, 116, 105, 110, 117, 101]]
theorem wlist_byt : ∀ i : Fin 14, (wlist.getD i.val []).all (fun x => decide (0 ≤ x ∧ x < 256)) = true := by decide +kernel
theorem wlist_mem {t : List Int} (h : t ∈ wlist) : ∃ i, i < 14 ∧ wlist.getD i [] = t := by
 obtain ⟨i, hi, e⟩ := List.mem_iff_getElem.1 h
 exact ⟨i, hi, by simp [List.getD, hi, e]⟩
theorem mem_wlist {i : Nat} (h : i < 14) : wlist.getD i [] ∈ wlist := by
 have : ∀ i : Fin 14, wlist.getD i.val [] ∈ wlist := by decide +kernel
 exact this ⟨i, h⟩
set_option maxRecDepth 100000 in
set_option maxHeartbeats 1000000 in
theorem refWord_mem (t : List Int) (ht : Byt t) (w : World) :
  Calls Tryz.prog 59 #[.string (strOfNums t)] w fun e w' => e = .returned (.bool (decide (t ∈ wlist))) ∧ Below w.heap.size w w' := by
 have HN := Lib.hid (fun (i : Nat) (hi : i < 14) => new_strs w wlist i hi (0, 0))
 have HB : Hid (Below w.heap.size w (w.alloc (.cells (wlist.map fun m => Value.string (strOfNums m)).toArray 9))) := (Below.refl _ _).alloc (Nat.le_refl _) _
 have HY : Hid (∀ i, i < 14 → wlist.getD i [] = t → decide (t ∈ wlist) = true) := fun i hi e => decide_eq_true (by rw [← e]; exact mem_wlist hi)
 have HNO : Hid ((∀ i, i < 14 → wlist.getD i [] ≠ t) → decide (t ∈ wlist) = false) := fun h => decide_eq_false fun hm => by
  obtain ⟨i, hi, e⟩ := wlist_mem hm
  exact h i hi e
 have HS : Hid (∀ i, i < 14 → ((strOfNums (wlist.getD i [])).toList == (strOfNums t).toList) = decide (wlist.getD i [] = t)) := fun i hi => by
  rw [Lib.strOfNums_toList t]
  exact str_is (fun x hx => by simpa using List.all_eq_true.1 (wlist_byt ⟨i, hi⟩) x hx) t ht
 generalize decide (t ∈ wlist) = res at *
 go_enter Tryz.func59, Tryz.ntmps59
 go_wp2
 have he : w.alloc (.cells #[.string ⟨#[112, 97, 99, 107, 97, 103, 101]⟩, .string ⟨#[105, 109, 112, 111, 114, 116]⟩, .string ⟨#[99, 111, 110, 115, 116]⟩, .string ⟨#[118, 97, 114]⟩, .string ⟨#[116, 121, 112, 101]⟩, .string ⟨#[102, 117, 110, 99]⟩, .string ⟨#[109, 97, 112]⟩, .string ⟨#[115, 116, 114, 117, 99, 116]⟩, .string ⟨#[105, 102]⟩, .string ⟨#[101, 108, 115, 101]⟩, .string ⟨#[102, 111, 114]⟩, .string ⟨#[114, 101, 116, 117, 114, 110]⟩, .string ⟨#[98, 114, 101, 97, 107]⟩, .string ⟨#[99, 111, 110, 116, 105, 110, 117, 101]⟩] 9) = w.alloc (.cells (wlist.map fun m => Value.string (strOfNums m)).toArray 9) := by rfl
 rw [he]; clear he
 generalize w.alloc (.cells (wlist.map fun m => Value.string (strOfNums m)).toArray 9) = W at *
 go_loop [4, 7] (fun _ i => ∃ k : Nat, k ≤ 14 ∧ i = .int .i64 k ∧ Hid (∀ j, j < k → wlist.getD j [] ≠ t)) (fun _ i => 14 - (intOf i).toNat)
 case atStart => exact ⟨0, by omega, rfl, fun j hj => absurd hj (by omega)⟩
 case round =>
  obtain ⟨k, hk, rfl, hno⟩ := hrel
  by_cases hlt : k < 14
  ·have hc := HN.out k hlt
   have hs := HS.out k hlt
   have HY1 := Lib.hid (HY.out k hlt)
   have HN1 : Hid (wlist.getD k [] ≠ t → ∀ j, j < k + 1 → wlist.getD j [] ≠ t) := fun h j hj => by
    by_cases e : j = k
    ·rw [e]; exact h
    ·exact hno.out j (by omega)
   clear hno HY HNO HN HS
   have hk37 : (k : Int) < 14 := by omega
   generalize wlist.getD k [] = m at *
   generalize strOfNums m = sm at *
   generalize strOfNums t = st at *
   by_cases e : m = t
   ·rw [decide_eq_true e] at hs
    have HR := Lib.hid (HY1.out e)
    clear HY1 HN1 e
    go_wp2
    go_ret
    rw [HR.out]
    exact ⟨rfl, HB.out⟩
   ·rw [decide_eq_false e] at hs
    have HR := Lib.hid (HN1.out e)
    clear HY1 HN1 e
    go_wp2
    go_round
    case rel => exact ⟨k + 1, by omega, by go_num, HR.out⟩
    case measure => simp [intOf]; omega
  ·have HR := Lib.hid (HNO.out (fun i hi => hno.out i (by omega)))
   have hnl : ¬ (k : Int) < 14 := by omega
   clear hno hlt
   go_wp2
   go_ret
   rw [HR.out]
   exact ⟨rfl, HB.out⟩

theorem refWord_any (t : List Int) (ht : Byt t) (w : World) :
  Calls Tryz.prog 59 #[.string (strOfNums t)] w fun e w' => e = .returned (.bool (isWord t)) ∧ Below w.heap.size w w' := refWord_mem t ht w

def mlist : List (List Int) := [[43], [45], [42], [47], [37], [38], [124], [94], [60, 60], [62, 62], [38, 94], [38, 38], [124, 124], [61, 61], [33, 61], [60], [60, 61], [62], [62, 61], [33], [61], [58, 61], [43, 61], [45, 61], [42, 61], [47, 61], [37, 61], [43, 43], [45, 45], [40], [41], [91], [93], [123], [125], [44], [46]]
theorem mlist_byt : ∀ i : Fin 37, (mlist.getD i.val []).all (fun x => decide (0 ≤ x ∧ x < 256)) = true := by decide +kernel
theorem mlist_mem {t : List Int} (h : t ∈ mlist) : ∃ i, i < 37 ∧ mlist.getD i [] = t := by
 obtain ⟨i, hi, e⟩ := List.mem_iff_getElem.1 h
 exact ⟨i, hi, by simp [List.getD, hi, e]⟩
theorem mem_mlist {i : Nat} (h : i < 37) : mlist.getD i [] ∈ mlist := by
 have : ∀ i : Fin 37, mlist.getD i.val [] ∈ mlist := by decide +kernel
 exact this ⟨i, h⟩
set_option maxRecDepth 100000 in
set_option maxHeartbeats 1000000 in
theorem refMark_mem (t : List Int) (ht : Byt t) (w : World) :
  Calls Tryz.prog 58 #[.string (strOfNums t)] w fun e w' => e = .returned (.bool (decide (t ∈ mlist))) ∧ Below w.heap.size w w' := by
 have HN := Lib.hid (fun (i : Nat) (hi : i < 37) => new_strs w mlist i hi (0, 0))
 have HB : Hid (Below w.heap.size w (w.alloc (.cells (mlist.map fun m => Value.string (strOfNums m)).toArray 9))) := (Below.refl _ _).alloc (Nat.le_refl _) _
 have HY : Hid (∀ i, i < 37 → mlist.getD i [] = t → decide (t ∈ mlist) = true) := fun i hi e => decide_eq_true (by rw [← e]; exact mem_mlist hi)
 have HNO : Hid ((∀ i, i < 37 → mlist.getD i [] ≠ t) → decide (t ∈ mlist) = false) := fun h => decide_eq_false fun hm => by
  obtain ⟨i, hi, e⟩ := mlist_mem hm
  exact h i hi e
 have HS : Hid (∀ i, i < 37 → ((strOfNums (mlist.getD i [])).toList == (strOfNums t).toList) = decide (mlist.getD i [] = t)) := fun i hi => by
  rw [Lib.strOfNums_toList t]
  exact str_is (fun x hx => by simpa using List.all_eq_true.1 (mlist_byt ⟨i, hi⟩) x hx) t ht
 generalize decide (t ∈ mlist) = res at *
 go_enter Tryz.func58, Tryz.ntmps58
 go_wp2
 have he : w.alloc (.cells #[.string ⟨#[43]⟩, .string ⟨#[45]⟩, .string ⟨#[42]⟩, .string ⟨#[47]⟩, .string ⟨#[37]⟩, .string ⟨#[38]⟩, .string ⟨#[124]⟩, .string ⟨#[94]⟩, .string ⟨#[60, 60]⟩, .string ⟨#[62, 62]⟩, .string ⟨#[38, 94]⟩, .string ⟨#[38, 38]⟩, .string ⟨#[124, 124]⟩, .string ⟨#[61, 61]⟩, .string ⟨#[33, 61]⟩, .string ⟨#[60]⟩, .string ⟨#[60, 61]⟩, .string ⟨#[62]⟩, .string ⟨#[62, 61]⟩, .string ⟨#[33]⟩, .string ⟨#[61]⟩, .string ⟨#[58, 61]⟩, .string ⟨#[43, 61]⟩, .string ⟨#[45, 61]⟩, .string ⟨#[42, 61]⟩, .string ⟨#[47, 61]⟩, .string ⟨#[37, 61]⟩, .string ⟨#[43, 43]⟩, .string ⟨#[45, 45]⟩, .string ⟨#[40]⟩, .string ⟨#[41]⟩, .string ⟨#[91]⟩, .string ⟨#[93]⟩, .string ⟨#[123]⟩, .string ⟨#[125]⟩, .string ⟨#[44]⟩, .string ⟨#[46]⟩] 9) = w.alloc (.cells (mlist.map fun m => Value.string (strOfNums m)).toArray 9) := by rfl
 rw [he]; clear he
 generalize w.alloc (.cells (mlist.map fun m => Value.string (strOfNums m)).toArray 9) = W at *
 go_loop [4, 7] (fun _ i => ∃ k : Nat, k ≤ 37 ∧ i = .int .i64 k ∧ Hid (∀ j, j < k → mlist.getD j [] ≠ t)) (fun _ i => 37 - (intOf i).toNat)
 case atStart => exact ⟨0, by omega, rfl, fun j hj => absurd hj (by omega)⟩
 case round =>
  obtain ⟨k, hk, rfl, hno⟩ := hrel
  by_cases hlt : k < 37
  ·have hc := HN.out k hlt
   have hs := HS.out k hlt
   have HY1 := Lib.hid (HY.out k hlt)
   have HN1 : Hid (mlist.getD k [] ≠ t → ∀ j, j < k + 1 → mlist.getD j [] ≠ t) := fun h j hj => by
    by_cases e : j = k
    ·rw [e]; exact h
    ·exact hno.out j (by omega)
   clear hno HY HNO HN HS
   have hk37 : (k : Int) < 37 := by omega
   generalize mlist.getD k [] = m at *
   generalize strOfNums m = sm at *
   generalize strOfNums t = st at *
   by_cases e : m = t
   ·rw [decide_eq_true e] at hs
    have HR := Lib.hid (HY1.out e)
    clear HY1 HN1 e
    go_wp2
    go_ret
    rw [HR.out]
    exact ⟨rfl, HB.out⟩
   ·rw [decide_eq_false e] at hs
    have HR := Lib.hid (HN1.out e)
    clear HY1 HN1 e
    go_wp2
    go_round
    case rel => exact ⟨k + 1, by omega, by go_num, HR.out⟩
    case measure => simp [intOf]; omega
  ·have HR := Lib.hid (HNO.out (fun i hi => hno.out i (by omega)))
   have hnl : ¬ (k : Int) < 37 := by omega
   clear hno hlt
   go_wp2
   go_ret
   rw [HR.out]
   exact ⟨rfl, HB.out⟩

/-! ### Names -/
end Go.Proofs.YtaiihnniblibaaaGreatDoor.Lex
