/-
  Layer 7 (doc): the reference's Flat.
-/
import Derived.Test.YtllpdccpenghgaaDocFew
import Derived.Test.YtllpdccpenghgaaDocFlat
namespace Go.Proofs.Ytllpdccpenghgaa.Doc
open Go.ChangeShapes Go.WideShapes Go.ChangeAt Go.RowKit Mem
set_option linter.unusedVariables false

theorem flB_take (l : List Pc) (i : Nat) : (flB (l.take i)).length ≤ (flB l).length := by
  have := congrArg (fun m => (flB m).length) (List.take_append_drop i l)
  simp only [flB_app, List.length_append] at this
  omega
theorem bytes_of (y : ByteArray) (l : List UInt8) (h : y.toList = l) : y = ⟨l.toArray⟩ := by
  rw [ByteArray.toList_eq] at h
  subst h
  cases y with
  | mk a => simp
theorem app_bytes (y z : ByteArray) : (y ++ z).toList = y.toList ++ z.toList := by rw [ByteArray.toList_eq, ByteArray.toList_eq y, ByteArray.toList_eq z, ByteArray.data_append, Array.toList_append]
theorem size_bytes (y : ByteArray) : y.size = y.toList.length := by rw [ByteArray.toList_eq, Array.length_toList]; rfl
theorem noHard_snoc {l : List Pc} {i : Nat} {p : Pc} (hp : l[i]? = some p) : noHard (l.take (i + 1)) = (noHard (l.take i) && !(p.1 == 4)) := by
  rw [List.take_add_one, hp, noHard_app]; simp [noHard]
theorem flB_snoc {l : List Pc} {i : Nat} {p : Pc} (hp : l[i]? = some p) : flB (l.take (i + 1)) = flB (l.take i) ++ pB p := by
  rw [List.take_add_one, hp, flB_app]; simp [flB]
theorem noHard_false {l : List Pc} {i : Nat} {x : ByteArray} (hp : l[i]? = some ((4, x) : Pc)) : noHard l = false := by
  rw [noHard, List.all_eq_false]
  exact ⟨_, List.mem_of_getElem? hp, by simp⟩
set_option maxHeartbeats 8000000 in
set_option maxRecDepth 100000 in
theorem refFlat_any (a1 : Option Addr) (n C1 : Nat) (l : List Pc) (w : World) (hn : l.length = n) (hnb : n ≤ 1000000) (hc1 : n ≤ C1) (h1 : RdP w a1 l) (hl : (flB l).length ≤ 140737488355328) :
    Calls Try.prog 13 #[.slice a1 n C1] w (FlatPost l w) := by
  have H1 := Lib.hid h1
  have HN := Lib.hid hn
  have HL := Lib.hid hl
  clear h1 hn hl
  go_enter Try.func13, Try.ntmps13
  go_wp2
  go_loopw [4, 5] (fun s4 s5 wr => ∃ (i : Nat) (y : ByteArray), i ≤ n ∧ s5 = .int .i64 (i : Int) ∧ s4 = .string y ∧ Hid (y.toList = flB (l.take i) ∧ noHard (l.take i) = true) ∧ Hid (Below w.heap.size w wr)) (fun _ s5 _ => n - (intOf s5).toNat)
  case atStart => exact ⟨0, _, Nat.zero_le _, rfl, rfl, ⟨by rw [ByteArray.toList_eq]; rfl, rfl⟩, Below.refl _ _⟩
  case round =>
    obtain ⟨i, y, hi, rfl, rfl, hy, hbw⟩ := hrel
    by_cases hlt : i < n
    · obtain ⟨g1, o1, p, rfl, hp, u0, u1⟩ := (H1.out.below hbw.out).at_ (i := i) (by rw [HN.out]; exact hlt)
      obtain ⟨k, x⟩ := p
      dsimp only at u0 u1
      have HP := Lib.hid hp
      have hlt1 : (i : Int) < (n : Int) := by omega
      have hlt0 : (0 : Int) ≤ (i : Int) := by omega
      have hsz : (flB (l.take (i + 1))).length ≤ 140737488355328 := Nat.le_trans (flB_take l (i + 1)) HL.out
      rw [flB_snoc hp, ← hy.out.1, List.length_append] at hsz
      clear hp
      by_cases k4 : k = 4
      · subst k4
        have HF : Hid (FlatPost l w (.returned (.tuple #[.string ⟨#[]⟩, .bool false])) wr) := by
          have h := noHard_false HP.out
          refine ⟨?_, hbw.out⟩
          unfold flS
          rw [h]
          rfl
        go_wp2
        go_ret2
        exact HF.out
      · have HNH : Hid (noHard (l.take (i + 1)) = true) := by
          show _ = _
          rw [noHard_snoc HP.out, hy.out.2]
          simp [k4]
        by_cases k1 : k = 1
        · subst k1
          have hpb : pB ((1, x) : Pc) = x.toList := by rw [ByteArray.toList_eq]; rfl
          rw [hpb, ← size_bytes, ← size_bytes] at hsz
          have hadd : ¬ 9223372036854775807 < y.size + x.size := by omega
          have HY : Hid ((y ++ x).toList = flB (l.take (i + 1)) ∧ noHard (l.take (i + 1)) = true) := ⟨by rw [app_bytes, flB_snoc HP.out, hpb, hy.out.1], HNH.out⟩
          clear hsz hpb
          go_wp2
          go_roundw
          case rel => exact ⟨i + 1, _, by omega, by go_num, rfl, HY, hbw⟩
          case measure => simp [intOf]; omega
        · by_cases k2 : k = 2
          · subst k2
            have hpb : pB ((2, x) : Pc) = [32] := rfl
            rw [hpb, ← size_bytes] at hsz
            have hadd : ¬ 9223372036854775807 < y.size + (ByteArray.mk #[32]).size := by simp only [List.length_singleton] at hsz; have : (ByteArray.mk #[32]).size = 1 := rfl; omega
            have HY : Hid ((y ++ ByteArray.mk #[32]).toList = flB (l.take (i + 1)) ∧ noHard (l.take (i + 1)) = true) := ⟨by rw [app_bytes, flB_snoc HP.out, hpb, hy.out.1, ByteArray.toList_eq (ByteArray.mk #[32])], HNH.out⟩
            clear hsz hpb
            go_wp2
            go_roundw
            case rel => exact ⟨i + 1, _, by omega, by go_num, rfl, HY, hbw⟩
            case measure => simp [intOf]; omega
          · have hpb : pB ((k, x) : Pc) = [] := by simp [pB, k1, k2]
            have HY : Hid (y.toList = flB (l.take (i + 1)) ∧ noHard (l.take (i + 1)) = true) := ⟨by rw [flB_snoc HP.out, hpb, hy.out.1, List.append_nil], HNH.out⟩
            clear hsz hpb
            go_wp2
            go_roundw
            case rel => exact ⟨i + 1, _, by omega, by go_num, rfl, HY, hbw⟩
            case measure => simp [intOf]; omega
    · obtain rfl : i = n := by omega
      have hlt1 : ¬ (i : Int) < (i : Int) := by omega
      have HF : Hid (FlatPost l w (.returned (.tuple #[.string y, .bool true])) wr) := by
        have h := hy.out
        rw [← HN.out, List.take_length] at h
        refine ⟨?_, hbw.out⟩
        unfold flS
        rw [h.2, if_pos rfl, ← bytes_of y _ h.1]
      go_wp2
      go_ret2
      exact HF.out
end Go.Proofs.Ytllpdccpenghgaa.Doc
