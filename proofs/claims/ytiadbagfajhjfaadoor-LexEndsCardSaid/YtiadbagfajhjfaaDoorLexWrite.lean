/-
  Layer 4 (lex): the statement's own 'again': tokens written again.
-/
import Derived.Test.YtiadbagfajhjfaaDoorLexKnown
import Derived.Test.YtiadbagfajhjfaaDoorLexAgain2
import Derived.Test.YtiadbagfajhjfaaDoorLexRef
namespace Go.Proofs.YtiadbagfajhjfaaDoor.Lex
open Go.ChangeShapes Go.WideShapes Go.ChangeAt Go.RowKit Utf MemT
set_option linter.unusedVariables false

theorem str_add (a b : List Int) : strOfNums a ++ strOfNums b = strOfNums (a ++ b) := by
  apply ByteArray.ext
  apply Array.ext'
  simp [strOfNums]

/-- What is written so far, and what is still to come. -/
def SoFar (gp : List Int) (L : List Tok) (k : Nat) (p : List Int) : Prop := p ++ ag gp (L.drop k) = ag gp L
theorem sofar_step {gp : List Int} {L : List Tok} {k : Nat} {p : List Int} (h : SoFar gp L k p) (hk : k < L.length) : SoFar gp L (k + 1) (p ++ part gp L[k] (L.drop (k + 1))) := by
  unfold SoFar at h ⊢
  rw [List.drop_eq_getElem_cons hk, ag, ← List.append_assoc] at h
  exact h
theorem sofar_len {gp : List Int} {L : List Tok} {k : Nat} {p : List Int} (h : SoFar gp L k p) : p.length ≤ (ag gp L).length := by
  unfold SoFar at h
  rw [← h, List.length_append]; omega
theorem sofar_end {gp : List Int} {L : List Tok} {k : Nat} {p : List Int} (h : SoFar gp L k p) (hk : L.length ≤ k) : p = ag gp L := by
  unfold SoFar at h
  rw [List.drop_eq_nil_of_le hk, ag, List.append_nil] at h
  exact h

theorem str_empty {t : List Int} (ht : Byt t) : ((strOfNums t).toList == ([] : List UInt8)) = decide (t = []) := str_is ht [] Byt.nil

set_option maxHeartbeats 4000000 in
theorem again_any (b cap : Nat) (L : List Tok) (gp : List Int) (w : World) (hcell : ∀ i x, L[i]? = some x → ∀ j u, (tokC x)[j]? = some u → w.cell? ⟨b, i * 4 + j, none⟩ = some u) (n : Nat) (hn : L.length = n) (hcap : n ≤ cap) (hn6 : n ≤ 1000000) (hlen : (ag gp L).length ≤ 1000000) (hgl : gp.length ≤ 1000) (hbt : ∀ t ∈ L, Byt t.text ∧ t.text.length ≤ 1000000) :
    Calls Tryd.prog 16 #[.slice (some ⟨b, 0, none⟩) n cap, .string (strOfNums gp)] w fun e w' => e = .returned (.string (strOfNums (ag gp L))) ∧ w = w' := by
  have HCE := Lib.hid hcell; have Hn := Lib.hid hn; have HBT := Lib.hid hbt; have Hlen := Lib.hid hlen
  have hgs : (strOfNums gp).size ≤ 1000 := by rw [strOfNums_size]; exact hgl
  obtain ⟨gs, hgs'⟩ : ∃ gs, strOfNums gp = gs := ⟨_, rfl⟩
  rw [hgs'] at hgs ⊢
  have Hgs := Lib.hid hgs'
  clear hcell hn hbt hlen hgs' hgl
  go_enter Tryd.func16, Tryd.ntmps16
  go_wp2
  go_loop [5, 6, 7] (fun s i _ => ∃ (k : Nat) (p : List Int), k ≤ n ∧ i = .int .i64 k ∧ s = .string (strOfNums p) ∧ Hid (SoFar gp L k p)) (fun _ i _ => n - (intOf i).toNat)
  case atStart => exact ⟨0, [], Nat.zero_le _, rfl, rfl, rfl⟩
  case round =>
    obtain ⟨k, p, hk, rfl, rfl, hso⟩ := hrel
    by_cases hlt : k < n
    · have hkL : k < L.length := by rw [Hn.out]; exact hlt
      obtain ⟨t, ht⟩ : ∃ t, L[k] = t := ⟨_, rfl⟩
      have hgt : L[k]? = some t := by rw [List.getElem?_eq_getElem hkL, ht]
      have hst := sofar_step hso.out hkL
      rw [ht] at hst
      have hpl : (p ++ part gp t (L.drop (k + 1))).length ≤ 1000000 := Nat.le_trans (sofar_len hst) Hlen.out
      obtain ⟨hbt, htl⟩ := HBT.out t (List.mem_of_getElem? hgt)
      have hps : (strOfNums p).size ≤ 1000000 := by rw [strOfNums_size]; rw [List.length_append] at hpl; omega
      have hts : (strOfNums t.text).size ≤ 1000000 := by rw [strOfNums_size]; exact htl
      have d0 : w.cell? ⟨b, k * 4, none⟩ = some (.int .i64 t.kind) := HCE.out k t hgt 0 _ rfl
      have d1 : w.cell? ⟨b, k * 4 + 1, none⟩ = some (.string (strOfNums t.text)) := HCE.out k t hgt 1 _ rfl
      have hem := str_empty hbt
      have HST := Lib.hid hst
      have hlt' : (k : Int) < n := by omega
      clear hst hso hgt ht hbt htl hpl
      have h10 : strOfNums [10] = ⟨#[10]⟩ := by rfl
      by_cases he : isEnd t
      · have hk6 : t.kind = 6 := he.1
        have htx : t.text = [] := he.2
        rw [hk6] at d0
        rw [htx, decide_eq_true rfl] at hem
        rw [htx] at d1
        have HP : Hid (∀ r, remHead (L.drop (k + 1)) = r → part gp t (L.drop (k + 1)) = if r = true then [] else [10]) := fun r hr => by
          unfold part; rw [if_pos he, hr]
        have hnoadd : ¬ 9223372036854775807 < (strOfNums p).size + 1 := by omega
        clear hk6 htx he hts
        by_cases hlt2 : k + 1 < n
        · have hkL2 : k + 1 < L.length := by rw [Hn.out]; exact hlt2
          obtain ⟨u, hu⟩ : ∃ u, L[k + 1] = u := ⟨_, rfl⟩
          have hgu : L[k + 1]? = some u := by rw [List.getElem?_eq_getElem hkL2, hu]
          have e0 : w.cell? ⟨b, (k + 1) * 4, none⟩ = some (.int .i64 u.kind) := HCE.out (k + 1) u hgu 0 _ rfl
          have e3 : w.cell? ⟨b, (k + 1) * 4 + 3, none⟩ = some (.bool u.first) := HCE.out (k + 1) u hgu 3 _ rfl
          have HRH : Hid (remHead (L.drop (k + 1)) = (decide (u.kind = 5) && !u.first)) := by
            have : remHead (L.drop (k + 1)) = remHead (u :: L.drop (k + 1 + 1)) := by rw [List.drop_eq_getElem_cons hkL2, hu]
            rw [this]; rfl
          have hlt2' : (k : Int) + 1 < n := by omega
          clear hkL hkL2 hgu hu
          by_cases hu5 : u.kind = 5
          · rw [hu5] at e0
            have HR1 : Hid (remHead (L.drop (k + 1)) = !u.first) := by rw [HRH.out, hu5]; rfl
            clear HRH hu5
            cases hf : u.first with
            | true =>
              rw [hf] at e3 HR1
              have HP1 := Lib.hid (HP.out _ HR1.out)
              clear hf HR1 HP
              go_wp2
              go_round
              case rel => exact ⟨k + 1, p ++ [10], by omega, by go_num, by rw [← str_add, h10], by have := HST.out; rw [HP1.out] at this; exact this⟩
              case measure => simp [intOf]; omega
            | false =>
              rw [hf] at e3 HR1
              have HP1 := Lib.hid (HP.out _ HR1.out)
              clear hf HR1 HP
              go_wp2
              go_round
              case rel => exact ⟨k + 1, p, by omega, by go_num, rfl, by have := HST.out; rw [HP1.out] at this; exact (by simpa using this : SoFar gp L (k + 1) p)⟩
              case measure => simp [intOf]; omega
          · have b5 := beq_no hu5
            have HR1 : Hid (remHead (L.drop (k + 1)) = false) := by
              show _ = _
              rw [HRH.out, decide_eq_false hu5]; rfl
            have HP1 := Lib.hid (HP.out _ HR1.out)
            clear HRH hu5 HR1 HP e3
            generalize u.kind = uk at *
            go_wp2
            go_round
            case rel => exact ⟨k + 1, p ++ [10], by omega, by go_num, by rw [← str_add, h10], by have := HST.out; rw [HP1.out] at this; exact this⟩
            case measure => simp [intOf]; omega
        · have hr : remHead (L.drop (k + 1)) = false := by rw [List.drop_eq_nil_of_le (by rw [Hn.out]; omega)]; rfl
          have HP1 := Lib.hid (HP.out _ hr)
          have hlt2' : ¬ (k : Int) + 1 < n := by omega
          clear hr HP hkL
          go_wp2
          go_round
          case rel => exact ⟨k + 1, p ++ [10], by omega, by go_num, by rw [← str_add, h10], by have := HST.out; rw [HP1.out] at this; exact this⟩
          case measure => simp [intOf]; omega
      · have HP : Hid (part gp t (L.drop (k + 1)) = gp ++ t.text ++ (if t.kind = 5 then [10] else [])) := by
          show _ = _
          unfold part; rw [if_neg he]
        have hne : t.kind = 6 → t.text ≠ [] := fun h1 h2 => he ⟨h1, h2⟩
        have ha1 : ¬ 9223372036854775807 < (strOfNums p).size + gs.size := by omega
        have ha2 : ¬ 9223372036854775807 < (strOfNums p ++ gs).size + (strOfNums t.text).size := by rw [ByteArray.size_append]; omega
        have ha3 : ¬ 9223372036854775807 < (strOfNums p ++ gs ++ strOfNums t.text).size + 1 := by rw [ByteArray.size_append, ByteArray.size_append]; omega
        have HS1 : Hid (strOfNums p ++ gs ++ strOfNums t.text = strOfNums (p ++ (gp ++ t.text))) := by
          show _ = _
          rw [← Hgs.out, str_add, str_add, List.append_assoc]
        clear he hkL
        by_cases k5 : t.kind = 5
        · rw [k5] at d0
          have HP1 : Hid (part gp t (L.drop (k + 1)) = gp ++ t.text ++ [10]) := by
            show _ = _
            rw [HP.out, if_pos k5]
          clear hne k5 HP hem
          go_wp2
          go_round
          case rel => exact ⟨k + 1, p ++ (gp ++ t.text ++ [10]), by omega, by go_num, by rw [HS1.out, ← h10, str_add]; simp, by have := HST.out; rw [HP1.out] at this; exact this⟩
          case measure => simp [intOf]; omega
        · have HP1 : Hid (part gp t (L.drop (k + 1)) = gp ++ t.text) := by
            have := HP.out; rw [if_neg k5, List.append_nil] at this; exact this
          have b5 := beq_no k5
          clear k5 HP
          by_cases k6 : t.kind = 6
          · have hx := hne k6
            rw [k6] at d0
            rw [decide_eq_false hx] at hem
            clear hne k6 hx b5
            go_wp2
            go_round
            case rel => exact ⟨k + 1, p ++ (gp ++ t.text), by omega, by go_num, by rw [HS1.out], by have := HST.out; rw [HP1.out] at this; exact this⟩
            case measure => simp [intOf]; omega
          · have b6 := beq_no k6
            clear hne k6 hem
            generalize t.kind = tk at *
            go_wp2
            go_round
            case rel => exact ⟨k + 1, p ++ (gp ++ t.text), by omega, by go_num, by rw [HS1.out], by have := HST.out; rw [HP1.out] at this; exact this⟩
            case measure => simp [intOf]; omega
    · have HE := Lib.hid (sofar_end hso.out (by rw [Hn.out]; omega))
      have hnl : ¬ (k : Int) < n := by omega
      clear hso hlt
      go_wp2
      go_ret
      rw [HE.out]
      exact ⟨rfl, rfl⟩

end Go.Proofs.YtiadbagfajhjfaaDoor.Lex
