/-
 Layer 6 (parse): the statement's own Loose: tokens written loosely. Written by gen_parseloosew.py.
-/
import Derived.Test.YtaiihnniblibaaaGreatDoorParseLoose
import Derived.Test.YtaiihnniblibaaaGreatDoorLexRefW
namespace Go.Proofs.YtaiihnniblibaaaGreatDoor.Parse
open Go.ChangeShapes Go.WideShapes Go.ChangeAt Go.RowKit Utf MemT Lex
set_option linter.unusedVariables false

theorem str_add (a b : List Int) : strOfNums a ++ strOfNums b = strOfNums (a ++ b) := by
 apply ByteArray.ext
 apply Array.ext'
 simp [strOfNums]
theorem str_empty {t : List Int} (ht : Byt t) : ((strOfNums t).toList == ([] : List UInt8)) = decide (t = []) := str_is ht [] Byt.nil
theorem toks_small {b : List Int} (hb : Byt b) (hE : lexE b = 0) (hl : b.length ≤ 5000) : ∀ t ∈ lexT b, Byt t.text ∧ t.text.length ≤ 1000000 := by
 obtain ⟨h1, h2⟩ := lexE_zero hb hE
 have ht := tiles_of b
 rw [h2] at ht
 have hL : lexT b = fin (pieces b) 0 true := (lex_ok h1 ht).2.2
 intro t hm
 refine ⟨?_, ?_⟩
 ·rw [hL] at hm
  rcases fin_mem _ _ _ t hm with e | ⟨_, _, e⟩
  ·rw [e.2]; exact Byt.nil
  ·exact (tiles_text _ _ hb h1 ht _ e).1
 ·have h3 := (@toks_count b).2
  have : ∀ (L : List Tok), t ∈ L → t.text.length ≤ (L.map fun t => t.text.length).sum := fun L => by
   induction L with
   | nil => intro h; cases h
   | cons u r ih =>
    intro h
    simp only [List.map_cons, List.sum_cons]
    rcases List.mem_cons.1 h with e | e
    ·subst e; omega
    ·have := ih e; omega
  have := this _ hm
  omega

/-- What is written so far, and what is still to come. -/
def LSo (gp : List Int) (ends : Bool) (L : List Tok) (k : Nat) (p : List Int) : Prop := p ++ lo gp ends (L.drop k) = 10 :: lo gp ends L
theorem lso_step {gp : List Int} {ends : Bool} {L : List Tok} {k : Nat} {p : List Int} (h : LSo gp ends L k p) (hk : k < L.length) : LSo gp ends L (k + 1) (p ++ lpart gp ends L[k] (L.drop (k + 1))) := by
 unfold LSo at h ⊢
 rw [List.drop_eq_getElem_cons hk, lo, ← List.append_assoc] at h
 exact h
theorem lso_len {gp : List Int} {ends : Bool} {L : List Tok} {k : Nat} {p : List Int} (h : LSo gp ends L k p) : p.length ≤ (lo gp ends L).length + 1 := by
 unfold LSo at h
 have := congrArg List.length h
 rw [List.length_append, List.length_cons] at this; omega
theorem lso_end {gp : List Int} {ends : Bool} {L : List Tok} {k : Nat} {p : List Int} (h : LSo gp ends L k p) (hk : L.length ≤ k) : p = 10 :: lo gp ends L := by
 unfold LSo at h
 rw [List.drop_eq_nil_of_le hk, lo, List.append_nil] at h
 exact h

set_option maxRecDepth 100000 in
set_option maxHeartbeats 8000000 in
theorem loose_any (A : Option Addr) (m cap : Nat) (xs : List Int) (w : World) (B : Nat) (h : RB w B A xs) (hB : B ≤ w.heap.size) (hn : xs.length = m) (hcap : m ≤ cap) (hcap' : cap ≤ maxLen) (hsm : m ≤ 4000) (hE : lexE xs = 0) (gp : List Int) (hgl : gp.length ≤ 10) (ends : Bool) :
  Calls Tryz.prog 13 #[.slice A m cap, .string (strOfNums gp), .bool ends] w fun e w' => e = .returned (.string (strOfNums (10 :: lo gp ends (lexT xs)))) ∧ Below w.heap.size w w' := by
 have HTOK : Hid (Calls Tryz.prog 20 #[.slice A m cap] w fun e w' => ∃ v, e = .returned (.tuple #[v, .int .i64 (lexN xs : Int), .int .i64 (lexE xs)]) ∧ OwnR w' w.heap.size v (lexT xs) ∧ Below w.heap.size w w') := refTokens_any A m cap xs w B h hB hn hcap hcap' (by omega)
 have HBT := Lib.hid (toks_small h.1 hE (by omega))
 have hll : (lexT xs).length ≤ 8000 := by have := (@toks_count xs).1; omega
 have hlo : (lo gp ends (lexT xs)).length ≤ 1000000 := by
  have h1 := lo_len gp ends (lexT xs)
  have h2 := (@toks_count xs).2
  have h3 : (gp.length + 3) * (lexT xs).length ≤ 13 * 8000 := Nat.mul_le_mul (by omega) hll
  omega
 have hgs : (strOfNums gp).size ≤ 1000 := by rw [strOfNums_size]; omega
 obtain ⟨gs, hgs'⟩ : ∃ gs, strOfNums gp = gs := ⟨_, rfl⟩
 rw [hgs'] at hgs ⊢
 have Hgs := Lib.hid hgs'; have Hlen := Lib.hid hlo; have HE := Lib.hid hE
 clear h hB hn hcap hcap' hsm hE hgl hgs' hlo
 generalize lexT xs = L at *
 obtain ⟨n, hn⟩ : ∃ n, L.length = n := ⟨_, rfl⟩
 have Hn := Lib.hid hn
 go_enter Tryz.func13, Tryz.ntmps13
 go_wp2_with fail
 refine HTOK.out.mono ?_
 rintro e w1 ⟨v1, rfl, ho1, hb1⟩
 obtain ⟨a1, c1, rfl, hc1, hc1'⟩ := ownR_slice ho1
 have hr1 := own_rt tokC_len ho1 rfl
 rw [hn] at hc1 ⊢
 rw [hn] at hll
 rw [HE.out]
 have HR1 := Lib.hid hr1; have HB1 := Lib.hid hb1
 clear hb1 ho1 hr1 hn hc1' HTOK HE
 generalize lexN xs = N at *
 have h10 : strOfNums [10] = ⟨#[10]⟩ := by rfl
 have h59 : strOfNums [59] = ⟨#[59]⟩ := by rfl
 have h32 : strOfNums [32, 10] = ⟨#[32, 10]⟩ := by rfl
 have H10 := Lib.hid h10; have H59 := Lib.hid h59; have H32 := Lib.hid h32
 clear h10 h59 h32
 go_wp2
 go_loop [10, 11, 12] (fun s i _ => ∃ (k : Nat) (p : List Int), k ≤ n ∧ i = .int .i64 k ∧ s = .string (strOfNums p) ∧ Hid (LSo gp ends L k p)) (fun _ i _ => n - (intOf i).toNat)
 case atStart => exact ⟨0, [10], Nat.zero_le _, rfl, by rw [H10.out], rfl⟩
 case round =>
  obtain ⟨k, p, hk, rfl, rfl, hso⟩ := hrel
  by_cases hlt : k < n
  ·have hkL : k < L.length := by rw [Hn.out]; exact hlt
   obtain ⟨t, ht⟩ : ∃ t, L[k] = t := ⟨_, rfl⟩
   have hgt : L[k]? = some t := by rw [List.getElem?_eq_getElem hkL, ht]
   have hst := lso_step hso.out hkL
   rw [ht] at hst
   have hpl : (p ++ lpart gp ends t (L.drop (k + 1))).length ≤ 1000001 := Nat.le_trans (lso_len hst) (Nat.succ_le_succ Hlen.out)
   obtain ⟨hbt, htl⟩ := HBT.out t (List.mem_of_getElem? hgt)
   have hps : (strOfNums p).size ≤ 1000001 := by rw [strOfNums_size]; rw [List.length_append] at hpl; omega
   have hts : (strOfNums t.text).size ≤ 1000000 := by rw [strOfNums_size]; exact htl
   obtain ⟨b, rfl, _, HCE⟩ := HR1.out.at_ (by omega)
   have d0 : w1.cell? ⟨b, k * 4, none⟩ = some (.int .i64 t.kind) := HCE k t hgt 0 _ rfl
   have d1 : w1.cell? ⟨b, k * 4 + 1, none⟩ = some (.string (strOfNums t.text)) := HCE k t hgt 1 _ rfl
   have d3 : w1.cell? ⟨b, k * 4 + 3, none⟩ = some (.bool t.first) := HCE k t hgt 3 _ rfl
   have hem := str_empty hbt
   have HST := Lib.hid hst
   have hlt' : (k : Int) < n := by omega
   have hU : (¬ (k : Int) + 1 < n ∧ Hid (remHead (L.drop (k + 1)) = false)) ∨ ((k : Int) + 1 < n ∧ ∃ (uk : Int) (uf : Bool), w1.cell? ⟨b, (k + 1) * 4, none⟩ = some (.int .i64 uk) ∧ w1.cell? ⟨b, (k + 1) * 4 + 3, none⟩ = some (.bool uf) ∧ Hid (remHead (L.drop (k + 1)) = (decide (uk = 5) && !uf))) := by
    by_cases hlt2 : k + 1 < n
    ·have hkL2 : k + 1 < L.length := by rw [Hn.out]; exact hlt2
     obtain ⟨u, hu⟩ : ∃ u, L[k + 1] = u := ⟨_, rfl⟩
     have hgu : L[k + 1]? = some u := by rw [List.getElem?_eq_getElem hkL2, hu]
     refine .inr ⟨by omega, u.kind, u.first, HCE (k + 1) u hgu 0 _ rfl, HCE (k + 1) u hgu 3 _ rfl, ?_⟩
     have : remHead (L.drop (k + 1)) = remHead (u :: L.drop (k + 1 + 1)) := by rw [List.drop_eq_getElem_cons hkL2, hu]
     show _ = _
     rw [this]; rfl
    ·refine .inl ⟨by omega, ?_⟩
     show _ = _
     rw [List.drop_eq_nil_of_le (by rw [Hn.out]; omega)]; rfl
   clear HCE hso hgt ht hbt htl hpl hkL hst
   have hs0 : ¬ 9223372036854775807 < (strOfNums p).size + 1 := by omega
   have hs1 : ¬ 9223372036854775807 < (strOfNums p).size + gs.size := by omega
   have hs2 : ¬ 9223372036854775807 < (strOfNums p ++ gs).size + 1 := by rw [ByteArray.size_append]; omega
   have hs3 : ¬ 9223372036854775807 < (strOfNums p ++ gs ++ ⟨#[59]⟩).size + 1 := by rw [ByteArray.size_append, ByteArray.size_append]; have : (⟨#[59]⟩ : ByteArray).size = 1 := rfl; omega
   have hs4 : ¬ 9223372036854775807 < (strOfNums p ++ gs).size + (strOfNums t.text).size := by rw [ByteArray.size_append]; omega
   have hs5 : ¬ 9223372036854775807 < (strOfNums p ++ gs ++ strOfNums t.text).size + 2 := by rw [ByteArray.size_append, ByteArray.size_append]; omega
   have hs6 : ¬ 9223372036854775807 < (strOfNums p ++ ⟨#[10]⟩).size + gs.size := by rw [ByteArray.size_append]; have : (⟨#[10]⟩ : ByteArray).size = 1 := rfl; omega
   have hs7 : ¬ 9223372036854775807 < (strOfNums p ++ ⟨#[10]⟩ ++ gs).size + (strOfNums t.text).size := by rw [ByteArray.size_append, ByteArray.size_append]; have : (⟨#[10]⟩ : ByteArray).size = 1 := rfl; omega
   have hs8 : ¬ 9223372036854775807 < (strOfNums p ++ ⟨#[10]⟩ ++ gs ++ strOfNums t.text).size + 2 := by rw [ByteArray.size_append, ByteArray.size_append, ByteArray.size_append]; have : (⟨#[10]⟩ : ByteArray).size = 1 := rfl; omega
   have HKIND : Hid ((t.kind = 6 ∧ t.text = []) ∨ t.kind = 5 ∨ (t.kind = 6 ∧ t.text ≠ []) ∨ (t.kind ≠ 6 ∧ t.kind ≠ 5)) := by
    show _ ∨ _
    by_cases h6 : t.kind = 6
    ·by_cases hx : t.text = []
     ·exact .inl ⟨h6, hx⟩
     ·exact .inr (.inr (.inl ⟨h6, hx⟩))
    ·by_cases h5 : t.kind = 5
     ·exact .inr (.inl h5)
     ·exact .inr (.inr (.inr ⟨h6, h5⟩))
   rcases hU with ⟨hlt2, HRV⟩ | ⟨hlt2, uk, uf, e0, e3, HRU⟩
   ·rcases HKIND.out with ⟨h6, hx⟩ | h5 | ⟨h6, hx⟩ | ⟨h6, h5⟩
    ·rw [h6] at d0
     rw [hx, decide_eq_true rfl] at hem
     rw [hx] at d1
     have HIE : Hid (isEnd t) := ⟨h6, hx⟩
     clear HKIND h6 hx d3 hts hs4 hs5 hs6 hs7 hs8
     cases ends with
     | true =>
      have HP : Hid (lpart gp true t (L.drop (k + 1)) = gp ++ ([59] ++ [10])) := by show _ = _; unfold lpart; rw [if_pos HIE.out, HRV.out]; simp
      clear HIE HRV
      go_wp2
      go_round
      case rel => exact ⟨k + 1, p ++ (gp ++ ([59] ++ [10])), by omega, by go_num, by simp only [← str_add, H10.out, H59.out, Hgs.out, ByteArray.append_assoc], by have := HST.out; rw [HP.out] at this; exact this⟩
      case measure => simp [intOf]; omega
     | false =>
      have HP : Hid (lpart gp false t (L.drop (k + 1)) = [10]) := by show _ = _; unfold lpart; rw [if_pos HIE.out, HRV.out]; simp
      clear HIE HRV
      go_wp2
      go_round
      case rel => exact ⟨k + 1, p ++ ([10]), by omega, by go_num, by simp only [← str_add, H10.out], by have := HST.out; rw [HP.out] at this; exact this⟩
      case measure => simp [intOf]; omega
    ·have HPP : Hid (∀ b, t.first = b → lpart gp ends t (L.drop (k + 1)) = (if b = true then [10] else []) ++ (gp ++ t.text ++ [32, 10])) := fun b hb => by
      unfold lpart; rw [if_neg (show ¬ isEnd t from fun e => by have := e.1; omega), if_pos h5, hb]
     rw [h5] at d0
     clear HKIND h5 HRV hem hs3
     obtain ⟨fb, hfb⟩ : ∃ fb, t.first = fb := ⟨_, rfl⟩
     have HP0 := Lib.hid (HPP.out fb hfb)
     rw [hfb] at d3
     cases fb with
     | true =>
      have HP : Hid (lpart gp ends t (L.drop (k + 1)) = [10] ++ (gp ++ (t.text ++ [32, 10]))) := by show _ = _; rw [HP0.out]; simp
      clear HP0 HPP hfb
      go_wp2
      go_round
      case rel => exact ⟨k + 1, p ++ ([10] ++ (gp ++ (t.text ++ [32, 10]))), by omega, by go_num, by simp only [← str_add, H10.out, H32.out, Hgs.out, ByteArray.append_assoc], by have := HST.out; rw [HP.out] at this; exact this⟩
      case measure => simp [intOf]; omega
     | false =>
      have HP : Hid (lpart gp ends t (L.drop (k + 1)) = (gp ++ (t.text ++ [32, 10]))) := by show _ = _; rw [HP0.out]; simp
      clear HP0 HPP hfb
      go_wp2
      go_round
      case rel => exact ⟨k + 1, p ++ ((gp ++ (t.text ++ [32, 10]))), by omega, by go_num, by simp only [← str_add, H32.out, Hgs.out, ByteArray.append_assoc], by have := HST.out; rw [HP.out] at this; exact this⟩
      case measure => simp [intOf]; omega
    ·have HP : Hid (lpart gp ends t (L.drop (k + 1)) = gp ++ t.text) := by
      show _ = _; unfold lpart; rw [if_neg (show ¬ isEnd t from fun e => hx e.2), if_neg (by omega)]
     rw [h6] at d0
     rw [decide_eq_false hx] at hem
     clear HKIND h6 hx HRV d3 hs3 hs6 hs7 hs8
     go_wp2
     go_round
     case rel => exact ⟨k + 1, p ++ (gp ++ t.text), by omega, by go_num, by simp only [← str_add, Hgs.out, ByteArray.append_assoc], by have := HST.out; rw [HP.out] at this; exact this⟩
     case measure => simp [intOf]; omega
    ·have HP : Hid (lpart gp ends t (L.drop (k + 1)) = gp ++ t.text) := by
      show _ = _; unfold lpart; rw [if_neg (show ¬ isEnd t from fun e => h6 e.1), if_neg h5]
     have b5 := beq_no h5
     have b6 := beq_no h6
     clear HKIND h6 h5 HRV d3 hs3 hs6 hs7 hs8 hem
     generalize t.kind = tk at *
     go_wp2
     go_round
     case rel => exact ⟨k + 1, p ++ (gp ++ t.text), by omega, by go_num, by simp only [← str_add, Hgs.out, ByteArray.append_assoc], by have := HST.out; rw [HP.out] at this; exact this⟩
     case measure => simp [intOf]; omega
   ·by_cases hu5 : uk = 5
    ·subst hu5
     cases uf with
     | true =>
      have HRV : Hid (remHead (L.drop (k + 1)) = false) := HRU.out
      clear HRU
      rcases HKIND.out with ⟨h6, hx⟩ | h5 | ⟨h6, hx⟩ | ⟨h6, h5⟩
      ·rw [h6] at d0
       rw [hx, decide_eq_true rfl] at hem
       rw [hx] at d1
       have HIE : Hid (isEnd t) := ⟨h6, hx⟩
       clear HKIND h6 hx d3 hts hs4 hs5 hs6 hs7 hs8
       cases ends with
       | true =>
        have HP : Hid (lpart gp true t (L.drop (k + 1)) = gp ++ ([59] ++ [10])) := by show _ = _; unfold lpart; rw [if_pos HIE.out, HRV.out]; simp
        clear HIE HRV
        go_wp2
        go_round
        case rel => exact ⟨k + 1, p ++ (gp ++ ([59] ++ [10])), by omega, by go_num, by simp only [← str_add, H10.out, H59.out, Hgs.out, ByteArray.append_assoc], by have := HST.out; rw [HP.out] at this; exact this⟩
        case measure => simp [intOf]; omega
       | false =>
        have HP : Hid (lpart gp false t (L.drop (k + 1)) = [10]) := by show _ = _; unfold lpart; rw [if_pos HIE.out, HRV.out]; simp
        clear HIE HRV
        go_wp2
        go_round
        case rel => exact ⟨k + 1, p ++ ([10]), by omega, by go_num, by simp only [← str_add, H10.out], by have := HST.out; rw [HP.out] at this; exact this⟩
        case measure => simp [intOf]; omega
      ·have HPP : Hid (∀ b, t.first = b → lpart gp ends t (L.drop (k + 1)) = (if b = true then [10] else []) ++ (gp ++ t.text ++ [32, 10])) := fun b hb => by
        unfold lpart; rw [if_neg (show ¬ isEnd t from fun e => by have := e.1; omega), if_pos h5, hb]
       rw [h5] at d0
       clear HKIND h5 HRV hem hs3
       obtain ⟨fb, hfb⟩ : ∃ fb, t.first = fb := ⟨_, rfl⟩
       have HP0 := Lib.hid (HPP.out fb hfb)
       rw [hfb] at d3
       cases fb with
       | true =>
        have HP : Hid (lpart gp ends t (L.drop (k + 1)) = [10] ++ (gp ++ (t.text ++ [32, 10]))) := by show _ = _; rw [HP0.out]; simp
        clear HP0 HPP hfb
        go_wp2
        go_round
        case rel => exact ⟨k + 1, p ++ ([10] ++ (gp ++ (t.text ++ [32, 10]))), by omega, by go_num, by simp only [← str_add, H10.out, H32.out, Hgs.out, ByteArray.append_assoc], by have := HST.out; rw [HP.out] at this; exact this⟩
        case measure => simp [intOf]; omega
       | false =>
        have HP : Hid (lpart gp ends t (L.drop (k + 1)) = (gp ++ (t.text ++ [32, 10]))) := by show _ = _; rw [HP0.out]; simp
        clear HP0 HPP hfb
        go_wp2
        go_round
        case rel => exact ⟨k + 1, p ++ ((gp ++ (t.text ++ [32, 10]))), by omega, by go_num, by simp only [← str_add, H32.out, Hgs.out, ByteArray.append_assoc], by have := HST.out; rw [HP.out] at this; exact this⟩
        case measure => simp [intOf]; omega
      ·have HP : Hid (lpart gp ends t (L.drop (k + 1)) = gp ++ t.text) := by
        show _ = _; unfold lpart; rw [if_neg (show ¬ isEnd t from fun e => hx e.2), if_neg (by omega)]
       rw [h6] at d0
       rw [decide_eq_false hx] at hem
       clear HKIND h6 hx HRV d3 hs3 hs6 hs7 hs8
       go_wp2
       go_round
       case rel => exact ⟨k + 1, p ++ (gp ++ t.text), by omega, by go_num, by simp only [← str_add, Hgs.out, ByteArray.append_assoc], by have := HST.out; rw [HP.out] at this; exact this⟩
       case measure => simp [intOf]; omega
      ·have HP : Hid (lpart gp ends t (L.drop (k + 1)) = gp ++ t.text) := by
        show _ = _; unfold lpart; rw [if_neg (show ¬ isEnd t from fun e => h6 e.1), if_neg h5]
       have b5 := beq_no h5
       have b6 := beq_no h6
       clear HKIND h6 h5 HRV d3 hs3 hs6 hs7 hs8 hem
       generalize t.kind = tk at *
       go_wp2
       go_round
       case rel => exact ⟨k + 1, p ++ (gp ++ t.text), by omega, by go_num, by simp only [← str_add, Hgs.out, ByteArray.append_assoc], by have := HST.out; rw [HP.out] at this; exact this⟩
       case measure => simp [intOf]; omega
     | false =>
      have HRV : Hid (remHead (L.drop (k + 1)) = true) := HRU.out
      clear HRU
      rcases HKIND.out with ⟨h6, hx⟩ | h5 | ⟨h6, hx⟩ | ⟨h6, h5⟩
      ·rw [h6] at d0
       rw [hx, decide_eq_true rfl] at hem
       rw [hx] at d1
       have HIE : Hid (isEnd t) := ⟨h6, hx⟩
       clear HKIND h6 hx d3 hts hs4 hs5 hs6 hs7 hs8
       cases ends with
       | true =>
        have HP : Hid (lpart gp true t (L.drop (k + 1)) = gp ++ [59]) := by show _ = _; unfold lpart; rw [if_pos HIE.out, HRV.out]; simp
        clear HIE HRV
        go_wp2
        go_round
        case rel => exact ⟨k + 1, p ++ (gp ++ [59]), by omega, by go_num, by simp only [← str_add, H59.out, Hgs.out, ByteArray.append_assoc], by have := HST.out; rw [HP.out] at this; exact this⟩
        case measure => simp [intOf]; omega
       | false =>
        have HP : Hid (lpart gp false t (L.drop (k + 1)) = []) := by show _ = _; unfold lpart; rw [if_pos HIE.out, HRV.out]; simp
        clear HIE HRV
        go_wp2
        go_round
        case rel => exact ⟨k + 1, p, by omega, by go_num, rfl, by have := HST.out; rw [HP.out, List.append_nil] at this; exact this⟩
        case measure => simp [intOf]; omega
      ·have HPP : Hid (∀ b, t.first = b → lpart gp ends t (L.drop (k + 1)) = (if b = true then [10] else []) ++ (gp ++ t.text ++ [32, 10])) := fun b hb => by
        unfold lpart; rw [if_neg (show ¬ isEnd t from fun e => by have := e.1; omega), if_pos h5, hb]
       rw [h5] at d0
       clear HKIND h5 HRV hem hs3
       obtain ⟨fb, hfb⟩ : ∃ fb, t.first = fb := ⟨_, rfl⟩
       have HP0 := Lib.hid (HPP.out fb hfb)
       rw [hfb] at d3
       cases fb with
       | true =>
        have HP : Hid (lpart gp ends t (L.drop (k + 1)) = [10] ++ (gp ++ (t.text ++ [32, 10]))) := by show _ = _; rw [HP0.out]; simp
        clear HP0 HPP hfb
        go_wp2
        go_round
        case rel => exact ⟨k + 1, p ++ ([10] ++ (gp ++ (t.text ++ [32, 10]))), by omega, by go_num, by simp only [← str_add, H10.out, H32.out, Hgs.out, ByteArray.append_assoc], by have := HST.out; rw [HP.out] at this; exact this⟩
        case measure => simp [intOf]; omega
       | false =>
        have HP : Hid (lpart gp ends t (L.drop (k + 1)) = (gp ++ (t.text ++ [32, 10]))) := by show _ = _; rw [HP0.out]; simp
        clear HP0 HPP hfb
        go_wp2
        go_round
        case rel => exact ⟨k + 1, p ++ ((gp ++ (t.text ++ [32, 10]))), by omega, by go_num, by simp only [← str_add, H32.out, Hgs.out, ByteArray.append_assoc], by have := HST.out; rw [HP.out] at this; exact this⟩
        case measure => simp [intOf]; omega
      ·have HP : Hid (lpart gp ends t (L.drop (k + 1)) = gp ++ t.text) := by
        show _ = _; unfold lpart; rw [if_neg (show ¬ isEnd t from fun e => hx e.2), if_neg (by omega)]
       rw [h6] at d0
       rw [decide_eq_false hx] at hem
       clear HKIND h6 hx HRV d3 hs3 hs6 hs7 hs8
       go_wp2
       go_round
       case rel => exact ⟨k + 1, p ++ (gp ++ t.text), by omega, by go_num, by simp only [← str_add, Hgs.out, ByteArray.append_assoc], by have := HST.out; rw [HP.out] at this; exact this⟩
       case measure => simp [intOf]; omega
      ·have HP : Hid (lpart gp ends t (L.drop (k + 1)) = gp ++ t.text) := by
        show _ = _; unfold lpart; rw [if_neg (show ¬ isEnd t from fun e => h6 e.1), if_neg h5]
       have b5 := beq_no h5
       have b6 := beq_no h6
       clear HKIND h6 h5 HRV d3 hs3 hs6 hs7 hs8 hem
       generalize t.kind = tk at *
       go_wp2
       go_round
       case rel => exact ⟨k + 1, p ++ (gp ++ t.text), by omega, by go_num, by simp only [← str_add, Hgs.out, ByteArray.append_assoc], by have := HST.out; rw [HP.out] at this; exact this⟩
       case measure => simp [intOf]; omega
    ·have HRV : Hid (remHead (L.drop (k + 1)) = false) := by show _ = _; rw [HRU.out, decide_eq_false hu5]; rfl
     have u5 := beq_no hu5
     clear HRU hu5 e3
     rcases HKIND.out with ⟨h6, hx⟩ | h5 | ⟨h6, hx⟩ | ⟨h6, h5⟩
     ·rw [h6] at d0
      rw [hx, decide_eq_true rfl] at hem
      rw [hx] at d1
      have HIE : Hid (isEnd t) := ⟨h6, hx⟩
      clear HKIND h6 hx d3 hts hs4 hs5 hs6 hs7 hs8
      cases ends with
      | true =>
       have HP : Hid (lpart gp true t (L.drop (k + 1)) = gp ++ ([59] ++ [10])) := by show _ = _; unfold lpart; rw [if_pos HIE.out, HRV.out]; simp
       clear HIE HRV
       go_wp2
       go_round
       case rel => exact ⟨k + 1, p ++ (gp ++ ([59] ++ [10])), by omega, by go_num, by simp only [← str_add, H10.out, H59.out, Hgs.out, ByteArray.append_assoc], by have := HST.out; rw [HP.out] at this; exact this⟩
       case measure => simp [intOf]; omega
      | false =>
       have HP : Hid (lpart gp false t (L.drop (k + 1)) = [10]) := by show _ = _; unfold lpart; rw [if_pos HIE.out, HRV.out]; simp
       clear HIE HRV
       go_wp2
       go_round
       case rel => exact ⟨k + 1, p ++ ([10]), by omega, by go_num, by simp only [← str_add, H10.out], by have := HST.out; rw [HP.out] at this; exact this⟩
       case measure => simp [intOf]; omega
     ·have HPP : Hid (∀ b, t.first = b → lpart gp ends t (L.drop (k + 1)) = (if b = true then [10] else []) ++ (gp ++ t.text ++ [32, 10])) := fun b hb => by
       unfold lpart; rw [if_neg (show ¬ isEnd t from fun e => by have := e.1; omega), if_pos h5, hb]
      rw [h5] at d0
      clear HKIND h5 HRV hem hs3
      obtain ⟨fb, hfb⟩ : ∃ fb, t.first = fb := ⟨_, rfl⟩
      have HP0 := Lib.hid (HPP.out fb hfb)
      rw [hfb] at d3
      cases fb with
      | true =>
       have HP : Hid (lpart gp ends t (L.drop (k + 1)) = [10] ++ (gp ++ (t.text ++ [32, 10]))) := by show _ = _; rw [HP0.out]; simp
       clear HP0 HPP hfb
       go_wp2
       go_round
       case rel => exact ⟨k + 1, p ++ ([10] ++ (gp ++ (t.text ++ [32, 10]))), by omega, by go_num, by simp only [← str_add, H10.out, H32.out, Hgs.out, ByteArray.append_assoc], by have := HST.out; rw [HP.out] at this; exact this⟩
       case measure => simp [intOf]; omega
      | false =>
       have HP : Hid (lpart gp ends t (L.drop (k + 1)) = (gp ++ (t.text ++ [32, 10]))) := by show _ = _; rw [HP0.out]; simp
       clear HP0 HPP hfb
       go_wp2
       go_round
       case rel => exact ⟨k + 1, p ++ ((gp ++ (t.text ++ [32, 10]))), by omega, by go_num, by simp only [← str_add, H32.out, Hgs.out, ByteArray.append_assoc], by have := HST.out; rw [HP.out] at this; exact this⟩
       case measure => simp [intOf]; omega
     ·have HP : Hid (lpart gp ends t (L.drop (k + 1)) = gp ++ t.text) := by
       show _ = _; unfold lpart; rw [if_neg (show ¬ isEnd t from fun e => hx e.2), if_neg (by omega)]
      rw [h6] at d0
      rw [decide_eq_false hx] at hem
      clear HKIND h6 hx HRV d3 hs3 hs6 hs7 hs8
      go_wp2
      go_round
      case rel => exact ⟨k + 1, p ++ (gp ++ t.text), by omega, by go_num, by simp only [← str_add, Hgs.out, ByteArray.append_assoc], by have := HST.out; rw [HP.out] at this; exact this⟩
      case measure => simp [intOf]; omega
     ·have HP : Hid (lpart gp ends t (L.drop (k + 1)) = gp ++ t.text) := by
       show _ = _; unfold lpart; rw [if_neg (show ¬ isEnd t from fun e => h6 e.1), if_neg h5]
      have b5 := beq_no h5
      have b6 := beq_no h6
      clear HKIND h6 h5 HRV d3 hs3 hs6 hs7 hs8 hem
      generalize t.kind = tk at *
      go_wp2
      go_round
      case rel => exact ⟨k + 1, p ++ (gp ++ t.text), by omega, by go_num, by simp only [← str_add, Hgs.out, ByteArray.append_assoc], by have := HST.out; rw [HP.out] at this; exact this⟩
      case measure => simp [intOf]; omega
  ·have HE := Lib.hid (lso_end hso.out (by rw [Hn.out]; omega))
   have hnl : ¬ (k : Int) < n := by omega
   clear hso hlt
   go_wp2
   go_ret
   rw [HE.out]
   exact ⟨rfl, HB1.out⟩
end Go.Proofs.YtaiihnniblibaaaGreatDoor.Parse
