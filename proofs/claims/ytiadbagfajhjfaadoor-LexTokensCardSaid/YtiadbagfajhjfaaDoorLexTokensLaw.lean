/-
  Layer 4 (lex): the walk of LexTokens: a program's tokens, or where it is none, are the document's.
-/
import Derived.Test.YtiadbagfajhjfaaDoorLexRefW
import Derived.Deep.Cut
import Derived.Deep.CutRange
namespace Go.Proofs.YtiadbagfajhjfaaDoor.Lex
open Go.ChangeShapes Go.WideShapes Go.ChangeAt Go.RowKit Utf MemT
set_option linter.unusedVariables false

theorem ownR_rt {w : World} {base : Nat} {v : Value} {L : List Tok} (h : OwnR w base v L) : ∃ a c, v = .slice a L.length c ∧ L.length ≤ c ∧ c ≤ maxLen ∧ RT tokC 4 w w.heap.size a L := by
  obtain ⟨a, c, rfl, h1, h2⟩ := ownR_slice h
  exact ⟨a, c, rfl, h1, h2, own_rt tokC_len h rfl⟩

set_option maxRecDepth 100000 in
set_option maxHeartbeats 4000000 in
theorem lexTokens_walk (A : Option Addr) (n0 cap : Nat) (xs0 : List Int) (w : World) (h0 : RB w w.heap.size A xs0) (hn0 : xs0.length = n0) (hcap0 : n0 ≤ cap) (hcap' : cap ≤ maxLen) (hT : Tab w) :
    Calls Tryd.prog 3 #[.slice A n0 cap] w fun e w' => e = .returned (.bool true) ∧ Below w.heap.size w w' := by
  have HT := Lib.hid hT
  have H0 := Lib.hid h0; have Hn0 := Lib.hid hn0
  have Hc := Lib.hid hcap'
  unfold maxLen at hcap'
  clear hT h0 hn0
  go_enter Tryd.func3, Tryd.ntmps3
  go_upto_if 13 with (fail)
  go_cut [0] from 14 to 15 (fun s0 W => s0 = .slice A (min n0 20000) cap ∧ W = w)
  case first =>
    by_cases hl : n0 ≤ 20000
    · have hl' : decide ((20000 : Int) < (n0 : Int)) = false := by rw [decide_eq_false_iff_not]; omega
      go_wp2
      go_meet
      case rel => exact ⟨by rw [Nat.min_eq_left hl], rfl⟩
    · have hl' : (20000 : Int) < (n0 : Int) := by omega
      have hcl : (20000 : Int) ≤ (cap : Int) := by omega
      go_wp2
      go_meet
      case rel => exact ⟨by rw [Nat.min_eq_right (by omega)], rfl⟩
  case rest =>
    obtain ⟨rfl, rfl⟩ := hcut
    have HX : Hid (∃ xs, xs.length = min n0 20000 ∧ RB wc wc.heap.size A xs) := ⟨xs0.take (min n0 20000), by rw [List.length_take, Hn0.out]; omega, H0.out.take _⟩
    have hm : min n0 20000 ≤ cap := by omega
    have hm2 : min n0 20000 ≤ 20000 := by omega
    generalize min n0 20000 = m at *
    clear hcap0 H0 Hn0
    obtain ⟨xs, hxn, hrx⟩ := HX.out
    have htk := tokens_any A m cap xs wc _ hrx (Nat.le_refl _) hxn hm Hc.out (by omega) HT.out
    have hrf : ∀ W, Below wc.heap.size wc W → Calls Tryd.prog 10 #[.slice A m cap] W (RefTPost xs W) := fun W hW => refTokens_any A m cap xs W _ (hrx.below hW (Nat.le_refl _)) hW.size hxn hm Hc.out (by omega)
    have CV : Hid (∀ W, Below wc.heap.size wc W → (convert 22 9 (.slice A m cap)).run Tryd.prog W = .ok (.string (strOfNums xs)) W) := fun W hW => by
      have := run_conv (P := Tryd.prog) W 22 9 5 Tryd.underlying22 Tryd.underlying5 Tryd.underlying9 (hrx.below hW (Nat.le_refl _)) cap
      rw [hxn] at this; exact this
    unfold TokensPost at htk
    unfold RefTPost at hrf
    generalize lexN xs = N at *
    generalize lexE xs = E at *
    generalize lexT xs = L at *
    generalize strOfNums xs = s at *
    have HTK := Lib.hid htk; have HRF := Lib.hid hrf
    clear htk hrf HX hxn hrx
    have cv := CV.out wc (Below.refl _ _)
    obtain ⟨n, hnl⟩ : ∃ n, L.length = n := ⟨_, rfl⟩
    have HNL := Lib.hid hnl
    have hss : (s.toList != s.toList) = false := by simp
    go_wp2_with fail
    refine HTK.out.mono ?_
    rintro e w1 ⟨v1, rfl, ho1, hb1⟩
    obtain ⟨a1, c1, rfl, hc1, hc1', hr1⟩ := ownT_rt ho1
    rw [hnl] at hc1 ⊢
    have HR1 := Lib.hid hr1; have HB1 := Lib.hid hb1
    have hnb : n ≤ 9223372036854775807 := by unfold maxLen at hc1'; omega
    clear ho1 hb1 hr1 hc1' HTK cv
    go_wp2_with fail
    refine (HRF.out w1 HB1.out).mono ?_
    rintro e w2 ⟨v2, rfl, ho2, hb2⟩
    obtain ⟨a2, c2, rfl, hc2, hc2', hr2⟩ := ownR_rt ho2
    rw [hnl] at hc2 ⊢
    have HR2 := Lib.hid hr2; have HB2 := Lib.hid hb2
    have HK := Lib.hid (known_any w2 (HT.out.below (HB1.out.trans (hb2.mono HB1.out.size)) HT.out.pos))
    clear ho2 hb2 hr2 hc2' HRF
    go_wp2_with fail
    refine HK.out.mono ?_
    rintro e w3 ⟨rfl, hb3⟩
    have HB3 := Lib.hid (HB1.out.trans ((HB2.out.trans (hb3.mono HB2.out.size)).mono HB1.out.size))
    have HRA := Lib.hid (HR1.out.below (HB2.out.trans (hb3.mono HB2.out.size)) (Nat.le_refl _))
    have HRB := Lib.hid (HR2.out.below hb3 (Nat.le_refl _))
    have cv := CV.out w3 HB3.out
    clear hb3 HK HR1 HR2 HB1 HB2
    go_wp2
    go_loopw [10] (fun i wr => ∃ k q : Nat, k ≤ n ∧ i = .int .i64 k ∧ wr = w3.drewN q) (fun i _ => n - (intOf i).toNat)
    case atStart => exact ⟨0, 0, by omega, rfl, rfl⟩
    case round =>
      obtain ⟨k, q, hk, rfl, rfl⟩ := hrel
      by_cases hlt : k < n
      · have hkL : k < L.length := by rw [HNL.out]; exact hlt
        obtain ⟨b1, rfl, _, hc1⟩ := HRA.out.at_ (by omega)
        obtain ⟨b2, rfl, _, hc2⟩ := HRB.out.at_ (by omega)
        obtain ⟨t, ht⟩ : ∃ t, L[k]? = some t := ⟨_, List.getElem?_eq_getElem hkL⟩
        have d0 : ∀ q, (w3.drewN q).cell? ⟨b1, k * 4, none⟩ = some (.int .i64 t.kind) := fun q => hc1 k t ht 0 _ rfl
        have d1 : ∀ q, (w3.drewN q).cell? ⟨b1, k * 4 + 1, none⟩ = some (.string (strOfNums t.text)) := fun q => hc1 k t ht 1 _ rfl
        have d2 : ∀ q, (w3.drewN q).cell? ⟨b1, k * 4 + 2, none⟩ = some (.int .i64 (t.place : Int)) := fun q => hc1 k t ht 2 _ rfl
        have d3 : ∀ q, (w3.drewN q).cell? ⟨b1, k * 4 + 3, none⟩ = some (.bool t.first) := fun q => hc1 k t ht 3 _ rfl
        have e0 : ∀ q, (w3.drewN q).cell? ⟨b2, k * 4, none⟩ = some (.int .i64 t.kind) := fun q => hc2 k t ht 0 _ rfl
        have e1 : ∀ q, (w3.drewN q).cell? ⟨b2, k * 4 + 1, none⟩ = some (.string (strOfNums t.text)) := fun q => hc2 k t ht 1 _ rfl
        have e2 : ∀ q, (w3.drewN q).cell? ⟨b2, k * 4 + 2, none⟩ = some (.int .i64 (t.place : Int)) := fun q => hc2 k t ht 2 _ rfl
        have e3 : ∀ q, (w3.drewN q).cell? ⟨b2, k * 4 + 3, none⟩ = some (.bool t.first) := fun q => hc2 k t ht 3 _ rfl
        have hnk : (t.kind != t.kind) = false := by simp
        have hnt : ((strOfNums t.text).toList != (strOfNums t.text).toList) = false := by simp
        have hnp : ((t.place : Int) != (t.place : Int)) = false := by simp
        have hnf : (t.first != t.first) = false := by simp
        have hlt' : (k : Int) < (n : Int) := by omega
        have hk0 : (0 : Int) ≤ (k : Int) := by omega
        clear hc1 hc2 ht hkL cv hss HRA HRB
        generalize t.kind = tk at *
        generalize strOfNums t.text = tx at *
        generalize t.place = tp at *
        generalize t.first = tf at *
        go_wp2
        go_quiet (fail)
        go_wp2
        go_roundw
        case rel => exact ⟨k + 1, _, by omega, by go_num, rfl⟩
        case measure => simp [intOf]; omega
      · have hnl' : ¬ (k : Int) < (n : Int) := by omega
        go_wp2
        go_ret
        exact ⟨rfl, below_drewN HB3.out _⟩

end Go.Proofs.YtiadbagfajhjfaaDoor.Lex
