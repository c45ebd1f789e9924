/-
  Layer 4 (lex): the walk of LexEnds: where ends are put in.
-/
import Derived.Test.YtiadbagfajhjfaaDoorLexBackLaw
import Derived.Test.YtiadbagfajhjfaaDoorLexRef2
import Derived.Test.YtiadbagfajhjfaaDoorLexEnds
import Derived.Deep.Cut
import Derived.Deep.CutRange
import Derived.Deep.RegionHeldLaw
import Derived.StillTailTactics
import Derived.Test.YtiadbagfajhjfaaDoorMemRegion
namespace Go.Proofs.YtiadbagfajhjfaaDoor.Lex
open Go.ChangeShapes Go.WideShapes Go.ChangeAt Go.RowKit Utf MemT Mem
set_option linter.unusedVariables false

theorem after_drop {L : List Tok} {k : Nat} {u : Tok} (h : L[k]? = some u) : afterRem (L.drop k) = if u.kind = 5 ∧ u.first = false then afterRem (L.drop (k + 1)) else u.first := by
  have hk : k < L.length := by
    rcases Nat.lt_or_ge k L.length with h' | h'
    · exact h'
    · rw [List.getElem?_eq_none h'] at h; cases h
  rw [List.drop_eq_getElem_cons hk, show L[k] = u from by rw [List.getElem?_eq_getElem hk] at h; injection h]
  rfl

set_option maxRecDepth 100000 in
set_option maxHeartbeats 8000000 in
theorem lexEnds_walk (A : Option Addr) (n0 cap : Nat) (xs0 : List Int) (w : World) (h0 : RB w w.heap.size A xs0) (hn0 : xs0.length = n0) (hcap0 : n0 ≤ cap) (hcap' : cap ≤ maxLen) (hT : Tab w) :
    Calls Tryd.prog 6 #[.slice A n0 cap] w fun e w' => e = .returned (.bool true) ∧ Below w.heap.size w w' := by
  have HT := Lib.hid hT
  have H0 := Lib.hid h0; have Hn0 := Lib.hid hn0
  have Hc := Lib.hid hcap'
  unfold maxLen at hcap'
  clear hT h0 hn0
  go_enter Tryd.func6, Tryd.ntmps6
  go_upto_if 11 with (fail)
  go_cut [0] from 12 to 13 (fun s0 W => s0 = .slice A (min n0 5000) cap ∧ W = w)
  case first =>
    by_cases hl : n0 ≤ 5000
    · have hl' : decide ((5000 : Int) < (n0 : Int)) = false := by rw [decide_eq_false_iff_not]; omega
      go_wp2
      go_meet
      case rel => exact ⟨by rw [Nat.min_eq_left hl], rfl⟩
    · have hl' : (5000 : Int) < (n0 : Int) := by omega
      have hcl : (5000 : Int) ≤ (cap : Int) := by omega
      go_wp2
      go_meet
      case rel => exact ⟨by rw [Nat.min_eq_right (by omega)], rfl⟩
  case rest =>
    obtain ⟨rfl, hw⟩ := hcut
    subst hw
    have HX : Hid (∃ xs, xs.length = min n0 5000 ∧ RB wc wc.heap.size A xs) := ⟨xs0.take (min n0 5000), by rw [List.length_take, Hn0.out]; omega, H0.out.take _⟩
    have hm : min n0 5000 ≤ cap := by omega
    have hm2 : min n0 5000 ≤ 5000 := by omega
    generalize min n0 5000 = m at *
    clear hcap0 H0 Hn0
    obtain ⟨xs, hxn, hrx⟩ := HX.out
    have hbx := hrx.byt
    have HTOK := Lib.hid (tokens_any A m cap xs wc _ hrx (Nat.le_refl _) hxn hm Hc.out (by omega) HT.out)
    have HXN := Lib.hid hxn; have HBX := Lib.hid hbx
    have hcase : lexE xs = 3 ∨ lexE xs = 4 ∨ lexE xs = 0 := by
      rcases lexE_cases xs with ⟨_, hE⟩ | ⟨_, _, hE⟩ | ⟨_, _, hE⟩
      · exact .inl hE
      · exact .inr (.inr hE)
      · exact .inr (.inl hE)
    have HTK : Hid (∀ E, lexE xs = E → Calls Tryd.prog 9 #[.slice A m cap] wc fun e w' => ∃ v, e = .returned (.tuple #[v, .int .i64 (lexN xs : Int), .int .i64 E]) ∧ OwnT w' wc.heap.size v (lexT xs) ∧ Below wc.heap.size wc w') := fun E hE => HTOK.out.mono fun e w' ⟨v, h1, h2, h3⟩ => ⟨v, by rw [h1, hE], h2, h3⟩
    clear HX hrx hxn hbx HTOK
    generalize lexN xs = N at *
    have fail_ : ∀ E : Int, E = 3 ∨ E = 4 → lexE xs = E → True := fun _ _ _ => trivial
    clear fail_
    rcases hcase with hE | hE | hE
    · have HT3 := Lib.hid (HTK.out 3 hE)
      clear HTK hE
      go_wp2_with fail
      refine HT3.out.mono ?_
      rintro e w1 ⟨v1, rfl, _, hb1⟩
      have HB1 := Lib.hid hb1
      have HK := Lib.hid (known_any w1 (HT.out.below hb1 HT.out.pos))
      clear hb1
      go_wp2_with fail
      refine HK.out.mono ?_
      rintro e w2 ⟨rfl, hb2⟩
      have HB2 := Lib.hid (HB1.out.trans (hb2.mono HB1.out.size))
      have HK2 := Lib.hid (known_any w2 (HT.out.below HB2.out HT.out.pos))
      clear hb2
      go_wp2_with fail
      refine HK2.out.mono ?_
      rintro e w3 ⟨rfl, hb3⟩
      have HB3 := Lib.hid (HB2.out.trans (hb3.mono HB2.out.size))
      clear hb3
      go_wp2_with fail
      go_ret
      exact ⟨rfl, HB3.out⟩
    · have HT3 := Lib.hid (HTK.out 4 hE)
      clear HTK hE
      go_wp2_with fail
      refine HT3.out.mono ?_
      rintro e w1 ⟨v1, rfl, _, hb1⟩
      have HB1 := Lib.hid hb1
      have HK := Lib.hid (known_any w1 (HT.out.below hb1 HT.out.pos))
      clear hb1
      go_wp2_with fail
      refine HK.out.mono ?_
      rintro e w2 ⟨rfl, hb2⟩
      have HB2 := Lib.hid (HB1.out.trans (hb2.mono HB1.out.size))
      have HK2 := Lib.hid (known_any w2 (HT.out.below HB2.out HT.out.pos))
      clear hb2
      go_wp2_with fail
      refine HK2.out.mono ?_
      rintro e w3 ⟨rfl, hb3⟩
      have HB3 := Lib.hid (HB2.out.trans (hb3.mono HB2.out.size))
      clear hb3
      go_wp2_with fail
      go_ret
      exact ⟨rfl, HB3.out⟩
    · have HT3 := Lib.hid (HTK.out 0 hE)
      obtain ⟨hgood, hplace⟩ := ends_all HBX.out hE
      have HG := Lib.hid hgood; have HPL := Lib.hid hplace
      have HSM := Lib.hid (toks_small HBX.out hE (by rw [HXN.out]; exact hm2))
      have hct : (lexT xs).length ≤ 10000 := by have := (@toks_count xs).1; rw [HXN.out] at this; omega
      have HCT := Lib.hid hct
      clear hct hgood hplace HTK hE
      generalize lexT xs = L at *
      obtain ⟨n, hnl⟩ : ∃ n, L.length = n := ⟨_, rfl⟩
      have HNL := Lib.hid hnl
      have hnl4 : n ≤ 10000 := by rw [← hnl]; exact HCT.out
      go_wp2_with fail
      refine HT3.out.mono ?_
      rintro e w1 ⟨v1, rfl, ho1, hb1⟩
      obtain ⟨a1, c1, rfl, hc1, hc1', hr1⟩ := ownT_rt ho1
      rw [hnl] at hc1 ⊢
      have HR1 := Lib.hid hr1
      have HB1 := Lib.hid hb1
      have HK := Lib.hid (known_any w1 (HT.out.below hb1 HT.out.pos))
      clear hb1 ho1 hr1 hnl hc1'
      go_wp2_with fail
      refine HK.out.mono ?_
      rintro e w2 ⟨rfl, hb2⟩
      have HB2 := Lib.hid hb2
      have HE : Hid (∀ W, Below w1.heap.size w1 W → Below wc.heap.size wc W) := fun W hW => HB1.out.trans (hW.mono HB1.out.size)
      clear hb2 HK HB1
      rcases Nat.eq_zero_or_pos n with h0 | hpos
      · subst h0
        go_wp2
        go_loop [6, 7] (fun i _ => i = .int .i64 0) (fun _ _ => 0)
        case atStart => rfl
        case round =>
          subst hrel
          go_wp2
          go_loop [8] (fun i => i = .int .i64 0) (fun _ => 0)
          case atStart => rfl
          case round =>
            subst hrel
            go_wp2
            go_quiet (fail)
            go_wp2
            go_ret
            first | exact ⟨rfl, HE.out _ HB2.out⟩ | exact ⟨rfl, HE.out _ (below_drewN HB2.out _)⟩
      have hLp : 0 < L.length := by rw [HNL.out]; exact hpos
      obtain ⟨b1, rfl, hbb, hcell⟩ := HR1.out.at_ hLp
      have HCE : Hid (∀ W, Below w1.heap.size w1 W → ∀ i x, L[i]? = some x → ∀ j u, (tokC x)[j]? = some u → W.cell? ⟨b1, i * 4 + j, none⟩ = some u) := fun W hW i x hx j u hu => (hW.cell (p := ⟨b1, i * 4 + j, none⟩) hbb).trans (hcell i x hx j u hu)
      have HCL0 : Hid (∀ q, q ∈ L → ∀ W, Below w1.heap.size w1 W → Calls Tryd.prog 17 #[.agg #[.int .i64 q.kind, .string (strOfNums q.text), .int .i64 0, .bool false]] W fun e w' => e = .returned (.bool (closes q.kind q.text)) ∧ Below w1.heap.size w1 w') := fun q hq W hW => (refCloses_any q.kind q.text (HSM.out q hq).1 0 false W).mono fun e w' h => ⟨h.1, hW.trans (h.2.mono hW.size)⟩
      clear hcell HR1 hLp hbb
      go_wp2
      go_loopw [6, 7] (fun i _ wr => ∃ k : Nat, k ≤ n ∧ i = .int .i64 k ∧ Hid (Below w1.heap.size w1 wr)) (fun i _ _ => n - (intOf i).toNat)
      case atStart => exact ⟨0, by omega, rfl, HB2.out⟩
      case round =>
        obtain ⟨k, hk, rfl, hbel⟩ := hrel
        by_cases hlt : k < n
        · have hkL : k < L.length := by rw [HNL.out]; exact hlt
          obtain ⟨t, ht⟩ : ∃ t, L[k]? = some t := ⟨_, List.getElem?_eq_getElem hkL⟩
          have d0 : wr.cell? ⟨b1, k * 4, none⟩ = some (.int .i64 t.kind) := HCE.out wr hbel.out k t ht 0 _ rfl
          have d1 : wr.cell? ⟨b1, k * 4 + 1, none⟩ = some (.string (strOfNums t.text)) := HCE.out wr hbel.out k t ht 1 _ rfl
          have hem := str_empty (HSM.out t (List.mem_of_getElem? ht)).1
          have hlt' : (k : Int) < n := by omega
          have hk0 : (0 : Int) ≤ (k : Int) := by omega
          have HTL := Lib.hid ht
          clear ht hkL
          by_cases h6 : t.kind = 6
          · rw [h6] at d0
            by_cases hte : t.text = []
            · rw [hte] at d1
              rw [hte, decide_eq_true rfl] at hem
              obtain ⟨q, hq, hpl, hfi, hclo, haf⟩ := good_end L none HG.out k t HTL.out h6 hte
              have hkp : k ≠ 0 := by
                intro e; rw [if_pos e] at hq; cases hq
              rw [if_neg hkp] at hq
              obtain ⟨g, rfl⟩ : ∃ g, k = g + 1 := ⟨k - 1, by omega⟩
              rw [show g + 1 - 1 = g from rfl] at hq
              have hqm := List.mem_of_getElem? hq
              have hqs : (strOfNums q.text).size = q.text.length := strOfNums_size _
              have hpq := HPL.out q hqm
              have hCLq := HCL0.out q hqm
              rw [hclo] at hCLq
              have HCL := Lib.hid hCLq
              have hsq : q.place + (strOfNums q.text).size ≤ 5000 := by rw [hqs]; have := HXN.out; omega
              have HCQ := Lib.hid (fun (W : World) (hW : Below w1.heap.size w1 W) => (⟨by have := HCE.out W hW (g + 1) t HTL.out 2 _ rfl; rw [this, hpl, ← hqs, Int.natCast_add], by have := HCE.out W hW (g + 1) t HTL.out 3 _ rfl; rw [this, hfi], HCE.out W hW g q hq 0 _ rfl, HCE.out W hW g q hq 1 _ rfl, HCE.out W hW g q hq 2 _ rfl, hW⟩ : W.cell? ⟨b1, (g + 1) * 4 + 2, none⟩ = some (.int .i64 ((q.place : Int) + ((strOfNums q.text).size : Int))) ∧ W.cell? ⟨b1, (g + 1) * 4 + 3, none⟩ = some (.bool false) ∧ W.cell? ⟨b1, g * 4, none⟩ = some (.int .i64 q.kind) ∧ W.cell? ⟨b1, g * 4 + 1, none⟩ = some (.string (strOfNums q.text)) ∧ W.cell? ⟨b1, g * 4 + 2, none⟩ = some (.int .i64 (q.place : Int)) ∧ Below w1.heap.size w1 W))
              have HAF := Lib.hid haf
              clear hq hpl hfi hclo haf h6 hte hqm hqs hpq hCLq hkp
              generalize strOfNums q.text = sq at *
              generalize q.place = qp at *
              generalize q.kind = qk at *
              have hw1 : IntKind.i64.wrap (g : Int) = (g : Int) := by rw [IntKind.wrap_i64]; omega
              have hw2 : IntKind.i64.wrap ((qp : Int) + (sq.size : Int)) = (qp : Int) + (sq.size : Int) := by rw [IntKind.wrap_i64]; omega
              have hg0 : (0 : Int) ≤ (g : Int) := by omega
              have hgn : (g : Int) < n := by omega
              have hlt2 : (g : Int) + 1 < n := by omega
              have hg1 : (0 : Int) ≤ (g : Int) + 1 := by omega
              have KQ : Hid (∀ W, Below w1.heap.size w1 W → W.cell? ⟨b1, (g + 1) * 4 + 2, none⟩ = some (.int .i64 ((qp : Int) + (sq.size : Int))) ∧ W.cell? ⟨b1, (g + 1) * 4 + 3, none⟩ = some (.bool false) ∧ W.cell? ⟨b1, g * 4, none⟩ = some (.int .i64 qk) ∧ W.cell? ⟨b1, g * 4 + 1, none⟩ = some (.string sq) ∧ W.cell? ⟨b1, g * 4 + 2, none⟩ = some (.int .i64 (qp : Int)) ∧ Below w1.heap.size w1 W) := HCQ.out
              obtain ⟨k0, k1, k2, k3, k4, _⟩ := KQ.out wr hbel.out
              clear HCQ
              go_wp2
              go_region_held_law (fun W => W.cell? ⟨b1, (g + 1) * 4 + 2, none⟩ = some (.int .i64 ((qp : Int) + (sq.size : Int))) ∧ W.cell? ⟨b1, (g + 1) * 4 + 3, none⟩ = some (.bool false) ∧ W.cell? ⟨b1, g * 4, none⟩ = some (.int .i64 qk) ∧ W.cell? ⟨b1, g * 4 + 1, none⟩ = some (.string sq) ∧ W.cell? ⟨b1, g * 4 + 2, none⟩ = some (.int .i64 (qp : Int)) ∧ Below w1.heap.size w1 W) (first | assumption | exact KQ.out _ (by assumption) | exact KQ.out _ hbel.out | exact KQ.out _ hbel.out.drew | exact KQ.out _ HB2.out.drew) (first | (go_at_call 17; refine (HCL.out _ (by first | assumption | exact hbel.out | exact hbel.out.drew)).mono ?_; rintro e w5 ⟨rfl, hb5⟩))
              have HB5 := Lib.hid hb5
              clear hb5 k0 k1 k2 k3 k4 d0 d1 hw1 hw2 hem
              go_wp2
              go_loop [7] (fun v => ∃ j : Nat, g + 2 ≤ j ∧ j ≤ n ∧ v = .int .i64 j ∧ Hid (afterRem (L.drop j) = true)) (fun v => n - (intOf v).toNat)
              case atStart => exact ⟨g + 2, by omega, by omega, by go_num, HAF.out⟩
              case round =>
                obtain ⟨j, hj1, hj2, rfl, haf⟩ := hrel
                by_cases hjn : j < n
                · have hjL : j < L.length := by rw [HNL.out]; exact hjn
                  obtain ⟨u, hu⟩ : ∃ u, L[j]? = some u := ⟨_, List.getElem?_eq_getElem hjL⟩
                  have f0 : w5.cell? ⟨b1, j * 4, none⟩ = some (.int .i64 u.kind) := HCE.out w5 HB5.out j u hu 0 _ rfl
                  have f3 : w5.cell? ⟨b1, j * 4 + 3, none⟩ = some (.bool u.first) := HCE.out w5 HB5.out j u hu 3 _ rfl
                  have had := after_drop hu
                  rw [haf.out] at had
                  have hjn' : (j : Int) < n := by omega
                  clear hu hjL haf
                  by_cases h5 : u.kind = 5
                  · rw [h5] at f0
                    cases hfu : u.first with
                    | false =>
                      rw [hfu] at f3
                      rw [if_pos ⟨h5, hfu⟩] at had
                      have HAD := Lib.hid had
                      clear had h5 hfu
                      go_wp2
                      go_round
                      case rel => exact ⟨j + 1, by omega, by omega, by go_num, HAD.out.symm⟩
                      case measure => simp [intOf]; omega
                    | true =>
                      rw [hfu] at f3
                      clear had h5 hfu
                      go_wp2
                      go_roundw
                      case rel => exact ⟨g + 1 + 1, by omega, by go_num, HB5.out⟩
                      case measure => simp [intOf]; omega
                  · rw [if_neg (by intro e; exact h5 e.1)] at had
                    rw [← had] at f3
                    have b5 := beq_no h5
                    clear had h5
                    generalize u.kind = uk at *
                    go_wp2
                    go_roundw
                    case rel => exact ⟨g + 1 + 1, by omega, by go_num, HB5.out⟩
                    case measure => simp [intOf]; omega
                · have hjn' : ¬ (j : Int) < n := by omega
                  clear haf
                  go_wp2
                  go_roundw
                  case rel => exact ⟨g + 1 + 1, by omega, by go_num, HB5.out⟩
                  case measure => simp [intOf]; omega
            · rw [decide_eq_false hte] at hem
              clear h6 hte
              go_wp2
              go_roundw
              case rel => exact ⟨k + 1, by omega, by go_num, hbel.out⟩
              case measure => simp [intOf]; omega
          · have b6 : (t.kind != 6) = true := by rw [bne_iff_ne]; exact h6
            clear h6 hem
            generalize t.kind = tk at *
            go_wp2
            go_roundw
            case rel => exact ⟨k + 1, by omega, by go_num, hbel.out⟩
            case measure => simp [intOf]; omega
        · have hnl : ¬ (k : Int) < n := by omega
          clear hlt
          go_wp2
          go_loopw [8] (fun i wr => ∃ k : Nat, k < n ∧ i = .int .i64 k ∧ Hid (Below w1.heap.size w1 wr)) (fun i _ => n - (intOf i).toNat)
          case atStart => exact ⟨0, hpos, rfl, hbel.out⟩
          case round =>
            clear hnl hk hbel
            obtain ⟨k, hk, rfl, hbel⟩ := hrel
            by_cases hlt : k + 1 < n
            · have hkL : k < L.length := by rw [HNL.out]; omega
              have hkL1 : k + 1 < L.length := by rw [HNL.out]; exact hlt
              obtain ⟨t, ht⟩ : ∃ t, L[k]? = some t := ⟨_, List.getElem?_eq_getElem hkL⟩
              obtain ⟨u, hu⟩ : ∃ u, L[k + 1]? = some u := ⟨_, List.getElem?_eq_getElem hkL1⟩
              have hfi := good_firsts L none HG.out k t u ht hu
              have hCL := HCL0.out t (List.mem_of_getElem? ht)
              have HCQ := Lib.hid (fun (W : World) (hW : Below w1.heap.size w1 W) => (⟨HCE.out W hW k t ht 0 _ rfl, HCE.out W hW k t ht 1 _ rfl, HCE.out W hW (k + 1) u hu 3 _ rfl, HCE.out W hW (k + 1) u hu 0 _ rfl, hW⟩ : W.cell? ⟨b1, k * 4, none⟩ = some (.int .i64 t.kind) ∧ W.cell? ⟨b1, k * 4 + 1, none⟩ = some (.string (strOfNums t.text)) ∧ W.cell? ⟨b1, (k + 1) * 4 + 3, none⟩ = some (.bool u.first) ∧ W.cell? ⟨b1, (k + 1) * 4, none⟩ = some (.int .i64 u.kind) ∧ Below w1.heap.size w1 W))
              clear ht hu hkL hkL1
              generalize strOfNums t.text = st at *
              generalize closes t.kind t.text = cl at *
              generalize t.kind = tk at *
              generalize u.first = uf at *
              generalize u.kind = uk at *
              have hk0 : (0 : Int) ≤ (k : Int) := by omega
              have hkn : (k : Int) < n := by omega
              have hk1 : (0 : Int) ≤ (k : Int) + 1 := by omega
              have hlt1 : (k : Int) + 1 < n := by omega
              have hw1 : IntKind.i64.wrap ((k : Int) + 1) = (k : Int) + 1 := by rw [IntKind.wrap_i64]; omega
              have HCL := Lib.hid hCL
              clear hCL
              cases cl with
              | false =>
                have KQ : Hid (∀ W, Below w1.heap.size w1 W → W.cell? ⟨b1, k * 4, none⟩ = some (.int .i64 tk) ∧ W.cell? ⟨b1, k * 4 + 1, none⟩ = some (.string st) ∧ W.cell? ⟨b1, (k + 1) * 4 + 3, none⟩ = some (.bool uf) ∧ W.cell? ⟨b1, (k + 1) * 4, none⟩ = some (.int .i64 uk) ∧ Below w1.heap.size w1 W) := HCQ.out
                obtain ⟨k0, k1, k2, k3, _⟩ := KQ.out wr hbel.out
                clear HCQ hfi
                go_wp2
                refine wp_region_noPanic ?_
                refine wp_region_held_drew (S := fun W => W.cell? ⟨b1, k * 4, none⟩ = some (.int .i64 tk) ∧ W.cell? ⟨b1, k * 4 + 1, none⟩ = some (.string st) ∧ W.cell? ⟨b1, (k + 1) * 4 + 3, none⟩ = some (.bool uf) ∧ W.cell? ⟨b1, (k + 1) * 4, none⟩ = some (.int .i64 uk) ∧ Below w1.heap.size w1 W) (by kernel_rfl) (KQ.out _ (by first | exact hbel.out | exact hbel.out.drew)) (fun hHeld => ?_)
                refine take_at (i := 0) (v := ?v1) rfl (by kernel_rfl) (by kernel_rfl) (by kernel_rfl) (fun _ _ _ h => h) rfl (Or.inl ⟨by rfl, ?y1⟩) hHeld ?r1
                case y1 => (intro W hSw; (try dsimp only at hSw); go_simp; try with_reducible rfl)
                try dsimp only
                try simp only [List.setIfInBounds_toArray]
                try simp only [List.set_cons_succ]
                try simp only [List.set_cons_zero]
                refine take_at (i := 1) (v := ?v2) rfl (by kernel_rfl) (by kernel_rfl) (by kernel_rfl) (fun _ _ _ h => h) rfl (Or.inl ⟨by rfl, ?y2⟩) hHeld ?r2
                case y2 => (intro W hSw; (try dsimp only at hSw); go_simp; try with_reducible rfl)
                try dsimp only
                try simp only [List.setIfInBounds_toArray]
                try simp only [List.set_cons_succ]
                try simp only [List.set_cons_zero]
                refine take_at (i := 2) (v := ?v3) rfl (by kernel_rfl) (by kernel_rfl) (by kernel_rfl) (fun _ _ _ h => h) rfl (Or.inl ⟨by rfl, ?y3⟩) hHeld ?r3
                case y3 => (intro W hSw; (try dsimp only at hSw); go_simp; try with_reducible rfl)
                try dsimp only
                try simp only [List.setIfInBounds_toArray]
                try simp only [List.set_cons_succ]
                try simp only [List.set_cons_zero]
                refine take_at (i := 3) (v := ?v4) rfl (by kernel_rfl) (by kernel_rfl) (by kernel_rfl) (fun _ _ _ h => h) rfl (Or.inl ⟨by rfl, ?y4⟩) hHeld ?r4
                case y4 => (intro W hSw; (try dsimp only at hSw); go_simp; try with_reducible rfl)
                try dsimp only
                try simp only [List.setIfInBounds_toArray]
                try simp only [List.set_cons_succ]
                try simp only [List.set_cons_zero]
                refine take_at (i := 4) (v := ?v5) rfl (by kernel_rfl) (by kernel_rfl) (by kernel_rfl) (fun _ _ _ h => h) rfl (Or.inl ⟨by rfl, ?y5⟩) hHeld ?r5
                case y5 => (intro W hSw; (try dsimp only at hSw); go_simp; try with_reducible rfl)
                try dsimp only
                try simp only [List.setIfInBounds_toArray]
                try simp only [List.set_cons_succ]
                try simp only [List.set_cons_zero]
                refine take_at (i := 5) (v := ?v6) rfl (by kernel_rfl) (by kernel_rfl) (by kernel_rfl) (fun _ _ _ h => h) rfl (Or.inl ⟨by rfl, ?y6⟩) hHeld ?r6
                case y6 => (intro W hSw; (try dsimp only at hSw); go_simp; try with_reducible rfl)
                try dsimp only
                try simp only [List.setIfInBounds_toArray]
                try simp only [List.set_cons_succ]
                try simp only [List.set_cons_zero]
                refine take_at (i := 6) (v := ?v7) rfl (by kernel_rfl) (by kernel_rfl) (by kernel_rfl) (fun _ _ _ h => h) rfl (Or.inl ⟨by rfl, ?y7⟩) hHeld ?r7
                case y7 => (intro W hSw; (try dsimp only at hSw); go_simp; try with_reducible rfl)
                try dsimp only
                try simp only [List.setIfInBounds_toArray]
                try simp only [List.set_cons_succ]
                try simp only [List.set_cons_zero]
                refine take_at (i := 7) (v := ?v8) rfl (by kernel_rfl) (by kernel_rfl) (by kernel_rfl) (fun _ _ _ h => h) rfl (Or.inl ⟨by rfl, ?y8⟩) hHeld ?r8
                case y8 => (intro W hSw; (try dsimp only at hSw); go_simp; try with_reducible rfl)
                try dsimp only
                try simp only [List.setIfInBounds_toArray]
                try simp only [List.set_cons_succ]
                try simp only [List.set_cons_zero]
                refine take_at (i := 8) (v := ?v9) rfl (by kernel_rfl) (by kernel_rfl) (by kernel_rfl) (fun _ _ _ h => h) rfl (Or.inl ⟨by rfl, ?y9⟩) hHeld ?r9
                case y9 => (intro W hSw; (try dsimp only at hSw); go_simp; try with_reducible rfl)
                try dsimp only
                try simp only [List.setIfInBounds_toArray]
                try simp only [List.set_cons_succ]
                try simp only [List.set_cons_zero]
                refine take_at (i := 9) (v := ?v10) rfl (by kernel_rfl) (by kernel_rfl) (by kernel_rfl) (fun _ _ _ h => h) rfl (Or.inl ⟨by rfl, ?y10⟩) hHeld ?r10
                case y10 => (intro W hSw; (try dsimp only at hSw); go_simp; try with_reducible rfl)
                try dsimp only
                try simp only [List.setIfInBounds_toArray]
                try simp only [List.set_cons_succ]
                try simp only [List.set_cons_zero]
                refine take_at (i := 10) (v := ?v11) rfl (by kernel_rfl) (by kernel_rfl) (by kernel_rfl) (fun _ _ _ h => h) rfl (Or.inl ⟨by rfl, ?y11⟩) hHeld ?r11
                case y11 => (intro W hSw; (try dsimp only at hSw); go_simp; try with_reducible rfl)
                try dsimp only
                try simp only [List.setIfInBounds_toArray]
                try simp only [List.set_cons_succ]
                try simp only [List.set_cons_zero]
                refine step_at (i := 11) rfl (by kernel_rfl) (fun K hK => ?_)
                go_simp
                go_at_call 17
                refine (HCL.out _ hHeld.2.2.2.2).mono ?_
                rintro e w5 ⟨rfl, hb5⟩
                go_wp2_with fail
                refine hK.out _ _ ?_ (fun hHeld12 => ?_)
                · exact KQ.out _ hb5
                clear hK K hHeld
                try simp only [Act.put]
                try simp only [List.setIfInBounds_toArray]
                try simp only [List.set_cons_succ]
                try simp only [List.set_cons_zero]
                refine take_at (i := 12) (v := ?v13) rfl (by kernel_rfl) (by kernel_rfl) (by kernel_rfl) (fun _ _ _ h => h) rfl (Or.inl ⟨by rfl, ?y13⟩) hHeld12 ?r13
                case y13 => (intro W hSw; (try dsimp only at hSw); go_simp; try with_reducible rfl)
                try dsimp only
                try simp only [List.setIfInBounds_toArray]
                try simp only [List.set_cons_succ]
                try simp only [List.set_cons_zero]
                refine take_at (i := 13) (v := undef) rfl (by kernel_rfl) (by kernel_rfl) (by kernel_rfl) (fun _ _ _ h => h) rfl (Or.inr ⟨by rfl, rfl⟩) hHeld12 ?_
                try dsimp only
                try simp only [List.setIfInBounds_toArray]
                try simp only [List.set_cons_succ]
                try simp only [List.set_cons_zero]
                refine take_at (i := 14) (v := undef) rfl (by kernel_rfl) (by kernel_rfl) (by kernel_rfl) (fun _ _ _ h => h) rfl (Or.inr ⟨by rfl, rfl⟩) hHeld12 ?_
                try dsimp only
                try simp only [List.setIfInBounds_toArray]
                try simp only [List.set_cons_succ]
                try simp only [List.set_cons_zero]
                refine take_at (i := 15) (v := undef) rfl (by kernel_rfl) (by kernel_rfl) (by kernel_rfl) (fun _ _ _ h => h) rfl (Or.inr ⟨by rfl, rfl⟩) hHeld12 ?_
                try dsimp only
                try simp only [List.setIfInBounds_toArray]
                try simp only [List.set_cons_succ]
                try simp only [List.set_cons_zero]
                refine take_at (i := 16) (v := undef) rfl (by kernel_rfl) (by kernel_rfl) (by kernel_rfl) (fun _ _ _ h => h) rfl (Or.inr ⟨by rfl, rfl⟩) hHeld12 ?_
                try dsimp only
                try simp only [List.setIfInBounds_toArray]
                try simp only [List.set_cons_succ]
                try simp only [List.set_cons_zero]
                refine take_at (i := 17) (v := undef) rfl (by kernel_rfl) (by kernel_rfl) (by kernel_rfl) (fun _ _ _ h => h) rfl (Or.inr ⟨by rfl, rfl⟩) hHeld12 ?_
                try dsimp only
                try simp only [List.setIfInBounds_toArray]
                try simp only [List.set_cons_succ]
                try simp only [List.set_cons_zero]
                refine take_at (i := 18) (v := undef) rfl (by kernel_rfl) (by kernel_rfl) (by kernel_rfl) (fun _ _ _ h => h) rfl (Or.inr ⟨by rfl, rfl⟩) hHeld12 ?_
                try dsimp only
                try simp only [List.setIfInBounds_toArray]
                try simp only [List.set_cons_succ]
                try simp only [List.set_cons_zero]
                refine take_at (i := 19) (v := ?v20) rfl (by kernel_rfl) (by kernel_rfl) (by kernel_rfl) (fun _ _ _ h => h) rfl (Or.inl ⟨by rfl, ?y20⟩) hHeld12 ?r20
                case y20 => (intro W hSw; (try dsimp only at hSw); go_simp; try with_reducible rfl)
                try dsimp only
                try simp only [List.setIfInBounds_toArray]
                try simp only [List.set_cons_succ]
                try simp only [List.set_cons_zero]
                refine take_at (i := 20) (v := ?v21) rfl (by kernel_rfl) (by kernel_rfl) (by kernel_rfl) (fun _ _ _ h => h) rfl (Or.inl ⟨by rfl, ?y21⟩) hHeld12 ?r21
                case y21 => (intro W hSw; (try dsimp only at hSw); go_simp; try with_reducible rfl)
                try dsimp only
                try simp only [List.setIfInBounds_toArray]
                try simp only [List.set_cons_succ]
                try simp only [List.set_cons_zero]
                refine take_at (i := 21) (v := undef) rfl (by kernel_rfl) (by kernel_rfl) (by kernel_rfl) (fun _ _ _ h => h) rfl (Or.inr ⟨by rfl, rfl⟩) hHeld12 ?_
                try dsimp only
                try simp only [List.setIfInBounds_toArray]
                try simp only [List.set_cons_succ]
                try simp only [List.set_cons_zero]
                refine take_at (i := 22) (v := undef) rfl (by kernel_rfl) (by kernel_rfl) (by kernel_rfl) (fun _ _ _ h => h) rfl (Or.inr ⟨by rfl, rfl⟩) hHeld12 ?_
                try dsimp only
                try simp only [List.setIfInBounds_toArray]
                try simp only [List.set_cons_succ]
                try simp only [List.set_cons_zero]
                refine take_at (i := 23) (v := undef) rfl (by kernel_rfl) (by kernel_rfl) (by kernel_rfl) (fun _ _ _ h => h) rfl (Or.inr ⟨by rfl, rfl⟩) hHeld12 ?_
                try dsimp only
                try simp only [List.setIfInBounds_toArray]
                try simp only [List.set_cons_succ]
                try simp only [List.set_cons_zero]
                refine take_at (i := 24) (v := undef) rfl (by kernel_rfl) (by kernel_rfl) (by kernel_rfl) (fun _ _ _ h => h) rfl (Or.inr ⟨by rfl, rfl⟩) hHeld12 ?_
                try dsimp only
                try simp only [List.setIfInBounds_toArray]
                try simp only [List.set_cons_succ]
                try simp only [List.set_cons_zero]
                refine take_at (i := 25) (v := undef) rfl (by kernel_rfl) (by kernel_rfl) (by kernel_rfl) (fun _ _ _ h => h) rfl (Or.inr ⟨by rfl, rfl⟩) hHeld12 ?_
                try dsimp only
                try simp only [List.setIfInBounds_toArray]
                try simp only [List.set_cons_succ]
                try simp only [List.set_cons_zero]
                refine take_at (i := 26) (v := undef) rfl (by kernel_rfl) (by kernel_rfl) (by kernel_rfl) (fun _ _ _ h => h) rfl (Or.inr ⟨by rfl, rfl⟩) hHeld12 ?_
                try dsimp only
                try simp only [List.setIfInBounds_toArray]
                try simp only [List.set_cons_succ]
                try simp only [List.set_cons_zero]
                refine take_at (i := 27) (v := undef) rfl (by kernel_rfl) (by kernel_rfl) (by kernel_rfl) (fun _ _ _ h => h) rfl (Or.inr ⟨by rfl, rfl⟩) hHeld12 ?_
                try dsimp only
                try simp only [List.setIfInBounds_toArray]
                try simp only [List.set_cons_succ]
                try simp only [List.set_cons_zero]
                refine take_at (i := 28) (v := ?v29) rfl (by kernel_rfl) (by kernel_rfl) (by kernel_rfl) (fun _ _ _ h => h) rfl (Or.inl ⟨by rfl, ?y29⟩) hHeld12 ?r29
                case y29 => (intro W hSw; (try dsimp only at hSw); go_simp; try with_reducible rfl)
                try dsimp only
                try simp only [List.setIfInBounds_toArray]
                try simp only [List.set_cons_succ]
                try simp only [List.set_cons_zero]
                refine wpAnyH_done (by kernel_rfl) ?_ _
                refine NoPanic.normal ?_
                have HB5 := Lib.hid hb5
                clear hb5
                go_wp2
                go_roundw
                case rel => exact ⟨k + 1, hlt, by go_num, by first | exact HB5.out | exact HB5.out.drew⟩
                case measure => simp [intOf]; omega
              | true =>
                cases uf with
                | false =>
                  have KQ : Hid (∀ W, Below w1.heap.size w1 W → W.cell? ⟨b1, k * 4, none⟩ = some (.int .i64 tk) ∧ W.cell? ⟨b1, k * 4 + 1, none⟩ = some (.string st) ∧ W.cell? ⟨b1, (k + 1) * 4 + 3, none⟩ = some (.bool false) ∧ W.cell? ⟨b1, (k + 1) * 4, none⟩ = some (.int .i64 uk) ∧ Below w1.heap.size w1 W) := HCQ.out
                  obtain ⟨k0, k1, k2, k3, _⟩ := KQ.out wr hbel.out
                  clear HCQ hfi
                  go_wp2
                  refine wp_region_noPanic ?_
                  refine wp_region_held_drew (S := fun W => W.cell? ⟨b1, k * 4, none⟩ = some (.int .i64 tk) ∧ W.cell? ⟨b1, k * 4 + 1, none⟩ = some (.string st) ∧ W.cell? ⟨b1, (k + 1) * 4 + 3, none⟩ = some (.bool false) ∧ W.cell? ⟨b1, (k + 1) * 4, none⟩ = some (.int .i64 uk) ∧ Below w1.heap.size w1 W) (by kernel_rfl) (KQ.out _ (by first | exact hbel.out | exact hbel.out.drew)) (fun hHeld => ?_)
                  refine take_at (i := 0) (v := ?v101) rfl (by kernel_rfl) (by kernel_rfl) (by kernel_rfl) (fun _ _ _ h => h) rfl (Or.inl ⟨by rfl, ?y101⟩) hHeld ?r101
                  case y101 => (intro W hSw; (try dsimp only at hSw); go_simp; try with_reducible rfl)
                  try dsimp only
                  try simp only [List.setIfInBounds_toArray]
                  try simp only [List.set_cons_succ]
                  try simp only [List.set_cons_zero]
                  refine take_at (i := 1) (v := ?v102) rfl (by kernel_rfl) (by kernel_rfl) (by kernel_rfl) (fun _ _ _ h => h) rfl (Or.inl ⟨by rfl, ?y102⟩) hHeld ?r102
                  case y102 => (intro W hSw; (try dsimp only at hSw); go_simp; try with_reducible rfl)
                  try dsimp only
                  try simp only [List.setIfInBounds_toArray]
                  try simp only [List.set_cons_succ]
                  try simp only [List.set_cons_zero]
                  refine take_at (i := 2) (v := ?v103) rfl (by kernel_rfl) (by kernel_rfl) (by kernel_rfl) (fun _ _ _ h => h) rfl (Or.inl ⟨by rfl, ?y103⟩) hHeld ?r103
                  case y103 => (intro W hSw; (try dsimp only at hSw); go_simp; try with_reducible rfl)
                  try dsimp only
                  try simp only [List.setIfInBounds_toArray]
                  try simp only [List.set_cons_succ]
                  try simp only [List.set_cons_zero]
                  refine take_at (i := 3) (v := ?v104) rfl (by kernel_rfl) (by kernel_rfl) (by kernel_rfl) (fun _ _ _ h => h) rfl (Or.inl ⟨by rfl, ?y104⟩) hHeld ?r104
                  case y104 => (intro W hSw; (try dsimp only at hSw); go_simp; try with_reducible rfl)
                  try dsimp only
                  try simp only [List.setIfInBounds_toArray]
                  try simp only [List.set_cons_succ]
                  try simp only [List.set_cons_zero]
                  refine take_at (i := 4) (v := ?v105) rfl (by kernel_rfl) (by kernel_rfl) (by kernel_rfl) (fun _ _ _ h => h) rfl (Or.inl ⟨by rfl, ?y105⟩) hHeld ?r105
                  case y105 => (intro W hSw; (try dsimp only at hSw); go_simp; try with_reducible rfl)
                  try dsimp only
                  try simp only [List.setIfInBounds_toArray]
                  try simp only [List.set_cons_succ]
                  try simp only [List.set_cons_zero]
                  refine take_at (i := 5) (v := ?v106) rfl (by kernel_rfl) (by kernel_rfl) (by kernel_rfl) (fun _ _ _ h => h) rfl (Or.inl ⟨by rfl, ?y106⟩) hHeld ?r106
                  case y106 => (intro W hSw; (try dsimp only at hSw); go_simp; try with_reducible rfl)
                  try dsimp only
                  try simp only [List.setIfInBounds_toArray]
                  try simp only [List.set_cons_succ]
                  try simp only [List.set_cons_zero]
                  refine take_at (i := 6) (v := ?v107) rfl (by kernel_rfl) (by kernel_rfl) (by kernel_rfl) (fun _ _ _ h => h) rfl (Or.inl ⟨by rfl, ?y107⟩) hHeld ?r107
                  case y107 => (intro W hSw; (try dsimp only at hSw); go_simp; try with_reducible rfl)
                  try dsimp only
                  try simp only [List.setIfInBounds_toArray]
                  try simp only [List.set_cons_succ]
                  try simp only [List.set_cons_zero]
                  refine take_at (i := 7) (v := ?v108) rfl (by kernel_rfl) (by kernel_rfl) (by kernel_rfl) (fun _ _ _ h => h) rfl (Or.inl ⟨by rfl, ?y108⟩) hHeld ?r108
                  case y108 => (intro W hSw; (try dsimp only at hSw); go_simp; try with_reducible rfl)
                  try dsimp only
                  try simp only [List.setIfInBounds_toArray]
                  try simp only [List.set_cons_succ]
                  try simp only [List.set_cons_zero]
                  refine take_at (i := 8) (v := ?v109) rfl (by kernel_rfl) (by kernel_rfl) (by kernel_rfl) (fun _ _ _ h => h) rfl (Or.inl ⟨by rfl, ?y109⟩) hHeld ?r109
                  case y109 => (intro W hSw; (try dsimp only at hSw); go_simp; try with_reducible rfl)
                  try dsimp only
                  try simp only [List.setIfInBounds_toArray]
                  try simp only [List.set_cons_succ]
                  try simp only [List.set_cons_zero]
                  refine take_at (i := 9) (v := ?v110) rfl (by kernel_rfl) (by kernel_rfl) (by kernel_rfl) (fun _ _ _ h => h) rfl (Or.inl ⟨by rfl, ?y110⟩) hHeld ?r110
                  case y110 => (intro W hSw; (try dsimp only at hSw); go_simp; try with_reducible rfl)
                  try dsimp only
                  try simp only [List.setIfInBounds_toArray]
                  try simp only [List.set_cons_succ]
                  try simp only [List.set_cons_zero]
                  refine take_at (i := 10) (v := ?v111) rfl (by kernel_rfl) (by kernel_rfl) (by kernel_rfl) (fun _ _ _ h => h) rfl (Or.inl ⟨by rfl, ?y111⟩) hHeld ?r111
                  case y111 => (intro W hSw; (try dsimp only at hSw); go_simp; try with_reducible rfl)
                  try dsimp only
                  try simp only [List.setIfInBounds_toArray]
                  try simp only [List.set_cons_succ]
                  try simp only [List.set_cons_zero]
                  refine step_at (i := 11) rfl (by kernel_rfl) (fun K hK => ?_)
                  go_simp
                  go_at_call 17
                  refine (HCL.out _ hHeld.2.2.2.2).mono ?_
                  rintro e w5 ⟨rfl, hb5⟩
                  go_wp2_with fail
                  refine hK.out _ _ ?_ (fun hHeld112 => ?_)
                  · exact KQ.out _ hb5
                  clear hK K hHeld
                  try simp only [Act.put]
                  try simp only [List.setIfInBounds_toArray]
                  try simp only [List.set_cons_succ]
                  try simp only [List.set_cons_zero]
                  refine take_at (i := 12) (v := ?v113) rfl (by kernel_rfl) (by kernel_rfl) (by kernel_rfl) (fun _ _ _ h => h) rfl (Or.inl ⟨by rfl, ?y113⟩) hHeld112 ?r113
                  case y113 => (intro W hSw; (try dsimp only at hSw); go_simp; try with_reducible rfl)
                  try dsimp only
                  try simp only [List.setIfInBounds_toArray]
                  try simp only [List.set_cons_succ]
                  try simp only [List.set_cons_zero]
                  refine take_at (i := 13) (v := ?v114) rfl (by kernel_rfl) (by kernel_rfl) (by kernel_rfl) (fun _ _ _ h => h) rfl (Or.inl ⟨by rfl, ?y114⟩) hHeld112 ?r114
                  case y114 => (intro W hSw; (try dsimp only at hSw); go_simp; try with_reducible rfl)
                  try dsimp only
                  try simp only [List.setIfInBounds_toArray]
                  try simp only [List.set_cons_succ]
                  try simp only [List.set_cons_zero]
                  refine take_at (i := 14) (v := ?v115) rfl (by kernel_rfl) (by kernel_rfl) (by kernel_rfl) (fun _ _ _ h => h) rfl (Or.inl ⟨by rfl, ?y115⟩) hHeld112 ?r115
                  case y115 => (intro W hSw; (try dsimp only at hSw); go_simp; try with_reducible rfl)
                  try dsimp only
                  try simp only [List.setIfInBounds_toArray]
                  try simp only [List.set_cons_succ]
                  try simp only [List.set_cons_zero]
                  refine take_at (i := 15) (v := ?v116) rfl (by kernel_rfl) (by kernel_rfl) (by kernel_rfl) (fun _ _ _ h => h) rfl (Or.inl ⟨by rfl, ?y116⟩) hHeld112 ?r116
                  case y116 => (intro W hSw; (try dsimp only at hSw); go_simp; try with_reducible rfl)
                  try dsimp only
                  try simp only [List.setIfInBounds_toArray]
                  try simp only [List.set_cons_succ]
                  try simp only [List.set_cons_zero]
                  refine take_at (i := 16) (v := ?v117) rfl (by kernel_rfl) (by kernel_rfl) (by kernel_rfl) (fun _ _ _ h => h) rfl (Or.inl ⟨by rfl, ?y117⟩) hHeld112 ?r117
                  case y117 => (intro W hSw; (try dsimp only at hSw); go_simp; try with_reducible rfl)
                  try dsimp only
                  try simp only [List.setIfInBounds_toArray]
                  try simp only [List.set_cons_succ]
                  try simp only [List.set_cons_zero]
                  refine take_at (i := 17) (v := ?v118) rfl (by kernel_rfl) (by kernel_rfl) (by kernel_rfl) (fun _ _ _ h => h) rfl (Or.inl ⟨by rfl, ?y118⟩) hHeld112 ?r118
                  case y118 => (intro W hSw; (try dsimp only at hSw); go_simp; try with_reducible rfl)
                  try dsimp only
                  try simp only [List.setIfInBounds_toArray]
                  try simp only [List.set_cons_succ]
                  try simp only [List.set_cons_zero]
                  refine take_at (i := 18) (v := ?v119) rfl (by kernel_rfl) (by kernel_rfl) (by kernel_rfl) (fun _ _ _ h => h) rfl (Or.inl ⟨by rfl, ?y119⟩) hHeld112 ?r119
                  case y119 => (intro W hSw; (try dsimp only at hSw); go_simp; try with_reducible rfl)
                  try dsimp only
                  try simp only [List.setIfInBounds_toArray]
                  try simp only [List.set_cons_succ]
                  try simp only [List.set_cons_zero]
                  refine take_at (i := 19) (v := ?v120) rfl (by kernel_rfl) (by kernel_rfl) (by kernel_rfl) (fun _ _ _ h => h) rfl (Or.inl ⟨by rfl, ?y120⟩) hHeld112 ?r120
                  case y120 => (intro W hSw; (try dsimp only at hSw); go_simp; try with_reducible rfl)
                  try dsimp only
                  try simp only [List.setIfInBounds_toArray]
                  try simp only [List.set_cons_succ]
                  try simp only [List.set_cons_zero]
                  refine take_at (i := 20) (v := ?v121) rfl (by kernel_rfl) (by kernel_rfl) (by kernel_rfl) (fun _ _ _ h => h) rfl (Or.inl ⟨by rfl, ?y121⟩) hHeld112 ?r121
                  case y121 => (intro W hSw; (try dsimp only at hSw); go_simp; try with_reducible rfl)
                  try dsimp only
                  try simp only [List.setIfInBounds_toArray]
                  try simp only [List.set_cons_succ]
                  try simp only [List.set_cons_zero]
                  refine take_at (i := 21) (v := undef) rfl (by kernel_rfl) (by kernel_rfl) (by kernel_rfl) (fun _ _ _ h => h) rfl (Or.inr ⟨by rfl, rfl⟩) hHeld112 ?_
                  try dsimp only
                  try simp only [List.setIfInBounds_toArray]
                  try simp only [List.set_cons_succ]
                  try simp only [List.set_cons_zero]
                  refine take_at (i := 22) (v := undef) rfl (by kernel_rfl) (by kernel_rfl) (by kernel_rfl) (fun _ _ _ h => h) rfl (Or.inr ⟨by rfl, rfl⟩) hHeld112 ?_
                  try dsimp only
                  try simp only [List.setIfInBounds_toArray]
                  try simp only [List.set_cons_succ]
                  try simp only [List.set_cons_zero]
                  refine take_at (i := 23) (v := undef) rfl (by kernel_rfl) (by kernel_rfl) (by kernel_rfl) (fun _ _ _ h => h) rfl (Or.inr ⟨by rfl, rfl⟩) hHeld112 ?_
                  try dsimp only
                  try simp only [List.setIfInBounds_toArray]
                  try simp only [List.set_cons_succ]
                  try simp only [List.set_cons_zero]
                  refine take_at (i := 24) (v := undef) rfl (by kernel_rfl) (by kernel_rfl) (by kernel_rfl) (fun _ _ _ h => h) rfl (Or.inr ⟨by rfl, rfl⟩) hHeld112 ?_
                  try dsimp only
                  try simp only [List.setIfInBounds_toArray]
                  try simp only [List.set_cons_succ]
                  try simp only [List.set_cons_zero]
                  refine take_at (i := 25) (v := undef) rfl (by kernel_rfl) (by kernel_rfl) (by kernel_rfl) (fun _ _ _ h => h) rfl (Or.inr ⟨by rfl, rfl⟩) hHeld112 ?_
                  try dsimp only
                  try simp only [List.setIfInBounds_toArray]
                  try simp only [List.set_cons_succ]
                  try simp only [List.set_cons_zero]
                  refine take_at (i := 26) (v := undef) rfl (by kernel_rfl) (by kernel_rfl) (by kernel_rfl) (fun _ _ _ h => h) rfl (Or.inr ⟨by rfl, rfl⟩) hHeld112 ?_
                  try dsimp only
                  try simp only [List.setIfInBounds_toArray]
                  try simp only [List.set_cons_succ]
                  try simp only [List.set_cons_zero]
                  refine take_at (i := 27) (v := undef) rfl (by kernel_rfl) (by kernel_rfl) (by kernel_rfl) (fun _ _ _ h => h) rfl (Or.inr ⟨by rfl, rfl⟩) hHeld112 ?_
                  try dsimp only
                  try simp only [List.setIfInBounds_toArray]
                  try simp only [List.set_cons_succ]
                  try simp only [List.set_cons_zero]
                  refine take_at (i := 28) (v := ?v129) rfl (by kernel_rfl) (by kernel_rfl) (by kernel_rfl) (fun _ _ _ h => h) rfl (Or.inl ⟨by rfl, ?y129⟩) hHeld112 ?r129
                  case y129 => (intro W hSw; (try dsimp only at hSw); go_simp; try with_reducible rfl)
                  try dsimp only
                  try simp only [List.setIfInBounds_toArray]
                  try simp only [List.set_cons_succ]
                  try simp only [List.set_cons_zero]
                  refine wpAnyH_done (by kernel_rfl) ?_ _
                  refine NoPanic.normal ?_
                  have HB5 := Lib.hid hb5
                  clear hb5
                  go_wp2
                  go_roundw
                  case rel => exact ⟨k + 1, hlt, by go_num, by first | exact HB5.out | exact HB5.out.drew⟩
                  case measure => simp [intOf]; omega
                | true =>
                  obtain rfl : uk = 6 := hfi rfl rfl
                  have KQ : Hid (∀ W, Below w1.heap.size w1 W → W.cell? ⟨b1, k * 4, none⟩ = some (.int .i64 tk) ∧ W.cell? ⟨b1, k * 4 + 1, none⟩ = some (.string st) ∧ W.cell? ⟨b1, (k + 1) * 4 + 3, none⟩ = some (.bool true) ∧ W.cell? ⟨b1, (k + 1) * 4, none⟩ = some (.int .i64 6) ∧ Below w1.heap.size w1 W) := HCQ.out
                  obtain ⟨k0, k1, k2, k3, _⟩ := KQ.out wr hbel.out
                  clear HCQ hfi
                  go_wp2
                  refine wp_region_noPanic ?_
                  refine wp_region_held_drew (S := fun W => W.cell? ⟨b1, k * 4, none⟩ = some (.int .i64 tk) ∧ W.cell? ⟨b1, k * 4 + 1, none⟩ = some (.string st) ∧ W.cell? ⟨b1, (k + 1) * 4 + 3, none⟩ = some (.bool true) ∧ W.cell? ⟨b1, (k + 1) * 4, none⟩ = some (.int .i64 6) ∧ Below w1.heap.size w1 W) (by kernel_rfl) (KQ.out _ (by first | exact hbel.out | exact hbel.out.drew)) (fun hHeld => ?_)
                  refine take_at (i := 0) (v := ?v201) rfl (by kernel_rfl) (by kernel_rfl) (by kernel_rfl) (fun _ _ _ h => h) rfl (Or.inl ⟨by rfl, ?y201⟩) hHeld ?r201
                  case y201 => (intro W hSw; (try dsimp only at hSw); go_simp; try with_reducible rfl)
                  try dsimp only
                  try simp only [List.setIfInBounds_toArray]
                  try simp only [List.set_cons_succ]
                  try simp only [List.set_cons_zero]
                  refine take_at (i := 1) (v := ?v202) rfl (by kernel_rfl) (by kernel_rfl) (by kernel_rfl) (fun _ _ _ h => h) rfl (Or.inl ⟨by rfl, ?y202⟩) hHeld ?r202
                  case y202 => (intro W hSw; (try dsimp only at hSw); go_simp; try with_reducible rfl)
                  try dsimp only
                  try simp only [List.setIfInBounds_toArray]
                  try simp only [List.set_cons_succ]
                  try simp only [List.set_cons_zero]
                  refine take_at (i := 2) (v := ?v203) rfl (by kernel_rfl) (by kernel_rfl) (by kernel_rfl) (fun _ _ _ h => h) rfl (Or.inl ⟨by rfl, ?y203⟩) hHeld ?r203
                  case y203 => (intro W hSw; (try dsimp only at hSw); go_simp; try with_reducible rfl)
                  try dsimp only
                  try simp only [List.setIfInBounds_toArray]
                  try simp only [List.set_cons_succ]
                  try simp only [List.set_cons_zero]
                  refine take_at (i := 3) (v := ?v204) rfl (by kernel_rfl) (by kernel_rfl) (by kernel_rfl) (fun _ _ _ h => h) rfl (Or.inl ⟨by rfl, ?y204⟩) hHeld ?r204
                  case y204 => (intro W hSw; (try dsimp only at hSw); go_simp; try with_reducible rfl)
                  try dsimp only
                  try simp only [List.setIfInBounds_toArray]
                  try simp only [List.set_cons_succ]
                  try simp only [List.set_cons_zero]
                  refine take_at (i := 4) (v := ?v205) rfl (by kernel_rfl) (by kernel_rfl) (by kernel_rfl) (fun _ _ _ h => h) rfl (Or.inl ⟨by rfl, ?y205⟩) hHeld ?r205
                  case y205 => (intro W hSw; (try dsimp only at hSw); go_simp; try with_reducible rfl)
                  try dsimp only
                  try simp only [List.setIfInBounds_toArray]
                  try simp only [List.set_cons_succ]
                  try simp only [List.set_cons_zero]
                  refine take_at (i := 5) (v := ?v206) rfl (by kernel_rfl) (by kernel_rfl) (by kernel_rfl) (fun _ _ _ h => h) rfl (Or.inl ⟨by rfl, ?y206⟩) hHeld ?r206
                  case y206 => (intro W hSw; (try dsimp only at hSw); go_simp; try with_reducible rfl)
                  try dsimp only
                  try simp only [List.setIfInBounds_toArray]
                  try simp only [List.set_cons_succ]
                  try simp only [List.set_cons_zero]
                  refine take_at (i := 6) (v := ?v207) rfl (by kernel_rfl) (by kernel_rfl) (by kernel_rfl) (fun _ _ _ h => h) rfl (Or.inl ⟨by rfl, ?y207⟩) hHeld ?r207
                  case y207 => (intro W hSw; (try dsimp only at hSw); go_simp; try with_reducible rfl)
                  try dsimp only
                  try simp only [List.setIfInBounds_toArray]
                  try simp only [List.set_cons_succ]
                  try simp only [List.set_cons_zero]
                  refine take_at (i := 7) (v := ?v208) rfl (by kernel_rfl) (by kernel_rfl) (by kernel_rfl) (fun _ _ _ h => h) rfl (Or.inl ⟨by rfl, ?y208⟩) hHeld ?r208
                  case y208 => (intro W hSw; (try dsimp only at hSw); go_simp; try with_reducible rfl)
                  try dsimp only
                  try simp only [List.setIfInBounds_toArray]
                  try simp only [List.set_cons_succ]
                  try simp only [List.set_cons_zero]
                  refine take_at (i := 8) (v := ?v209) rfl (by kernel_rfl) (by kernel_rfl) (by kernel_rfl) (fun _ _ _ h => h) rfl (Or.inl ⟨by rfl, ?y209⟩) hHeld ?r209
                  case y209 => (intro W hSw; (try dsimp only at hSw); go_simp; try with_reducible rfl)
                  try dsimp only
                  try simp only [List.setIfInBounds_toArray]
                  try simp only [List.set_cons_succ]
                  try simp only [List.set_cons_zero]
                  refine take_at (i := 9) (v := ?v210) rfl (by kernel_rfl) (by kernel_rfl) (by kernel_rfl) (fun _ _ _ h => h) rfl (Or.inl ⟨by rfl, ?y210⟩) hHeld ?r210
                  case y210 => (intro W hSw; (try dsimp only at hSw); go_simp; try with_reducible rfl)
                  try dsimp only
                  try simp only [List.setIfInBounds_toArray]
                  try simp only [List.set_cons_succ]
                  try simp only [List.set_cons_zero]
                  refine take_at (i := 10) (v := ?v211) rfl (by kernel_rfl) (by kernel_rfl) (by kernel_rfl) (fun _ _ _ h => h) rfl (Or.inl ⟨by rfl, ?y211⟩) hHeld ?r211
                  case y211 => (intro W hSw; (try dsimp only at hSw); go_simp; try with_reducible rfl)
                  try dsimp only
                  try simp only [List.setIfInBounds_toArray]
                  try simp only [List.set_cons_succ]
                  try simp only [List.set_cons_zero]
                  refine step_at (i := 11) rfl (by kernel_rfl) (fun K hK => ?_)
                  go_simp
                  go_at_call 17
                  refine (HCL.out _ hHeld.2.2.2.2).mono ?_
                  rintro e w5 ⟨rfl, hb5⟩
                  go_wp2_with fail
                  refine hK.out _ _ ?_ (fun hHeld212 => ?_)
                  · exact KQ.out _ hb5
                  clear hK K hHeld
                  try simp only [Act.put]
                  try simp only [List.setIfInBounds_toArray]
                  try simp only [List.set_cons_succ]
                  try simp only [List.set_cons_zero]
                  refine take_at (i := 12) (v := ?v213) rfl (by kernel_rfl) (by kernel_rfl) (by kernel_rfl) (fun _ _ _ h => h) rfl (Or.inl ⟨by rfl, ?y213⟩) hHeld212 ?r213
                  case y213 => (intro W hSw; (try dsimp only at hSw); go_simp; try with_reducible rfl)
                  try dsimp only
                  try simp only [List.setIfInBounds_toArray]
                  try simp only [List.set_cons_succ]
                  try simp only [List.set_cons_zero]
                  refine take_at (i := 13) (v := ?v214) rfl (by kernel_rfl) (by kernel_rfl) (by kernel_rfl) (fun _ _ _ h => h) rfl (Or.inl ⟨by rfl, ?y214⟩) hHeld212 ?r214
                  case y214 => (intro W hSw; (try dsimp only at hSw); go_simp; try with_reducible rfl)
                  try dsimp only
                  try simp only [List.setIfInBounds_toArray]
                  try simp only [List.set_cons_succ]
                  try simp only [List.set_cons_zero]
                  refine take_at (i := 14) (v := ?v215) rfl (by kernel_rfl) (by kernel_rfl) (by kernel_rfl) (fun _ _ _ h => h) rfl (Or.inl ⟨by rfl, ?y215⟩) hHeld212 ?r215
                  case y215 => (intro W hSw; (try dsimp only at hSw); go_simp; try with_reducible rfl)
                  try dsimp only
                  try simp only [List.setIfInBounds_toArray]
                  try simp only [List.set_cons_succ]
                  try simp only [List.set_cons_zero]
                  refine take_at (i := 15) (v := ?v216) rfl (by kernel_rfl) (by kernel_rfl) (by kernel_rfl) (fun _ _ _ h => h) rfl (Or.inl ⟨by rfl, ?y216⟩) hHeld212 ?r216
                  case y216 => (intro W hSw; (try dsimp only at hSw); go_simp; try with_reducible rfl)
                  try dsimp only
                  try simp only [List.setIfInBounds_toArray]
                  try simp only [List.set_cons_succ]
                  try simp only [List.set_cons_zero]
                  refine take_at (i := 16) (v := ?v217) rfl (by kernel_rfl) (by kernel_rfl) (by kernel_rfl) (fun _ _ _ h => h) rfl (Or.inl ⟨by rfl, ?y217⟩) hHeld212 ?r217
                  case y217 => (intro W hSw; (try dsimp only at hSw); go_simp; try with_reducible rfl)
                  try dsimp only
                  try simp only [List.setIfInBounds_toArray]
                  try simp only [List.set_cons_succ]
                  try simp only [List.set_cons_zero]
                  refine take_at (i := 17) (v := ?v218) rfl (by kernel_rfl) (by kernel_rfl) (by kernel_rfl) (fun _ _ _ h => h) rfl (Or.inl ⟨by rfl, ?y218⟩) hHeld212 ?r218
                  case y218 => (intro W hSw; (try dsimp only at hSw); go_simp; try with_reducible rfl)
                  try dsimp only
                  try simp only [List.setIfInBounds_toArray]
                  try simp only [List.set_cons_succ]
                  try simp only [List.set_cons_zero]
                  refine take_at (i := 18) (v := ?v219) rfl (by kernel_rfl) (by kernel_rfl) (by kernel_rfl) (fun _ _ _ h => h) rfl (Or.inl ⟨by rfl, ?y219⟩) hHeld212 ?r219
                  case y219 => (intro W hSw; (try dsimp only at hSw); go_simp; try with_reducible rfl)
                  try dsimp only
                  try simp only [List.setIfInBounds_toArray]
                  try simp only [List.set_cons_succ]
                  try simp only [List.set_cons_zero]
                  refine take_at (i := 19) (v := ?v220) rfl (by kernel_rfl) (by kernel_rfl) (by kernel_rfl) (fun _ _ _ h => h) rfl (Or.inl ⟨by rfl, ?y220⟩) hHeld212 ?r220
                  case y220 => (intro W hSw; (try dsimp only at hSw); go_simp; try with_reducible rfl)
                  try dsimp only
                  try simp only [List.setIfInBounds_toArray]
                  try simp only [List.set_cons_succ]
                  try simp only [List.set_cons_zero]
                  refine take_at (i := 20) (v := ?v221) rfl (by kernel_rfl) (by kernel_rfl) (by kernel_rfl) (fun _ _ _ h => h) rfl (Or.inl ⟨by rfl, ?y221⟩) hHeld212 ?r221
                  case y221 => (intro W hSw; (try dsimp only at hSw); go_simp; try with_reducible rfl)
                  try dsimp only
                  try simp only [List.setIfInBounds_toArray]
                  try simp only [List.set_cons_succ]
                  try simp only [List.set_cons_zero]
                  refine take_at (i := 21) (v := ?v222) rfl (by kernel_rfl) (by kernel_rfl) (by kernel_rfl) (fun _ _ _ h => h) rfl (Or.inl ⟨by rfl, ?y222⟩) hHeld212 ?r222
                  case y222 => (intro W hSw; (try dsimp only at hSw); go_simp; try with_reducible rfl)
                  try dsimp only
                  try simp only [List.setIfInBounds_toArray]
                  try simp only [List.set_cons_succ]
                  try simp only [List.set_cons_zero]
                  refine take_at (i := 22) (v := ?v223) rfl (by kernel_rfl) (by kernel_rfl) (by kernel_rfl) (fun _ _ _ h => h) rfl (Or.inl ⟨by rfl, ?y223⟩) hHeld212 ?r223
                  case y223 => (intro W hSw; (try dsimp only at hSw); go_simp; try with_reducible rfl)
                  try dsimp only
                  try simp only [List.setIfInBounds_toArray]
                  try simp only [List.set_cons_succ]
                  try simp only [List.set_cons_zero]
                  refine take_at (i := 23) (v := ?v224) rfl (by kernel_rfl) (by kernel_rfl) (by kernel_rfl) (fun _ _ _ h => h) rfl (Or.inl ⟨by rfl, ?y224⟩) hHeld212 ?r224
                  case y224 => (intro W hSw; (try dsimp only at hSw); go_simp; try with_reducible rfl)
                  try dsimp only
                  try simp only [List.setIfInBounds_toArray]
                  try simp only [List.set_cons_succ]
                  try simp only [List.set_cons_zero]
                  refine take_at (i := 24) (v := ?v225) rfl (by kernel_rfl) (by kernel_rfl) (by kernel_rfl) (fun _ _ _ h => h) rfl (Or.inl ⟨by rfl, ?y225⟩) hHeld212 ?r225
                  case y225 => (intro W hSw; (try dsimp only at hSw); go_simp; try with_reducible rfl)
                  try dsimp only
                  try simp only [List.setIfInBounds_toArray]
                  try simp only [List.set_cons_succ]
                  try simp only [List.set_cons_zero]
                  refine take_at (i := 25) (v := ?v226) rfl (by kernel_rfl) (by kernel_rfl) (by kernel_rfl) (fun _ _ _ h => h) rfl (Or.inl ⟨by rfl, ?y226⟩) hHeld212 ?r226
                  case y226 => (intro W hSw; (try dsimp only at hSw); go_simp; try with_reducible rfl)
                  try dsimp only
                  try simp only [List.setIfInBounds_toArray]
                  try simp only [List.set_cons_succ]
                  try simp only [List.set_cons_zero]
                  refine take_at (i := 26) (v := ?v227) rfl (by kernel_rfl) (by kernel_rfl) (by kernel_rfl) (fun _ _ _ h => h) rfl (Or.inl ⟨by rfl, ?y227⟩) hHeld212 ?r227
                  case y227 => (intro W hSw; (try dsimp only at hSw); go_simp; try with_reducible rfl)
                  try dsimp only
                  try simp only [List.setIfInBounds_toArray]
                  try simp only [List.set_cons_succ]
                  try simp only [List.set_cons_zero]
                  refine take_at (i := 27) (v := ?v228) rfl (by kernel_rfl) (by kernel_rfl) (by kernel_rfl) (fun _ _ _ h => h) rfl (Or.inl ⟨by rfl, ?y228⟩) hHeld212 ?r228
                  case y228 => (intro W hSw; (try dsimp only at hSw); go_simp; try with_reducible rfl)
                  try dsimp only
                  try simp only [List.setIfInBounds_toArray]
                  try simp only [List.set_cons_succ]
                  try simp only [List.set_cons_zero]
                  refine take_at (i := 28) (v := ?v229) rfl (by kernel_rfl) (by kernel_rfl) (by kernel_rfl) (fun _ _ _ h => h) rfl (Or.inl ⟨by rfl, ?y229⟩) hHeld212 ?r229
                  case y229 => (intro W hSw; (try dsimp only at hSw); go_simp; try with_reducible rfl)
                  try dsimp only
                  try simp only [List.setIfInBounds_toArray]
                  try simp only [List.set_cons_succ]
                  try simp only [List.set_cons_zero]
                  refine wpAnyH_done (by kernel_rfl) ?_ _
                  refine NoPanic.normal ?_
                  have HB5 := Lib.hid hb5
                  clear hb5
                  go_wp2
                  go_roundw
                  case rel => exact ⟨k + 1, hlt, by go_num, by first | exact HB5.out | exact HB5.out.drew⟩
                  case measure => simp [intOf]; omega
            · obtain ⟨nn, rfl⟩ : ∃ nn, n = nn + 1 := ⟨n - 1, by omega⟩
              obtain rfl : k = nn := by omega
              have hkL : k < L.length := by rw [HNL.out]; omega
              obtain ⟨t, ht⟩ : ∃ t, L[k]? = some t := ⟨_, List.getElem?_eq_getElem hkL⟩
              have hla := good_last L none HG.out t (by rw [HNL.out]; exact ht)
              have hCL := HCL0.out t (List.mem_of_getElem? ht)
              rw [hla] at hCL
              have HCQ := Lib.hid (fun (W : World) (hW : Below w1.heap.size w1 W) => (⟨HCE.out W hW k t ht 0 _ rfl, HCE.out W hW k t ht 1 _ rfl, hW⟩ : W.cell? ⟨b1, k * 4, none⟩ = some (.int .i64 t.kind) ∧ W.cell? ⟨b1, k * 4 + 1, none⟩ = some (.string (strOfNums t.text)) ∧ Below w1.heap.size w1 W))
              clear ht hkL hla
              generalize strOfNums t.text = st at *
              generalize t.kind = tk at *
              have HCL := Lib.hid hCL
              clear hCL hlt
              have hn1 : ¬ (k : Int) + 1 < (k : Int) + 1 := by omega
              have hn0 : ((k : Int) + 1 == 0) = false := beq_no (by omega)
              have hk0 : (0 : Int) ≤ (k : Int) := by omega
              have hkn : (k : Int) < (k : Int) + 1 := by omega
              have hw1 : IntKind.i64.wrap (k : Int) = (k : Int) := by rw [IntKind.wrap_i64]; omega
              have KQ : Hid (∀ W, Below w1.heap.size w1 W → W.cell? ⟨b1, k * 4, none⟩ = some (.int .i64 tk) ∧ W.cell? ⟨b1, k * 4 + 1, none⟩ = some (.string st) ∧ Below w1.heap.size w1 W) := HCQ.out
              obtain ⟨k0, k1, _⟩ := KQ.out wr hbel.out
              clear HCQ
              go_wp2
              go_region_held_law (fun W => W.cell? ⟨b1, k * 4, none⟩ = some (.int .i64 tk) ∧ W.cell? ⟨b1, k * 4 + 1, none⟩ = some (.string st) ∧ Below w1.heap.size w1 W) (first | assumption | exact KQ.out _ (by assumption) | exact KQ.out _ hbel.out | exact KQ.out _ hbel.out.drew | exact KQ.out _ HB2.out.drew) (first | (go_at_call 17; refine (HCL.out _ (by first | assumption | exact hbel.out | exact hbel.out.drew)).mono ?_; rintro e w5 ⟨rfl, hb5⟩))
              go_wp2
              go_ret
              exact ⟨rfl, HE.out _ (by first | exact hb5 | exact hb5.drew)⟩

theorem lexEnds_row (A : Option Addr) (n0 cap : Nat) (xs0 : List Int) (w : World) (hT : Tab w) (h0 : RB w w.heap.size A xs0) (hn0 : xs0.length = n0) (hcap0 : n0 ≤ cap) (hcap' : cap ≤ maxLen) :
    Calls Tryd.prog 6 #[.slice A n0 cap] w fun e w' => e = .returned (.bool true) ∧ Below w.heap.size w w' := lexEnds_walk A n0 cap xs0 w h0 hn0 hcap0 hcap' hT

end Go.Proofs.YtiadbagfajhjfaaDoor.Lex
