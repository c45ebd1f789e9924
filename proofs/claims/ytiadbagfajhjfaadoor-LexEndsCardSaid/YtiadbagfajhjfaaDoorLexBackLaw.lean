/-
  Layer 4 (lex): the walk of LexBack: tokens written again are the same tokens.
-/
import Derived.Test.YtiadbagfajhjfaaDoorLexWrite
import Derived.Deep.Cut
import Derived.Deep.CutRange
import Derived.Deep.Slices
namespace Go.Proofs.YtiadbagfajhjfaaDoor.Lex
open Go.ChangeShapes Go.WideShapes Go.ChangeAt Go.RowKit Utf MemT
set_option linter.unusedVariables false

theorem again_nil (A : Option Addr) (cap : Nat) (gs : ByteArray) (w : World) :
    Calls Tryd.prog 16 #[.slice A 0 cap, .string gs] w fun e w' => e = .returned (.string ⟨#[]⟩) ∧ w = w' := by
  go_enter Tryd.func16, Tryd.ntmps16
  go_wp2
  go_loop [5, 6, 7] (fun s i _ => s = .string ⟨#[]⟩ ∧ i = .int .i64 0) (fun _ _ _ => 0)
  case atStart => exact ⟨rfl, rfl⟩
  case round =>
    obtain ⟨rfl, rfl⟩ := hrel
    go_wp2
    go_ret
    exact ⟨rfl, rfl⟩
theorem again_all (A : Option Addr) (cap B : Nat) (L : List Tok) (gp : List Int) (w : World) (hr : RT tokC 4 w B A L) (n : Nat) (hn : L.length = n) (hcap : n ≤ cap) (hn6 : n ≤ 1000000) (hlen : (ag gp L).length ≤ 1000000) (hgl : gp.length ≤ 1000) (hbt : ∀ t ∈ L, Byt t.text ∧ t.text.length ≤ 1000000) :
    Calls Tryd.prog 16 #[.slice A n cap, .string (strOfNums gp)] w fun e w' => e = .returned (.string (strOfNums (ag gp L))) ∧ w = w' := by
  rcases hr with h | ⟨b, rfl, _, hc⟩
  · subst h
    obtain rfl : n = 0 := by simpa using hn.symm
    exact again_nil A cap _ w
  · exact again_any b cap L gp w hc n hn hcap hn6 hlen hgl hbt

/-- Bools that came in. -/
def RBo (w : World) (A : Option Addr) (n : Nat) : Prop := ∀ i, i < n → ∃ b off x, A = some ⟨b, off, none⟩ ∧ w.cell? ⟨b, off + i, none⟩ = some (.bool x)
/-- Blanks, few of them. -/
def Gap (k : Nat) (gp : List Int) : Prop := gp ≠ [] ∧ (∀ x ∈ gp, blk x = true) ∧ gp.length ≤ 1 + 2 * k
theorem gap_start : Gap 0 [32] := ⟨by simp, fun x hx => by simp at hx; subst hx; rfl, by simp⟩
theorem gap_tab {k : Nat} {gp : List Int} (h : Gap k gp) : Gap (k + 1) (gp ++ [9]) := ⟨by simp, fun x hx => by
  rcases List.mem_append.1 hx with e | e
  · exact h.2.1 x e
  · simp at e; subst e; rfl, by have := h.2.2; simp; omega⟩
theorem gap_cr {k : Nat} {gp : List Int} (h : Gap k gp) : Gap (k + 1) (gp ++ [13, 32]) := ⟨by simp, fun x hx => by
  rcases List.mem_append.1 hx with e | e
  · exact h.2.1 x e
  · simp at e; rcases e with rfl | rfl <;> rfl, by have := h.2.2; simp; omega⟩

theorem toks_small {b : List Int} (hb : Byt b) (hE : lexE b = 0) (hl : b.length ≤ 5000) : ∀ t ∈ lexT b, Byt t.text ∧ t.text.length ≤ 1000000 := by
  obtain ⟨h1, h2⟩ := lexE_zero hb hE
  have ht := tiles_of b
  rw [h2] at ht
  have hL : lexT b = fin (pieces b) 0 true := (lex_ok h1 ht).2.2
  intro t hm
  refine ⟨?_, ?_⟩
  · rw [hL] at hm
    rcases fin_mem _ _ _ t hm with e | ⟨_, _, e⟩
    · rw [e.2]; exact Byt.nil
    · exact (tiles_text _ _ hb h1 ht _ e).1
  · have h3 := (@toks_count b).2
    have : ∀ (L : List Tok), t ∈ L → t.text.length ≤ (L.map fun t => t.text.length).sum := fun L => by
      induction L with
      | nil => intro h; cases h
      | cons u r ih =>
        intro h
        simp only [List.map_cons, List.sum_cons]
        rcases List.mem_cons.1 h with e | e
        · subst e; omega
        · have := ih e; omega
    have := this _ hm
    omega

set_option maxRecDepth 100000 in
set_option maxHeartbeats 4000000 in
theorem lexBack_walk (A A2 : Option Addr) (n0 n2 cap cap2 : Nat) (xs0 : List Int) (w : World) (h0 : RB w w.heap.size A xs0) (hn0 : xs0.length = n0) (hcap0 : n0 ≤ cap) (hcap' : cap ≤ maxLen) (h20 : RBo w A2 n2) (hA2 : ∀ b off, A2 = some ⟨b, off, none⟩ → 0 < n2 → b < w.heap.size) (hcap2 : n2 ≤ cap2) (hcap2' : cap2 ≤ maxLen) (hT : Tab w) :
    Calls Tryd.prog 5 #[.slice A n0 cap, .slice A2 n2 cap2] w fun e w' => e = .returned (.bool true) ∧ Below w.heap.size w w' := by
  have HT := Lib.hid hT
  have H0 := Lib.hid h0; have Hn0 := Lib.hid hn0; have H20 := Lib.hid h20; have HA2 := Lib.hid hA2
  have Hc := Lib.hid hcap'
  unfold maxLen at hcap' hcap2'
  clear hT h0 hn0 h20 hA2
  go_enter Tryd.func5, Tryd.ntmps5
  go_upto_if 16 with (fail)
  go_cut [0] from 17 to 18 (fun s0 W => s0 = .slice A (min n0 5000) cap ∧ W = w)
  case first =>
    by_cases hl : n0 ≤ 5000
    · have hl' : decide ((5000 : Int) < (n0 : Int)) = false := by rw [decide_eq_false_iff_not]; omega
      go_wp2
      go_meet
      case rel => exact ⟨by rw [Nat.min_eq_left hl], rfl⟩
    · have hl' : (5000 : Int) < (n0 : Int) := by omega
      have hcl : (5000 : Int) ≤ (cap : Int) := by omega
      go_wp2
      go_meet
      case rel => exact ⟨by rw [Nat.min_eq_right (by omega)], rfl⟩
  case rest =>
    obtain ⟨rfl, hw⟩ := hcut
    subst hw
    have HX : Hid (∃ xs, xs.length = min n0 5000 ∧ RB wc wc.heap.size A xs) := ⟨xs0.take (min n0 5000), by rw [List.length_take, Hn0.out]; omega, H0.out.take _⟩
    have hm : min n0 5000 ≤ cap := by omega
    have hm2 : min n0 5000 ≤ 5000 := by omega
    generalize min n0 5000 = m at *
    clear hcap0 H0 Hn0
    obtain ⟨xs, hxn, hrx⟩ := HX.out
    have hbx := hrx.byt
    have HTOK := Lib.hid (tokens_any A m cap xs wc _ hrx (Nat.le_refl _) hxn hm Hc.out (by omega) HT.out)
    have HXN := Lib.hid hxn; have HBX := Lib.hid hbx
    have hcase : lexE xs = 3 ∨ lexE xs = 4 ∨ lexE xs = 0 := by
      rcases lexE_cases xs with ⟨_, hE⟩ | ⟨_, _, hE⟩ | ⟨_, _, hE⟩
      · exact .inl hE
      · exact .inr (.inr hE)
      · exact .inr (.inl hE)
    have HTK : Hid (∀ E, lexE xs = E → Calls Tryd.prog 9 #[.slice A m cap] wc fun e w' => ∃ v, e = .returned (.tuple #[v, .int .i64 (lexN xs : Int), .int .i64 E]) ∧ OwnT w' wc.heap.size v (lexT xs) ∧ Below wc.heap.size wc w') := fun E hE => HTOK.out.mono fun e w' ⟨v, h1, h2, h3⟩ => ⟨v, by rw [h1, hE], h2, h3⟩
    clear HX hrx hxn hbx HTOK
    generalize lexN xs = N at *
    have fail_ : ∀ E : Int, E = 3 ∨ E = 4 → lexE xs = E → True := fun _ _ _ => trivial
    clear fail_
    rcases hcase with hE | hE | hE
    · have HT3 := Lib.hid (HTK.out 3 hE)
      clear HTK hE
      go_wp2_with fail
      refine HT3.out.mono ?_
      rintro e w1 ⟨v1, rfl, _, hb1⟩
      have HB1 := Lib.hid hb1
      have HK := Lib.hid (known_any w1 (HT.out.below hb1 HT.out.pos))
      clear hb1
      go_wp2_with fail
      refine HK.out.mono ?_
      rintro e w2 ⟨rfl, hb2⟩
      have HB2 := Lib.hid (HB1.out.trans (hb2.mono HB1.out.size))
      have HK2 := Lib.hid (known_any w2 (HT.out.below HB2.out HT.out.pos))
      clear hb2
      go_wp2_with fail
      refine HK2.out.mono ?_
      rintro e w3 ⟨rfl, hb3⟩
      have HB3 := Lib.hid (HB2.out.trans (hb3.mono HB2.out.size))
      clear hb3
      go_wp2_with fail
      go_ret
      exact ⟨rfl, HB3.out⟩
    · have HT3 := Lib.hid (HTK.out 4 hE)
      clear HTK hE
      go_wp2_with fail
      refine HT3.out.mono ?_
      rintro e w1 ⟨v1, rfl, _, hb1⟩
      have HB1 := Lib.hid hb1
      have HK := Lib.hid (known_any w1 (HT.out.below hb1 HT.out.pos))
      clear hb1
      go_wp2_with fail
      refine HK.out.mono ?_
      rintro e w2 ⟨rfl, hb2⟩
      have HB2 := Lib.hid (HB1.out.trans (hb2.mono HB1.out.size))
      have HK2 := Lib.hid (known_any w2 (HT.out.below HB2.out HT.out.pos))
      clear hb2
      go_wp2_with fail
      refine HK2.out.mono ?_
      rintro e w3 ⟨rfl, hb3⟩
      have HB3 := Lib.hid (HB2.out.trans (hb3.mono HB2.out.size))
      clear hb3
      go_wp2_with fail
      go_ret
      exact ⟨rfl, HB3.out⟩
    · have HT3 := Lib.hid (HTK.out 0 hE)
      have HBACK := Lib.hid (fun (gp : List Int) (h1 : gp ≠ []) (h2 : ∀ x ∈ gp, blk x = true) => back_lex HBX.out hE h1 h2)
      have HLEN := Lib.hid (fun (gp : List Int) (h : gp.length ≤ 9) => back_len (b := xs) (gp := gp) (by rw [HXN.out]; exact hm2) h)
      have HSM := Lib.hid (toks_small HBX.out hE (by rw [HXN.out]; exact hm2))
      have hct : (lexT xs).length ≤ 10000 := by have := (@toks_count xs).1; rw [HXN.out] at this; omega
      have HCT := Lib.hid hct
      clear hct
      clear HTK hE
      generalize lexT xs = L at *
      obtain ⟨nl, hnl⟩ : ∃ nl, L.length = nl := ⟨_, rfl⟩
      have HNL := Lib.hid hnl
      have hnl4 : nl ≤ 10000 := by rw [← hnl]; exact HCT.out
      go_wp2_with fail
      refine HT3.out.mono ?_
      rintro e w1 ⟨v1, rfl, ho1, hb1⟩
      obtain ⟨a1, c1, rfl, hc1, hc1', hr1⟩ := ownT_rt ho1
      rw [hnl] at hc1 ⊢
      have HR1 := Lib.hid hr1
      have HB1 := Lib.hid hb1
      have HK := Lib.hid (known_any w1 (HT.out.below hb1 HT.out.pos))
      clear hb1 ho1 hr1 hnl hc1'
      go_wp2_with fail
      refine HK.out.mono ?_
      rintro e w2 ⟨rfl, hb2⟩
      have HB2 := Lib.hid (HB1.out.trans (hb2.mono HB1.out.size))
      have HR2 := Lib.hid ((HR1.out.below hb2 (Nat.le_refl _)).more hb2.size)
      have HBO : Hid (∀ i, i < n2 → ∃ b off x, A2 = some ⟨b, off, none⟩ ∧ w2.cell? ⟨b, off + i, none⟩ = some (.bool x)) := fun i hi => by
        obtain ⟨b, off, x, e, hc⟩ := H20.out i hi
        exact ⟨b, off, x, e, (HB2.out.cell (p := ⟨b, off + i, none⟩) (HA2.out b off e (by omega))).trans hc⟩
      clear hb2 HR1
      go_wp2
      have h32 : Hid (strOfNums [32] = ⟨#[32]⟩) := by show _ = _; rfl
      have h9 : Hid (strOfNums [9] = ⟨#[9]⟩) := by show _ = _; rfl
      have h13 : Hid (strOfNums [13, 32] = ⟨#[13, 32]⟩) := by show _ = _; rfl
      go_loop [8, 9] (fun s i => ∃ (k : Nat) (gp : List Int), k ≤ n2 ∧ k ≤ 4 ∧ i = .int .i64 k ∧ s = .string (strOfNums gp) ∧ Hid (Gap k gp)) (fun _ i => 4 - (intOf i).toNat)
      case atStart => exact ⟨0, [32], by omega, by omega, rfl, by rw [h32.out], gap_start⟩
      case round =>
        obtain ⟨k, gp, hk, hk4, rfl, rfl, hgap⟩ := hrel
        by_cases hgo : k < n2 ∧ k < 4
        · obtain ⟨g1, g2⟩ := hgo
          obtain ⟨b, off, x, rfl, hcx⟩ := HBO.out k g1
          have g1' : (k : Int) < n2 := by omega
          have g2' : (k : Int) < 4 := by omega
          have hgs : (strOfNums gp).size ≤ 9 := by rw [strOfNums_size]; have := hgap.out.2.2; omega
          have hs1 : ¬ 9223372036854775807 < (strOfNums gp).size + 1 := by omega
          have hs2 : ¬ 9223372036854775807 < (strOfNums gp).size + 2 := by omega
          cases x
          · go_wp2
            go_round
            case rel => exact ⟨k + 1, gp ++ [13, 32], by omega, by omega, by go_num, by rw [← str_add, h13.out], gap_cr hgap.out⟩
            case measure => simp [intOf]; omega
          · go_wp2
            go_round
            case rel => exact ⟨k + 1, gp ++ [9], by omega, by omega, by go_num, by rw [← str_add, h9.out], gap_tab hgap.out⟩
            case measure => simp [intOf]; omega
        · have hgl : gp.length ≤ 9 := by have := hgap.out.2.2; omega
          obtain ⟨hBy, hE2, hKT⟩ := HBACK.out gp hgap.out.1 hgap.out.2.1
          have hlen := HLEN.out gp hgl
          have HAG := Lib.hid (again_all a1 c1 _ L gp w2 HR2.out nl HNL.out hc1 (by omega) (by omega) (by omega) HSM.out)
          obtain ⟨c3, W3, hconv, hc3, hc3', hbW, hrb⟩ := conv_str w2 (strOfNums (ag gp L)) (by rw [strOfNums_size]; unfold maxLen; omega)
          have hnn : nums (strOfNums (ag gp L)) = ag gp L := strOfNums_inj (nums_byt _) hBy (str_nums _)
          rw [hnn] at hrb
          rw [strOfNums_size] at hconv hc3
          have HTOK2 := Lib.hid (tokens_any _ (ag gp L).length c3 (ag gp L) W3 _ hrb (Nat.le_refl _) rfl hc3 hc3' (by omega) ((HT.out.below HB2.out HT.out.pos).below hbW (HT.out.below HB2.out HT.out.pos).pos))
          have HTK2 : Hid (Calls Tryd.prog 9 #[.slice (some ⟨w2.heap.size, 0, none⟩) (ag gp L).length c3] W3 fun e w' => ∃ v, e = .returned (.tuple #[v, .int .i64 (lexN (ag gp L) : Int), .int .i64 0]) ∧ OwnT w' W3.heap.size v (lexT (ag gp L)) ∧ Below W3.heap.size W3 w') := HTOK2.out.mono fun e w' ⟨v, h1, h2, h3⟩ => ⟨v, by rw [h1, hE2], h2, h3⟩
          have HR3 := Lib.hid (HR2.out.below hbW (Nat.le_refl _))
          have HB3 := Lib.hid (HB2.out.trans (hbW.mono HB2.out.size))
          have HKT := Lib.hid hKT
          clear HTOK2 hBy hE2 hKT hnn hrb hlen hgap hc3 hc3' HBO
          generalize ag gp L = Z at *
          generalize lexN Z = N2 at *
          generalize lexT Z = T2 at *
          have hkk : Hid (T2.length = nl) := by
            show _ = _
            have := congrArg List.length HKT.out
            rw [List.length_map, List.length_map, HNL.out] at this
            exact this
          have hgo' : (k : Int) < n2 → ¬ (k : Int) < 4 := fun h1 h2 => hgo ⟨by omega, by omega⟩
          obtain ⟨bk, hbk⟩ : ∃ bk, decide (k < n2) = bk := ⟨_, rfl⟩
          have hx : (bk = false) ∨ (bk = true ∧ ¬ (k : Int) < 4) := by
            cases bk
            · exact .inl rfl
            · exact .inr ⟨rfl, hgo' (by have := of_decide_eq_true hbk; omega)⟩
          clear hgo hgo' HBACK HLEN HSM
          rcases hx with rfl | ⟨rfl, h4⟩
          all_goals
            go_wp2_with fail
            refine HAG.out.mono ?_
            rintro e w' ⟨rfl, rfl⟩
            go_wp2_with fail
            refine HTK2.out.mono ?_
            rintro e w4 ⟨v4, rfl, ho4, hb4⟩
            obtain ⟨a4, c4, rfl, hc4, hc4', hr4⟩ := ownT_rt ho4
            rw [hkk.out] at hc4 ⊢
            have HR4 := Lib.hid hr4
            have HR5 := Lib.hid (HR3.out.below hb4 hbW.size)
            have HB4 := Lib.hid (HB3.out.trans (hb4.mono HB3.out.size))
            clear ho4 hr4 hb4 hc4'
            have hnn : ((nl : Int) != (nl : Int)) = false := by simp
            go_wp2
            go_loopw [13] (fun i wr => ∃ j q : Nat, j ≤ nl ∧ i = .int .i64 j ∧ wr = w4.drewN q) (fun i _ => nl - (intOf i).toNat)
            case atStart => exact ⟨0, 0, Nat.zero_le _, rfl, rfl⟩
            case round =>
              obtain ⟨j, q, hj, rfl, rfl⟩ := hrel
              by_cases hjn : j < nl
              · have hjL : j < L.length := by rw [HNL.out]; exact hjn
                have hjT : j < T2.length := by rw [hkk.out]; exact hjn
                obtain ⟨b1, rfl, _, hcl⟩ := HR5.out.at_ (by omega)
                obtain ⟨b4, rfl, _, hcm⟩ := HR4.out.at_ (by omega)
                obtain ⟨x, hx⟩ : ∃ x, L[j] = x := ⟨_, rfl⟩
                obtain ⟨y, hy⟩ : ∃ y, T2[j] = y := ⟨_, rfl⟩
                have hgx : L[j]? = some x := by rw [List.getElem?_eq_getElem hjL, hx]
                have hgy : T2[j]? = some y := by rw [List.getElem?_eq_getElem hjT, hy]
                have hkt : kt y = kt x := by
                  have := congrArg (fun l => l[j]?) HKT.out
                  simp only [List.getElem?_map, hgx, hgy, Option.map_some, Option.some.injEq] at this
                  exact this
                have hk1 : y.kind = x.kind := congrArg Prod.fst hkt
                have hk2 : y.text = x.text := congrArg Prod.snd hkt
                have d0 : ∀ q, (w4.drewN q).cell? ⟨b1, j * 4, none⟩ = some (.int .i64 x.kind) := fun q => hcl j x hgx 0 _ rfl
                have d1 : ∀ q, (w4.drewN q).cell? ⟨b1, j * 4 + 1, none⟩ = some (.string (strOfNums x.text)) := fun q => hcl j x hgx 1 _ rfl
                have e0 : ∀ q, (w4.drewN q).cell? ⟨b4, j * 4, none⟩ = some (.int .i64 x.kind) := fun q => by rw [← hk1]; exact hcm j y hgy 0 _ rfl
                have e1 : ∀ q, (w4.drewN q).cell? ⟨b4, j * 4 + 1, none⟩ = some (.string (strOfNums x.text)) := fun q => by rw [← hk2]; exact hcm j y hgy 1 _ rfl
                have hnk : (x.kind != x.kind) = false := by simp
                have hnt : ((strOfNums x.text).toList != (strOfNums x.text).toList) = false := by simp
                have hjn' : (j : Int) < nl := by omega
                clear hcl hcm hx hy hgx hgy hkt hk1 hk2 hjL hjT
                generalize x.kind = xk at *
                generalize strOfNums x.text = xt at *
                go_wp2
                go_quiet (fail)
                go_wp2
                go_roundw
                case rel => exact ⟨j + 1, _, by omega, by go_num, rfl⟩
                case measure => simp [intOf]; omega
              · have hnl' : ¬ (j : Int) < nl := by omega
                go_wp2
                go_ret
                exact ⟨rfl, below_drewN HB4.out q⟩

/-- A slice of bools that came in, opened. -/
theorem open_bools {H : Type} {enc : TypeId × Value → H} {P : Program} {w : World} {base : Nat} {held : Bool} {t e : TypeId} {fuel : Nat} {a : Option Addr} {len cap : Nat} {x : DataW H × List MemPlace} (ht : P.underlying t = some (.slice e)) (he : P.underlying e = some .bool) (hC : P.cellsOf e = 1)
    (h : DataW.trod enc P w base (fun _ => true) held fuel t [.slice a len cap] = some x) : len ≤ cap ∧ cap ≤ maxLen ∧ RBo w a len ∧ ∀ b off, a = some ⟨b, off, none⟩ → 0 < len → b < w.heap.size := by
  rcases Go.Deep.open_slice ht h with ⟨h0, _⟩ | ⟨ad, l, c, m, n, D, Pl, hcs, _, hl, hm, hmm, _, hel⟩
  · simp only [List.cons.injEq, Value.slice.injEq, and_true] at h0
    obtain ⟨rfl, rfl, rfl⟩ := h0
    exact ⟨Nat.le_refl _, by unfold maxLen; omega, fun i hi => by omega, fun b off e => by cases e⟩
  · simp only [List.cons.injEq, Value.slice.injEq, and_true] at hcs
    obtain ⟨rfl, rfl, rfl⟩ := hcs
    rw [if_pos rfl] at hmm
    subst hmm
    have key : ∀ i, i < m → ∃ y, w.cell? (ad.add i) = some (.bool y) := fun i hi => by
      obtain ⟨cs', h1, h2⟩ := hel i hi
      rw [hC, Nat.mul_one] at h1
      obtain ⟨_, _, h3⟩ := World.cells?_some h1
      obtain ⟨y, rfl, _⟩ := DataW.trod_bool he h2
      have := h3 0 (by omega)
      exact ⟨y, by simpa [Addr.add] using this⟩
    have key0 : ∀ i, i < len → ∃ y, w.cell? (ad.add i) = some (.bool y) := fun i hi => key i (by omega)
    obtain ⟨b, off, spot⟩ := ad
    refine ⟨hl, hm, fun i hi => ?_, fun b' off' e h0 => ?_⟩
    · obtain ⟨y, hy⟩ := key0 i hi
      obtain ⟨y0, hy0⟩ := key0 0 (by omega)
      have hspot : spot = none := by simpa [Addr.add] using World.cell?_spot hy0
      subst hspot
      have e : (⟨b, off, none⟩ : Addr).add i = ⟨b, off + i, none⟩ := by unfold Addr.add; split <;> simp_all
      rw [e] at hy
      exact ⟨b, off, y, rfl, hy⟩
    · obtain ⟨y, hy⟩ := key0 0 h0
      have := block_lt hy
      simp only [Option.some.injEq] at e
      rw [e] at this
      simpa [Addr.add] using this

theorem lexBack_row (a0 : Option Addr) (len0 cap0 : Nat) (z0 : List Int) (a1 : Option Addr) (len1 cap1 : Nat) (w : World) (hT : Tab w) (w0 : Row .u8 w a0 len0 cap0 z0) (h1 : len1 ≤ cap1) (h2 : cap1 ≤ maxLen) (w1 : RBo w a1 len1) (w2 : ∀ b off, a1 = some ⟨b, off, none⟩ → 0 < len1 → b < w.heap.size) :
    Calls Tryd.prog 5 #[.slice a0 len0 cap0, .slice a1 len1 cap1] w fun e w' => e = .returned (.bool true) ∧ Below w.heap.size w w' := by
  obtain ⟨xs, hx, k1, k2, k3⟩ := row_rb w0
  exact lexBack_walk a0 a1 len0 len1 cap0 cap1 xs w k3 hx k1 k2 w1 w2 h1 h2 hT

end Go.Proofs.YtiadbagfajhjfaaDoor.Lex
