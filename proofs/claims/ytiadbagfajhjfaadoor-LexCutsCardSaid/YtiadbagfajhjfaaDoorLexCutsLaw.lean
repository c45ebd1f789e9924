/-
  Layer 4 (lex): the walk of LexCuts: what is none stays none.
-/
import Derived.Test.YtiadbagfajhjfaaDoorLexKnown
import Derived.Deep.Cut
import Derived.Deep.CutRange
import Derived.Lib.AppendStr
namespace Go.Proofs.YtiadbagfajhjfaaDoor.Lex
open Go.ChangeShapes Go.WideShapes Go.ChangeAt Go.RowKit Utf MemT
set_option linter.unusedVariables false

theorem own_empty (w : World) (base : Nat) (hb : base ≤ w.heap.size) : (w.alloc (.cells #[] 5)).ownsRow base 5 1 (.slice (some ⟨w.heap.size, 0, none⟩) 0 0) 0 [] :=
  ⟨rfl, .inr ⟨w.heap.size, 0, #[], rfl, hb, heap_alloc_new w _, Nat.le_refl _, by unfold maxLen; omega, rfl, rfl⟩⟩

/-- Tokens at bytes of the call's own. -/
theorem tokens_own {w : World} {base n c : Nat} {A : Option Addr} {zs : List Int} (h : w.ownsRow base 5 1 (.slice A n c) n (zs.map (Value.int .u8))) (hb : Byt zs) (hT : Tab w) (hn : n ≤ 1000000) (hc : n ≤ c) (hc' : c ≤ maxLen) (E : Int) (N : Nat) (hE : lexE zs = E) (hN : lexN zs = N) :
    Calls Tryd.prog 9 #[.slice A n c] w fun e w' => ∃ v, e = .returned (.tuple #[v, .int .i64 (N : Int), .int .i64 E]) ∧ OwnT w' w.heap.size v (lexT zs) ∧ Below w.heap.size w w' := by
  subst hE; subst hN
  exact tokens_any A n c zs w _ (own_rb h hb) (Nat.le_refl _) (by have := h.1; simpa using this) hc hc' hn hT

def AnsB (b : Bool) (w : World) (e : Ending) (w' : World) : Prop := e = .returned (.bool b) ∧ Below w.heap.size w w'

set_option maxRecDepth 100000 in
set_option maxHeartbeats 4000000 in
theorem lexCuts_walk (A A2 : Option Addr) (n0 n20 cap cap2 : Nat) (xs0 ys0 : List Int) (w : World) (h0 : RB w w.heap.size A xs0) (hn0 : xs0.length = n0) (hcap0 : n0 ≤ cap) (hcap' : cap ≤ maxLen) (h20 : RB w w.heap.size A2 ys0) (hn20 : ys0.length = n20) (hcap20 : n20 ≤ cap2) (hcap2' : cap2 ≤ maxLen) (hT : Tab w) :
    Calls Tryd.prog 7 #[.slice A n0 cap, .slice A2 n20 cap2] w (AnsB true w) := by
  have HT := Lib.hid hT
  have H0 := Lib.hid h0; have Hn0 := Lib.hid hn0; have H20 := Lib.hid h20; have Hn20 := Lib.hid hn20
  have Hc := Lib.hid hcap'; have Hc2 := Lib.hid hcap2'
  unfold maxLen at hcap' hcap2'
  clear hT h0 hn0 h20 hn20
  go_enter Tryd.func7, Tryd.ntmps7
  go_upto_if 16 with (fail)
  go_cut [0] from 17 to 18 (fun s0 W => s0 = .slice A (min n0 2500) cap ∧ W = w)
  case first =>
    by_cases hl : n0 ≤ 2500
    · have hl' : decide ((2500 : Int) < (n0 : Int)) = false := by rw [decide_eq_false_iff_not]; omega
      go_wp2
      go_meet
      case rel => exact ⟨by rw [Nat.min_eq_left hl], rfl⟩
    · have hl' : (2500 : Int) < (n0 : Int) := by omega
      have hcl : (2500 : Int) ≤ (cap : Int) := by omega
      go_wp2
      go_meet
      case rel => exact ⟨by rw [Nat.min_eq_right (by omega)], rfl⟩
  case rest =>
    obtain ⟨rfl, rfl⟩ := hcut
    have HX : Hid (∃ xs, xs.length = min n0 2500 ∧ RB wc wc.heap.size A xs) := ⟨xs0.take (min n0 2500), by rw [List.length_take, Hn0.out]; omega, H0.out.take _⟩
    have hm : min n0 2500 ≤ cap := by omega
    have hm2 : min n0 2500 ≤ 2500 := by omega
    generalize min n0 2500 = m at *
    clear hcap0 H0 Hn0
    go_upto_if 21 with (fail)
    go_cut [1] from 22 to 23 (fun s1 W => s1 = .slice A2 (min n20 2500) cap2 ∧ W = wc)
    case first =>
      by_cases hl : n20 ≤ 2500
      · have hl' : decide ((2500 : Int) < (n20 : Int)) = false := by rw [decide_eq_false_iff_not]; omega
        go_wp2
        go_meet
        case rel => exact ⟨by rw [Nat.min_eq_left hl], rfl⟩
      · have hl' : (2500 : Int) < (n20 : Int) := by omega
        have hcl : (2500 : Int) ≤ (cap2 : Int) := by omega
        go_wp2
        go_meet
        case rel => exact ⟨by rw [Nat.min_eq_right (by omega)], rfl⟩
    case rest =>
      obtain ⟨rfl, hw⟩ := hcut
      subst hw
      have HY : Hid (∃ ys, ys.length = min n20 2500 ∧ RB wc wc.heap.size A2 ys) := ⟨ys0.take (min n20 2500), by rw [List.length_take, Hn20.out]; omega, H20.out.take _⟩
      have hq : min n20 2500 ≤ cap2 := by omega
      have hq2 : min n20 2500 ≤ 2500 := by omega
      generalize min n20 2500 = m2 at *
      clear hcap20 H20 Hn20
      obtain ⟨xs, hxn, hrx⟩ := HX.out
      obtain ⟨ys, hyn, hry⟩ := HY.out
      have hbx := hrx.byt; have hby := hry.byt
      have HTOK := Lib.hid (tokens_any A m cap xs wc _ hrx (Nat.le_refl _) hxn hm Hc.out (by omega) HT.out)
      have HRX := Lib.hid hrx; have HRY := Lib.hid hry; have HXN := Lib.hid hxn; have HYN := Lib.hid hyn
      have HBX := Lib.hid hbx; have HBY := Lib.hid hby
      have hLN : lexN xs ≤ m := by
        have := bad_le hbx; have := left_le xs
        unfold lexN; split
        · omega
        · split <;> omega
      clear HX HY hrx hry hxn hyn hbx hby
      have h000 : (0 : Int) ≤ (m : Int) := by omega
      have hcase : lexE xs = 0 ∨ ∃ E F N2, lexE xs = E ∧ lexE (xs ++ 10 :: ys) = F ∧ lexN (xs ++ 10 :: ys) = N2 ∧ ((E = 3 ∧ F = 3 ∧ N2 = lexN xs) ∨ (E = 4 ∧ F = 4 ∧ N2 = lexN xs) ∨ (E = 4 ∧ F = 3 ∧ m < N2)) := by
        rcases lexE_cases xs with ⟨_, hE⟩ | ⟨_, _, hE⟩ | ⟨_, _, hE⟩
        · obtain ⟨a, b⟩ := cut_text HBX.out HBY.out hE
          exact .inr ⟨_, _, _, rfl, rfl, rfl, .inl ⟨hE, a, b⟩⟩
        · exact .inl hE
        · rcases cut_token HBX.out HBY.out hE with ⟨a, b⟩ | ⟨a, b⟩
          · exact .inr ⟨_, _, _, rfl, rfl, rfl, .inr (.inl ⟨hE, a, b⟩)⟩
          · exact .inr ⟨_, _, _, rfl, rfl, rfl, .inr (.inr ⟨hE, a, by rw [HXN.out] at b; exact b⟩)⟩
      rcases hcase with hE | ⟨E, F, N2, hE, hF, hN2, hcase⟩
      · have HTK : Hid (Calls Tryd.prog 9 #[.slice A m cap] wc fun e w' => ∃ v, e = .returned (.tuple #[v, .int .i64 (lexN xs : Int), .int .i64 0]) ∧ Below wc.heap.size wc w') := HTOK.out.mono fun e w' ⟨v, h1, h2, h3⟩ => ⟨v, by rw [h1, hE], h3⟩
        have HCUT := Lib.hid (cut_ok HBX.out hE)
        clear HTOK hE
        generalize lexN xs = N at *
        go_wp2_with fail
        refine HTK.out.mono ?_
        rintro e w1 ⟨v1, rfl, hb1⟩
        have HK := Lib.hid (known_any w1 (HT.out.below hb1 HT.out.pos))
        have HB1 := Lib.hid hb1
        clear hb1
        go_wp2_with fail
        refine HK.out.mono ?_
        rintro e w2 ⟨rfl, hb2⟩
        have HB2 := Lib.hid (HB1.out.trans (hb2.mono HB1.out.size))
        clear hb2
        have hA2 : Below w2.heap.size w2 (w2.alloc (.cells #[] 5)) := (Below.refl _ _).alloc (Nat.le_refl _) _
        have hrx := HRX.out.below (HB2.out.trans (hA2.mono HB2.out.size)) (Nat.le_refl _)
        have hs2 : w2.heap.size ≤ (w2.alloc (.cells #[] 5)).heap.size := by simp
        have hsm : 0 + m ≤ 140737488355328 := by omega
        have HA2 := Lib.hid hA2
        go_wp2_with (at_builtin; refine app_rb _ rfl _ _ rfl w2.heap.size _ 0 [] rfl (own_empty w2 _ (Nat.le_refl _)) wc.heap.size A m cap xs rfl hrx HXN.out hsm hs2 ?_)
        intro v3 w3 hown3 hg3 _
        have hb3 : Below w2.heap.size w2 w3 := HA2.out.grown hg3 (by simp) (by simp [Value.ownBlock])
        obtain ⟨i0, hi0, hz0, hz1, hz2⟩ := info_parts u8_info
        obtain ⟨a3, c3, rfl, hc3, hc3'⟩ := own_slice hown3
        have HO3 := Lib.hid hown3; have HB3 := Lib.hid hb3
        clear hown3 hg3 hb3 hrx hA2 hc3 hc3'
        go_wp2_with (at_builtin; refine Lib.wpList_append_own_string w3 rfl _ _ _ _ rfl w2.heap.size 5 i0 Tryd.underlying22 Tryd.underlying9 hi0 hz0 hz1 hz2 _ _ _ rfl HO3.out ⟨#[10, 36, 32]⟩ rfl (by unfold maxLen; simp [ByteArray.size]; omega) (by simp [ByteArray.size]; omega) HB3.out.size ?_)
        intro v4 w4 hown4 hg4 _
        have hb4 : Below w2.heap.size w3 w4 := (Below.refl _ _).grown hg4 HB3.out.size (fun k hk => (HO3.out.lt k hk).1)
        obtain ⟨a4, c4, rfl, hc4, hc4'⟩ := own_slice hown4
        have hown5 : w4.ownsRow w2.heap.size 5 1 (.slice a4 (m + 3) c4) (m + 3) ((xs ++ [10, 36, 32]).map (Value.int .u8)) := by
          rw [List.map_append]; exact hown4
        have hT4 := HT.out.below (HB2.out.trans ((HB3.out.trans hb4).mono HB2.out.size)) HT.out.pos
        have HTK2 := Lib.hid (tokens_own hown5 (HBX.out.append (by intro x hx; simp at hx; omega)) hT4 (by omega) hc4 hc4' 4 (m + 1) HCUT.out.1 (by rw [HCUT.out.2, HXN.out]))
        have HBE := Lib.hid (HB2.out.trans ((HB3.out.trans hb4).mono HB2.out.size))
        clear hown4 hg4 hb4 hown5 hT4 hc4 hc4' HO3 HB3 HA2
        go_wp2_with fail
        refine HTK2.out.mono ?_
        rintro e w5 ⟨v5, rfl, _, hb5⟩
        have HBF := Lib.hid (HBE.out.trans (hb5.mono HBE.out.size))
        clear hb5
        go_wp2_with fail
        go_ret
        exact ⟨rfl, HBF.out⟩
      · have HTK : Hid (Calls Tryd.prog 9 #[.slice A m cap] wc fun e w' => ∃ v, e = .returned (.tuple #[v, .int .i64 (lexN xs : Int), .int .i64 E]) ∧ Below wc.heap.size wc w') := HTOK.out.mono fun e w' ⟨v, h1, h2, h3⟩ => ⟨v, by rw [h1, hE], h3⟩
        have HF := Lib.hid hF; have HN2 := Lib.hid hN2
        clear HTOK hE hF hN2
        generalize lexN xs = N at *
        have h3 : ∃ G, (E = 3 ∧ F = 3 ∧ N2 = N) ∨ (E = 4 ∧ F = 4 ∧ N2 = N) ∨ (E = 4 ∧ F = 3 ∧ m < N2 ∧ ((N2 : Int) == N) = G) := ⟨_, by
          rcases hcase with h | h | ⟨h, h', h''⟩
          · exact .inl h
          · exact .inr (.inl h)
          · exact .inr (.inr ⟨h, h', h'', rfl⟩)⟩
        clear hcase
        obtain ⟨G, hcase⟩ := h3
        have hNN : ((N : Int) == (N : Int)) = true := by simp
        rcases hcase with ⟨rfl, rfl, rfl⟩ | ⟨rfl, rfl, rfl⟩ | ⟨rfl, rfl, hlt, hG⟩
        all_goals
          go_wp2_with fail
          refine HTK.out.mono ?_
          rintro e w1 ⟨v1, rfl, hb1⟩
          have HK := Lib.hid (known_any w1 (HT.out.below hb1 HT.out.pos))
          have HB1 := Lib.hid hb1
          clear hb1
          go_wp2_with fail
          refine HK.out.mono ?_
          rintro e w2 ⟨rfl, hb2⟩
          have HB2 := Lib.hid (HB1.out.trans (hb2.mono HB1.out.size))
          clear hb2
          have hA2 : Below w2.heap.size w2 (w2.alloc (.cells #[] 5)) := (Below.refl _ _).alloc (Nat.le_refl _) _
          have hrx := HRX.out.below (HB2.out.trans (hA2.mono HB2.out.size)) (Nat.le_refl _)
          have hs2 : w2.heap.size ≤ (w2.alloc (.cells #[] 5)).heap.size := by simp
          have hsm : 0 + m ≤ 140737488355328 := by omega
          have HA2 := Lib.hid hA2
          go_wp2_with (at_builtin; refine app_rb _ rfl _ _ rfl w2.heap.size _ 0 [] rfl (own_empty w2 _ (Nat.le_refl _)) wc.heap.size A m cap xs rfl hrx HXN.out hsm hs2 ?_)
          intro v3 w3 hown3 hg3 _
          have hb3 : Below w2.heap.size w2 w3 := HA2.out.grown hg3 (by simp) (by simp [Value.ownBlock])
          obtain ⟨a3, c3, rfl, hc3, hc3'⟩ := own_slice hown3
          have HO3 := Lib.hid (own_below hown3 ((Below.refl w3.heap.size w3).alloc (Nat.le_refl _) (.cells #[.int .u8 10] 5)) (Nat.le_refl _)); have HB3 := Lib.hid (hb3.alloc hb3.size (.cells #[.int .u8 10] 5))
          have HR10 := Lib.hid (rb_new w3 [10] 5 (by intro x hx; simp at hx; omega))
          clear hown3 hg3 hb3 hrx hA2 hc3 hc3'
          have hsm2 : 0 + m + 1 ≤ 140737488355328 := by omega
          go_wp2_with (at_builtin; refine app_rb (w3.alloc (.cells #[.int .u8 10] 5)) rfl _ _ rfl w2.heap.size _ _ _ rfl HO3.out (w3.heap.size + 1) (some ⟨w3.heap.size, 0, none⟩) 1 1 [10] rfl HR10.out rfl ?_ HB3.out.size ?_)
          · omega
          intro v4 w4 hown4 hg4 _
          have hb4 : Below w2.heap.size (w3.alloc (.cells #[.int .u8 10] 5)) w4 := (Below.refl _ _).grown hg4 HB3.out.size (fun k hk => (HO3.out.lt k hk).1)
          obtain ⟨a4, c4, rfl, hc4, hc4'⟩ := own_slice hown4
          have HO4 := Lib.hid hown4; have HB4 := Lib.hid (HB3.out.trans hb4)
          have hry := HRY.out.below (HB2.out.trans (HB4.out.mono HB2.out.size)) (Nat.le_refl _)
          clear hown4 hg4 hb4 hc4 hc4' HO3 HB3 HA2 HR10
          go_wp2_with (at_builtin; refine app_rb w4 rfl _ _ rfl w2.heap.size _ _ _ rfl HO4.out wc.heap.size A2 m2 cap2 ys rfl hry HYN.out ?_ HB4.out.size ?_)
          · omega
          intro v5 w5 hown5 hg5 _
          have hb5 : Below w2.heap.size w4 w5 := (Below.refl _ _).grown hg5 HB4.out.size (fun k hk => (HO4.out.lt k hk).1)
          obtain ⟨a5, c5, rfl, hc5, hc5'⟩ := own_slice hown5
          have hown6 : w5.ownsRow w2.heap.size 5 1 (.slice a5 (m + 1 + m2) c5) (m + 1 + m2) ((xs ++ 10 :: ys).map (Value.int .u8)) := by
            rw [List.map_append, List.map_cons]; exact hown5
          have hT5 := HT.out.below (HB2.out.trans ((HB4.out.trans hb5).mono HB2.out.size)) HT.out.pos
          have HTK2 := Lib.hid (tokens_own hown6 (HBX.out.append (byt_cons (by omega) HBY.out)) hT5 (by omega) hc5 hc5' _ _ HF.out HN2.out)
          have HBE := Lib.hid (HB2.out.trans ((HB4.out.trans hb5).mono HB2.out.size))
          clear hown5 hown6 hg5 hb5 hT5 hc5 hc5' HO4 HB4 hry
          go_wp2_with fail
          refine HTK2.out.mono ?_
          rintro e w6 ⟨v6, rfl, _, hb6⟩
          have HBF := Lib.hid (HBE.out.trans (hb6.mono HBE.out.size))
          clear hb6
          go_wp2_with fail
          go_ret
          exact ⟨rfl, HBF.out⟩

theorem lexCuts_row (a0 : Option Addr) (len0 cap0 : Nat) (z0 : List Int) (a1 : Option Addr) (len1 cap1 : Nat) (z1 : List Int) (w : World) (hT : Tab w) (w0 : Row .u8 w a0 len0 cap0 z0) (w1 : Row .u8 w a1 len1 cap1 z1) :
    Calls Tryd.prog 7 #[.slice a0 len0 cap0, .slice a1 len1 cap1] w fun e w' => e = .returned (.bool true) ∧ Below w.heap.size w w' := by
  obtain ⟨xs, hx, h1, h2, h3⟩ := row_rb w0
  obtain ⟨ys, hy, k1, k2, k3⟩ := row_rb w1
  exact lexCuts_walk a0 a1 len0 len1 cap0 cap1 xs ys w h3 hx h1 h2 k3 hy k1 k2 hT

end Go.Proofs.YtiadbagfajhjfaaDoor.Lex
