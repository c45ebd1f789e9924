/-
  Layer 5 (tree): which texts are names, and one token of a kind.
-/
import Derived.Test.YtoecimgmghlfpaaDoorJoinParts
import Derived.Test.YtoecimgmghlfpaaDoorLexRef
import Derived.Test.YtoecimgmghlfpaaDoorLexTokens
namespace Go.Proofs.YtoecimgmghlfpaaDoor.Tree
open Go.ChangeShapes Go.WideShapes Go.ChangeAt Go.RowKit Mem
set_option linter.unusedVariables false

/-- Is a text a name? -/
def nmB (x : ByteArray) : Bool := Lex.isName (Lex.nums x)
/-- Is a text one token of a kind? -/
def tkB (x : ByteArray) (k : Int) : Bool := decide (Lex.lexE (Lex.nums x) = 0) && (match Lex.lexT (Lex.nums x) with
  | [] => false
  | t :: _ => t.kind == k && (strOfNums t.text).toList == x.toList)

theorem nmB_any (x : ByteArray) (hx : x.size ≤ 1000000) (w : World) : Calls Tryd.prog 38 #[.string x] w fun e w' => e = .returned (.bool (nmB x)) ∧ Below w.heap.size w w' := by
  have := Lex.name_any (Lex.nums x) (Lex.nums_byt x) (by rw [Lex.nums_len]; exact hx) w
  rwa [Lex.str_nums] at this

set_option maxRecDepth 100000 in
set_option maxHeartbeats 4000000 in
theorem tkB_any (x : ByteArray) (k : Int) (hx : x.size ≤ 1000000) (w : World) (hT : Lex.Tab w) : Calls Tryd.prog 39 #[.string x, .int .i64 k] w fun e w' => e = .returned (.bool (tkB x k)) ∧ Below w.heap.size w w' := by
  obtain ⟨cc, W1, hconv, hc1, hc2, hbW, hrb⟩ := Lex.conv_str w x (by unfold maxLen; omega)
  have hln : (Lex.nums x).length = x.size := Lex.nums_len x
  have HTK := Lib.hid (Lex.tokens_any _ x.size cc (Lex.nums x) W1 _ hrb (Nat.le_refl _) hln hc1 hc2 hx (hT.below hbW hT.pos))
  have HBW := Lib.hid hbW
  have HV : Hid (tkB x k = (decide (Lex.lexE (Lex.nums x) = 0) && (match Lex.lexT (Lex.nums x) with
    | [] => false
    | t :: _ => t.kind == k && (strOfNums t.text).toList == x.toList))) := rfl
  unfold Lex.TokensPost at HTK
  generalize Lex.lexN (Lex.nums x) = N at *
  generalize Lex.lexE (Lex.nums x) = E at *
  generalize Lex.lexT (Lex.nums x) = L at *
  generalize tkB x k = bb at *
  clear hln hrb hbW hT
  go_enter Tryd.func39, Tryd.ntmps39
  go_wp2_with fail
  refine HTK.out.mono ?_
  rintro e w1 ⟨v1, rfl, ho1, hb1⟩
  obtain ⟨a1, c1, rfl, hl1, hl2⟩ := Lex.ownT_slice ho1
  have HRT := Lib.hid (MemT.own_rt Lex.tokC_len ho1 rfl)
  have HB := Lib.hid (HBW.out.trans (hb1.mono HBW.out.size))
  clear ho1 hb1 HTK hconv
  by_cases hE : E = 0
  · subst hE
    cases L with
    | nil =>
      have hv : bb = false := by rw [HV.out]; rfl
      subst hv
      clear HV HRT
      go_wp2
      go_ret
      exact ⟨rfl, HB.out⟩
    | cons t r =>
      obtain ⟨b1, rfl, _, hcell⟩ := HRT.out.at_ (by simp)
      have d0 : w1.cell? ⟨b1, 0, none⟩ = some (.int .i64 t.kind) := by have := hcell 0 t rfl 0 _ rfl; simpa using this
      have d1 : w1.cell? ⟨b1, 1, none⟩ = some (.string (strOfNums t.text)) := by have := hcell 0 t rfl 1 _ rfl; simpa using this
      have HV2 : Hid (bb = (t.kind == k && (strOfNums t.text).toList == x.toList)) := by show _ = _; rw [HV.out]; rfl
      generalize t.kind = tk at *
      generalize strOfNums t.text = ts at *
      have hn : ((r.length + 1 : Nat) : Int) > 0 := by omega
      simp only [List.length_cons] at hl1 ⊢
      generalize r.length + 1 = m at *
      have hn0 : (0 : Int) < (m : Int) := hn
      clear HV HRT hcell hl1 hl2 hn
      cases hk : (tk == k) with
      | false =>
        have hv : bb = false := by rw [HV2.out, hk]; rfl
        subst hv
        clear HV2
        go_wp2
        go_ret
        exact ⟨rfl, HB.out⟩
      | true =>
        cases hs : (ts.toList == x.toList) with
        | false =>
          have hv : bb = false := by rw [HV2.out, hk, hs]; rfl
          subst hv
          clear HV2
          go_wp2
          go_ret
          exact ⟨rfl, HB.out⟩
        | true =>
          have hv : bb = true := by rw [HV2.out, hk, hs]; rfl
          subst hv
          clear HV2
          go_wp2
          go_ret
          exact ⟨rfl, HB.out⟩
  · have hv : bb = false := by rw [HV.out, decide_eq_false hE]; rfl
    subst hv
    have he : (E == 0) = false := kno hE
    clear HV HRT hE
    go_wp2
    go_ret
    exact ⟨rfl, HB.out⟩
end Go.Proofs.YtoecimgmghlfpaaDoor.Tree
