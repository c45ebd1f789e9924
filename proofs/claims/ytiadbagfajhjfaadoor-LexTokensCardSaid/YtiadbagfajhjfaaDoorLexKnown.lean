/-
  Layer 4 (lex): the chapter's examples hold in the program.
-/
import Derived.Test.YtiadbagfajhjfaaDoorLexTokens
namespace Go.Proofs.YtiadbagfajhjfaaDoor.Lex
open Go.ChangeShapes Go.WideShapes Go.ChangeAt Go.RowKit Utf MemT
set_option linter.unusedVariables false

/-- Tokens at a literal's bytes. -/
theorem tok_lit (K : List Int) (hb : K.all (fun x => decide (0 ≤ x ∧ x < 256)) = true) (n : Nat) (hn : K.length = n) (hs : n ≤ 1000) (w : World) (hT : Tab w) (fr : Nat × Nat) (g : Nat) (hg : g = w.heap.size) (E : Int) (N : Nat) (T : List Tok) (hE : lexE K = E) (hN : lexN K = N) (hTk : lexT K = T) :
    Calls Tryd.prog 9 #[.slice (some ⟨g, 0, none⟩) n n] (w.alloc (.cells (K.map (Value.int .u8)).toArray 5 fr)) fun e w' => ∃ v, e = .returned (.tuple #[v, .int .i64 (N : Int), .int .i64 E]) ∧ OwnT w' w.heap.size v T ∧ Below w.heap.size w w' := by
  subst hg; subst hn; subst hE; subst hN; subst hTk
  have hbel : Below w.heap.size w (w.alloc (.cells (K.map (Value.int .u8)).toArray 5 fr)) := (Below.refl _ _).alloc (Nat.le_refl _) _
  exact (tokens_any _ _ _ K _ _ (rb_mark w K 5 fr (fun x hx => by simpa using List.all_eq_true.1 hb x hx)) (by simp) rfl (Nat.le_refl _) (by unfold maxLen; omega) (by omega) (hT.below hbel hT.pos)).mono fun e w' ⟨v, h1, h2, h3⟩ =>
    ⟨v, h1, own_base h2 (by simp), hbel.trans (h3.mono (by simp))⟩

def k1 : List Int := [120, 32, 58, 61, 32, 49, 32, 47, 47, 32, 111, 110, 101, 10, 121]
def k2 : List Int := [102, 40, 10, 97, 41]
def k3 : List Int := [97, 32, 36]
def t1 : List Tok := [⟨1, [120], 0, true⟩, ⟨4, [58, 61], 2, false⟩, ⟨2, [49], 5, false⟩, ⟨6, [], 6, false⟩, ⟨5, [47, 47, 32, 111, 110, 101], 7, false⟩, ⟨1, [121], 14, true⟩, ⟨6, [], 15, false⟩]
def t2 : List Tok := [⟨1, [102], 0, true⟩, ⟨4, [40], 1, false⟩, ⟨1, [97], 3, true⟩, ⟨4, [41], 4, false⟩, ⟨6, [], 5, false⟩]
theorem k1_is : lexE k1 = 0 ∧ lexN k1 = 0 ∧ lexT k1 = t1 := by decide +kernel
theorem k2_is : lexE k2 = 0 ∧ lexN k2 = 0 ∧ lexT k2 = t2 := by decide +kernel
theorem k3_is : lexE k3 = 4 ∧ lexN k3 = 2 ∧ lexT k3 = [] := by decide +kernel

theorem ownT_rt {w : World} {base : Nat} {v : Value} {L : List Tok} (h : OwnT w base v L) : ∃ a c, v = .slice a L.length c ∧ L.length ≤ c ∧ c ≤ maxLen ∧ RT tokC 4 w w.heap.size a L := by
  obtain ⟨a, c, rfl, h1, h2⟩ := ownT_slice h
  exact ⟨a, c, rfl, h1, h2, own_rt tokC_len h rfl⟩

set_option maxRecDepth 100000 in
set_option maxHeartbeats 4000000 in
theorem known_any (w : World) (hT : Tab w) :
    Calls Tryd.prog 11 #[] w fun e w' => e = .returned (.bool true) ∧ Below w.heap.size w w' := by
  have kc1 : (convert 22 22 (.slice (some ⟨w.heap.size, 0, none⟩) 15 15)).run Tryd.prog (w.alloc (.cells #[.int .u8 120, .int .u8 32, .int .u8 58, .int .u8 61, .int .u8 32, .int .u8 49, .int .u8 32, .int .u8 47, .int .u8 47, .int .u8 32, .int .u8 111, .int .u8 110, .int .u8 101, .int .u8 10, .int .u8 121] 5)) = .ok (.slice (some ⟨w.heap.size, 0, none⟩) 15 15) (w.alloc (.cells #[.int .u8 120, .int .u8 32, .int .u8 58, .int .u8 61, .int .u8 32, .int .u8 49, .int .u8 32, .int .u8 47, .int .u8 47, .int .u8 32, .int .u8 111, .int .u8 110, .int .u8 101, .int .u8 10, .int .u8 121] 5 (15, 16))) :=
    Lib.run_convert_bytes_const (P := Tryd.prog) w 22 5 _ 15 15 Tryd.underlying22 Tryd.underlying5
  have H1 := Lib.hid (tok_lit k1 (by decide) 15 rfl (by omega) w hT (15, 16) _ rfl 0 0 t1 k1_is.1 k1_is.2.1 k1_is.2.2)
  have q1 : ∀ w, (binOp .eql 32 (.agg #[.int .i64 6, .string ⟨#[]⟩, .int .i64 6, .bool false]) (.agg #[.int .i64 6, .string ⟨#[]⟩, .int .i64 6, .bool false])).run Tryd.prog w = .ok (.bool true) w := fun w => by kernel_rfl
  have q2 : ∀ w, (binOp .eql 32 (.agg #[.int .i64 5, .string ⟨#[47, 47, 32, 111, 110, 101]⟩, .int .i64 7, .bool false]) (.agg #[.int .i64 5, .string ⟨#[47, 47, 32, 111, 110, 101]⟩, .int .i64 7, .bool false])).run Tryd.prog w = .ok (.bool true) w := fun w => by kernel_rfl
  have HT := Lib.hid hT
  clear hT
  go_enter Tryd.func11, Tryd.ntmps11
  go_wp2_with fail
  refine H1.out.mono ?_
  rintro e w1 ⟨v1, rfl, ho1, hb1⟩
  have HT1 := Lib.hid (HT.out.below hb1 HT.out.pos)
  have HO1 := Lib.hid ho1; have HB1 := Lib.hid hb1
  clear ho1 hb1 kc1
  have kc2 : (convert 22 22 (.slice (some ⟨w1.heap.size, 0, none⟩) 5 5)).run Tryd.prog (w1.alloc (.cells #[.int .u8 102, .int .u8 40, .int .u8 10, .int .u8 97, .int .u8 41] 5)) = .ok (.slice (some ⟨w1.heap.size, 0, none⟩) 5 5) (w1.alloc (.cells #[.int .u8 102, .int .u8 40, .int .u8 10, .int .u8 97, .int .u8 41] 5 (5, 6))) :=
    Lib.run_convert_bytes_const (P := Tryd.prog) w1 22 5 _ 5 5 Tryd.underlying22 Tryd.underlying5
  have H2 := Lib.hid (tok_lit k2 (by decide) 5 rfl (by omega) w1 HT1.out (5, 6) _ rfl 0 0 t2 k2_is.1 k2_is.2.1 k2_is.2.2)
  go_wp2_with fail
  refine H2.out.mono ?_
  rintro e w2 ⟨v2, rfl, ho2, hb2⟩
  have HT2 := Lib.hid (HT1.out.below hb2 HT1.out.pos)
  have HO2 := Lib.hid ho2; have HB2 := Lib.hid hb2
  clear ho2 hb2 kc2
  have kc3 : (convert 22 22 (.slice (some ⟨w2.heap.size, 0, none⟩) 3 3)).run Tryd.prog (w2.alloc (.cells #[.int .u8 97, .int .u8 32, .int .u8 36] 5)) = .ok (.slice (some ⟨w2.heap.size, 0, none⟩) 3 3) (w2.alloc (.cells #[.int .u8 97, .int .u8 32, .int .u8 36] 5 (3, 4))) :=
    Lib.run_convert_bytes_const (P := Tryd.prog) w2 22 5 _ 3 3 Tryd.underlying22 Tryd.underlying5
  have H3 := Lib.hid (tok_lit k3 (by decide) 3 rfl (by omega) w2 HT2.out (3, 4) _ rfl 4 2 [] k3_is.1 k3_is.2.1 k3_is.2.2)
  go_wp2_with fail
  refine H3.out.mono ?_
  rintro e w3 ⟨v3, rfl, ho3, hb3⟩
  have HBE := Lib.hid (HB1.out.trans ((HB2.out.mono (by have := HB1.out.size; omega)).trans (hb3.mono (by have := HB1.out.size; have := HB2.out.size; omega))))
  obtain ⟨a1, c1, e1, hc1, hc1', hr1⟩ := ownT_rt HO1.out
  obtain ⟨a2, c2, e2, _, _, _⟩ := ownT_rt HO2.out
  change v1 = .slice a1 7 c1 at e1
  change v2 = .slice a2 5 c2 at e2
  subst e1; subst e2
  obtain ⟨b1, rfl, hb1, hcell⟩ := ((hr1.below HB2.out (Nat.le_refl _)).below hb3 HB2.out.size).at_ (by decide)
  have d30 : w3.cell? ⟨b1, 12, none⟩ = some (.int .i64 6) := hcell 3 _ rfl 0 _ rfl
  have d31 : w3.cell? ⟨b1, 13, none⟩ = some (.string ⟨#[]⟩) := hcell 3 _ rfl 1 _ rfl
  have d32 : w3.cell? ⟨b1, 14, none⟩ = some (.int .i64 6) := hcell 3 _ rfl 2 _ rfl
  have d33 : w3.cell? ⟨b1, 15, none⟩ = some (.bool false) := hcell 3 _ rfl 3 _ rfl
  have d40 : w3.cell? ⟨b1, 16, none⟩ = some (.int .i64 5) := hcell 4 _ rfl 0 _ rfl
  have d41 : w3.cell? ⟨b1, 17, none⟩ = some (.string ⟨#[47, 47, 32, 111, 110, 101]⟩) := hcell 4 _ rfl 1 _ rfl
  have d42 : w3.cell? ⟨b1, 18, none⟩ = some (.int .i64 7) := hcell 4 _ rfl 2 _ rfl
  have d43 : w3.cell? ⟨b1, 19, none⟩ = some (.bool false) := hcell 4 _ rfl 3 _ rfl
  have d53 : w3.cell? ⟨b1, 23, none⟩ = some (.bool true) := hcell 5 _ rfl 3 _ rfl
  clear hcell hr1 ho3 hb3 HO1 HO2 HB1 HB2 HT1 HT2 HT kc3 H1 H2 H3
  go_wp2_with fail
  go_ret
  exact ⟨rfl, HBE.out⟩

end Go.Proofs.YtiadbagfajhjfaaDoor.Lex
