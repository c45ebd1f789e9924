/-
  Layer 4 (lex): the chapter's examples hold in the program.
-/
import Derived.Test.YtoecimgmghlfpaaGreatDoorLexTokens
namespace Go.Proofs.YtoecimgmghlfpaaGreatDoor.Lex
open Go.ChangeShapes Go.WideShapes Go.ChangeAt Go.RowKit Utf MemT
set_option linter.unusedVariables false

/-- Tokens at a literal's bytes. -/
theorem tok_lit (K : List Int) (hb : K.all (fun x => decide (0 ≤ x ∧ x < 256)) = true) (n : Nat) (hn : K.length = n) (hs : n ≤ 1000) (w : World) (hT : Tab w) (fr : Nat × Nat) (g : Nat) (hg : g = w.heap.size) (E : Int) (N : Nat) (T : List Tok) (hE : lexE K = E) (hN : lexN K = N) (hTk : lexT K = T) :
    Calls Tryz.prog 54 #[.slice (some ⟨g, 0, none⟩) n n] (w.alloc (.cells (K.map (Value.int .u8)).toArray 5 fr)) fun e w' => ∃ v, e = .returned (.tuple #[v, .int .i64 (N : Int), .int .i64 E]) ∧ OwnT w' w.heap.size v T ∧ Below w.heap.size w w' := by
  subst hg; subst hn; subst hE; subst hN; subst hTk
  have hbel : Below w.heap.size w (w.alloc (.cells (K.map (Value.int .u8)).toArray 5 fr)) := (Below.refl _ _).alloc (Nat.le_refl _) _
  exact (tokens_any _ _ _ K _ _ (rb_mark w K 5 fr (fun x hx => by simpa using List.all_eq_true.1 hb x hx)) (by simp) rfl (Nat.le_refl _) (by unfold maxLen; omega) (by omega) (hT.below hbel hT.pos)).mono fun e w' ⟨v, h1, h2, h3⟩ =>
    ⟨v, h1, own_base h2 (by simp), hbel.trans (h3.mono (by simp))⟩

def k1 : List Int := [120, 32, 58, 61, 32, 49, 32, 47, 47, 32, 111, 110, 101, 10, 121]
def k2 : List Int := [102, 40, 10, 97, 41]
def k3 : List Int := [97, 32, 36]
def t1 : List Tok := [⟨1, [120], 0, true⟩, ⟨4, [58, 61], 2, false⟩, ⟨2, [49], 5, false⟩, ⟨6, [], 6, false⟩, ⟨5, [47, 47, 32, 111, 110, 101], 7, false⟩, ⟨1, [121], 14, true⟩, ⟨6, [], 15, false⟩]
def t2 : List Tok := [⟨1, [102], 0, true⟩, ⟨4, [40], 1, false⟩, ⟨1, [97], 3, true⟩, ⟨4, [41], 4, false⟩, ⟨6, [], 5, false⟩]
theorem k1_is : lexE k1 = 0 ∧ lexN k1 = 0 ∧ lexT k1 = t1 := by decide +kernel
theorem k2_is : lexE k2 = 0 ∧ lexN k2 = 0 ∧ lexT k2 = t2 := by decide +kernel
theorem k3_is : lexE k3 = 4 ∧ lexN k3 = 2 ∧ lexT k3 = [] := by decide +kernel

theorem ownT_rt {w : World} {base : Nat} {v : Value} {L : List Tok} (h : OwnT w base v L) : ∃ a c, v = .slice a L.length c ∧ L.length ≤ c ∧ c ≤ maxLen ∧ RT tokC 4 w w.heap.size a L := by
  obtain ⟨a, c, rfl, h1, h2⟩ := ownT_slice h
  exact ⟨a, c, rfl, h1, h2, own_rt tokC_len h rfl⟩

end Go.Proofs.YtoecimgmghlfpaaGreatDoor.Lex
