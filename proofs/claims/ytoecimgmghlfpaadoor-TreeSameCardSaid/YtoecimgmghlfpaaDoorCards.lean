/-
  DERIVED. GIVEN WITH THE SEED: THE CARDS: each row of YtoecimgmghlfpaaDoorRows.lean that lists a variable, with what it lists TIED to the program's text (the seventh form; the later family's looks); each row that meets fmt, with fmt's text TOLD by the authors' own Lean function (tested against real Go, not proved from fmt's source: count such statements apart). THE CARD IS WHAT COUNTS. Prove the row's statement (the work); the ties are given (YtoecimgmghlfpaaDoorTie.lean); close each card by the builder's one call (the guide's Derived/Test/ToyasCard.lean, 'card_holds'). Laid BY PROGRAM, IN A SANDBOX (cutbox-door.mjs). By AI agents, Wed Nov 11 2026. No macro, syntax, notation, axiom, sorry.
-/
import Derived.Test.YtoecimgmghlfpaaDoorRows
import GoSem.ClaimSeven
namespace Go.Proofs.YtoecimgmghlfpaaDoor
namespace Rows

/-- THE TIED CARD OF 'scarflaw05.TreeSame'. -/
def treeSameCard : Claim7 := { stood := { row := treeSameRow, standIns := [], harness := (true, "6d53cbc50575f1efd0eef195326719935ccef64b8a7f15cf16060aab7f3fcf4d"), looks := false }, kinds := [], alts := [], laidByText := true, laidKinds := [.data, .data, .pinned], laidTests := true, laidLooks := .later }
def TreeSameCardSaid : Prop := Claim7.holds Tryd.pinned (.plain (OpenSpec.ofChange treeSameSpec)) treeSameCard

/-- THE TIED CARD OF 'scarflaw05.TreeParens'. -/
def treeParensCard : Claim7 := { stood := { row := treeParensRow, standIns := [], harness := (true, "6d53cbc50575f1efd0eef195326719935ccef64b8a7f15cf16060aab7f3fcf4d"), looks := false }, kinds := [], alts := [], laidByText := true, laidKinds := [.data, .data, .pinned], laidTests := true, laidLooks := .later }
def TreeParensCardSaid : Prop := Claim7.holds Tryd.pinned (.plain (OpenSpec.ofChange treeParensSpec)) treeParensCard

/-- THE SECOND FORM's CARD OF 'scarflaw05.TreeSame'. -/
def treeSameUptoCard : Claim7 := { stood := { row := treeSameUptoRow, standIns := [], harness := (true, "6d53cbc50575f1efd0eef195326719935ccef64b8a7f15cf16060aab7f3fcf4d"), looks := false }, kinds := [], alts := [], laidByText := true, laidKinds := [.data, .data, .pinned], laidTests := true, laidLooks := .later }
def TreeSameUptoCardSaid : Prop := Claim7.holds Tryd.pinned (.plain (OpenSpec.upto treeSameSpec)) treeSameUptoCard

/-- THE SECOND FORM's CARD OF 'scarflaw05.TreeParens'. -/
def treeParensUptoCard : Claim7 := { stood := { row := treeParensUptoRow, standIns := [], harness := (true, "6d53cbc50575f1efd0eef195326719935ccef64b8a7f15cf16060aab7f3fcf4d"), looks := false }, kinds := [], alts := [], laidByText := true, laidKinds := [.data, .data, .pinned], laidTests := true, laidLooks := .later }
def TreeParensUptoCardSaid : Prop := Claim7.holds Tryd.pinned (.plain (OpenSpec.upto treeParensSpec)) treeParensUptoCard
end Rows
end Go.Proofs.YtoecimgmghlfpaaDoor
