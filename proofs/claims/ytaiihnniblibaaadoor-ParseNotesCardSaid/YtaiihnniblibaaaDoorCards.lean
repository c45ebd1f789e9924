/-
  DERIVED. GIVEN WITH THE SEED: THE CARDS: each row of YtaiihnniblibaaaDoorRows.lean that lists a variable, with what it lists TIED to the program's text (the seventh form; the later family's looks); each row that meets fmt, with fmt's text TOLD by the authors' own Lean function (tested against real Go, not proved from fmt's source: count such statements apart). THE CARD IS WHAT COUNTS. Prove the row's statement (the work); the ties are given (YtaiihnniblibaaaDoorTie.lean); close each card by the builder's one call (the guide's Derived/Test/ToyasCard.lean, 'card_holds'). Laid BY PROGRAM, IN A SANDBOX (cutbox-door.mjs). By AI agents, Wed Nov 11 2026. No macro, syntax, notation, axiom, sorry.
-/
import Derived.Test.YtaiihnniblibaaaDoorRows
import GoSem.ClaimSeven
namespace Go.Proofs.YtaiihnniblibaaaDoor
namespace Rows

/-- THE TIED CARD OF 'scarflaw06.ParseNotes'. -/
def parseNotesCard : Claim7 := { stood := { row := parseNotesRow, standIns := [], harness := (true, "21e7c54dbcd49a452533d936952a50b869616ba54e648d79830e3151f6ec0c58"), looks := true }, kinds := [], alts := [], laidByText := true, laidKinds := [.data, .data, .pinned], laidTests := true, laidLooks := .later }
def ParseNotesCardSaid : Prop := Claim7.holds Tryd.pinned (.plain (OpenSpec.ofChange parseNotesSpec)) parseNotesCard

/-- THE SECOND FORM's CARD OF 'scarflaw06.ParseNotes'. -/
def parseNotesUptoCard : Claim7 := { stood := { row := parseNotesUptoRow, standIns := [], harness := (true, "21e7c54dbcd49a452533d936952a50b869616ba54e648d79830e3151f6ec0c58"), looks := true }, kinds := [], alts := [], laidByText := true, laidKinds := [.data, .data, .pinned], laidTests := true, laidLooks := .later }
def ParseNotesUptoCardSaid : Prop := Claim7.holds Tryd.pinned (.plain (OpenSpec.upto parseNotesSpec)) parseNotesUptoCard
end Rows
end Go.Proofs.YtaiihnniblibaaaDoor
