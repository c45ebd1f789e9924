/-
  DERIVED. GIVEN WITH THE SEED: THE CARDS: each row of YtaiihnniblibaaaGreatDoorRows.lean that lists a variable, with what it lists TIED to the program's text (the seventh form; the later family's looks); each row that meets fmt, with fmt's text TOLD by the authors' own Lean function (tested against real Go, not proved from fmt's source: count such statements apart). THE CARD IS WHAT COUNTS. Prove the row's statement (the work); the ties are given (YtaiihnniblibaaaGreatDoorTie.lean); close each card by the builder's one call (the guide's Derived/Test/ToyasCard.lean, 'card_holds'). Laid BY PROGRAM, IN A SANDBOX (cutbox-door.mjs). By AI agents, Wed Nov 11 2026. No macro, syntax, notation, axiom, sorry.
-/
import Derived.Test.YtaiihnniblibaaaGreatDoorRows
import GoSem.ClaimSeven
namespace Go.Proofs.YtaiihnniblibaaaGreatDoor
namespace Rows

/-- THE TIED CARD OF 'scarflaw06.ParseSpells'. -/
def parseSpellsCard : Claim7 := { stood := { row := parseSpellsRow, standIns := [], harness := (true, "81414520eb14035d0e6c34a757a3d73b74e50ca687a7bef3fc0bb527963e0e40"), looks := true }, kinds := [], alts := [], laidByText := true, laidKinds := [.data, .data, .pinned], laidTests := true, laidLooks := .later }
def ParseSpellsCardSaid : Prop := Claim7.holds Tryz.pinned (.plain (OpenSpec.ofChange parseSpellsSpec)) parseSpellsCard

/-- THE TIED CARD OF 'scarflaw06.ParseBlanks'. -/
def parseBlanksCard : Claim7 := { stood := { row := parseBlanksRow, standIns := [], harness := (true, "81414520eb14035d0e6c34a757a3d73b74e50ca687a7bef3fc0bb527963e0e40"), looks := true }, kinds := [], alts := [], laidByText := true, laidKinds := [.data, .data, .pinned], laidTests := true, laidLooks := .later }
def ParseBlanksCardSaid : Prop := Claim7.holds Tryz.pinned (.plain (OpenSpec.ofChange parseBlanksSpec)) parseBlanksCard

/-- THE TIED CARD OF 'scarflaw06.ParseJoins'. -/
def parseJoinsCard : Claim7 := { stood := { row := parseJoinsRow, standIns := [], harness := (true, "81414520eb14035d0e6c34a757a3d73b74e50ca687a7bef3fc0bb527963e0e40"), looks := true }, kinds := [], alts := [], laidByText := true, laidKinds := [.data, .data, .pinned], laidTests := true, laidLooks := .later }
def ParseJoinsCardSaid : Prop := Claim7.holds Tryz.pinned (.plain (OpenSpec.ofChange parseJoinsSpec)) parseJoinsCard

/-- THE SECOND FORM's CARD OF 'scarflaw06.ParseSpells'. -/
def parseSpellsUptoCard : Claim7 := { stood := { row := parseSpellsUptoRow, standIns := [], harness := (true, "81414520eb14035d0e6c34a757a3d73b74e50ca687a7bef3fc0bb527963e0e40"), looks := true }, kinds := [], alts := [], laidByText := true, laidKinds := [.data, .data, .pinned], laidTests := true, laidLooks := .later }
def ParseSpellsUptoCardSaid : Prop := Claim7.holds Tryz.pinned (.plain (OpenSpec.upto parseSpellsSpec)) parseSpellsUptoCard

/-- THE SECOND FORM's CARD OF 'scarflaw06.ParseBlanks'. -/
def parseBlanksUptoCard : Claim7 := { stood := { row := parseBlanksUptoRow, standIns := [], harness := (true, "81414520eb14035d0e6c34a757a3d73b74e50ca687a7bef3fc0bb527963e0e40"), looks := true }, kinds := [], alts := [], laidByText := true, laidKinds := [.data, .data, .pinned], laidTests := true, laidLooks := .later }
def ParseBlanksUptoCardSaid : Prop := Claim7.holds Tryz.pinned (.plain (OpenSpec.upto parseBlanksSpec)) parseBlanksUptoCard

/-- THE SECOND FORM's CARD OF 'scarflaw06.ParseJoins'. -/
def parseJoinsUptoCard : Claim7 := { stood := { row := parseJoinsUptoRow, standIns := [], harness := (true, "81414520eb14035d0e6c34a757a3d73b74e50ca687a7bef3fc0bb527963e0e40"), looks := true }, kinds := [], alts := [], laidByText := true, laidKinds := [.data, .data, .pinned], laidTests := true, laidLooks := .later }
def ParseJoinsUptoCardSaid : Prop := Claim7.holds Tryz.pinned (.plain (OpenSpec.upto parseJoinsSpec)) parseJoinsUptoCard
end Rows
end Go.Proofs.YtaiihnniblibaaaGreatDoor
