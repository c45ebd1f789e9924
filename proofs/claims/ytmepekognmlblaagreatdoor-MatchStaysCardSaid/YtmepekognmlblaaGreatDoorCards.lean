/-
  DERIVED. GIVEN WITH THE SEED: THE CARDS: each row of YtmepekognmlblaaGreatDoorRows.lean that lists a variable, with what it lists TIED to the program's text (the seventh form; the later family's looks); each row that meets fmt, with fmt's text TOLD by the authors' own Lean function (tested against real Go, not proved from fmt's source: count such statements apart). THE CARD IS WHAT COUNTS. Prove the row's statement (the work); the ties are given (YtmepekognmlblaaGreatDoorTie.lean); close each card by the builder's one call (the guide's Derived/Test/ToyasCard.lean, 'card_holds'). Laid BY PROGRAM, IN A SANDBOX (cutbox-door.mjs). By AI agents, Wed Nov 11 2026. No macro, syntax, notation, axiom, sorry.
-/
import Derived.Test.YtmepekognmlblaaGreatDoorRows
import GoSem.ClaimSeven
namespace Go.Proofs.YtmepekognmlblaaGreatDoor
namespace Rows

/-- THE TIED CARD OF 'scarflaw11.MatchPairs'. -/
def matchPairsCard : Claim7 := { stood := { row := matchPairsRow, standIns := [], harness := (true, "437e2602ebd5c37b7f2adaeac45aee46e9984766e608eb1240a5f2b4aac8b1c5"), looks := false }, kinds := [], alts := [], laidByText := true, laidKinds := [.data, .data, .data, .data, .data, .pinned], laidTests := true, laidLooks := .later }
def MatchPairsCardSaid : Prop := Claim7.holds Tryz.pinned (.plain (OpenSpec.ofChange matchPairsSpec)) matchPairsCard

/-- THE TIED CARD OF 'scarflaw11.MatchSelf'. -/
def matchSelfCard : Claim7 := { stood := { row := matchSelfRow, standIns := [], harness := (true, "437e2602ebd5c37b7f2adaeac45aee46e9984766e608eb1240a5f2b4aac8b1c5"), looks := false }, kinds := [], alts := [], laidByText := true, laidKinds := [.data, .data, .data, .data, .data, .pinned], laidTests := true, laidLooks := .later }
def MatchSelfCardSaid : Prop := Claim7.holds Tryz.pinned (.plain (OpenSpec.ofChange matchSelfSpec)) matchSelfCard

/-- THE TIED CARD OF 'scarflaw11.MatchAnchors'. -/
def matchAnchorsCard : Claim7 := { stood := { row := matchAnchorsRow, standIns := [], harness := (true, "437e2602ebd5c37b7f2adaeac45aee46e9984766e608eb1240a5f2b4aac8b1c5"), looks := false }, kinds := [], alts := [], laidByText := true, laidKinds := [.data, .data, .data, .data, .data, .pinned], laidTests := true, laidLooks := .later }
def MatchAnchorsCardSaid : Prop := Claim7.holds Tryz.pinned (.plain (OpenSpec.ofChange matchAnchorsSpec)) matchAnchorsCard

/-- THE TIED CARD OF 'scarflaw11.MatchRight'. -/
def matchRightCard : Claim7 := { stood := { row := matchRightRow, standIns := [], harness := (true, "437e2602ebd5c37b7f2adaeac45aee46e9984766e608eb1240a5f2b4aac8b1c5"), looks := false }, kinds := [], alts := [], laidByText := true, laidKinds := [.data, .data, .data, .data, .data, .pinned], laidTests := true, laidLooks := .later }
def MatchRightCardSaid : Prop := Claim7.holds Tryz.pinned (.plain (OpenSpec.ofChange matchRightSpec)) matchRightCard

/-- THE TIED CARD OF 'scarflaw11.MatchStays'. -/
def matchStaysCard : Claim7 := { stood := { row := matchStaysRow, standIns := [], harness := (true, "437e2602ebd5c37b7f2adaeac45aee46e9984766e608eb1240a5f2b4aac8b1c5"), looks := false }, kinds := [], alts := [], laidByText := true, laidKinds := [.data, .data, .data, .data, .data, .pinned], laidTests := true, laidLooks := .later }
def MatchStaysCardSaid : Prop := Claim7.holds Tryz.pinned (.plain (OpenSpec.ofChange matchStaysSpec)) matchStaysCard

/-- THE TIED CARD OF 'scarflaw11.MatchLong'. -/
def matchLongCard : Claim7 := { stood := { row := matchLongRow, standIns := [], harness := (true, "437e2602ebd5c37b7f2adaeac45aee46e9984766e608eb1240a5f2b4aac8b1c5"), looks := false }, kinds := [], alts := [], laidByText := true, laidKinds := [.data, .data, .data, .data, .data, .pinned], laidTests := true, laidLooks := .later }
def MatchLongCardSaid : Prop := Claim7.holds Tryz.pinned (.plain (OpenSpec.ofChange matchLongSpec)) matchLongCard

/-- THE TIED CARD OF 'scarflaw11.MatchCounts'. -/
def matchCountsCard : Claim7 := { stood := { row := matchCountsRow, standIns := [], harness := (true, "437e2602ebd5c37b7f2adaeac45aee46e9984766e608eb1240a5f2b4aac8b1c5"), looks := false }, kinds := [], alts := [], laidByText := true, laidKinds := [.data, .data, .data, .data, .data, .pinned], laidTests := true, laidLooks := .later }
def MatchCountsCardSaid : Prop := Claim7.holds Tryz.pinned (.plain (OpenSpec.ofChange matchCountsSpec)) matchCountsCard

/-- THE SECOND FORM's CARD OF 'scarflaw11.MatchPairs'. -/
def matchPairsUptoCard : Claim7 := { stood := { row := matchPairsUptoRow, standIns := [], harness := (true, "437e2602ebd5c37b7f2adaeac45aee46e9984766e608eb1240a5f2b4aac8b1c5"), looks := false }, kinds := [], alts := [], laidByText := true, laidKinds := [.data, .data, .data, .data, .data, .pinned], laidTests := true, laidLooks := .later }
def MatchPairsUptoCardSaid : Prop := Claim7.holds Tryz.pinned (.plain (OpenSpec.upto matchPairsSpec)) matchPairsUptoCard

/-- THE SECOND FORM's CARD OF 'scarflaw11.MatchSelf'. -/
def matchSelfUptoCard : Claim7 := { stood := { row := matchSelfUptoRow, standIns := [], harness := (true, "437e2602ebd5c37b7f2adaeac45aee46e9984766e608eb1240a5f2b4aac8b1c5"), looks := false }, kinds := [], alts := [], laidByText := true, laidKinds := [.data, .data, .data, .data, .data, .pinned], laidTests := true, laidLooks := .later }
def MatchSelfUptoCardSaid : Prop := Claim7.holds Tryz.pinned (.plain (OpenSpec.upto matchSelfSpec)) matchSelfUptoCard

/-- THE SECOND FORM's CARD OF 'scarflaw11.MatchAnchors'. -/
def matchAnchorsUptoCard : Claim7 := { stood := { row := matchAnchorsUptoRow, standIns := [], harness := (true, "437e2602ebd5c37b7f2adaeac45aee46e9984766e608eb1240a5f2b4aac8b1c5"), looks := false }, kinds := [], alts := [], laidByText := true, laidKinds := [.data, .data, .data, .data, .data, .pinned], laidTests := true, laidLooks := .later }
def MatchAnchorsUptoCardSaid : Prop := Claim7.holds Tryz.pinned (.plain (OpenSpec.upto matchAnchorsSpec)) matchAnchorsUptoCard

/-- THE SECOND FORM's CARD OF 'scarflaw11.MatchRight'. -/
def matchRightUptoCard : Claim7 := { stood := { row := matchRightUptoRow, standIns := [], harness := (true, "437e2602ebd5c37b7f2adaeac45aee46e9984766e608eb1240a5f2b4aac8b1c5"), looks := false }, kinds := [], alts := [], laidByText := true, laidKinds := [.data, .data, .data, .data, .data, .pinned], laidTests := true, laidLooks := .later }
def MatchRightUptoCardSaid : Prop := Claim7.holds Tryz.pinned (.plain (OpenSpec.upto matchRightSpec)) matchRightUptoCard

/-- THE SECOND FORM's CARD OF 'scarflaw11.MatchStays'. -/
def matchStaysUptoCard : Claim7 := { stood := { row := matchStaysUptoRow, standIns := [], harness := (true, "437e2602ebd5c37b7f2adaeac45aee46e9984766e608eb1240a5f2b4aac8b1c5"), looks := false }, kinds := [], alts := [], laidByText := true, laidKinds := [.data, .data, .data, .data, .data, .pinned], laidTests := true, laidLooks := .later }
def MatchStaysUptoCardSaid : Prop := Claim7.holds Tryz.pinned (.plain (OpenSpec.upto matchStaysSpec)) matchStaysUptoCard

/-- THE SECOND FORM's CARD OF 'scarflaw11.MatchLong'. -/
def matchLongUptoCard : Claim7 := { stood := { row := matchLongUptoRow, standIns := [], harness := (true, "437e2602ebd5c37b7f2adaeac45aee46e9984766e608eb1240a5f2b4aac8b1c5"), looks := false }, kinds := [], alts := [], laidByText := true, laidKinds := [.data, .data, .data, .data, .data, .pinned], laidTests := true, laidLooks := .later }
def MatchLongUptoCardSaid : Prop := Claim7.holds Tryz.pinned (.plain (OpenSpec.upto matchLongSpec)) matchLongUptoCard

/-- THE SECOND FORM's CARD OF 'scarflaw11.MatchCounts'. -/
def matchCountsUptoCard : Claim7 := { stood := { row := matchCountsUptoRow, standIns := [], harness := (true, "437e2602ebd5c37b7f2adaeac45aee46e9984766e608eb1240a5f2b4aac8b1c5"), looks := false }, kinds := [], alts := [], laidByText := true, laidKinds := [.data, .data, .data, .data, .data, .pinned], laidTests := true, laidLooks := .later }
def MatchCountsUptoCardSaid : Prop := Claim7.holds Tryz.pinned (.plain (OpenSpec.upto matchCountsSpec)) matchCountsUptoCard
end Rows
end Go.Proofs.YtmepekognmlblaaGreatDoor
