/-
  DERIVED. GIVEN WITH THE SEED: THE CARDS: each row of YtoecimgmghlfpaaGreatDoorRows.lean that lists a variable, with what it lists TIED to the program's text (the seventh form; the later family's looks); each row that meets fmt, with fmt's text TOLD by the authors' own Lean function (tested against real Go, not proved from fmt's source: count such statements apart). THE CARD IS WHAT COUNTS. Prove the row's statement (the work); the ties are given (YtoecimgmghlfpaaGreatDoorTie.lean); close each card by the builder's one call (the guide's Derived/Test/ToyasCard.lean, 'card_holds'). Laid BY PROGRAM, IN A SANDBOX (cutbox-door.mjs). By AI agents, Wed Nov 11 2026. No macro, syntax, notation, axiom, sorry.
-/
import Derived.Test.YtoecimgmghlfpaaGreatDoorRows
import GoSem.ClaimSeven
namespace Go.Proofs.YtoecimgmghlfpaaGreatDoor
namespace Rows

/-- THE TIED CARD OF 'scarflaw05.TreeRight'. -/
def treeRightCard : Claim7 := { stood := { row := treeRightRow, standIns := [], harness := (true, "320ffec5f78e41ec12930826cc89a0a0c72937f1b63f3d5d4e28bfbf351d38ba"), looks := false }, kinds := [], alts := [], laidByText := true, laidKinds := [.data, .data, .pinned], laidTests := true, laidLooks := .later }
def TreeRightCardSaid : Prop := Claim7.holds Tryz.pinned (.plain (OpenSpec.ofChange treeRightSpec)) treeRightCard

/-- THE TIED CARD OF 'scarflaw05.TreeSpoils'. -/
def treeSpoilsCard : Claim7 := { stood := { row := treeSpoilsRow, standIns := [], harness := (true, "320ffec5f78e41ec12930826cc89a0a0c72937f1b63f3d5d4e28bfbf351d38ba"), looks := false }, kinds := [], alts := [], laidByText := true, laidKinds := [.data, .data, .pinned], laidTests := true, laidLooks := .later }
def TreeSpoilsCardSaid : Prop := Claim7.holds Tryz.pinned (.plain (OpenSpec.ofChange treeSpoilsSpec)) treeSpoilsCard

/-- THE TIED CARD OF 'scarflaw05.TreeDeep'. -/
def treeDeepCard : Claim7 := { stood := { row := treeDeepRow, standIns := [], harness := (true, "320ffec5f78e41ec12930826cc89a0a0c72937f1b63f3d5d4e28bfbf351d38ba"), looks := false }, kinds := [], alts := [], laidByText := true, laidKinds := [.data, .data, .pinned], laidTests := true, laidLooks := .later }
def TreeDeepCardSaid : Prop := Claim7.holds Tryz.pinned (.plain (OpenSpec.ofChange treeDeepSpec)) treeDeepCard

/-- THE TIED CARD OF 'scarflaw05.TreeNotes'. -/
def treeNotesCard : Claim7 := { stood := { row := treeNotesRow, standIns := [], harness := (true, "320ffec5f78e41ec12930826cc89a0a0c72937f1b63f3d5d4e28bfbf351d38ba"), looks := false }, kinds := [], alts := [], laidByText := true, laidKinds := [.data, .data, .pinned], laidTests := true, laidLooks := .later }
def TreeNotesCardSaid : Prop := Claim7.holds Tryz.pinned (.plain (OpenSpec.ofChange treeNotesSpec)) treeNotesCard

/-- THE SECOND FORM's CARD OF 'scarflaw05.TreeRight'. -/
def treeRightUptoCard : Claim7 := { stood := { row := treeRightUptoRow, standIns := [], harness := (true, "320ffec5f78e41ec12930826cc89a0a0c72937f1b63f3d5d4e28bfbf351d38ba"), looks := false }, kinds := [], alts := [], laidByText := true, laidKinds := [.data, .data, .pinned], laidTests := true, laidLooks := .later }
def TreeRightUptoCardSaid : Prop := Claim7.holds Tryz.pinned (.plain (OpenSpec.upto treeRightSpec)) treeRightUptoCard

/-- THE SECOND FORM's CARD OF 'scarflaw05.TreeSpoils'. -/
def treeSpoilsUptoCard : Claim7 := { stood := { row := treeSpoilsUptoRow, standIns := [], harness := (true, "320ffec5f78e41ec12930826cc89a0a0c72937f1b63f3d5d4e28bfbf351d38ba"), looks := false }, kinds := [], alts := [], laidByText := true, laidKinds := [.data, .data, .pinned], laidTests := true, laidLooks := .later }
def TreeSpoilsUptoCardSaid : Prop := Claim7.holds Tryz.pinned (.plain (OpenSpec.upto treeSpoilsSpec)) treeSpoilsUptoCard

/-- THE SECOND FORM's CARD OF 'scarflaw05.TreeDeep'. -/
def treeDeepUptoCard : Claim7 := { stood := { row := treeDeepUptoRow, standIns := [], harness := (true, "320ffec5f78e41ec12930826cc89a0a0c72937f1b63f3d5d4e28bfbf351d38ba"), looks := false }, kinds := [], alts := [], laidByText := true, laidKinds := [.data, .data, .pinned], laidTests := true, laidLooks := .later }
def TreeDeepUptoCardSaid : Prop := Claim7.holds Tryz.pinned (.plain (OpenSpec.upto treeDeepSpec)) treeDeepUptoCard

/-- THE SECOND FORM's CARD OF 'scarflaw05.TreeNotes'. -/
def treeNotesUptoCard : Claim7 := { stood := { row := treeNotesUptoRow, standIns := [], harness := (true, "320ffec5f78e41ec12930826cc89a0a0c72937f1b63f3d5d4e28bfbf351d38ba"), looks := false }, kinds := [], alts := [], laidByText := true, laidKinds := [.data, .data, .pinned], laidTests := true, laidLooks := .later }
def TreeNotesUptoCardSaid : Prop := Claim7.holds Tryz.pinned (.plain (OpenSpec.upto treeNotesSpec)) treeNotesUptoCard
end Rows
end Go.Proofs.YtoecimgmghlfpaaGreatDoor
