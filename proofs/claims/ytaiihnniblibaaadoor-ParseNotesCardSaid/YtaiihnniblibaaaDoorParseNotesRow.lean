/-
 Layer 6 (parse): ParseNotes at a row as the frame gives it.
-/
import Derived.Test.YtaiihnniblibaaaDoorParseNotesLaw
namespace Go.Proofs.YtaiihnniblibaaaDoor.Parse
open Go.ChangeShapes Go.WideShapes Go.ChangeAt Go.RowKit Utf MemT

theorem parseNotes_of (a0 : Option Addr) (len0 cap0 : Nat) (z0 : List Int) (w : World) (hT : Lex.Tab w) (w0 : Row .u8 w a0 len0 cap0 z0) :
  Calls Tryd.prog 3 #[.slice a0 len0 cap0] w fun e w' => e = .returned (.bool true) ∧ Below w.heap.size w w' := by
 obtain ⟨xs, hx, h1, h2, h3⟩ := row_rb w0
 exact parseNotes_walk a0 len0 cap0 xs w h3 hx h1 h2 hT

end Go.Proofs.YtaiihnniblibaaaDoor.Parse
