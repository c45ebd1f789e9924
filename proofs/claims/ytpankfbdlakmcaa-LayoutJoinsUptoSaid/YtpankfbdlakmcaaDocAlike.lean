/-
  Layer 7 (doc): alike: the same pieces.
-/
import Derived.Test.YtpankfbdlakmcaaDocFew
import Derived.BigQuiet
import Derived.Deep.QuietTactic
import Derived.Laws.StructEq
namespace Go.Proofs.Ytpankfbdlakmcaa.Doc
open Go.ChangeShapes Go.WideShapes Go.ChangeAt Go.RowKit Mem
set_option linter.unusedVariables false

end Go.Proofs.Ytpankfbdlakmcaa.Doc
