/-
  Lists of data, rows of cuts: what NvramCuts reads of them.
-/
import Derived.Test.YtlnlifijnijgmabNal
import Derived.Test.YtlnlifijnijgmabPn3
import Derived.Test.YtlnlifijnijgmabSg
namespace Go.Proofs.Ytlnlifijnijgmab
open Go.ChangeShapes Go.WideShapes Go.ChangeAt Go.RowKit
set_option linter.unusedVariables false
set_option linter.unusedSimpArgs false

end Go.Proofs.Ytlnlifijnijgmab
