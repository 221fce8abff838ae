/-
  Apply and Plan of the document's answer for layer 18.
-/
import Derived.Test.YtlnlifijnijgmabNbm
namespace Go.Proofs.Ytlnlifijnijgmab
open Go.ChangeShapes Go.WideShapes Go.ChangeAt Go.RowKit
set_option linter.unusedVariables false
set_option linter.unusedSimpArgs false

theorem apl_take (nv : List Int) (l : List (Int × Int)) (k : Nat) (h : k < l.length) : aplL nv (l.take (k + 1)) = putB (aplL nv (l.take k)) l[k] := by
  rw [List.take_succ_eq_append_getElem h, apl_snoc]
end Go.Proofs.Ytlnlifijnijgmab
