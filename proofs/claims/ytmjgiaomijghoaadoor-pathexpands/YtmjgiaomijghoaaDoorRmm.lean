/-
  In, Same, Copy, wrong, Fetch, Text of the document's answer for a memory of bytes.
-/
import Derived.Test.YtmjgiaomijghoaaDoorProg
import Derived.Test.YtmjgiaomijghoaaDoorPmm
namespace Go.Proofs.YtmjgiaomijghoaaDoor
open Go.ChangeShapes Go.WideShapes Go.ChangeAt Go.RowKit
set_option linter.unusedVariables false
set_option linter.unusedSimpArgs false

theorem uB : Tryd.prog.underlying 51 = some (.slice (Tryd.prog.elem 51)) := by kernel_rfl
theorem eB : Tryd.prog.elem 51 = 5 := by kernel_rfl
theorem zB (w : World) : (sizeOf (Tryd.prog.elem 51)).run Tryd.prog w = .ok 1 w := by rw [eB]; exact Tryd.sizeOf5 w
theorem infoU8 : (Tryd.prog.info? 5).map (fun i => (i.zero, i.size, i.bytes)) = some (some (.int .u8 0), 1, 1) := by kernel_rfl
theorem rd_strT {w : World} {v : Value} {xs : List Int} (h : Rd .u8 w v xs) : (convert 51 9 v).run Tryd.prog w = .ok (.string (strOfNums xs)) w :=
  rd_str h Tryd.underlying51 Tryd.underlying5 Tryd.underlying9
end Go.Proofs.YtmjgiaomijghoaaDoor
