/-
  Slices of integers of 64 bits.
-/
import Derived.Test.YtfmpeminfcehaaaProg
import Derived.Test.YtfmpeminfcehaaaSl
namespace Go.Proofs.Ytfmpeminfcehaaa
open Go.ChangeShapes Go.WideShapes Go.ChangeAt Go.RowKit
set_option linter.unusedVariables false
set_option linter.unusedSimpArgs false

theorem uJ : Try.prog.underlying 23 = some (.slice (Try.prog.elem 23)) := by kernel_rfl
theorem eJ : Try.prog.elem 23 = 3 := by kernel_rfl
theorem zJ (w : World) : (sizeOf (Try.prog.elem 23)).run Try.prog w = .ok 1 w := by rw [eJ]; exact Try.sizeOf3 w
end Go.Proofs.Ytfmpeminfcehaaa
