/-
  Same of lists of cells, of the document's answer, that it only draws: for regions that draw their order.
-/
import Derived.Test.YtfmpeminfcehaaaR3s
namespace Go.Proofs.Ytfmpeminfcehaaa
open Go.ChangeShapes Go.WideShapes Go.ChangeAt Go.RowKit
set_option linter.unusedVariables false
set_option linter.unusedSimpArgs false

/-- but for draws the same world -/
def Dr (w w' : World) : Prop := ∃ m, w' = w.drewN m
theorem dr_refl (w : World) : Dr w w := ⟨0, rfl⟩
theorem dr_more {w w' : World} (h : Dr w w') (n : Nat) : Dr w (w'.drewN n) := by
  obtain ⟨m, rfl⟩ := h
  exact ⟨m + n, by rw [World.drewN_drewN]⟩
theorem dr_below {w w' : World} (h : Dr w w') : Below w.heap.size w w' := by
  obtain ⟨m, rfl⟩ := h
  exact below_drewN (Below.refl _ _) m
end Go.Proofs.Ytfmpeminfcehaaa
