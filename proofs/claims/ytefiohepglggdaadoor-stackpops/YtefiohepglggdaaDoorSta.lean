/-
  The table of package stack: that it is listed says that it lies in the world as its text lays it.
-/
import Derived.Test.YtefiohepglggdaaDoorRows
import Derived.Test.YtefiohepglggdaaDoorFlat
import Derived.Test.YtefiohepglggdaaDoorStd
namespace Go.Proofs.YtefiohepglggdaaDoor
open Go
set_option linter.unusedSimpArgs false

theorem gTab : Tryd.prog.globalNamed "tinder/stack.turns" = some 0 := by kernel_rfl
theorem gTabType : (Tryd.prog.globals[0]?).map (·.type) = some 42 := by kernel_rfl
theorem gFlat : flatB Tryd.prog 4 42 = true := by kernel_rfl
theorem flat_tab : flatCells Rows.laid_tinder_stack_turns = tabV := by
  simp [Rows.laid_tinder_stack_turns, flat_agg, flatCells, tabV, List.range_succ, opF, tkF, lfF]
theorem tab_of_laid {W : World} (h : laidMetH Tryd.prog [("tinder/stack.turns", Rows.laid_tinder_stack_turns)] W) : Tab W := by
  have h : laidMet Tryd.prog [("tinder/stack.turns", Rows.laid_tinder_stack_turns)] W := h
  have := flat_laid 4 gTab gTabType gFlat h
  rw [flat_tab] at this
  exact this
/-- the listed blocks, for a witness -/
def laidBlocks : List (Nat × Array Value) := [(0, tabV.toArray)]
end Go.Proofs.YtefiohepglggdaaDoor
