/-
  The table of package vars: that it is listed says that it lies in the world as its text lays it.
-/
import Derived.Test.YtaiimfdcbdfbdaaDoorRows
import Derived.Test.YtaiimfdcbdfbdaaDoorFlat
import Derived.Test.YtaiimfdcbdfbdaaDoorVa1
namespace Go.Proofs.YtaiimfdcbdfbdaaDoor
open Go
set_option linter.unusedSimpArgs false

theorem gTab : Tryd.prog.globalNamed "tinder/vars.table" = some 0 := by kernel_rfl
theorem gTabType : (Tryd.prog.globals[0]?).map (·.type) = some 52 := by kernel_rfl
theorem gFlat : flatB Tryd.prog 5 52 = true := by kernel_rfl
theorem flat_tab : flatCells Rows.laid_tinder_vars_table = tabV := by
  simp [Rows.laid_tinder_vars_table, flat_agg, flatCells, tabV, rowV, List.range_succ, vaT, vaR, kdF]
theorem tab_of_laid {W : World} (h : laidMetH Tryd.prog [("tinder/vars.table", Rows.laid_tinder_vars_table)] W) : Tab W := by
  have h : laidMet Tryd.prog [("tinder/vars.table", Rows.laid_tinder_vars_table)] W := h
  have := flat_laid 5 gTab gTabType gFlat h
  rw [flat_tab] at this
  exact this
/-- the listed blocks, for a witness -/
def laidBlocks : List (Nat × Array Value) := [(0, tabV.toArray)]
end Go.Proofs.YtaiimfdcbdfbdaaDoor
