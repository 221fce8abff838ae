/-
  The small calls: alive returns true; Signed of the program and of the document's answer return the signed value; the answer's Cell returns the number by 2^32. For all cells.
-/
import Derived.Test.YtfmlkclacbceeabProg
import Derived.Test.YtfmlkclacbceeabAid
namespace Go.Proofs.Ytfmlkclacbceeab
open Go.ChangeShapes Go.WideShapes Go.ChangeAt Go.RowKit
set_option linter.unusedVariables false
set_option linter.unusedSimpArgs false

theorem w_alive (w : World) : Calls Try.prog 6 #[] w fun e w' => e = .returned (.bool true) ∧ w' = w := by
  have e1 : wrap32 2147483648 = -2147483648 := by unfold wrap32; decide
  have e2 : wrap32 4160749568 = -134217728 := by unfold wrap32; decide
  go_enter Try.func6, Try.ntmps6
  go_wp2
  go_ret
  exact ⟨rfl, rfl⟩

theorem w_signed (a : Int) (w : World) (h0 : 0 ≤ a) (h1 : a < 4294967296) : Calls Try.prog 8 #[.int .u32 a] w fun e w' => e = .returned (.int .i64 (wrap32 a)) ∧ w' = w := by
  go_enter Try.func8, Try.ntmps8
  go_wp2
  go_ret
  exact ⟨ret_i (by simp only [wrap64, wrap32]; omega), rfl⟩

/-- a flag -/
def fl (b : Bool) : Int := if b = true then 4294967295 else 0
theorem fl_bd (b : Bool) : 0 ≤ fl b ∧ fl b < 4294967296 := by unfold fl; split <;> omega

theorem w_flag (b : Bool) (w : World) : Calls Try.prog 21 #[.bool b] w fun e w' => e = .returned (.int .u32 (fl b)) ∧ w' = w := by
  cases b
  · go_enter Try.func21, Try.ntmps21
    go_wp2
    go_ret
    exact ⟨ret_i (by simp [fl]), rfl⟩
  · go_enter Try.func21, Try.ntmps21
    go_wp2
    go_ret
    exact ⟨ret_i (by simp [fl]), rfl⟩

theorem wrap32_sbd (a : Int) : -2147483648 ≤ wrap32 a ∧ wrap32 a < 2147483648 := by unfold wrap32; omega
end Go.Proofs.Ytfmlkclacbceeab
