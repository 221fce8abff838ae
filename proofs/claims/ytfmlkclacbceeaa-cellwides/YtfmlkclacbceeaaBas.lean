/-
  The small calls: alive returns true; Signed of the program and of the document's answer return the signed value; the answer's Cell returns the number by 2^32. For all cells.
-/
import Derived.Test.YtfmlkclacbceeaaProg
import Derived.Test.YtfmlkclacbceeaaAid
namespace Go.Proofs.Ytfmlkclacbceeaa
open Go.ChangeShapes Go.WideShapes Go.ChangeAt Go.RowKit
set_option linter.unusedVariables false
set_option linter.unusedSimpArgs false

theorem w_alive (w : World) : Calls Try.prog 9 #[] w fun e w' => e = .returned (.bool true) ∧ w' = w := by
  have e1 : wrap32 2147483648 = -2147483648 := by unfold wrap32; decide
  have e2 : wrap32 4160749568 = -134217728 := by unfold wrap32; decide
  go_enter Try.func9, Try.ntmps9
  go_wp2
  go_ret
  exact ⟨rfl, rfl⟩

theorem w_signed (a : Int) (w : World) (h0 : 0 ≤ a) (h1 : a < 4294967296) : Calls Try.prog 14 #[.int .u32 a] w fun e w' => e = .returned (.int .i64 (wrap32 a)) ∧ w' = w := by
  go_enter Try.func14, Try.ntmps14
  go_wp2
  go_ret
  exact ⟨ret_i (by simp only [wrap64, wrap32]; omega), rfl⟩

theorem w_rsigned (a : Int) (w : World) (h0 : 0 ≤ a) (h1 : a < 4294967296) : Calls Try.prog 15 #[.int .u32 a] w fun e w' => e = .returned (.int .i64 (wrap32 a)) ∧ w' = w := by
  go_enter Try.func15, Try.ntmps15
  go_wp2
  all_goals go_ret
  all_goals exact ⟨ret_i (by simp only [wrap64, wrap32]; omega), rfl⟩

theorem w_rcell (a : Int) (w : World) : Calls Try.prog 31 #[.int .i64 a] w fun e w' => e = .returned (.int .u32 (a % 4294967296)) ∧ w' = w := by
  go_enter Try.func31, Try.ntmps31
  go_wp2
  all_goals go_ret
  exact ⟨ret_i (cell_eq a), rfl⟩

/-- a flag -/
def fl (b : Bool) : Int := if b = true then 4294967295 else 0
theorem fl_bd (b : Bool) : 0 ≤ fl b ∧ fl b < 4294967296 := by unfold fl; split <;> omega

theorem w_flag (b : Bool) (w : World) : Calls Try.prog 30 #[.bool b] w fun e w' => e = .returned (.int .u32 (fl b)) ∧ w' = w := by
  cases b
  · go_enter Try.func30, Try.ntmps30
    go_wp2
    go_ret
    exact ⟨ret_i (by simp [fl]), rfl⟩
  · go_enter Try.func30, Try.ntmps30
    go_wp2
    go_ret
    exact ⟨ret_i (by simp [fl]), rfl⟩

theorem w_rflag (b : Bool) (w : World) : Calls Try.prog 34 #[.bool b] w fun e w' => e = .returned (.int .u32 (fl b)) ∧ w' = w := by
  cases b
  · go_enter Try.func34, Try.ntmps34
    go_wp2
    go_ret
    exact ⟨ret_i (by simp [fl]), rfl⟩
  · go_enter Try.func34, Try.ntmps34
    go_wp2
    go_ret
    exact ⟨ret_i (by simp [fl]), rfl⟩
theorem wrap32_sbd (a : Int) : -2147483648 ≤ wrap32 a ∧ wrap32 a < 2147483648 := by unfold wrap32; omega
end Go.Proofs.Ytfmlkclacbceeaa
