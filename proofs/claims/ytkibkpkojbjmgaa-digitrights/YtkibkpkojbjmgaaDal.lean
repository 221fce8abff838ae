/-
  The fixed fact of layer 2's statements: alive returns true, out of the calls' plain functions.
-/
import Derived.Test.YtkibkpkojbjmgaaDt3
namespace Go.Proofs.Ytkibkpkojbjmgaa
open Go.ChangeShapes Go.WideShapes Go.ChangeAt Go.RowKit
set_option linter.unusedVariables false
set_option linter.unusedSimpArgs false

theorem al_sg : sgT 4294967295 10 = ⟨#[45, 49]⟩ := by decide +kernel
theorem al_se : shE 10 = 0 := by decide
theorem al_pr : prs (L ⟨#[45, 102, 102]⟩) 16 = (4294967041, 0) := by decide +kernel

set_option maxHeartbeats 400000 in
theorem w_alive (w : World) : Calls Try.prog 9 #[] w fun e w' => e = .returned (.bool true) ∧ Grown w w' := by
  have e1 := al_sg
  have e2 := al_se
  have e3 := al_pr
  go_enter Try.func9, Try.ntmps9
  go_wp2_with (first | (go_at_call 16; refine (w_dsigned2 _ _ _ (by omega) (by omega) (by omega) (by omega)).mono ?_; rintro e w1 ⟨rfl, hg1⟩) | (go_at_call 12; refine (w_dparse _ _ _ (by decide) (by omega) (by omega)).mono ?_; rintro e w2 ⟨rfl, hg⟩))
  go_ret
  exact ⟨rfl, grown_trans hg1 hg⟩

end Go.Proofs.Ytkibkpkojbjmgaa
