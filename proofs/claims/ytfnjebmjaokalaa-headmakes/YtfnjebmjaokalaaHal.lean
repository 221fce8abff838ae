/-
  The fixed fact of layer 14's statements: alive returns true.
-/
import Derived.Test.YtfnjebmjaokalaaHp2
namespace Go.Proofs.Ytfnjebmjaokalaa
open Go.ChangeShapes Go.WideShapes Go.ChangeAt Go.RowKit
set_option linter.unusedVariables false
set_option linter.unusedSimpArgs false

theorem al_mak : makF [71, 255] true = ([241, 8, 1, 70, 0, 0, 0, 10, 71, 255], 0) := by decide +kernel
theorem al_sum : sumF [241, 8, 1, 70, 0, 0, 0, 10, 71, 255] = 656 := by decide +kernel
theorem al_by (l : List Int) (h : l.all (fun x => decide (0 ≤ x ∧ x < 256)) = true) : bytesL l := by
  intro x hx
  have := List.all_eq_true.1 h x hx
  simpa using this
theorem al_str : strOfNums [241, 8, 1, 70, 0, 0, 0, 10, 71, 255] = ⟨#[241, 8, 1, 70, 0, 0, 0, 10, 71, 255]⟩ := by decide +kernel

set_option maxHeartbeats 1000000 in
theorem w_alive14 (w : World) : Calls Try.prog 7 #[] w fun e w' => e = .returned (.bool true) ∧ Below w.heap.size w w' := by
  have c1 := w_pmake (.slice (some ⟨w.heap.size, 0, none⟩) 2 2) [71, 255] true _ (rd_lit (k := .u8) w [71, 255] 5 (by simp) (by simp [maxLen])) (al_by _ (by decide)) (by simp)
  rw [al_mak] at c1
  have c2 := fun v w r => w_psum v [241, 8, 1, 70, 0, 0, 0, 10, 71, 255] w r (al_by _ (by decide)) (by simp)
  rw [al_sum] at c2
  have bw := box_below w (.cells (([71, 255] : List Int).map (Value.int .u8)).toArray 5)
  go_enter Try.func7, Try.ntmps7
  go_wp2_with (first
    | (go_at_call 8; refine c1.mono ?_; rintro e w1 ⟨v1, rfl, o1, b1⟩; have r1 := (Rd_own o1).1; have s1 := rd_strT r1; rw [al_str] at s1)
    | (go_at_call 11; refine (c2 _ _ r1).mono ?_; rintro e w2 ⟨rfl, hw⟩; obtain rfl := hw.symm))
  go_ret
  exact ⟨rfl, below_trans bw b1⟩
end Go.Proofs.Ytfnjebmjaokalaa
