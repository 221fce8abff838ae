/-
  The fixed fact of layer 6's statements: alive returns true, out of the calls' plain functions.
-/
import Derived.Test.YtpjkjkjoaapdiaaDoorScs
namespace Go.Proofs.YtpjkjkjoaapdiaaDoor
open Go.ChangeShapes Go.WideShapes Go.ChangeAt Go.RowKit
set_option linter.unusedVariables false
set_option linter.unusedSimpArgs false

theorem al_cut : cutF (L ⟨#[65, 32, 34, 32, 98, 34, 40, 52, 49, 32, 52, 32, 50, 41, 99, 34, 32, 92, 32, 100]⟩) = ([(1, [97], 0), (2, [98, 65, 66, 99], 2)], 0) := by decide +kernel
theorem al_bx : ∀ x ∈ ([(1, [97], 0), (2, [98, 65, 66, 99], 2)] : List Tk), bytesL x.2.1 := by
  intro x hx
  simp at hx
  rcases hx with rfl | rfl <;> (intro c hc; simp at hc; omega)
theorem al_tok (w : World) : SlR 3 tokR (w.alloc (.cells #[.int .i64 1, .string ⟨#[97]⟩, .int .i64 0, .int .i64 2, .string ⟨#[98, 65, 66, 99]⟩, .int .i64 2] 33)) (.slice (some ⟨w.heap.size, 0, none⟩) 2 2) [(1, [97], 0), (2, [98, 65, 66, 99], 2)] :=
  tok_lit w [(1, [97], 0), (2, [98, 65, 66, 99], 2)] 33 (by decide) (by decide)

set_option maxHeartbeats 1000000 in
set_option maxRecDepth 100000 in
theorem w_alive (w : World) (hT : Tab w) : Calls Tryd.prog 8 #[] w fun e w' => e = .returned (.bool true) ∧ Below w.heap.size w w' := by
  have c1 := fun h15 => w_pcut ⟨#[65, 32, 34, 32, 98, 34, 40, 52, 49, 32, 52, 32, 50, 41, 99, 34, 32, 92, 32, 100]⟩ w (by decide) hT h15
  rw [al_cut] at c1
  have c1 := c1 (by decide)
  go_enter Tryd.func8, Tryd.ntmps8
  go_wp2_with (first
    | (go_at_call 9; refine c1.mono ?_; rintro e w1 ⟨v1, rfl, r1, b1⟩; have r2 := r1.below (box_below w1 (.cells #[.int .i64 1, .string ⟨#[97]⟩, .int .i64 0, .int .i64 2, .string ⟨#[98, 65, 66, 99]⟩, .int .i64 2] 33)) tokR_below)
    | (go_at_call 11; refine (w_r6same _ _ _ _ _ r2 (al_tok w1) al_bx al_bx).mono ?_; rintro e w2 ⟨rfl, b2⟩))
  go_ret
  exact ⟨rfl, below_trans b1 (below_trans (box_below w1 _) b2)⟩
end Go.Proofs.YtpjkjkjoaapdiaaDoor
