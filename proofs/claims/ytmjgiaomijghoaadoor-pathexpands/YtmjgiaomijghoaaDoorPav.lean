/-
  The fixed fact of layer 7's statements: alive returns true, out of the calls' plain functions.
-/
import Derived.Test.YtmjgiaomijghoaaDoorPth
namespace Go.Proofs.YtmjgiaomijghoaaDoor
open Go.ChangeShapes Go.WideShapes Go.ChangeAt Go.RowKit
set_option linter.unusedVariables false
set_option linter.unusedSimpArgs false

theorem al_par : parF (L ⟨#[47, 112, 99, 105, 64, 49, 102, 44, 48, 47, 100, 105, 115, 107, 58, 50, 44, 97]⟩) = ([([112, 99, 105], [31, 0], []), ([100, 105, 115, 107], [], [50, 44, 97])], 0) := by decide +kernel
theorem al_bx7 : ∀ x ∈ ([([112, 99, 105], [31, 0], []), ([100, 105, 115, 107], [], [50, 44, 97])] : List Sp), bytesL x.1 ∧ bytesL x.2.2 := by
  intro x hx
  simp at hx
  rcases hx with rfl | rfl <;> exact ⟨by intro c hc; simp at hc; omega, by intro c hc; simp at hc; try omega⟩
theorem al_stp (w : World) : SlR 3 stpR ((w.alloc (.cells #[.int .u32 31, .int .u32 0] 37)).alloc (.cells #[.string ⟨#[112, 99, 105]⟩, .slice (some ⟨w.heap.size, 0, none⟩) 2 2, .string ⟨#[]⟩, .string ⟨#[100, 105, 115, 107]⟩, .slice none 0 0, .string ⟨#[50, 44, 97]⟩] 40)) (.slice (some ⟨w.heap.size + 1, 0, none⟩) 2 2) [([112, 99, 105], [31, 0], []), ([100, 105, 115, 107], [], [50, 44, 97])] := by
  have t0 : strOfNums ([] : List Int) = ⟨#[]⟩ := by decide +kernel
  have t1 : strOfNums [112, 99, 105] = ⟨#[112, 99, 105]⟩ := by decide +kernel
  have t2 : strOfNums [100, 105, 115, 107] = ⟨#[100, 105, 115, 107]⟩ := by decide +kernel
  have t3 : strOfNums [50, 44, 97] = ⟨#[50, 44, 97]⟩ := by decide +kernel
  have hr := alloc_row (w.alloc (.cells #[.int .u32 31, .int .u32 0] 37)) [.string ⟨#[112, 99, 105]⟩, .slice (some ⟨w.heap.size, 0, none⟩) 2 2, .string ⟨#[]⟩, .string ⟨#[100, 105, 115, 107]⟩, .slice none 0 0, .string ⟨#[50, 44, 97]⟩] 40
  rw [size_al] at hr
  have hu : Rd .u32 (w.alloc (.cells #[.int .u32 31, .int .u32 0] 37)) (.slice (some ⟨w.heap.size, 0, none⟩) 2 2) [31, 0] := rd_lit w [31, 0] 37 (by decide) (by decide)
  have hu2 := hu.below (box_below _ (.cells #[.string ⟨#[112, 99, 105]⟩, .slice (some ⟨w.heap.size, 0, none⟩) 2 2, .string ⟨#[]⟩, .string ⟨#[100, 105, 115, 107]⟩, .slice none 0 0, .string ⟨#[50, 44, 97]⟩] 40))
  refine ⟨[[.string ⟨#[112, 99, 105]⟩, .slice (some ⟨w.heap.size, 0, none⟩) 2 2, .string ⟨#[]⟩], [.string ⟨#[100, 105, 115, 107]⟩, .slice none 0 0, .string ⟨#[50, 44, 97]⟩]], Or.inr ⟨w.heap.size + 1, 0, 2, rfl, by simp, by simp, by decide, fun i hi => ?_⟩, rfl, fun i hi => ?_⟩
  · have : i = 0 ∨ i = 1 := by simp at hi; omega
    rcases this with rfl | rfl
    · refine ⟨rfl, fun j hj => ?_⟩
      have : j = 0 ∨ j = 1 ∨ j = 2 := by omega
      rcases this with rfl | rfl | rfl
      · exact hr 0 _ rfl
      · exact hr 1 _ rfl
      · exact hr 2 _ rfl
    · refine ⟨rfl, fun j hj => ?_⟩
      have : j = 0 ∨ j = 1 ∨ j = 2 := by omega
      rcases this with rfl | rfl | rfl
      · exact hr 3 _ rfl
      · exact hr 4 _ rfl
      · exact hr 5 _ rfl
  · have : i = 0 ∨ i = 1 := by simp at hi; omega
    rcases this with rfl | rfl
    · exact ⟨_, by simp [t1, t0], hu2⟩
    · exact ⟨_, by simp [t2, t3], Rd_nil⟩

set_option maxHeartbeats 1000000 in
set_option maxRecDepth 100000 in
theorem w_alive7 (w : World) (hT : Tab w) : Calls Tryd.prog 8 #[] w fun e w' => e = .returned (.bool true) ∧ Below w.heap.size w w' := by
  have c1 := w_ppath ⟨#[47, 112, 99, 105, 64, 49, 102, 44, 48, 47, 100, 105, 115, 107, 58, 50, 44, 97]⟩ w (by decide) hT
  rw [al_par] at c1
  go_enter Tryd.func8, Tryd.ntmps8
  go_wp2_with (first
    | (go_at_call 9; refine c1.mono ?_; rintro e w1 ⟨v1, rfl, r1, b1⟩; have bx := below_trans (box_below w1 (.cells #[.int .u32 31, .int .u32 0] 37)) (box_below _ (.cells #[.string ⟨#[112, 99, 105]⟩, .slice (some ⟨w1.heap.size, 0, none⟩) 2 2, .string ⟨#[]⟩, .string ⟨#[100, 105, 115, 107]⟩, .slice none 0 0, .string ⟨#[50, 44, 97]⟩] 40)); have r2 := r1.below bx (stpR_below bx))
    | (go_at_call 11; refine (w_r7same _ _ _ _ _ r2 (al_stp w1) al_bx7 al_bx7).mono ?_; rintro e w2 ⟨rfl, b2⟩))
  go_ret
  exact ⟨by simp, below_trans b1 (below_trans bx b2)⟩
end Go.Proofs.YtmjgiaomijghoaaDoor
