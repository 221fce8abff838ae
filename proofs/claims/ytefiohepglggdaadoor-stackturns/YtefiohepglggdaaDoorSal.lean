/-
  The fixed fact of layer 3's statements: alive returns true, out of the calls' plain functions.
-/
import Derived.Test.YtefiohepglggdaaDoorStd
import Derived.Test.YtefiohepglggdaaDoorRdp
import Derived.Test.YtefiohepglggdaaDoorSta
import Derived.Deep.CutRange
namespace Go.Proofs.YtefiohepglggdaaDoor
open Go.ChangeShapes Go.WideShapes Go.ChangeAt Go.RowKit
set_option linter.unusedVariables false
set_option linter.unusedSimpArgs false

theorem wf_u32 {xs : List Int} (h : ∀ n ∈ xs, (Lit.int .u32 n).wf = true) : ∀ x ∈ xs, 0 ≤ x ∧ x < 4294967296 := by
  intro x hx
  have := h x hx
  simp [Lit.wf, IntKind.min, IntKind.max, IntKind.bits, IntKind.signed] at this
  omega
theorem u8b {n : Int} (h : (Lit.int .u8 n).wf = true) : 0 ≤ n ∧ n < 256 := by
  simp [Lit.wf, IntKind.min, IntKind.max, IntKind.bits, IntKind.signed] at h
  omega
theorem uI : Tryd.prog.underlying 35 = some (.slice (Tryd.prog.elem 35)) := by kernel_rfl
theorem eI : Tryd.prog.elem 35 = 3 := by kernel_rfl
theorem zI (w : World) : (sizeOf (Tryd.prog.elem 35)).run Tryd.prog w = .ok 1 w := by rw [eI]; exact Tryd.sizeOf3 w
theorem al_do : doF 74 [1, 2, 3] = ([2, 3, 1], 0) := by decide +kernel
set_option maxHeartbeats 400000 in
theorem w_alive (w : World) (hT : Tab w) : Calls Tryd.prog 8 #[] w fun e w' => e = .returned (.bool true) ∧ Below w.heap.size w w' := by
  have hd := al_do
  have c0 : Rd .u32 (w.alloc (.cells #[.int .u32 1, .int .u32 2, .int .u32 3] 39)) (.slice (some ⟨w.heap.size, 0, none⟩) 3 3) [1, 2, 3] := rd_lit w [1, 2, 3] 39 (by decide) (by decide)
  have b0 := (Below.refl w.heap.size w).alloc (Nat.le_refl _) (.cells #[.int .u32 1, .int .u32 2, .int .u32 3] 39)
  have c1 := w_sdo _ [1, 2, 3] 74 _ (hT.below b0) c0 (by decide)
  rw [hd] at c1
  go_enter Tryd.func8, Tryd.ntmps8
  go_wp2_with (first | (go_at_call 10; refine c1.mono ?_; rintro e w1 ⟨v1, rfl, r1, b1⟩))
  have z1 := b0.trans (b1.mono b0.size)
  have z2 := z1.alloc z1.size (.cells #[.int .u32 2, .int .u32 3, .int .u32 1] 39)
  have r1' := r1.below ((Below.refl w1.heap.size w1).alloc (Nat.le_refl _) (.cells #[.int .u32 2, .int .u32 3, .int .u32 1] 39))
  have c2 : Rd .u32 (w1.alloc (.cells #[.int .u32 2, .int .u32 3, .int .u32 1] 39)) (.slice (some ⟨w1.heap.size, 0, none⟩) 3 3) [2, 3, 1] := rd_lit w1 [2, 3, 1] 39 (by decide) (by decide)
  refine (w_rsame _ _ _ _ _ r1' c2).mono ?_
  rintro e w2 ⟨rfl, b2⟩
  go_wp2_with fail
  go_ret
  exact ⟨rfl, z2.trans (b2.mono z2.size)⟩
end Go.Proofs.YtefiohepglggdaaDoor
