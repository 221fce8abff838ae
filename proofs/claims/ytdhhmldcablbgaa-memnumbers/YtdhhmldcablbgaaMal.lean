/-
  The fixed fact of layer 4's statements: alive returns true, out of the calls' plain functions.
-/
import Derived.Test.YtdhhmldcablbgaaMst
namespace Go.Proofs.Ytdhhmldcablbgaa
open Go.ChangeShapes Go.WideShapes Go.ChangeAt Go.RowKit
set_option linter.unusedVariables false
set_option linter.unusedSimpArgs false

theorem wf_u8 {xs : List Int} (h : ∀ n ∈ xs, (Lit.int .u8 n).wf = true) : bytesL xs := by
  intro x hx
  have := h x hx
  simp [Lit.wf, IntKind.min, IntKind.max, IntKind.bits, IntKind.signed] at this
  omega
theorem wf_c {n : Int} (h : (Lit.int .u32 n).wf = true) : 0 ≤ n ∧ n < 4294967296 := by
  simp [Lit.wf, IntKind.min, IntKind.max, IntKind.bits, IntKind.signed] at h
  omega
theorem al_fetch : fetF [1, 2, 3, 4, 5] 0 4 = (16909060, 0) := by decide +kernel
theorem al_allot : allF [1] 2 = ([1, 0, 0, 0, 0, 0], 4, 0) := by decide +kernel
set_option maxHeartbeats 400000 in
theorem w_alive (w : World) : Calls Try.prog 9 #[] w fun e w' => e = .returned (.bool true) ∧ Below w.heap.size w w' := by
  have c0 : Rd .u8 (w.alloc (.cells #[.int .u8 1, .int .u8 2, .int .u8 3, .int .u8 4, .int .u8 5] 5)) (.slice (some ⟨w.heap.size, 0, none⟩) 5 5) [1, 2, 3, 4, 5] := rd_lit w [1, 2, 3, 4, 5] 5 (by decide) (by decide)
  have b0 := (Below.refl w.heap.size w).alloc (Nat.le_refl _) (.cells #[.int .u8 1, .int .u8 2, .int .u8 3, .int .u8 4, .int .u8 5] 5)
  have c1 := w_mfetch _ [1, 2, 3, 4, 5] 0 4 _ c0 (by unfold bytesL; decide) (by decide) (by omega) (by omega) (by omega) (by omega)
  rw [al_fetch] at c1
  go_enter Try.func9, Try.ntmps9
  go_wp2_with (first | (go_at_call 11; refine c1.mono ?_; rintro e w1 ⟨rfl, b1⟩))
  have z1 := b0.trans (b1.mono b0.size)
  have z2 := z1.alloc z1.size (.cells #[.int .u8 1] 5)
  have c2 := w_mallot _ [1] 2 _ (rd_one (k := .u8) w1 1 5) (by unfold bytesL; decide) (by decide) (by omega) (by omega)
  rw [al_allot] at c2
  refine c2.mono ?_
  rintro e w2 ⟨v2, rfl, r2, b2⟩
  have hlen := rd_len r2 uB (P := Try.prog)
  go_wp2_with fail
  go_ret
  exact ⟨rfl, z2.trans (b2.mono z2.size)⟩
end Go.Proofs.Ytdhhmldcablbgaa
