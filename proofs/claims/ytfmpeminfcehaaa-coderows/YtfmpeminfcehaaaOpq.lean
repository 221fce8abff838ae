/-
  Instructions compared.
-/
import Derived.Test.YtfmpeminfcehaaaOpm
import Derived.Test.YtfmpeminfcehaaaSeq
namespace Go.Proofs.Ytfmpeminfcehaaa
open Go.ChangeShapes Go.WideShapes Go.ChangeAt Go.RowKit
set_option linter.unusedVariables false
set_option linter.unusedSimpArgs false

theorem neq_op (w : World) (A B C D : Int) : (binOp .neq 37 (.agg #[.int .i64 A, .int .u32 B]) (.agg #[.int .i64 C, .int .u32 D])).run Try.prog w = .ok (.bool (!(A == C && B == D))) w := by
  rw [run_neq_struct, equalIn_st2 (a := 3) (b := 35) (s0 := "Kind") (s1 := "N") w (by kernel_rfl) (by kernel_rfl) (by kernel_rfl) (by decide) (by decide) (by kernel_rfl) (by kernel_rfl) (fun w => run_equalIn_int w 9998 3 .i64 .i64 A C Try.underlying3) (fun w => run_equalIn_int w 9998 35 .u32 .u32 B D Try.underlying35)]
  rfl
theorem grd_op : Try.prog.eqGuardType Try.prog.depth 37 = false := by kernel_rfl
end Go.Proofs.Ytfmpeminfcehaaa
