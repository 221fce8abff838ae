/-
  The fixed fact that every law of layer 10 asks first.
-/
import Derived.Test.YtfmpeminfcehaaaCkb
import Derived.Test.YtfmpeminfcehaaaOpq
namespace Go.Proofs.Ytfmpeminfcehaaa
open Go.ChangeShapes Go.WideShapes Go.ChangeAt Go.RowKit
set_option linter.unusedVariables false
set_option linter.unusedSimpArgs false

theorem eql_op (w : World) (A B C D : Int) : (binOp .eql 37 (.agg #[.int .i64 A, .int .u32 B]) (.agg #[.int .i64 C, .int .u32 D])).run Try.prog w = .ok (.bool (A == C && B == D)) w := by
  rw [run_eql_struct, equalIn_st2 (a := 3) (b := 35) (s0 := "Kind") (s1 := "N") w (by kernel_rfl) (by kernel_rfl) (by kernel_rfl) (by decide) (by decide) (by kernel_rfl) (by kernel_rfl) (fun w => run_equalIn_int w 9998 3 .i64 .i64 A C Try.underlying3) (fun w => run_equalIn_int w 9998 35 .u32 .u32 B D Try.underlying35)]
  rfl
def dOne : Dft := ⟨[(4, 0)], [0], [], [], []⟩
def dTwo : Dft := ⟨[(4, 1)], [], [], [], []⟩
theorem act_one : actD nilD 1 = (dOne, 0) := by kernel_rfl
theorem act_two : actD dOne 3 = (dTwo, 0) := by kernel_rfl
theorem fin_two : finD dTwo = ([(4, 1)], 0) := by
  unfold finD
  rw [if_neg (by decide), if_neg (by simp [dTwo])]
  rfl
theorem sz_nil : szD nilD ∧ szE nilD := by
  refine ⟨⟨?_, ?_, ?_, ?_, ?_, ?_, ?_⟩, ⟨?_, ?_, ?_, ?_, ?_, ?_⟩⟩ <;> simp [nilD]
theorem sz_one : szD dOne ∧ szE dOne := by
  refine ⟨⟨?_, ?_, ?_, ?_, ?_, ?_, ?_⟩, ⟨?_, ?_, ?_, ?_, ?_, ?_⟩⟩ <;> simp [dOne]
theorem sz_two : szD dTwo := by
  refine ⟨?_, ?_, ?_, ?_, ?_, ?_, ?_⟩ <;> simp [dTwo]

set_option maxHeartbeats 4000000 in
set_option maxRecDepth 100000 in
theorem w_alive10 (w : World) : Calls Try.prog 8 #[] w fun e w' => e = .returned (.bool true) ∧ Below w.heap.size w w' := by
  have c1 := w_p10actA ⟨.slice none 0 0, .slice none 0 0, .slice none 0 0, .slice none 0 0, .slice none 0 0⟩ nilD 1 w (OwQ.nil w).read sz_nil.1 sz_nil.2
  rw [act_one] at c1
  have c2 := fun W u (r : RdD W u dOne) => w_p10actA u dOne 3 W r sz_one.1 sz_one.2
  simp only [act_two] at c2
  have c3 := fun W u (r : RdD W u dTwo) => w_p10finishA u dTwo W r sz_two
  simp only [fin_two] at c3
  simp only [Dv.cs] at c1
  have C2 := hid c2
  have C3 := hid c3
  clear c2 c3
  have he := eql_op
  have hg := grd_op
  go_enter Try.func8, Try.ntmps8
  go_upto_region 2 with (go_at_call 10; refine c1.mono ?_; rintro e q1 ⟨u1, rfl, o1, b1⟩; obtain ⟨da0, dc0, da1, dc1, da2, dc2, da3, dc3, da4, dc4, rfl⟩ := rdD_forms o1.read; (try simp only [Dv.cs, dOne, List.length_cons, List.length_nil, Nat.zero_add]))
  simp only [dOne, List.length_cons, List.length_nil, Nat.zero_add] at o1
  have bx := box_below q1 (.cells #[.slice da0 1 dc0, .slice da1 1 dc1, .slice da2 0 dc2, .slice da3 0 dc3, .slice da4 0 dc4] 26)
  have sx := stands_new q1 #[.slice da0 1 dc0, .slice da1 1 dc1, .slice da2 0 dc2, .slice da3 0 dc3, .slice da4 0 dc4] 26
  have o2 : OwQ _ ⟨.slice da0 1 dc0, .slice da1 1 dc1, .slice da2 0 dc2, .slice da3 0 dc3, .slice da4 0 dc4⟩ dOne := o1.below bx
  have b2 := below_trans b1 bx
  obtain ⟨X, hX⟩ : ∃ X, q1.heap.size = X := ⟨_, rfl⟩
  have hXw : w.heap.size ≤ X := by rw [← hX]; exact b1.size
  rw [hX] at sx
  (try simp only [hX])
  generalize q1.alloc (.cells #[.slice da0 1 dc0, .slice da1 1 dc1, .slice da2 0 dc2, .slice da3 0 dc3, .slice da4 0 dc4] 26) = q2 at sx o2 b2 ⊢
  clear c1 o1 b1 bx hX
  have f0 := sx.cell 0 _ rfl
  have f1 := sx.cell 1 _ rfl
  have f2 := sx.cell 2 _ rfl
  have f3 := sx.cell 3 _ rfl
  have f4 := sx.cell 4 _ rfl
  have c2 := C2.out q2 ⟨.slice da0 1 dc0, .slice da1 1 dc1, .slice da2 0 dc2, .slice da3 0 dc3, .slice da4 0 dc4⟩ o2.read
  simp only [Dv.cs] at c2
  go_upto_region 3 with (go_at_call 10; refine c2.mono ?_; rintro e q3 ⟨u3, rfl, o3, b3⟩; obtain ⟨ea0, ec0, ea1, ec1, ea2, ec2, ea3, ec3, ea4, ec4, rfl⟩ := rdD_forms o3.read; (try simp only [Dv.cs, dTwo, List.length_cons, List.length_nil, Nat.zero_add]); have sy := sx.below b3; have z0 := sy.cell 0 _ rfl; have z1 := sy.cell 1 _ rfl; have z2 := sy.cell 2 _ rfl; have z3 := sy.cell 3 _ rfl; have z4 := sy.cell 4 _ rfl; have zf := sy.free)
  simp only [dTwo, List.length_cons, List.length_nil, Nat.zero_add] at o3
  obtain ⟨g1, g2⟩ := set5q sy (.slice ea0 1 ec0) (.slice ea1 0 ec1) (.slice ea2 0 ec2) (.slice ea3 0 ec3) (.slice ea4 0 ec4)
  have o4 : OwQ _ ⟨.slice ea0 1 ec0, .slice ea1 0 ec1, .slice ea2 0 ec2, .slice ea3 0 ec3, .slice ea4 0 ec4⟩ dTwo := g2 (fun u => OwQ u ⟨.slice ea0 1 ec0, .slice ea1 0 ec1, .slice ea2 0 ec2, .slice ea3 0 ec3, .slice ea4 0 ec4⟩ dTwo) (fun u u' kk q => q.kept kk (by decide) (by decide) (by decide)) o3
  have J := set5b (below_trans b2 b3) X hXw (.slice ea0 1 ec0) (.slice ea1 0 ec1) (.slice ea2 0 ec2) (.slice ea3 0 ec3) (.slice ea4 0 ec4)
  generalize (((((q3.setCell ⟨X, 0, none⟩ (.slice ea0 1 ec0)).setCell ⟨X, 1, none⟩ (.slice ea1 0 ec1)).setCell ⟨X, 2, none⟩ (.slice ea2 0 ec2)).setCell ⟨X, 3, none⟩ (.slice ea3 0 ec3)).setCell ⟨X, 4, none⟩ (.slice ea4 0 ec4)) = q4 at g1 o4 J ⊢
  clear g2 o3 sy z0 z1 z2 z3 z4 zf sx c2 f0 f1 f2 f3 f4
  have f0 := g1.cell 0 _ rfl
  have f1 := g1.cell 1 _ rfl
  have f2 := g1.cell 2 _ rfl
  have f3 := g1.cell 3 _ rfl
  have f4 := g1.cell 4 _ rfl
  have c3 := C3.out q4 ⟨.slice ea0 1 ec0, .slice ea1 0 ec1, .slice ea2 0 ec2, .slice ea3 0 ec3, .slice ea4 0 ec4⟩ o4.read
  simp only [Dv.cs] at c3
  go_upto_region 4 with (go_at_call 17; refine c3.mono ?_; rintro e q5 ⟨v5, rfl, r5, b5⟩)
  have hl5 := slr_len r5 uO (P := Try.prog)
  obtain ⟨p5, i5, ix, k0, k1⟩ := op_at r5 0 (by simp)
  simp only [List.length_cons, List.length_nil, Nat.zero_add, List.getElem_cons_zero] at hl5 k0 k1
  have hl6 : ∀ ty w', (Builtin.len_ #[22] ty #[v5]).run Try.prog w' = .ok (.int .i64 1) w' := hl5
  have ix2 : ∀ w', (Instr.indexAt 22 v5 (.int .i64 0)).run Try.prog w' = .ok (.pointer (some ⟨p5, i5, none⟩)) w' := ix
  clear hl5 ix r5 c3
  go_wp2_with fail
  go_ret
  exact ⟨rfl, below_trans J b5⟩
end Go.Proofs.Ytfmpeminfcehaaa
