/-
  Un of the program and of the document's answer return one plain function of the number and the cell, for all numbers and cells.
-/
import Derived.Test.YtfmlkclacbceeabSh
namespace Go.Proofs.Ytfmlkclacbceeab
open Go.ChangeShapes Go.WideShapes Go.ChangeAt Go.RowKit
set_option linter.unusedVariables false
set_option linter.unusedSimpArgs false

/-- what Un makes of a cell, by its number -/
def unX (op a : Int) : Int :=
  if op = 38 then 4294967295 - a else
  if op = 44 then -a % 4294967296 else
  if op = 45 then (if a < 2147483648 then a else 4294967296 - a) else
  if op = 52 then (if a = 0 then 4294967295 else 0) else
  if op = 53 then (if a = 0 then 0 else 4294967295) else
  if op = 54 then (if a < 2147483648 then 0 else 4294967295) else
  if op = 55 then (if a = 0 ∨ 2147483648 ≤ a then 4294967295 else 0) else
  if op = 56 then (if a = 0 ∨ 2147483648 ≤ a then 0 else 4294967295) else
  if op = 57 then (if a < 2147483648 then 4294967295 else 0) else
  if op = 87 then (if a < 2147483648 then a / 2 else a / 2 + 2147483648) else
  if op = 88 then a / 2 else
  if op = 89 then 2 * a % 4294967296 else
  if op = 128 then a % 256 * 256 + a / 256 % 256 else
  if op = 129 then (if 97 ≤ a ∧ a ≤ 122 then a - 32 else a) else
  if op = 130 then (if 65 ≤ a ∧ a ≤ 90 then a + 32 else a) else 0
/-- the error of Un -/
def unE (op : Int) : Int :=
  if op = 38 ∨ op = 44 ∨ op = 45 ∨ (52 ≤ op ∧ op ≤ 57) ∨ (87 ≤ op ∧ op ≤ 89) ∨ (128 ≤ op ∧ op ≤ 130) then 0 else 2

set_option maxHeartbeats 1000000 in
theorem w_un (op a : Int) (w : World) (h0 : 0 ≤ a) (h1 : a < 4294967296) : Calls Try.prog 12 #[.int .i64 op, .int .u32 a] w fun e w' => e = .returned (.tuple #[.int .u32 (unX op a), .int .i64 (unE op)]) ∧ w' = w := by
  have hwb := wrap32_sbd a
  by_cases c38 : op = 38
  · subst c38
    go_enter Try.func12, Try.ntmps12
    go_wp2
    all_goals go_ret2
    all_goals
      refine ⟨ret_ii ?_ ?_, rfl⟩
      · go_light
        have hw : wrap32 a = (a + 2147483648) % 4294967296 - 2147483648 := by unfold wrap32; rfl
        try simp only [fl, decide_eq_true_eq, beq_iff_eq, bne_iff_ne, beq_eq_false_iff_ne, bne_eq_false_iff_eq] at *
        rw [xor_max a h0 h1]
        unfold unX
        omega
      · unfold unE; omega
  by_cases c44 : op = 44
  · subst c44
    go_enter Try.func12, Try.ntmps12
    go_wp2
    all_goals go_ret2
    all_goals
      refine ⟨ret_ii ?_ ?_, rfl⟩
      · go_light
        have hw : wrap32 a = (a + 2147483648) % 4294967296 - 2147483648 := by unfold wrap32; rfl
        try simp only [fl, decide_eq_true_eq, beq_iff_eq, bne_iff_ne, beq_eq_false_iff_ne, bne_eq_false_iff_eq] at *
        unfold unX
        omega
      · unfold unE; omega
  by_cases c45 : op = 45
  · subst c45
    go_enter Try.func12, Try.ntmps12
    go_wp2
    all_goals go_ret2
    all_goals
      refine ⟨ret_ii ?_ ?_, rfl⟩
      · go_light
        have hw : wrap32 a = (a + 2147483648) % 4294967296 - 2147483648 := by unfold wrap32; rfl
        try simp only [fl, decide_eq_true_eq, beq_iff_eq, bne_iff_ne, beq_eq_false_iff_ne, bne_eq_false_iff_eq] at *
        unfold unX
        omega
      · unfold unE; omega
  by_cases c52 : op = 52
  · subst c52
    go_enter Try.func12, Try.ntmps12
    go_wp2
    all_goals go_ret2
    all_goals
      refine ⟨ret_ii ?_ ?_, rfl⟩
      · go_light
        have hw : wrap32 a = (a + 2147483648) % 4294967296 - 2147483648 := by unfold wrap32; rfl
        try simp only [fl, decide_eq_true_eq, beq_iff_eq, bne_iff_ne, beq_eq_false_iff_ne, bne_eq_false_iff_eq] at *
        unfold unX
        omega
      · unfold unE; omega
  by_cases c53 : op = 53
  · subst c53
    go_enter Try.func12, Try.ntmps12
    go_wp2
    all_goals go_ret2
    all_goals
      refine ⟨ret_ii ?_ ?_, rfl⟩
      · go_light
        have hw : wrap32 a = (a + 2147483648) % 4294967296 - 2147483648 := by unfold wrap32; rfl
        try simp only [fl, decide_eq_true_eq, beq_iff_eq, bne_iff_ne, beq_eq_false_iff_ne, bne_eq_false_iff_eq] at *
        unfold unX
        omega
      · unfold unE; omega
  by_cases c54 : op = 54
  · subst c54
    go_enter Try.func12, Try.ntmps12
    go_wp2
    all_goals go_ret2
    all_goals
      refine ⟨ret_ii ?_ ?_, rfl⟩
      · go_light
        have hw : wrap32 a = (a + 2147483648) % 4294967296 - 2147483648 := by unfold wrap32; rfl
        try simp only [fl, decide_eq_true_eq, beq_iff_eq, bne_iff_ne, beq_eq_false_iff_ne, bne_eq_false_iff_eq] at *
        unfold unX
        omega
      · unfold unE; omega
  by_cases c55 : op = 55
  · subst c55
    go_enter Try.func12, Try.ntmps12
    go_wp2
    all_goals go_ret2
    all_goals
      refine ⟨ret_ii ?_ ?_, rfl⟩
      · go_light
        have hw : wrap32 a = (a + 2147483648) % 4294967296 - 2147483648 := by unfold wrap32; rfl
        try simp only [fl, decide_eq_true_eq, beq_iff_eq, bne_iff_ne, beq_eq_false_iff_ne, bne_eq_false_iff_eq] at *
        unfold unX
        omega
      · unfold unE; omega
  by_cases c56 : op = 56
  · subst c56
    go_enter Try.func12, Try.ntmps12
    go_wp2
    all_goals go_ret2
    all_goals
      refine ⟨ret_ii ?_ ?_, rfl⟩
      · go_light
        have hw : wrap32 a = (a + 2147483648) % 4294967296 - 2147483648 := by unfold wrap32; rfl
        try simp only [fl, decide_eq_true_eq, beq_iff_eq, bne_iff_ne, beq_eq_false_iff_ne, bne_eq_false_iff_eq] at *
        unfold unX
        omega
      · unfold unE; omega
  by_cases c57 : op = 57
  · subst c57
    go_enter Try.func12, Try.ntmps12
    go_wp2
    all_goals go_ret2
    all_goals
      refine ⟨ret_ii ?_ ?_, rfl⟩
      · go_light
        have hw : wrap32 a = (a + 2147483648) % 4294967296 - 2147483648 := by unfold wrap32; rfl
        try simp only [fl, decide_eq_true_eq, beq_iff_eq, bne_iff_ne, beq_eq_false_iff_ne, bne_eq_false_iff_eq] at *
        unfold unX
        omega
      · unfold unE; omega
  by_cases c87 : op = 87
  · subst c87
    go_enter Try.func12, Try.ntmps12
    go_wp2
    all_goals go_ret2
    all_goals
      refine ⟨ret_ii ?_ ?_, rfl⟩
      · go_light
        have hw : wrap32 a = (a + 2147483648) % 4294967296 - 2147483648 := by unfold wrap32; rfl
        try simp only [fl, decide_eq_true_eq, beq_iff_eq, bne_iff_ne, beq_eq_false_iff_ne, bne_eq_false_iff_eq] at *
        unfold unX
        omega
      · unfold unE; omega
  by_cases c88 : op = 88
  · subst c88
    go_enter Try.func12, Try.ntmps12
    go_wp2
    all_goals go_ret2
    all_goals
      refine ⟨ret_ii ?_ ?_, rfl⟩
      · go_light
        have hw : wrap32 a = (a + 2147483648) % 4294967296 - 2147483648 := by unfold wrap32; rfl
        try simp only [fl, decide_eq_true_eq, beq_iff_eq, bne_iff_ne, beq_eq_false_iff_ne, bne_eq_false_iff_eq] at *
        unfold unX
        omega
      · unfold unE; omega
  by_cases c89 : op = 89
  · subst c89
    go_enter Try.func12, Try.ntmps12
    go_wp2
    all_goals go_ret2
    all_goals
      refine ⟨ret_ii ?_ ?_, rfl⟩
      · go_light
        have hw : wrap32 a = (a + 2147483648) % 4294967296 - 2147483648 := by unfold wrap32; rfl
        try simp only [fl, decide_eq_true_eq, beq_iff_eq, bne_iff_ne, beq_eq_false_iff_ne, bne_eq_false_iff_eq] at *
        unfold unX
        omega
      · unfold unE; omega
  by_cases c128 : op = 128
  · subst c128
    go_enter Try.func12, Try.ntmps12
    go_wp2
    all_goals go_ret2
    all_goals
      refine ⟨ret_ii ?_ ?_, rfl⟩
      · go_light
        have hw : wrap32 a = (a + 2147483648) % 4294967296 - 2147483648 := by unfold wrap32; rfl
        try simp only [fl, decide_eq_true_eq, beq_iff_eq, bne_iff_ne, beq_eq_false_iff_ne, bne_eq_false_iff_eq] at *
        rw [swap_eq a h0 h1]
        unfold unX
        omega
      · unfold unE; omega
  by_cases c129 : op = 129
  · subst c129
    go_enter Try.func12, Try.ntmps12
    go_wp2
    all_goals go_ret2
    all_goals
      refine ⟨ret_ii ?_ ?_, rfl⟩
      · go_light
        have hw : wrap32 a = (a + 2147483648) % 4294967296 - 2147483648 := by unfold wrap32; rfl
        try simp only [fl, decide_eq_true_eq, beq_iff_eq, bne_iff_ne, beq_eq_false_iff_ne, bne_eq_false_iff_eq] at *
        unfold unX
        omega
      · unfold unE; omega
  by_cases c130 : op = 130
  · subst c130
    go_enter Try.func12, Try.ntmps12
    go_wp2
    all_goals go_ret2
    all_goals
      refine ⟨ret_ii ?_ ?_, rfl⟩
      · go_light
        have hw : wrap32 a = (a + 2147483648) % 4294967296 - 2147483648 := by unfold wrap32; rfl
        try simp only [fl, decide_eq_true_eq, beq_iff_eq, bne_iff_ne, beq_eq_false_iff_ne, bne_eq_false_iff_eq] at *
        unfold unX
        omega
      · unfold unE; omega
  · go_enter Try.func12, Try.ntmps12
    go_wp2
    all_goals go_ret2
    all_goals
      refine ⟨ret_ii ?_ ?_, rfl⟩
      · go_light
        have hw : wrap32 a = (a + 2147483648) % 4294967296 - 2147483648 := by unfold wrap32; rfl
        try simp only [fl, decide_eq_true_eq, beq_iff_eq, bne_iff_ne, beq_eq_false_iff_ne, bne_eq_false_iff_eq] at *
        unfold unX
        omega
      · unfold unE; omega

end Go.Proofs.Ytfmlkclacbceeab
