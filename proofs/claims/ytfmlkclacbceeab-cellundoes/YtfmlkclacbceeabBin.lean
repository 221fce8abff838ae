/-
  Bin of the program and of the document's answer return one plain function of the number and the two cells, for all numbers and cells.
-/
import Derived.Test.YtfmlkclacbceeabBit
import Derived.Test.YtfmlkclacbceeabDiv
namespace Go.Proofs.Ytfmlkclacbceeab
open Go.ChangeShapes Go.WideShapes Go.ChangeAt Go.RowKit
set_option linter.unusedVariables false
set_option linter.unusedSimpArgs false

/-- what Bin makes of two cells, by its number -/
def binX (op a b : Int) : Int :=
  if op = 30 then (a + b) % 4294967296 else
  if op = 31 then (a - b) % 4294967296 else
  if op = 32 then a * b % 4294967296 else
  if op = 33 then dvQ 42 a b else
  if op = 34 then dvR 42 a b else
  if op = 35 then ((a.toNat &&& b.toNat : Nat) : Int) else
  if op = 36 then ((a.toNat ||| b.toNat : Nat) : Int) else
  if op = 37 then ((a.toNat ^^^ b.toNat : Nat) : Int) else
  if op = 39 then shl a (min b.toNat 32) else
  if op = 40 then shr a (min b.toNat 32) else
  if op = 41 then sar a (min b.toNat 32) else
  if op = 46 then (if wrap32 b < wrap32 a then wrap32 b else wrap32 a) % 4294967296 else
  if op = 47 then (if wrap32 a < wrap32 b then wrap32 b else wrap32 a) % 4294967296 else
  if op = 58 then fl (decide (wrap32 a < wrap32 b)) else
  if op = 59 then fl (decide (wrap32 b < wrap32 a)) else
  if op = 60 then fl (a == b) else
  if op = 61 then fl (a != b) else
  if op = 62 then fl (decide (b < a)) else
  if op = 63 then fl (decide (a ≤ b)) else
  if op = 64 then fl (decide (a < b)) else
  if op = 65 then fl (decide (b ≤ a)) else
  if op = 66 then fl (decide (wrap32 b ≤ wrap32 a)) else
  if op = 67 then fl (decide (wrap32 a ≤ wrap32 b)) else
  0
/-- the error of Bin -/
def binE (op b : Int) : Int :=
  if op = 33 ∨ op = 34 then (if b = 0 then 7 else 0) else
  if (30 ≤ op ∧ op ≤ 32) ∨ (35 ≤ op ∧ op ≤ 37) ∨ (39 ≤ op ∧ op ≤ 41) ∨ op = 46 ∨ op = 47 ∨ (58 ≤ op ∧ op ≤ 67) then 0 else 2

theorem bin_30 (a b : Int) : binX 30 a b = (a + b) % 4294967296 := by unfold binX; simp
theorem bin_31 (a b : Int) : binX 31 a b = (a - b) % 4294967296 := by unfold binX; simp
theorem bin_32 (a b : Int) : binX 32 a b = a * b % 4294967296 := by unfold binX; simp
theorem bin_33 (a b : Int) : binX 33 a b = dvQ 42 a b := by unfold binX; simp
theorem bin_34 (a b : Int) : binX 34 a b = dvR 42 a b := by unfold binX; simp
theorem bin_35 (a b : Int) : binX 35 a b = ((a.toNat &&& b.toNat : Nat) : Int) := by unfold binX; simp
theorem bin_36 (a b : Int) : binX 36 a b = ((a.toNat ||| b.toNat : Nat) : Int) := by unfold binX; simp
theorem bin_37 (a b : Int) : binX 37 a b = ((a.toNat ^^^ b.toNat : Nat) : Int) := by unfold binX; simp
theorem bin_39 (a b : Int) : binX 39 a b = shl a (min b.toNat 32) := by unfold binX; simp
theorem bin_40 (a b : Int) : binX 40 a b = shr a (min b.toNat 32) := by unfold binX; simp
theorem bin_41 (a b : Int) : binX 41 a b = sar a (min b.toNat 32) := by unfold binX; simp
theorem bin_46 (a b : Int) : binX 46 a b = (if wrap32 b < wrap32 a then wrap32 b else wrap32 a) % 4294967296 := by unfold binX; simp
theorem bin_47 (a b : Int) : binX 47 a b = (if wrap32 a < wrap32 b then wrap32 b else wrap32 a) % 4294967296 := by unfold binX; simp
theorem bin_58 (a b : Int) : binX 58 a b = fl (decide (wrap32 a < wrap32 b)) := by unfold binX; simp
theorem bin_59 (a b : Int) : binX 59 a b = fl (decide (wrap32 b < wrap32 a)) := by unfold binX; simp
theorem bin_60 (a b : Int) : binX 60 a b = fl (a == b) := by unfold binX; simp
theorem bin_61 (a b : Int) : binX 61 a b = fl (a != b) := by unfold binX; simp
theorem bin_62 (a b : Int) : binX 62 a b = fl (decide (b < a)) := by unfold binX; simp
theorem bin_63 (a b : Int) : binX 63 a b = fl (decide (a ≤ b)) := by unfold binX; simp
theorem bin_64 (a b : Int) : binX 64 a b = fl (decide (a < b)) := by unfold binX; simp
theorem bin_65 (a b : Int) : binX 65 a b = fl (decide (b ≤ a)) := by unfold binX; simp
theorem bin_66 (a b : Int) : binX 66 a b = fl (decide (wrap32 b ≤ wrap32 a)) := by unfold binX; simp
theorem bin_67 (a b : Int) : binX 67 a b = fl (decide (wrap32 a ≤ wrap32 b)) := by unfold binX; simp
theorem bin_other (op a b : Int) (c30 : ¬ op = 30) (c31 : ¬ op = 31) (c32 : ¬ op = 32) (c33 : ¬ op = 33) (c34 : ¬ op = 34) (c35 : ¬ op = 35) (c36 : ¬ op = 36) (c37 : ¬ op = 37) (c39 : ¬ op = 39) (c40 : ¬ op = 40) (c41 : ¬ op = 41) (c46 : ¬ op = 46) (c47 : ¬ op = 47) (c58 : ¬ op = 58) (c59 : ¬ op = 59) (c60 : ¬ op = 60) (c61 : ¬ op = 61) (c62 : ¬ op = 62) (c63 : ¬ op = 63) (c64 : ¬ op = 64) (c65 : ¬ op = 65) (c66 : ¬ op = 66) (c67 : ¬ op = 67) : binX op a b = 0 := by unfold binX; simp [c30, c31, c32, c33, c34, c35, c36, c37, c39, c40, c41, c46, c47, c58, c59, c60, c61, c62, c63, c64, c65, c66, c67]

theorem wrap64_cell (n : Int) : wrap64 n % 4294967296 = n % 4294967296 := by unfold wrap64; omega
theorem wrap32_cell (n : Int) : wrap32 n % 4294967296 = n % 4294967296 := by unfold wrap32; omega
theorem mul_cell (a b : Int) : wrap64 (wrap32 a * wrap32 b) % 4294967296 = a * b % 4294967296 := by
  rw [wrap64_cell, Int.mul_emod, wrap32_cell, wrap32_cell, ← Int.mul_emod]
theorem mul_cell2 (a b : Int) : wrap32 a * wrap32 b % 4294967296 = a * b % 4294967296 := by
  rw [Int.mul_emod, wrap32_cell, wrap32_cell, ← Int.mul_emod]
theorem add_cell (a b : Int) : (wrap32 a + wrap32 b) % 4294967296 = (a + b) % 4294967296 := by unfold wrap32; omega
theorem sub_cell (a b : Int) : (wrap32 a - wrap32 b) % 4294967296 = (a - b) % 4294967296 := by unfold wrap32; omega
theorem dv42_zero (a : Int) : dvQ 42 a 0 = 0 ∧ dvR 42 a 0 = 0 := by simp [dvQ, dvR]
theorem dv42 (a b : Int) (h : ¬ b = 0) : dvQ 42 a b = fq (wrap32 a) (wrap32 b) % 4294967296 ∧ dvR 42 a b = fr (wrap32 a) (wrap32 b) % 4294967296 := by simp [dvQ, dvR, h]

set_option maxHeartbeats 400000 in
theorem w_bin_30 (a b : Int) (w : World) (h0 : 0 ≤ a) (h1 : a < 4294967296) (g0 : 0 ≤ b) (g1 : b < 4294967296) : Calls Try.prog 11 #[.int .i64 30, .int .u32 a, .int .u32 b] w fun e w' => e = .returned (.tuple #[.int .u32 (binX 30 a b), .int .i64 (binE 30 b)]) ∧ Grown w w' := by
  have ha := wrap32_sbd a
  have hb := wrap32_sbd b
  rw [bin_30]
  go_enter Try.func11, Try.ntmps11
  go_wp2
  all_goals go_ret2
  all_goals
    refine ⟨ret_ii ?_ ?_, Grown.refl _⟩
    ·
      first
        | rfl
        | (simp only [shl, shr, sar]; done)
        | (rw [u32_and _ _ h0 h1 g0 g1]; done)
        | (rw [u32_or _ _ h0 h1 g0 g1]; done)
        | (rw [u32_xor _ _ h0 h1 g0 g1]; done)
        | (go_light; omega)
        | (go_light; simp only [fl, decide_eq_true_eq, beq_iff_eq, bne_iff_ne, ne_eq, beq_eq_false_iff_ne, bne_eq_false_iff_eq] at *; omega)
    · simp [binE]

set_option maxHeartbeats 400000 in
theorem w_bin_31 (a b : Int) (w : World) (h0 : 0 ≤ a) (h1 : a < 4294967296) (g0 : 0 ≤ b) (g1 : b < 4294967296) : Calls Try.prog 11 #[.int .i64 31, .int .u32 a, .int .u32 b] w fun e w' => e = .returned (.tuple #[.int .u32 (binX 31 a b), .int .i64 (binE 31 b)]) ∧ Grown w w' := by
  have ha := wrap32_sbd a
  have hb := wrap32_sbd b
  rw [bin_31]
  go_enter Try.func11, Try.ntmps11
  go_wp2
  all_goals go_ret2
  all_goals
    refine ⟨ret_ii ?_ ?_, Grown.refl _⟩
    ·
      first
        | rfl
        | (simp only [shl, shr, sar]; done)
        | (rw [u32_and _ _ h0 h1 g0 g1]; done)
        | (rw [u32_or _ _ h0 h1 g0 g1]; done)
        | (rw [u32_xor _ _ h0 h1 g0 g1]; done)
        | (go_light; omega)
        | (go_light; simp only [fl, decide_eq_true_eq, beq_iff_eq, bne_iff_ne, ne_eq, beq_eq_false_iff_ne, bne_eq_false_iff_eq] at *; omega)
    · simp [binE]

set_option maxHeartbeats 400000 in
theorem w_bin_32 (a b : Int) (w : World) (h0 : 0 ≤ a) (h1 : a < 4294967296) (g0 : 0 ≤ b) (g1 : b < 4294967296) : Calls Try.prog 11 #[.int .i64 32, .int .u32 a, .int .u32 b] w fun e w' => e = .returned (.tuple #[.int .u32 (binX 32 a b), .int .i64 (binE 32 b)]) ∧ Grown w w' := by
  have ha := wrap32_sbd a
  have hb := wrap32_sbd b
  rw [bin_32]
  go_enter Try.func11, Try.ntmps11
  go_wp2
  all_goals go_ret2
  all_goals
    refine ⟨ret_ii ?_ ?_, Grown.refl _⟩
    ·
      first
        | rfl
        | (simp only [shl, shr, sar]; done)
        | (rw [u32_and _ _ h0 h1 g0 g1]; done)
        | (rw [u32_or _ _ h0 h1 g0 g1]; done)
        | (rw [u32_xor _ _ h0 h1 g0 g1]; done)
        | (go_light; omega)
        | (go_light; simp only [fl, decide_eq_true_eq, beq_iff_eq, bne_iff_ne, ne_eq, beq_eq_false_iff_ne, bne_eq_false_iff_eq] at *; omega)
    · simp [binE]

set_option maxHeartbeats 400000 in
theorem w_bin_35 (a b : Int) (w : World) (h0 : 0 ≤ a) (h1 : a < 4294967296) (g0 : 0 ≤ b) (g1 : b < 4294967296) : Calls Try.prog 11 #[.int .i64 35, .int .u32 a, .int .u32 b] w fun e w' => e = .returned (.tuple #[.int .u32 (binX 35 a b), .int .i64 (binE 35 b)]) ∧ Grown w w' := by
  have ha := wrap32_sbd a
  have hb := wrap32_sbd b
  rw [bin_35]
  go_enter Try.func11, Try.ntmps11
  go_wp2
  all_goals go_ret2
  all_goals
    refine ⟨ret_ii ?_ ?_, Grown.refl _⟩
    ·
      first
        | rfl
        | (simp only [shl, shr, sar]; done)
        | (rw [u32_and _ _ h0 h1 g0 g1]; done)
        | (rw [u32_or _ _ h0 h1 g0 g1]; done)
        | (rw [u32_xor _ _ h0 h1 g0 g1]; done)
        | (go_light; omega)
        | (go_light; simp only [fl, decide_eq_true_eq, beq_iff_eq, bne_iff_ne, ne_eq, beq_eq_false_iff_ne, bne_eq_false_iff_eq] at *; omega)
    · simp [binE]

set_option maxHeartbeats 400000 in
theorem w_bin_36 (a b : Int) (w : World) (h0 : 0 ≤ a) (h1 : a < 4294967296) (g0 : 0 ≤ b) (g1 : b < 4294967296) : Calls Try.prog 11 #[.int .i64 36, .int .u32 a, .int .u32 b] w fun e w' => e = .returned (.tuple #[.int .u32 (binX 36 a b), .int .i64 (binE 36 b)]) ∧ Grown w w' := by
  have ha := wrap32_sbd a
  have hb := wrap32_sbd b
  rw [bin_36]
  go_enter Try.func11, Try.ntmps11
  go_wp2
  all_goals go_ret2
  all_goals
    refine ⟨ret_ii ?_ ?_, Grown.refl _⟩
    ·
      first
        | rfl
        | (simp only [shl, shr, sar]; done)
        | (rw [u32_and _ _ h0 h1 g0 g1]; done)
        | (rw [u32_or _ _ h0 h1 g0 g1]; done)
        | (rw [u32_xor _ _ h0 h1 g0 g1]; done)
        | (go_light; omega)
        | (go_light; simp only [fl, decide_eq_true_eq, beq_iff_eq, bne_iff_ne, ne_eq, beq_eq_false_iff_ne, bne_eq_false_iff_eq] at *; omega)
    · simp [binE]

set_option maxHeartbeats 400000 in
theorem w_bin_37 (a b : Int) (w : World) (h0 : 0 ≤ a) (h1 : a < 4294967296) (g0 : 0 ≤ b) (g1 : b < 4294967296) : Calls Try.prog 11 #[.int .i64 37, .int .u32 a, .int .u32 b] w fun e w' => e = .returned (.tuple #[.int .u32 (binX 37 a b), .int .i64 (binE 37 b)]) ∧ Grown w w' := by
  have ha := wrap32_sbd a
  have hb := wrap32_sbd b
  rw [bin_37]
  go_enter Try.func11, Try.ntmps11
  go_wp2
  all_goals go_ret2
  all_goals
    refine ⟨ret_ii ?_ ?_, Grown.refl _⟩
    ·
      first
        | rfl
        | (simp only [shl, shr, sar]; done)
        | (rw [u32_and _ _ h0 h1 g0 g1]; done)
        | (rw [u32_or _ _ h0 h1 g0 g1]; done)
        | (rw [u32_xor _ _ h0 h1 g0 g1]; done)
        | (go_light; omega)
        | (go_light; simp only [fl, decide_eq_true_eq, beq_iff_eq, bne_iff_ne, ne_eq, beq_eq_false_iff_ne, bne_eq_false_iff_eq] at *; omega)
    · simp [binE]

set_option maxHeartbeats 400000 in
theorem w_bin_39 (a b : Int) (w : World) (h0 : 0 ≤ a) (h1 : a < 4294967296) (g0 : 0 ≤ b) (g1 : b < 4294967296) : Calls Try.prog 11 #[.int .i64 39, .int .u32 a, .int .u32 b] w fun e w' => e = .returned (.tuple #[.int .u32 (binX 39 a b), .int .i64 (binE 39 b)]) ∧ Grown w w' := by
  have ha := wrap32_sbd a
  have hb := wrap32_sbd b
  rw [bin_39]
  go_enter Try.func11, Try.ntmps11
  go_wp2
  all_goals go_ret2
  all_goals
    refine ⟨ret_ii ?_ ?_, Grown.refl _⟩
    ·
      first
        | rfl
        | (simp only [shl, shr, sar]; done)
        | (rw [u32_and _ _ h0 h1 g0 g1]; done)
        | (rw [u32_or _ _ h0 h1 g0 g1]; done)
        | (rw [u32_xor _ _ h0 h1 g0 g1]; done)
        | (go_light; omega)
        | (go_light; simp only [fl, decide_eq_true_eq, beq_iff_eq, bne_iff_ne, ne_eq, beq_eq_false_iff_ne, bne_eq_false_iff_eq] at *; omega)
    · simp [binE]

set_option maxHeartbeats 400000 in
theorem w_bin_40 (a b : Int) (w : World) (h0 : 0 ≤ a) (h1 : a < 4294967296) (g0 : 0 ≤ b) (g1 : b < 4294967296) : Calls Try.prog 11 #[.int .i64 40, .int .u32 a, .int .u32 b] w fun e w' => e = .returned (.tuple #[.int .u32 (binX 40 a b), .int .i64 (binE 40 b)]) ∧ Grown w w' := by
  have ha := wrap32_sbd a
  have hb := wrap32_sbd b
  rw [bin_40]
  go_enter Try.func11, Try.ntmps11
  go_wp2
  all_goals go_ret2
  all_goals
    refine ⟨ret_ii ?_ ?_, Grown.refl _⟩
    ·
      first
        | rfl
        | (simp only [shl, shr, sar]; done)
        | (rw [u32_and _ _ h0 h1 g0 g1]; done)
        | (rw [u32_or _ _ h0 h1 g0 g1]; done)
        | (rw [u32_xor _ _ h0 h1 g0 g1]; done)
        | (go_light; omega)
        | (go_light; simp only [fl, decide_eq_true_eq, beq_iff_eq, bne_iff_ne, ne_eq, beq_eq_false_iff_ne, bne_eq_false_iff_eq] at *; omega)
    · simp [binE]

set_option maxHeartbeats 400000 in
theorem w_bin_41 (a b : Int) (w : World) (h0 : 0 ≤ a) (h1 : a < 4294967296) (g0 : 0 ≤ b) (g1 : b < 4294967296) : Calls Try.prog 11 #[.int .i64 41, .int .u32 a, .int .u32 b] w fun e w' => e = .returned (.tuple #[.int .u32 (binX 41 a b), .int .i64 (binE 41 b)]) ∧ Grown w w' := by
  have ha := wrap32_sbd a
  have hb := wrap32_sbd b
  rw [bin_41]
  go_enter Try.func11, Try.ntmps11
  go_wp2
  all_goals go_ret2
  all_goals
    refine ⟨ret_ii ?_ ?_, Grown.refl _⟩
    ·
      first
        | rfl
        | (simp only [shl, shr, sar]; done)
        | (rw [u32_and _ _ h0 h1 g0 g1]; done)
        | (rw [u32_or _ _ h0 h1 g0 g1]; done)
        | (rw [u32_xor _ _ h0 h1 g0 g1]; done)
        | (go_light; omega)
        | (go_light; simp only [fl, decide_eq_true_eq, beq_iff_eq, bne_iff_ne, ne_eq, beq_eq_false_iff_ne, bne_eq_false_iff_eq] at *; omega)
    · simp [binE]

set_option maxHeartbeats 400000 in
theorem w_bin_46 (a b : Int) (w : World) (h0 : 0 ≤ a) (h1 : a < 4294967296) (g0 : 0 ≤ b) (g1 : b < 4294967296) : Calls Try.prog 11 #[.int .i64 46, .int .u32 a, .int .u32 b] w fun e w' => e = .returned (.tuple #[.int .u32 (binX 46 a b), .int .i64 (binE 46 b)]) ∧ Grown w w' := by
  have ha := wrap32_sbd a
  have hb := wrap32_sbd b
  rw [bin_46]
  go_enter Try.func11, Try.ntmps11
  go_wp2
  all_goals go_ret2
  all_goals
    refine ⟨ret_ii ?_ ?_, Grown.refl _⟩
    ·
      first
        | rfl
        | (simp only [shl, shr, sar]; done)
        | (rw [u32_and _ _ h0 h1 g0 g1]; done)
        | (rw [u32_or _ _ h0 h1 g0 g1]; done)
        | (rw [u32_xor _ _ h0 h1 g0 g1]; done)
        | (go_light; omega)
        | (go_light; simp only [fl, decide_eq_true_eq, beq_iff_eq, bne_iff_ne, ne_eq, beq_eq_false_iff_ne, bne_eq_false_iff_eq] at *; omega)
    · simp [binE]

set_option maxHeartbeats 400000 in
theorem w_bin_47 (a b : Int) (w : World) (h0 : 0 ≤ a) (h1 : a < 4294967296) (g0 : 0 ≤ b) (g1 : b < 4294967296) : Calls Try.prog 11 #[.int .i64 47, .int .u32 a, .int .u32 b] w fun e w' => e = .returned (.tuple #[.int .u32 (binX 47 a b), .int .i64 (binE 47 b)]) ∧ Grown w w' := by
  have ha := wrap32_sbd a
  have hb := wrap32_sbd b
  rw [bin_47]
  go_enter Try.func11, Try.ntmps11
  go_wp2
  all_goals go_ret2
  all_goals
    refine ⟨ret_ii ?_ ?_, Grown.refl _⟩
    ·
      first
        | rfl
        | (simp only [shl, shr, sar]; done)
        | (rw [u32_and _ _ h0 h1 g0 g1]; done)
        | (rw [u32_or _ _ h0 h1 g0 g1]; done)
        | (rw [u32_xor _ _ h0 h1 g0 g1]; done)
        | (go_light; omega)
        | (go_light; simp only [fl, decide_eq_true_eq, beq_iff_eq, bne_iff_ne, ne_eq, beq_eq_false_iff_ne, bne_eq_false_iff_eq] at *; omega)
    · simp [binE]

set_option maxHeartbeats 400000 in
theorem w_bin_58 (a b : Int) (w : World) (h0 : 0 ≤ a) (h1 : a < 4294967296) (g0 : 0 ≤ b) (g1 : b < 4294967296) : Calls Try.prog 11 #[.int .i64 58, .int .u32 a, .int .u32 b] w fun e w' => e = .returned (.tuple #[.int .u32 (binX 58 a b), .int .i64 (binE 58 b)]) ∧ Grown w w' := by
  have ha := wrap32_sbd a
  have hb := wrap32_sbd b
  rw [bin_58]
  go_enter Try.func11, Try.ntmps11
  go_wp2
  all_goals go_ret2
  all_goals
    refine ⟨ret_ii ?_ ?_, Grown.refl _⟩
    ·
      first
        | rfl
        | (simp only [shl, shr, sar]; done)
        | (rw [u32_and _ _ h0 h1 g0 g1]; done)
        | (rw [u32_or _ _ h0 h1 g0 g1]; done)
        | (rw [u32_xor _ _ h0 h1 g0 g1]; done)
        | (go_light; omega)
        | (go_light; simp only [fl, decide_eq_true_eq, beq_iff_eq, bne_iff_ne, ne_eq, beq_eq_false_iff_ne, bne_eq_false_iff_eq] at *; omega)
    · simp [binE]

set_option maxHeartbeats 400000 in
theorem w_bin_59 (a b : Int) (w : World) (h0 : 0 ≤ a) (h1 : a < 4294967296) (g0 : 0 ≤ b) (g1 : b < 4294967296) : Calls Try.prog 11 #[.int .i64 59, .int .u32 a, .int .u32 b] w fun e w' => e = .returned (.tuple #[.int .u32 (binX 59 a b), .int .i64 (binE 59 b)]) ∧ Grown w w' := by
  have ha := wrap32_sbd a
  have hb := wrap32_sbd b
  rw [bin_59]
  go_enter Try.func11, Try.ntmps11
  go_wp2
  all_goals go_ret2
  all_goals
    refine ⟨ret_ii ?_ ?_, Grown.refl _⟩
    ·
      first
        | rfl
        | (simp only [shl, shr, sar]; done)
        | (rw [u32_and _ _ h0 h1 g0 g1]; done)
        | (rw [u32_or _ _ h0 h1 g0 g1]; done)
        | (rw [u32_xor _ _ h0 h1 g0 g1]; done)
        | (go_light; omega)
        | (go_light; simp only [fl, decide_eq_true_eq, beq_iff_eq, bne_iff_ne, ne_eq, beq_eq_false_iff_ne, bne_eq_false_iff_eq] at *; omega)
    · simp [binE]

set_option maxHeartbeats 400000 in
theorem w_bin_60 (a b : Int) (w : World) (h0 : 0 ≤ a) (h1 : a < 4294967296) (g0 : 0 ≤ b) (g1 : b < 4294967296) : Calls Try.prog 11 #[.int .i64 60, .int .u32 a, .int .u32 b] w fun e w' => e = .returned (.tuple #[.int .u32 (binX 60 a b), .int .i64 (binE 60 b)]) ∧ Grown w w' := by
  have ha := wrap32_sbd a
  have hb := wrap32_sbd b
  rw [bin_60]
  go_enter Try.func11, Try.ntmps11
  go_wp2
  all_goals go_ret2
  all_goals
    refine ⟨ret_ii ?_ ?_, Grown.refl _⟩
    ·
      first
        | rfl
        | (simp only [shl, shr, sar]; done)
        | (rw [u32_and _ _ h0 h1 g0 g1]; done)
        | (rw [u32_or _ _ h0 h1 g0 g1]; done)
        | (rw [u32_xor _ _ h0 h1 g0 g1]; done)
        | (go_light; omega)
        | (go_light; simp only [fl, decide_eq_true_eq, beq_iff_eq, bne_iff_ne, ne_eq, beq_eq_false_iff_ne, bne_eq_false_iff_eq] at *; omega)
    · simp [binE]

set_option maxHeartbeats 400000 in
theorem w_bin_61 (a b : Int) (w : World) (h0 : 0 ≤ a) (h1 : a < 4294967296) (g0 : 0 ≤ b) (g1 : b < 4294967296) : Calls Try.prog 11 #[.int .i64 61, .int .u32 a, .int .u32 b] w fun e w' => e = .returned (.tuple #[.int .u32 (binX 61 a b), .int .i64 (binE 61 b)]) ∧ Grown w w' := by
  have ha := wrap32_sbd a
  have hb := wrap32_sbd b
  rw [bin_61]
  go_enter Try.func11, Try.ntmps11
  go_wp2
  all_goals go_ret2
  all_goals
    refine ⟨ret_ii ?_ ?_, Grown.refl _⟩
    ·
      first
        | rfl
        | (simp only [shl, shr, sar]; done)
        | (rw [u32_and _ _ h0 h1 g0 g1]; done)
        | (rw [u32_or _ _ h0 h1 g0 g1]; done)
        | (rw [u32_xor _ _ h0 h1 g0 g1]; done)
        | (go_light; omega)
        | (go_light; simp only [fl, decide_eq_true_eq, beq_iff_eq, bne_iff_ne, ne_eq, beq_eq_false_iff_ne, bne_eq_false_iff_eq] at *; omega)
    · simp [binE]

set_option maxHeartbeats 400000 in
theorem w_bin_62 (a b : Int) (w : World) (h0 : 0 ≤ a) (h1 : a < 4294967296) (g0 : 0 ≤ b) (g1 : b < 4294967296) : Calls Try.prog 11 #[.int .i64 62, .int .u32 a, .int .u32 b] w fun e w' => e = .returned (.tuple #[.int .u32 (binX 62 a b), .int .i64 (binE 62 b)]) ∧ Grown w w' := by
  have ha := wrap32_sbd a
  have hb := wrap32_sbd b
  rw [bin_62]
  go_enter Try.func11, Try.ntmps11
  go_wp2
  all_goals go_ret2
  all_goals
    refine ⟨ret_ii ?_ ?_, Grown.refl _⟩
    ·
      first
        | rfl
        | (simp only [shl, shr, sar]; done)
        | (rw [u32_and _ _ h0 h1 g0 g1]; done)
        | (rw [u32_or _ _ h0 h1 g0 g1]; done)
        | (rw [u32_xor _ _ h0 h1 g0 g1]; done)
        | (go_light; omega)
        | (go_light; simp only [fl, decide_eq_true_eq, beq_iff_eq, bne_iff_ne, ne_eq, beq_eq_false_iff_ne, bne_eq_false_iff_eq] at *; omega)
    · simp [binE]

set_option maxHeartbeats 400000 in
theorem w_bin_63 (a b : Int) (w : World) (h0 : 0 ≤ a) (h1 : a < 4294967296) (g0 : 0 ≤ b) (g1 : b < 4294967296) : Calls Try.prog 11 #[.int .i64 63, .int .u32 a, .int .u32 b] w fun e w' => e = .returned (.tuple #[.int .u32 (binX 63 a b), .int .i64 (binE 63 b)]) ∧ Grown w w' := by
  have ha := wrap32_sbd a
  have hb := wrap32_sbd b
  rw [bin_63]
  go_enter Try.func11, Try.ntmps11
  go_wp2
  all_goals go_ret2
  all_goals
    refine ⟨ret_ii ?_ ?_, Grown.refl _⟩
    ·
      first
        | rfl
        | (simp only [shl, shr, sar]; done)
        | (rw [u32_and _ _ h0 h1 g0 g1]; done)
        | (rw [u32_or _ _ h0 h1 g0 g1]; done)
        | (rw [u32_xor _ _ h0 h1 g0 g1]; done)
        | (go_light; omega)
        | (go_light; simp only [fl, decide_eq_true_eq, beq_iff_eq, bne_iff_ne, ne_eq, beq_eq_false_iff_ne, bne_eq_false_iff_eq] at *; omega)
    · simp [binE]

set_option maxHeartbeats 400000 in
theorem w_bin_64 (a b : Int) (w : World) (h0 : 0 ≤ a) (h1 : a < 4294967296) (g0 : 0 ≤ b) (g1 : b < 4294967296) : Calls Try.prog 11 #[.int .i64 64, .int .u32 a, .int .u32 b] w fun e w' => e = .returned (.tuple #[.int .u32 (binX 64 a b), .int .i64 (binE 64 b)]) ∧ Grown w w' := by
  have ha := wrap32_sbd a
  have hb := wrap32_sbd b
  rw [bin_64]
  go_enter Try.func11, Try.ntmps11
  go_wp2
  all_goals go_ret2
  all_goals
    refine ⟨ret_ii ?_ ?_, Grown.refl _⟩
    ·
      first
        | rfl
        | (simp only [shl, shr, sar]; done)
        | (rw [u32_and _ _ h0 h1 g0 g1]; done)
        | (rw [u32_or _ _ h0 h1 g0 g1]; done)
        | (rw [u32_xor _ _ h0 h1 g0 g1]; done)
        | (go_light; omega)
        | (go_light; simp only [fl, decide_eq_true_eq, beq_iff_eq, bne_iff_ne, ne_eq, beq_eq_false_iff_ne, bne_eq_false_iff_eq] at *; omega)
    · simp [binE]

set_option maxHeartbeats 400000 in
theorem w_bin_65 (a b : Int) (w : World) (h0 : 0 ≤ a) (h1 : a < 4294967296) (g0 : 0 ≤ b) (g1 : b < 4294967296) : Calls Try.prog 11 #[.int .i64 65, .int .u32 a, .int .u32 b] w fun e w' => e = .returned (.tuple #[.int .u32 (binX 65 a b), .int .i64 (binE 65 b)]) ∧ Grown w w' := by
  have ha := wrap32_sbd a
  have hb := wrap32_sbd b
  rw [bin_65]
  go_enter Try.func11, Try.ntmps11
  go_wp2
  all_goals go_ret2
  all_goals
    refine ⟨ret_ii ?_ ?_, Grown.refl _⟩
    ·
      first
        | rfl
        | (simp only [shl, shr, sar]; done)
        | (rw [u32_and _ _ h0 h1 g0 g1]; done)
        | (rw [u32_or _ _ h0 h1 g0 g1]; done)
        | (rw [u32_xor _ _ h0 h1 g0 g1]; done)
        | (go_light; omega)
        | (go_light; simp only [fl, decide_eq_true_eq, beq_iff_eq, bne_iff_ne, ne_eq, beq_eq_false_iff_ne, bne_eq_false_iff_eq] at *; omega)
    · simp [binE]

set_option maxHeartbeats 400000 in
theorem w_bin_66 (a b : Int) (w : World) (h0 : 0 ≤ a) (h1 : a < 4294967296) (g0 : 0 ≤ b) (g1 : b < 4294967296) : Calls Try.prog 11 #[.int .i64 66, .int .u32 a, .int .u32 b] w fun e w' => e = .returned (.tuple #[.int .u32 (binX 66 a b), .int .i64 (binE 66 b)]) ∧ Grown w w' := by
  have ha := wrap32_sbd a
  have hb := wrap32_sbd b
  rw [bin_66]
  go_enter Try.func11, Try.ntmps11
  go_wp2
  all_goals go_ret2
  all_goals
    refine ⟨ret_ii ?_ ?_, Grown.refl _⟩
    ·
      first
        | rfl
        | (simp only [shl, shr, sar]; done)
        | (rw [u32_and _ _ h0 h1 g0 g1]; done)
        | (rw [u32_or _ _ h0 h1 g0 g1]; done)
        | (rw [u32_xor _ _ h0 h1 g0 g1]; done)
        | (go_light; omega)
        | (go_light; simp only [fl, decide_eq_true_eq, beq_iff_eq, bne_iff_ne, ne_eq, beq_eq_false_iff_ne, bne_eq_false_iff_eq] at *; omega)
    · simp [binE]

set_option maxHeartbeats 400000 in
theorem w_bin_67 (a b : Int) (w : World) (h0 : 0 ≤ a) (h1 : a < 4294967296) (g0 : 0 ≤ b) (g1 : b < 4294967296) : Calls Try.prog 11 #[.int .i64 67, .int .u32 a, .int .u32 b] w fun e w' => e = .returned (.tuple #[.int .u32 (binX 67 a b), .int .i64 (binE 67 b)]) ∧ Grown w w' := by
  have ha := wrap32_sbd a
  have hb := wrap32_sbd b
  rw [bin_67]
  go_enter Try.func11, Try.ntmps11
  go_wp2
  all_goals go_ret2
  all_goals
    refine ⟨ret_ii ?_ ?_, Grown.refl _⟩
    ·
      first
        | rfl
        | (simp only [shl, shr, sar]; done)
        | (rw [u32_and _ _ h0 h1 g0 g1]; done)
        | (rw [u32_or _ _ h0 h1 g0 g1]; done)
        | (rw [u32_xor _ _ h0 h1 g0 g1]; done)
        | (go_light; omega)
        | (go_light; simp only [fl, decide_eq_true_eq, beq_iff_eq, bne_iff_ne, ne_eq, beq_eq_false_iff_ne, bne_eq_false_iff_eq] at *; omega)
    · simp [binE]

set_option maxHeartbeats 400000 in
theorem w_bin_33 (a b : Int) (w : World) (h0 : 0 ≤ a) (h1 : a < 4294967296) (g0 : 0 ≤ b) (g1 : b < 4294967296) : Calls Try.prog 11 #[.int .i64 33, .int .u32 a, .int .u32 b] w fun e w' => e = .returned (.tuple #[.int .u32 (binX 33 a b), .int .i64 (binE 33 b)]) ∧ Grown w w' := by
  have ha := wrap32_sbd a
  have hb := wrap32_sbd b
  rw [bin_33]
  by_cases c : b = 0
  · subst c
    go_enter Try.func11, Try.ntmps11
    go_wp2_with (first | (go_at_call 7; refine (w_divide _ _ _ _ h0 h1 (by omega) (by omega)).mono ?_; rintro e w1 ⟨rfl, hg⟩))
    go_ret2
    refine ⟨ret_ii ?_ ?_, hg⟩
    · first
        | rfl
        | exact (dv42_zero a).1.symm
    · simp [binE, dvE]
  · have hn := wrap32_ne b g0 g1 c
    go_enter Try.func11, Try.ntmps11
    go_wp2_with (first | (go_at_call 7; refine (w_divide _ _ _ _ h0 h1 (by omega) (by omega)).mono ?_; rintro e w1 ⟨rfl, hg⟩))
    go_ret2
    refine ⟨ret_ii ?_ ?_, hg⟩
    · first
        | rfl
        | exact (dv42 a b c).1.symm
    · simp [binE, dvE, c]

set_option maxHeartbeats 400000 in
theorem w_bin_34 (a b : Int) (w : World) (h0 : 0 ≤ a) (h1 : a < 4294967296) (g0 : 0 ≤ b) (g1 : b < 4294967296) : Calls Try.prog 11 #[.int .i64 34, .int .u32 a, .int .u32 b] w fun e w' => e = .returned (.tuple #[.int .u32 (binX 34 a b), .int .i64 (binE 34 b)]) ∧ Grown w w' := by
  have ha := wrap32_sbd a
  have hb := wrap32_sbd b
  rw [bin_34]
  by_cases c : b = 0
  · subst c
    go_enter Try.func11, Try.ntmps11
    go_wp2_with (first | (go_at_call 7; refine (w_divide _ _ _ _ h0 h1 (by omega) (by omega)).mono ?_; rintro e w1 ⟨rfl, hg⟩))
    go_ret2
    refine ⟨ret_ii ?_ ?_, hg⟩
    · first
        | rfl
        | exact (dv42_zero a).2.symm
    · simp [binE, dvE]
  · have hn := wrap32_ne b g0 g1 c
    go_enter Try.func11, Try.ntmps11
    go_wp2_with (first | (go_at_call 7; refine (w_divide _ _ _ _ h0 h1 (by omega) (by omega)).mono ?_; rintro e w1 ⟨rfl, hg⟩))
    go_ret2
    refine ⟨ret_ii ?_ ?_, hg⟩
    · first
        | rfl
        | exact (dv42 a b c).2.symm
    · simp [binE, dvE, c]

set_option maxHeartbeats 1000000 in
theorem w_bin (op a b : Int) (w : World) (h0 : 0 ≤ a) (h1 : a < 4294967296) (g0 : 0 ≤ b) (g1 : b < 4294967296) : Calls Try.prog 11 #[.int .i64 op, .int .u32 a, .int .u32 b] w fun e w' => e = .returned (.tuple #[.int .u32 (binX op a b), .int .i64 (binE op b)]) ∧ Grown w w' := by
  by_cases c30 : op = 30
  · subst c30; exact w_bin_30 a b w h0 h1 g0 g1
  by_cases c31 : op = 31
  · subst c31; exact w_bin_31 a b w h0 h1 g0 g1
  by_cases c32 : op = 32
  · subst c32; exact w_bin_32 a b w h0 h1 g0 g1
  by_cases c33 : op = 33
  · subst c33; exact w_bin_33 a b w h0 h1 g0 g1
  by_cases c34 : op = 34
  · subst c34; exact w_bin_34 a b w h0 h1 g0 g1
  by_cases c35 : op = 35
  · subst c35; exact w_bin_35 a b w h0 h1 g0 g1
  by_cases c36 : op = 36
  · subst c36; exact w_bin_36 a b w h0 h1 g0 g1
  by_cases c37 : op = 37
  · subst c37; exact w_bin_37 a b w h0 h1 g0 g1
  by_cases c39 : op = 39
  · subst c39; exact w_bin_39 a b w h0 h1 g0 g1
  by_cases c40 : op = 40
  · subst c40; exact w_bin_40 a b w h0 h1 g0 g1
  by_cases c41 : op = 41
  · subst c41; exact w_bin_41 a b w h0 h1 g0 g1
  by_cases c46 : op = 46
  · subst c46; exact w_bin_46 a b w h0 h1 g0 g1
  by_cases c47 : op = 47
  · subst c47; exact w_bin_47 a b w h0 h1 g0 g1
  by_cases c58 : op = 58
  · subst c58; exact w_bin_58 a b w h0 h1 g0 g1
  by_cases c59 : op = 59
  · subst c59; exact w_bin_59 a b w h0 h1 g0 g1
  by_cases c60 : op = 60
  · subst c60; exact w_bin_60 a b w h0 h1 g0 g1
  by_cases c61 : op = 61
  · subst c61; exact w_bin_61 a b w h0 h1 g0 g1
  by_cases c62 : op = 62
  · subst c62; exact w_bin_62 a b w h0 h1 g0 g1
  by_cases c63 : op = 63
  · subst c63; exact w_bin_63 a b w h0 h1 g0 g1
  by_cases c64 : op = 64
  · subst c64; exact w_bin_64 a b w h0 h1 g0 g1
  by_cases c65 : op = 65
  · subst c65; exact w_bin_65 a b w h0 h1 g0 g1
  by_cases c66 : op = 66
  · subst c66; exact w_bin_66 a b w h0 h1 g0 g1
  by_cases c67 : op = 67
  · subst c67; exact w_bin_67 a b w h0 h1 g0 g1
  have hx : Hid (binX op a b = 0) := bin_other op a b c30 c31 c32 c33 c34 c35 c36 c37 c39 c40 c41 c46 c47 c58 c59 c60 c61 c62 c63 c64 c65 c66 c67
  have hq : Hid (binE op b = 2) := by unfold binE; show _ = _; omega
  go_enter Try.func11, Try.ntmps11
  go_wp2
  go_ret2
  exact ⟨ret_ii hx.out.symm hq.out.symm, Grown.refl _⟩

end Go.Proofs.Ytfmlkclacbceeab
