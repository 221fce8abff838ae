/-
  Shifts: the document's answer 'shift' returns, for all cells, what shifting by min(b, 32) bits means on whole numbers: to the left, to the right, to the right with the sign.
-/
import Derived.Test.YtfmlkclacbceeabBas
namespace Go.Proofs.Ytfmlkclacbceeab
open Go.ChangeShapes Go.WideShapes Go.ChangeAt Go.RowKit
set_option linter.unusedVariables false
set_option linter.unusedSimpArgs false

def shl (a : Int) (k : Nat) : Int := a * 2 ^ k % 4294967296
theorem shl_bd (a : Int) (k : Nat) : 0 ≤ shl a k ∧ shl a k < 4294967296 := by unfold shl; omega
theorem shl_succ (a : Int) (k : Nat) : shl a (k + 1) = shl a k * 2 % 4294967296 := by
  unfold shl
  rw [Int.pow_succ, ← Int.mul_assoc]
  omega
theorem shl_zero (a : Int) (h0 : 0 ≤ a) (h1 : a < 4294967296) : shl a 0 = a := by
  unfold shl; simp; omega
def shr (a : Int) (k : Nat) : Int := a / 2 ^ k
theorem shr_succ (a : Int) (k : Nat) : shr a (k + 1) = shr a k / 2 := by
  unfold shr
  rw [Int.pow_succ, Int.ediv_ediv_of_nonneg (Int.le_of_lt (Int.pow_pos (by decide)))]
theorem shr_bd (a : Int) (k : Nat) (h0 : 0 ≤ a) (h1 : a < 4294967296) : 0 ≤ shr a k ∧ shr a k < 4294967296 := by
  induction k with
  | zero => unfold shr; simp; omega
  | succ k ih => rw [shr_succ]; omega
theorem shr_zero (a : Int) : shr a 0 = a := by unfold shr; simp
theorem shr_sbd (a : Int) (k : Nat) (h0 : -2147483648 ≤ a) (h1 : a < 2147483648) : -2147483648 ≤ shr a k ∧ shr a k < 2147483648 := by
  induction k with
  | zero => unfold shr; simp; omega
  | succ k ih => rw [shr_succ]; omega
def sar (a : Int) (k : Nat) : Int := shr (wrap32 a) k % 4294967296
theorem sar_bd (a : Int) (k : Nat) : 0 ≤ sar a k ∧ sar a k < 4294967296 := by unfold sar; omega
theorem sar_zero (a : Int) (h0 : 0 ≤ a) (h1 : a < 4294967296) : sar a 0 = a := by
  unfold sar; rw [shr_zero]; unfold wrap32; omega
theorem sar_succ (a : Int) (k : Nat) : sar a (k + 1) = sar a k / 2 + sar a k / 2147483648 * 2147483648 := by
  have h := shr_sbd (wrap32 a) k (wrap32_sbd a).1 (wrap32_sbd a).2
  unfold sar
  rw [shr_succ]
  omega

end Go.Proofs.Ytfmlkclacbceeab
