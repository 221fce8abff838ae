/-
  Plain facts: what sizes and signs give is the symmetric and the floored quotient and rest of the signed values, fitted to a cell. No Go text in sight; the divisor isn't 0.
-/
import Derived.Test.YtfmlkclacbceeaaWid
namespace Go.Proofs.Ytfmlkclacbceeaa
open Go.ChangeShapes Go.WideShapes Go.ChangeAt Go.RowKit
set_option linter.unusedVariables false
set_option linter.unusedSimpArgs false

/-- a quotient and a rest of 64 bits, fitted, hang on the quotient's wrap only where it is too great -/
theorem fs_wrap (s t : Int) (h0 : -9223372036854775808 ≤ s) (h1 : s ≤ 9223372036854775808) : fsQ (wrap64 s) = fsQ s ∧ fsR (wrap64 s) t = fsR s t ∧ fsE (wrap64 s) = fsE s := by
  unfold fsQ fsR fsE wrap64; omega

theorem tdiv_nn (Z m : Int) (hz : 0 ≤ Z) : Z.tdiv m = Z / m ∧ Z.tmod m = Z % m := ⟨Int.tdiv_eq_ediv_of_nonneg hz, Int.tmod_eq_emod_of_nonneg hz⟩
/-- the quotient and the rest of sizes: bounds -/
theorem size_bd (Z m : Int) (hz : 0 ≤ Z) (hm : 0 < m) : 0 ≤ Z / m ∧ Z / m ≤ Z ∧ 0 ≤ Z % m ∧ Z % m < m :=
  ⟨Int.ediv_nonneg hz (by omega), Int.ediv_le_self m hz, Int.emod_nonneg Z (by omega), Int.emod_lt_of_pos Z hm⟩
theorem adj_if (n d : Int) : adj n d = true ↔ (¬ n.tmod d = 0 ∧ ¬ (n.tmod d < 0 ↔ d < 0)) := by
  unfold adj
  by_cases h1 : n.tmod d = 0 <;> by_cases h2 : n.tmod d < 0 <;> by_cases h3 : d < 0 <;> simp [h1, h2, h3]
theorem fq_no (n d : Int) (h : n.tmod d = 0 ∨ (n.tmod d < 0 ↔ d < 0)) : fq n d = wrap64 (n.tdiv d) ∧ fr n d = n.tmod d := by
  have : ¬ adj n d = true := fun e => by
    obtain ⟨h1, h2⟩ := (adj_if n d).1 e
    rcases h with h | h
    · exact h1 h
    · exact h2 h
  unfold fq fr
  rw [if_neg this, if_neg this]; exact ⟨rfl, rfl⟩
theorem fq_yes (n d : Int) (h1 : ¬ n.tmod d = 0) (h2 : ¬ (n.tmod d < 0 ↔ d < 0)) : fq n d = wrap64 (wrap64 (n.tdiv d) - 1) ∧ fr n d = n.tmod d + d := by
  have : adj n d = true := (adj_if n d).2 ⟨h1, h2⟩
  unfold fq fr
  rw [if_pos this, if_pos this]; exact ⟨rfl, rfl⟩
theorem wrap_pred (s : Int) (h0 : -9223372036854775807 ≤ s) (h1 : s ≤ 9223372036854775807) : wrap64 (wrap64 s - 1) = s - 1 := by unfold wrap64; omega
end Go.Proofs.Ytfmlkclacbceeaa
