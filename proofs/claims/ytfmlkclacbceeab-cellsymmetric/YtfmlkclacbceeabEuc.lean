/-
  Plain facts on floored division of signed 32-bit numbers: quotient times divisor and the rest are the number; the rest is 0 or has the divisor's sign and is less without the signs. The divisor isn't 0; -2^31 by -1 is left out.
-/
import Derived.Test.YtfmlkclacbceeabDiv
namespace Go.Proofs.Ytfmlkclacbceeab
open Go.ChangeShapes Go.WideShapes Go.ChangeAt Go.RowKit
set_option linter.unusedVariables false
set_option linter.unusedSimpArgs false

theorem tdiv_small (n d : Int) (h0 : -2147483648 ≤ n) (h1 : n ≤ 2147483647) : -2147483648 ≤ n.tdiv d ∧ n.tdiv d ≤ 2147483648 := by
  have e : (n.tdiv d).natAbs = n.natAbs / d.natAbs := Int.natAbs_tdiv n d
  have l := Nat.div_le_self n.natAbs d.natAbs
  omega
theorem tdiv_small2 (n d : Int) (h0 : -2147483648 ≤ n) (h1 : n ≤ 2147483647) (h2 : 2 ≤ d ∨ d ≤ -2) : -1073741824 ≤ n.tdiv d ∧ n.tdiv d ≤ 1073741824 := by
  have e : (n.tdiv d).natAbs = n.natAbs / d.natAbs := Int.natAbs_tdiv n d
  have l : n.natAbs / d.natAbs ≤ n.natAbs / 2 := Nat.div_le_div_left (by omega) (by omega)
  omega
theorem tdm (n d : Int) : n.tdiv d * d + n.tmod d = n := by
  have := Int.mul_tdiv_add_tmod n d
  rw [Int.mul_comm] at this
  exact this
theorem wrap64_id (n : Int) (h0 : -9223372036854775808 ≤ n) (h1 : n < 9223372036854775808) : wrap64 n = n := by unfold wrap64; omega
theorem adj_iff (n d : Int) : adj n d = true ↔ (¬ n.tmod d = 0 ∧ ¬ (n.tmod d < 0 ↔ d < 0)) := by
  unfold adj
  by_cases h1 : n.tmod d = 0 <;> by_cases h2 : n.tmod d < 0 <;> by_cases h3 : d < 0 <;> simp [h1, h2, h3]

theorem euclid (n d : Int) (h0 : -2147483648 ≤ n) (h1 : n ≤ 2147483647) (d0 : -2147483648 ≤ d) (d1 : d ≤ 2147483647) (hd : ¬ d = 0) (hx : ¬ (n = -2147483648 ∧ d = -1)) :
    fq n d * d + fr n d = n ∧ -2147483648 ≤ fq n d ∧ fq n d ≤ 2147483647 ∧
    (0 < d → 0 ≤ fr n d ∧ fr n d < d) ∧ (d < 0 → fr n d ≤ 0 ∧ d < fr n d) := by
  obtain ⟨t1, t2⟩ := tdiv_small n d h0 h1
  have hm := tdm n d
  obtain ⟨b1, b2⟩ := tmod_bd n d
  have ha := adj_iff n d
  unfold fq fr
  rw [wrap64_id (n.tdiv d) (by omega) (by omega), wrap64_id (n.tdiv d - 1) (by omega) (by omega)]
  have hs : ¬ n.tmod d = 0 → 2 ≤ d ∨ d ≤ -2 := by omega
  by_cases c : adj n d = true
  · rw [if_pos c, if_pos c]
    obtain ⟨c1, c2⟩ := ha.1 c
    obtain ⟨s1, s2⟩ := tdiv_small2 n d h0 h1 (hs c1)
    refine ⟨?_, by omega, by omega, by omega, by omega⟩
    rw [Int.sub_mul]
    omega
  · rw [if_neg c, if_neg c]
    have c1 : n.tmod d = 0 ∨ (n.tmod d < 0 ↔ d < 0) := by
      by_cases z : n.tmod d = 0
      · exact Or.inl z
      · exact Or.inr (Decidable.byContradiction fun z2 => c (ha.2 ⟨z, z2⟩))
    refine ⟨hm, t1, ?_, by omega, by omega⟩
    by_cases e1 : d = -1
    · subst e1
      have : n.tdiv (-1) = -n := by simp
      omega
    · by_cases e2 : d = 1
      · subst e2
        have : n.tdiv 1 = n := by simp
        omega
      · have := tdiv_small2 n d h0 h1 (by omega)
        omega

/-- what the law asks of Divide's answers -/
theorem euclid_cells (a b : Int) (a0 : 0 ≤ a) (a1 : a < 4294967296) (b0 : 0 ≤ b) (b1 : b < 4294967296) (hb : ¬ b = 0) (hx : ¬ (a = 2147483648 ∧ b = 4294967295)) :
    ∃ S T : Int, wrap32 (dvQ 42 a b) = S ∧ wrap32 (dvR 42 a b) = T ∧ wrap64 (wrap64 (S * wrap32 b) + T) = wrap32 a ∧ -2147483648 ≤ T ∧ T ≤ 2147483647 ∧ (0 < wrap32 b → 0 ≤ T ∧ T < wrap32 b) ∧ (wrap32 b < 0 → T ≤ 0 ∧ wrap32 b < T) := by
  obtain ⟨p1, p2⟩ := wrap32_sbd a
  obtain ⟨q1, q2⟩ := wrap32_sbd b
  have hn := wrap32_ne b b0 b1 hb
  have hx2 : ¬ (wrap32 a = -2147483648 ∧ wrap32 b = -1) := by unfold wrap32; omega
  obtain ⟨e, f1, f2, f3, f4⟩ := euclid (wrap32 a) (wrap32 b) p1 (by omega) q1 (by omega) hn hx2
  have hr1 : -2147483648 ≤ fr (wrap32 a) (wrap32 b) := by omega
  have hr2 : fr (wrap32 a) (wrap32 b) ≤ 2147483647 := by omega
  refine ⟨fq (wrap32 a) (wrap32 b), fr (wrap32 a) (wrap32 b), ?_, ?_, ?_, hr1, hr2, f3, f4⟩
  · have : dvQ 42 a b = fq (wrap32 a) (wrap32 b) % 4294967296 := by simp [dvQ, hb]
    rw [this]
    generalize fq (wrap32 a) (wrap32 b) = x at *
    unfold wrap32; omega
  · have : dvR 42 a b = fr (wrap32 a) (wrap32 b) % 4294967296 := by simp [dvR, hb]
    rw [this]
    generalize fr (wrap32 a) (wrap32 b) = x at *
    unfold wrap32; omega
  · generalize fq (wrap32 a) (wrap32 b) * wrap32 b = P at *
    rw [wrap64_id P (by omega) (by omega), e, wrap64_id _ (by omega) (by omega)]
theorem dv_edge : dvQ 42 2147483648 4294967295 = 2147483648 ∧ dvR 42 2147483648 4294967295 = 0 ∧ dvE 42 4294967295 = 0 := by
  have e1 : wrap32 2147483648 = -2147483648 := by unfold wrap32; decide
  have e2 : wrap32 4294967295 = -1 := by unfold wrap32; decide
  have e3 : wrap64 2147483648 = 2147483648 := by unfold wrap64; decide
  have e4 : Int.tdiv (-2147483648) (-1) = 2147483648 := by decide
  have e5 : Int.tmod (-2147483648) (-1) = 0 := by decide
  simp [dvQ, dvR, dvE, e1, e2, fq, fr, adj, e3, e4, e5]
theorem dv_zero (a : Int) : dvQ 42 a 0 = 0 ∧ dvR 42 a 0 = 0 ∧ dvE 42 0 = 7 := by simp [dvQ, dvR, dvE]
theorem dv_ok (b : Int) (h : ¬ b = 0) : dvE 42 b = 0 := by simp [dvE, h]
end Go.Proofs.Ytfmlkclacbceeab
