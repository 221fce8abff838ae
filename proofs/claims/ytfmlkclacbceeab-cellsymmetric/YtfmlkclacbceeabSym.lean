/-
  Plain facts on symmetric division of a signed double of 33 bits by a signed cell, and Wide's answer in these terms. The divisor isn't 0.
-/
import Derived.Test.YtfmlkclacbceeabWid
import Derived.Test.YtfmlkclacbceeabEuc
namespace Go.Proofs.Ytfmlkclacbceeab
open Go.ChangeShapes Go.WideShapes Go.ChangeAt Go.RowKit
set_option linter.unusedVariables false
set_option linter.unusedSimpArgs false

theorem w_wide_sym (lo hi d N S T : Int) (w : World) (h0 : 0 ≤ lo) (h1 : lo < 4294967296) (g0 : 0 ≤ hi) (g1 : hi < 4294967296) (d0 : 0 < d) (d1 : d < 4294967296) (hN : Hid (lo + hi * 4294967296 = N))
    (hS : Hid (wrap64 ((wrap64 N).tdiv (wrap32 d)) = S)) (hT : Hid ((wrap64 N).tmod (wrap32 d) = T)) :
    Calls Try.prog 9 #[.int .i64 469, .int .u32 lo, .int .u32 hi, .int .u32 d] w fun e w' => e = .returned (.tuple #[.int .u32 (fsQ S), .int .u32 (fsR S T), .int .i64 (fsE S)]) ∧ Grown w w' := by
  have h := w_wide_469 lo hi d N w h0 h1 g0 g1 d0 d1 hN
  rw [hS.out, hT.out] at h
  exact h

/-- the facts of one division: X the number, D the divisor -/
theorem sym_facts (X D : Int) (x0 : -4294967296 ≤ X) (x1 : X < 4294967296) (d0 : -2147483648 ≤ D) (d1 : D < 2147483648) (hd : ¬ D = 0) :
    ∃ S T : Int, wrap64 (X.tdiv D) = S ∧ X.tmod D = T ∧ -4294967296 ≤ S ∧ S ≤ 4294967296 ∧ wrap64 (wrap64 (S * D) + T) = X ∧ -2147483648 < T ∧ T < 2147483648 ∧ (0 ≤ X → 0 ≤ T) ∧ (X ≤ 0 → T ≤ 0) := by
  have e : (X.tdiv D).natAbs = X.natAbs / D.natAbs := Int.natAbs_tdiv X D
  have l := Nat.div_le_self X.natAbs D.natAbs
  have s0 : -4294967296 ≤ X.tdiv D := by omega
  have s1 : X.tdiv D ≤ 4294967296 := by omega
  have hm := tdm X D
  obtain ⟨b1, b2⟩ := tmod_bd X D
  have w1 : wrap64 (X.tdiv D) = X.tdiv D := wrap64_id _ (by omega) (by omega)
  have t0 : -2147483648 < X.tmod D := by omega
  have t1 : X.tmod D < 2147483648 := by omega
  refine ⟨X.tdiv D, X.tmod D, w1, rfl, s0, s1, ?_, t0, t1, fun h => Int.tmod_nonneg D h, fun h => ?_⟩
  · generalize X.tdiv D * D = P at *
    rw [wrap64_id P (by omega) (by omega), hm, wrap64_id X (by omega) (by omega)]
  · have := Int.tmod_nonneg D (show 0 ≤ -X by omega)
    rw [Int.neg_tmod] at this
    omega
theorem fs_out (S T : Int) (h : S < -2147483648 ∨ 2147483647 < S) : fsE S = 4 := by unfold fsE; omega
theorem fs_in (S T : Int) (h0 : -2147483648 ≤ S) (h1 : S ≤ 2147483647) (t0 : -2147483648 < T) (t1 : T < 2147483648) :
    fsE S = 0 ∧ wrap32 (fsQ S) = S ∧ wrap32 (fsR S T) = T ∧ 0 ≤ fsQ S ∧ fsQ S < 4294967296 ∧ 0 ≤ fsR S T ∧ fsR S T < 4294967296 := by
  unfold fsE fsQ fsR wrap32; omega
end Go.Proofs.Ytfmlkclacbceeab
