/-
  Wide of the program returns plain functions of the double and the divisor, for all arguments.
-/
import Derived.Test.YtfmlkclacbceeaaDbl
namespace Go.Proofs.Ytfmlkclacbceeaa
open Go.ChangeShapes Go.WideShapes Go.ChangeAt Go.RowKit
set_option linter.unusedVariables false
set_option linter.unusedSimpArgs false

theorem w_valueN (lo hi N : Int) (w : World) (h0 : 0 ≤ lo) (h1 : lo < 4294967296) (g0 : 0 ≤ hi) (g1 : hi < 4294967296) (hN : Hid (lo + hi * 4294967296 = N)) :
    Calls Try.prog 39 #[.agg #[.int .u32 lo, .int .u32 hi]] w fun e w' => e = .returned (.int .u64 N) ∧ Grown w w' := by
  rw [← hN.out]
  exact w_valueOf lo hi w h0 h1 g0 g1

set_option maxHeartbeats 1000000 in
theorem w_wide_213 (lo hi d N : Int) (w : World) (h0 : 0 ≤ lo) (h1 : lo < 4294967296) (g0 : 0 ≤ hi) (g1 : hi < 4294967296) (d0 : 0 < d) (d1 : d < 4294967296) (hN : Hid (lo + hi * 4294967296 = N)) :
    Calls Try.prog 18 #[.int .i64 213, .int .u32 lo, .int .u32 hi, .int .u32 d] w fun e w' => e = .returned (.tuple #[.int .u32 (fcQ (N / d)), .int .u32 (fcR (N / d) (N % d)), .int .i64 (fcE (N / d))]) ∧ Grown w w' := by
  go_enter Try.func18, Try.ntmps18
  go_wp2_with (go_at_call 39; refine (w_valueN _ _ N _ h0 h1 g0 g1 hN).mono ?_; rintro e w1 ⟨rfl, hg⟩)
  have n0 : 0 ≤ N := by have := hN.out; omega
  have n1 : N < 18446744073709551616 := by have := hN.out; omega
  have q0 : 0 ≤ N / d := Int.ediv_nonneg n0 (by omega)
  have r0 : 0 ≤ N % d := Int.emod_nonneg _ (by omega)
  have hw : IntKind.u64.wrap d = d := by rw [IntKind.wrap_u64]; omega
  have hz : ¬ d = 0 := by omega
  have ht : N.tdiv d = N / d := Int.tdiv_eq_ediv_of_nonneg n0
  have hm : N.tmod d = N % d := Int.tmod_eq_emod_of_nonneg n0
  have hl : N / d ≤ N := Int.ediv_le_self d n0
  have hv : IntKind.u64.wrap (N / d) = N / d := by rw [IntKind.wrap_u64]; omega
  go_quiet ((go_at_call 40; exact Calls.quiet_of_same (w_fitC _ _ _ q0 r0)))
  go_wp2
  go_ret3
  exact ⟨rfl, grown_drewN hg _⟩

set_option maxHeartbeats 1000000 in
theorem w_wide_469 (lo hi d N : Int) (w : World) (h0 : 0 ≤ lo) (h1 : lo < 4294967296) (g0 : 0 ≤ hi) (g1 : hi < 4294967296) (d0 : 0 < d) (d1 : d < 4294967296) (hN : Hid (lo + hi * 4294967296 = N)) :
    Calls Try.prog 18 #[.int .i64 469, .int .u32 lo, .int .u32 hi, .int .u32 d] w fun e w' => e = .returned (.tuple #[.int .u32 (fsQ (wrap64 ((wrap64 N).tdiv (wrap32 d)))), .int .u32 (fsR (wrap64 ((wrap64 N).tdiv (wrap32 d))) ((wrap64 N).tmod (wrap32 d))), .int .i64 (fsE (wrap64 ((wrap64 N).tdiv (wrap32 d))))]) ∧ Grown w w' := by
  have hn := wrap32_ne d (by omega) d1 (by omega)
  obtain ⟨b1, b2⟩ := wrap32_sbd d
  go_enter Try.func18, Try.ntmps18
  go_wp2_with (first | (go_at_call 39; refine (w_valueN _ _ N _ h0 h1 g0 g1 hN).mono ?_; rintro e w1 ⟨rfl, hg⟩) | (go_at_call 42; refine (w_sym _ _ _ hn).mono ?_; rintro e w2 ⟨rfl, hg2⟩) | (go_at_call 41; refine (w_fitS _ _ _).mono ?_; rintro e w3 ⟨rfl, rfl⟩))
  go_ret3
  exact ⟨rfl, grown_trans hg hg2⟩

set_option maxHeartbeats 1000000 in
theorem w_wide_725 (lo hi d N : Int) (w : World) (h0 : 0 ≤ lo) (h1 : lo < 4294967296) (g0 : 0 ≤ hi) (g1 : hi < 4294967296) (d0 : 0 < d) (d1 : d < 4294967296) (hN : Hid (lo + hi * 4294967296 = N)) :
    Calls Try.prog 18 #[.int .i64 725, .int .u32 lo, .int .u32 hi, .int .u32 d] w fun e w' => e = .returned (.tuple #[.int .u32 (fsQ (fq (wrap64 N) (wrap32 d))), .int .u32 (fsR (fq (wrap64 N) (wrap32 d)) (fr (wrap64 N) (wrap32 d))), .int .i64 (fsE (fq (wrap64 N) (wrap32 d)))]) ∧ Grown w w' := by
  have hn := wrap32_ne d (by omega) d1 (by omega)
  obtain ⟨b1, b2⟩ := wrap32_sbd d
  go_enter Try.func18, Try.ntmps18
  go_wp2_with (first | (go_at_call 39; refine (w_valueN _ _ N _ h0 h1 g0 g1 hN).mono ?_; rintro e w1 ⟨rfl, hg⟩) | (go_at_call 38; refine (w_floored _ _ _ hn (by omega) (by omega)).mono ?_; rintro e w2 ⟨rfl, hg2⟩) | (go_at_call 41; refine (w_fitS _ _ _).mono ?_; rintro e w3 ⟨rfl, rfl⟩))
  go_ret3
  exact ⟨rfl, grown_trans hg hg2⟩

set_option maxHeartbeats 1000000 in
theorem w_wide_zero (op lo hi : Int) (w : World) (hop : op = 213 ∨ op = 469 ∨ op = 725) :
    Calls Try.prog 18 #[.int .i64 op, .int .u32 lo, .int .u32 hi, .int .u32 0] w fun e w' => e = .returned (.tuple #[.int .u32 0, .int .u32 0, .int .i64 7]) ∧ Grown w w' := by
  rcases hop with rfl | rfl | rfl
  all_goals
    go_enter Try.func18, Try.ntmps18
    go_wp2
    go_ret3
    exact ⟨rfl, Grown.refl _⟩

set_option maxHeartbeats 1000000 in
theorem w_wide_none (op lo hi d : Int) (w : World) (c1 : ¬ op = 213) (c2 : ¬ op = 469) (c3 : ¬ op = 725) :
    Calls Try.prog 18 #[.int .i64 op, .int .u32 lo, .int .u32 hi, .int .u32 d] w fun e w' => e = .returned (.tuple #[.int .u32 0, .int .u32 0, .int .i64 2]) ∧ Grown w w' := by
  have t1 : (op != 213) = true := by simp [c1]
  have t2 : (op != 469) = true := by simp [c2]
  have t3 : (op != 725) = true := by simp [c3]
  go_enter Try.func18, Try.ntmps18
  go_wp2
  go_ret3
  exact ⟨rfl, Grown.refl _⟩

theorem w_timesN (a b N : Int) (w : World) (h0 : 0 ≤ a) (h1 : a < 4294967296) (g0 : 0 ≤ b) (g1 : b < 4294967296) (hN : Hid (a * b = N)) :
    Calls Try.prog 20 #[.int .u32 a, .int .u32 b] w fun e w' => e = .returned (.tuple #[.int .u32 (N % 4294967296), .int .u32 (N / 4294967296)]) ∧ Grown w w' := by
  rw [← hN.out]
  exact w_times a b w h0 h1 g0 g1

end Go.Proofs.Ytfmlkclacbceeaa
