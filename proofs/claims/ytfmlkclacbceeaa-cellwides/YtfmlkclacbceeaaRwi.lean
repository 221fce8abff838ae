/-
  Wide of the document's answer, signed ways: it returns the quotient and the rest that sizes and signs by themselves give, fitted to a cell. The divisor isn't 0.
-/
import Derived.Test.YtfmlkclacbceeaaWid
namespace Go.Proofs.Ytfmlkclacbceeaa
open Go.ChangeShapes Go.WideShapes Go.ChangeAt Go.RowKit
set_option linter.unusedVariables false
set_option linter.unusedSimpArgs false

set_option maxHeartbeats 2000000 in
theorem wr_469_00 (lo hi d N Z Q R : Int) (w : World) (h0 : 0 ≤ lo) (h1 : lo < 4294967296) (g0 : 0 ≤ hi) (g1 : hi < 4294967296) (d0 : 0 < d) (d1 : d < 4294967296) (hN : hi * 4294967296 + lo = N) (k0 : hi < 2147483648) (hZ : Hid (N = Z)) (z0 : 0 ≤ Z) (hD : 0 < wrap32 d) (hD1 : wrap32 d ≤ 2147483647) (hQ : N / wrap32 d = Q) (hQ2 : IntKind.u64.wrap (N.tdiv (wrap32 d)) = Q) (hR : N % wrap32 d = R) (hR2 : N.tmod (wrap32 d) = R) (q0 : 0 ≤ Q) (q1 : Q ≤ 9223372036854775808) (r0 : 0 ≤ R) (r1 : R ≤ 2147483647) :
    Calls Try.prog 19 #[.int .i64 469, .int .u32 lo, .int .u32 hi, .int .u32 d] w fun e w' => e = .returned (.tuple #[.int .u32 (fsQ (Q)), .int .u32 (fsR (Q) (R)), .int .i64 (fsE (Q))]) ∧ Grown w w' := by
  have n0 : 0 ≤ N := by omega
  have n1 : N < 18446744073709551616 := by omega
  have nb : decide (2147483648 ≤ hi) = false := by simp; omega
  have n2 : N < 9223372036854775808 := by omega
  have b1 : decide (wrap32 d < 0) = false := by simp; omega
  rcases (show 4294967296 < Q ∨ (Q ≤ 4294967296 ∧ ((Q) < -2147483648 ∨ 2147483648 ≤ (Q))) ∨ (Q ≤ 4294967296 ∧ -2147483648 ≤ (Q) ∧ (Q) < 2147483648) by omega) with c | ⟨c, c2 | c2⟩ | ⟨c, c2, c3⟩
  all_goals (try (exfalso; omega))
  all_goals
    go_enter Try.func19, Try.ntmps19
    go_wp2_with (first | (go_at_call 15; refine (w_rsigned _ _ (by omega) (by omega)).mono ?_; rintro e w1 ⟨rfl, rfl⟩))
    go_region
    all_goals go_wp2_with (first | (go_at_call 31; refine (w_rcell _ _).mono ?_; rintro e w1 ⟨rfl, rfl⟩))
    all_goals go_ret3
    all_goals exact ⟨ret_iii (by unfold fsQ; omega) (by unfold fsR; omega) (by unfold fsE; omega), by repeat (first | exact Grown.refl _ | apply Grown.drew)⟩

set_option maxHeartbeats 2000000 in
theorem wr_469_01 (lo hi d N Z Q R : Int) (w : World) (h0 : 0 ≤ lo) (h1 : lo < 4294967296) (g0 : 0 ≤ hi) (g1 : hi < 4294967296) (d0 : 0 < d) (d1 : d < 4294967296) (hN : hi * 4294967296 + lo = N) (k0 : hi < 2147483648) (hZ : Hid (N = Z)) (z0 : 0 ≤ Z) (hD : wrap32 d < 0) (hD1 : -2147483648 ≤ wrap32 d) (hQ : IntKind.u64.wrap (-(N.tdiv (wrap32 d))) = Q) (hR : N.tmod (wrap32 d) = R) (hR2 : N % wrap32 d = R) (q0 : 0 ≤ Q) (q1 : Q ≤ 9223372036854775808) (r0 : 0 ≤ R) (r1 : R ≤ 2147483647) :
    Calls Try.prog 19 #[.int .i64 469, .int .u32 lo, .int .u32 hi, .int .u32 d] w fun e w' => e = .returned (.tuple #[.int .u32 (fsQ (-Q)), .int .u32 (fsR (-Q) (R)), .int .i64 (fsE (-Q))]) ∧ Grown w w' := by
  have n0 : 0 ≤ N := by omega
  have n1 : N < 18446744073709551616 := by omega
  have nb : decide (2147483648 ≤ hi) = false := by simp; omega
  have n2 : N < 9223372036854775808 := by omega
  have b1 : decide (wrap32 d < 0) = true := by simp; omega
  have b2 : ¬ -(wrap32 d) ≤ 0 := by omega
  rcases (show 4294967296 < Q ∨ (Q ≤ 4294967296 ∧ ((-Q) < -2147483648 ∨ 2147483648 ≤ (-Q))) ∨ (Q ≤ 4294967296 ∧ -2147483648 ≤ (-Q) ∧ (-Q) < 2147483648) by omega) with c | ⟨c, c2 | c2⟩ | ⟨c, c2, c3⟩
  all_goals (try (exfalso; omega))
  all_goals
    go_enter Try.func19, Try.ntmps19
    go_wp2_with (first | (go_at_call 15; refine (w_rsigned _ _ (by omega) (by omega)).mono ?_; rintro e w1 ⟨rfl, rfl⟩))
    go_region
    all_goals go_wp2_with (first | (go_at_call 31; refine (w_rcell _ _).mono ?_; rintro e w1 ⟨rfl, rfl⟩))
    all_goals go_ret3
    all_goals exact ⟨ret_iii (by unfold fsQ; omega) (by unfold fsR; omega) (by unfold fsE; omega), by repeat (first | exact Grown.refl _ | apply Grown.drew)⟩

set_option maxHeartbeats 2000000 in
theorem wr_469_10 (lo hi d N Z Q R : Int) (w : World) (h0 : 0 ≤ lo) (h1 : lo < 4294967296) (g0 : 0 ≤ hi) (g1 : hi < 4294967296) (d0 : 0 < d) (d1 : d < 4294967296) (hN : hi * 4294967296 + lo = N) (k0 : 2147483648 ≤ hi) (hZ : IntKind.u64.wrap (-N) = Z) (z0 : 0 ≤ Z) (hD : 0 < wrap32 d) (hD1 : wrap32 d ≤ 2147483647) (hQ : Z / wrap32 d = Q) (hQ2 : IntKind.u64.wrap (Z.tdiv (wrap32 d)) = Q) (hR : Z % wrap32 d = R) (hR2 : Z.tmod (wrap32 d) = R) (q0 : 0 ≤ Q) (q1 : Q ≤ 9223372036854775808) (r0 : 0 ≤ R) (r1 : R ≤ 2147483647) :
    Calls Try.prog 19 #[.int .i64 469, .int .u32 lo, .int .u32 hi, .int .u32 d] w fun e w' => e = .returned (.tuple #[.int .u32 (fsQ (-Q)), .int .u32 (fsR (-Q) (-R)), .int .i64 (fsE (-Q))]) ∧ Grown w w' := by
  have n0 : 0 ≤ N := by omega
  have n1 : N < 18446744073709551616 := by omega
  have nb : decide (2147483648 ≤ hi) = true := by simp; omega
  have b1 : decide (wrap32 d < 0) = false := by simp; omega
  rcases (show 4294967296 < Q ∨ (Q ≤ 4294967296 ∧ ((-Q) < -2147483648 ∨ 2147483648 ≤ (-Q))) ∨ (Q ≤ 4294967296 ∧ -2147483648 ≤ (-Q) ∧ (-Q) < 2147483648) by omega) with c | ⟨c, c2 | c2⟩ | ⟨c, c2, c3⟩
  all_goals (try (exfalso; omega))
  all_goals
    go_enter Try.func19, Try.ntmps19
    go_wp2_with (first | (go_at_call 15; refine (w_rsigned _ _ (by omega) (by omega)).mono ?_; rintro e w1 ⟨rfl, rfl⟩))
    go_region
    all_goals go_wp2_with (first | (go_at_call 31; refine (w_rcell _ _).mono ?_; rintro e w1 ⟨rfl, rfl⟩))
    all_goals go_ret3
    all_goals exact ⟨ret_iii (by unfold fsQ; omega) (by unfold fsR; omega) (by unfold fsE; omega), by repeat (first | exact Grown.refl _ | apply Grown.drew)⟩

set_option maxHeartbeats 2000000 in
theorem wr_469_11 (lo hi d N Z Q R : Int) (w : World) (h0 : 0 ≤ lo) (h1 : lo < 4294967296) (g0 : 0 ≤ hi) (g1 : hi < 4294967296) (d0 : 0 < d) (d1 : d < 4294967296) (hN : hi * 4294967296 + lo = N) (k0 : 2147483648 ≤ hi) (hZ : IntKind.u64.wrap (-N) = Z) (z0 : 0 ≤ Z) (hD : wrap32 d < 0) (hD1 : -2147483648 ≤ wrap32 d) (hQ : IntKind.u64.wrap (-(Z.tdiv (wrap32 d))) = Q) (hR : Z.tmod (wrap32 d) = R) (hR2 : Z % wrap32 d = R) (q0 : 0 ≤ Q) (q1 : Q ≤ 9223372036854775808) (r0 : 0 ≤ R) (r1 : R ≤ 2147483647) :
    Calls Try.prog 19 #[.int .i64 469, .int .u32 lo, .int .u32 hi, .int .u32 d] w fun e w' => e = .returned (.tuple #[.int .u32 (fsQ (Q)), .int .u32 (fsR (Q) (-R)), .int .i64 (fsE (Q))]) ∧ Grown w w' := by
  have n0 : 0 ≤ N := by omega
  have n1 : N < 18446744073709551616 := by omega
  have nb : decide (2147483648 ≤ hi) = true := by simp; omega
  have b1 : decide (wrap32 d < 0) = true := by simp; omega
  have b2 : ¬ -(wrap32 d) ≤ 0 := by omega
  rcases (show 4294967296 < Q ∨ (Q ≤ 4294967296 ∧ ((Q) < -2147483648 ∨ 2147483648 ≤ (Q))) ∨ (Q ≤ 4294967296 ∧ -2147483648 ≤ (Q) ∧ (Q) < 2147483648) by omega) with c | ⟨c, c2 | c2⟩ | ⟨c, c2, c3⟩
  all_goals (try (exfalso; omega))
  all_goals
    go_enter Try.func19, Try.ntmps19
    go_wp2_with (first | (go_at_call 15; refine (w_rsigned _ _ (by omega) (by omega)).mono ?_; rintro e w1 ⟨rfl, rfl⟩))
    go_region
    all_goals go_wp2_with (first | (go_at_call 31; refine (w_rcell _ _).mono ?_; rintro e w1 ⟨rfl, rfl⟩))
    all_goals go_ret3
    all_goals exact ⟨ret_iii (by unfold fsQ; omega) (by unfold fsR; omega) (by unfold fsE; omega), by repeat (first | exact Grown.refl _ | apply Grown.drew)⟩

set_option maxHeartbeats 2000000 in
theorem wr_725_00 (lo hi d N Z Q R : Int) (w : World) (h0 : 0 ≤ lo) (h1 : lo < 4294967296) (g0 : 0 ≤ hi) (g1 : hi < 4294967296) (d0 : 0 < d) (d1 : d < 4294967296) (hN : hi * 4294967296 + lo = N) (k0 : hi < 2147483648) (hZ : Hid (N = Z)) (z0 : 0 ≤ Z) (hD : 0 < wrap32 d) (hD1 : wrap32 d ≤ 2147483647) (hQ : N / wrap32 d = Q) (hQ2 : IntKind.u64.wrap (N.tdiv (wrap32 d)) = Q) (hR : N % wrap32 d = R) (hR2 : N.tmod (wrap32 d) = R) (q0 : 0 ≤ Q) (q1 : Q ≤ 9223372036854775808) (r0 : 0 ≤ R) (r1 : R ≤ 2147483647) :
    Calls Try.prog 19 #[.int .i64 725, .int .u32 lo, .int .u32 hi, .int .u32 d] w fun e w' => e = .returned (.tuple #[.int .u32 (fsQ (Q)), .int .u32 (fsR (Q) (R)), .int .i64 (fsE (Q))]) ∧ Grown w w' := by
  have n0 : 0 ≤ N := by omega
  have n1 : N < 18446744073709551616 := by omega
  have nb : decide (2147483648 ≤ hi) = false := by simp; omega
  have n2 : N < 9223372036854775808 := by omega
  have b1 : decide (wrap32 d < 0) = false := by simp; omega
  rcases (show 4294967296 < Q ∨ (Q ≤ 4294967296 ∧ ((Q) < -2147483648 ∨ 2147483648 ≤ (Q))) ∨ (Q ≤ 4294967296 ∧ -2147483648 ≤ (Q) ∧ (Q) < 2147483648) by omega) with c | ⟨c, c2 | c2⟩ | ⟨c, c2, c3⟩
  all_goals (try (exfalso; omega))
  all_goals
    go_enter Try.func19, Try.ntmps19
    go_wp2_with (first | (go_at_call 15; refine (w_rsigned _ _ (by omega) (by omega)).mono ?_; rintro e w1 ⟨rfl, rfl⟩))
    go_region
    all_goals go_wp2_with (first | (go_at_call 31; refine (w_rcell _ _).mono ?_; rintro e w1 ⟨rfl, rfl⟩))
    all_goals go_ret3
    all_goals exact ⟨ret_iii (by unfold fsQ; omega) (by unfold fsR; omega) (by unfold fsE; omega), by repeat (first | exact Grown.refl _ | apply Grown.drew)⟩

set_option maxHeartbeats 2000000 in
theorem wr_725_11z (lo hi d N Z Q R : Int) (w : World) (h0 : 0 ≤ lo) (h1 : lo < 4294967296) (g0 : 0 ≤ hi) (g1 : hi < 4294967296) (d0 : 0 < d) (d1 : d < 4294967296) (hN : hi * 4294967296 + lo = N) (k0 : 2147483648 ≤ hi) (hZ : IntKind.u64.wrap (-N) = Z) (z0 : 0 ≤ Z) (hD : wrap32 d < 0) (hD1 : -2147483648 ≤ wrap32 d) (hQ : IntKind.u64.wrap (-(Z.tdiv (wrap32 d))) = Q) (hR : Z.tmod (wrap32 d) = R) (hR2 : Z % wrap32 d = R) (q0 : 0 ≤ Q) (q1 : Q ≤ 9223372036854775808) (r0 : 0 ≤ R) (r1 : R ≤ 2147483647) (rc : R ≤ 0) :
    Calls Try.prog 19 #[.int .i64 725, .int .u32 lo, .int .u32 hi, .int .u32 d] w fun e w' => e = .returned (.tuple #[.int .u32 (fsQ (Q)), .int .u32 (fsR (Q) (-R)), .int .i64 (fsE (Q))]) ∧ Grown w w' := by
  have n0 : 0 ≤ N := by omega
  have n1 : N < 18446744073709551616 := by omega
  have nb : decide (2147483648 ≤ hi) = true := by simp; omega
  have b1 : decide (wrap32 d < 0) = true := by simp; omega
  have b2 : ¬ -(wrap32 d) ≤ 0 := by omega
  have tb : decide (-R < 0) = false := by simp; omega
  have tn : (-R != 0) = false := by simp; omega
  rcases (show 4294967296 < Q ∨ (Q ≤ 4294967296 ∧ ((Q) < -2147483648 ∨ 2147483648 ≤ (Q))) ∨ (Q ≤ 4294967296 ∧ -2147483648 ≤ (Q) ∧ (Q) < 2147483648) by omega) with c | ⟨c, c2 | c2⟩ | ⟨c, c2, c3⟩
  all_goals (try (exfalso; omega))
  all_goals
    go_enter Try.func19, Try.ntmps19
    go_wp2_with (first | (go_at_call 15; refine (w_rsigned _ _ (by omega) (by omega)).mono ?_; rintro e w1 ⟨rfl, rfl⟩))
    go_region
    all_goals go_wp2_with (first | (go_at_call 31; refine (w_rcell _ _).mono ?_; rintro e w1 ⟨rfl, rfl⟩))
    all_goals go_ret3
    all_goals exact ⟨ret_iii (by unfold fsQ; omega) (by unfold fsR; omega) (by unfold fsE; omega), by repeat (first | exact Grown.refl _ | apply Grown.drew)⟩

set_option maxHeartbeats 2000000 in
theorem wr_725_11p (lo hi d N Z Q R : Int) (w : World) (h0 : 0 ≤ lo) (h1 : lo < 4294967296) (g0 : 0 ≤ hi) (g1 : hi < 4294967296) (d0 : 0 < d) (d1 : d < 4294967296) (hN : hi * 4294967296 + lo = N) (k0 : 2147483648 ≤ hi) (hZ : IntKind.u64.wrap (-N) = Z) (z0 : 0 ≤ Z) (hD : wrap32 d < 0) (hD1 : -2147483648 ≤ wrap32 d) (hQ : IntKind.u64.wrap (-(Z.tdiv (wrap32 d))) = Q) (hR : Z.tmod (wrap32 d) = R) (hR2 : Z % wrap32 d = R) (q0 : 0 ≤ Q) (q1 : Q ≤ 9223372036854775808) (r0 : 0 ≤ R) (r1 : R ≤ 2147483647) (rc : 0 < R) :
    Calls Try.prog 19 #[.int .i64 725, .int .u32 lo, .int .u32 hi, .int .u32 d] w fun e w' => e = .returned (.tuple #[.int .u32 (fsQ (Q)), .int .u32 (fsR (Q) (-R)), .int .i64 (fsE (Q))]) ∧ Grown w w' := by
  have n0 : 0 ≤ N := by omega
  have n1 : N < 18446744073709551616 := by omega
  have nb : decide (2147483648 ≤ hi) = true := by simp; omega
  have b1 : decide (wrap32 d < 0) = true := by simp; omega
  have b2 : ¬ -(wrap32 d) ≤ 0 := by omega
  have tb : decide (-R < 0) = true := by simp; omega
  have tn : (-R != 0) = true := by simp; omega
  rcases (show 4294967296 < Q ∨ (Q ≤ 4294967296 ∧ ((Q) < -2147483648 ∨ 2147483648 ≤ (Q))) ∨ (Q ≤ 4294967296 ∧ -2147483648 ≤ (Q) ∧ (Q) < 2147483648) by omega) with c | ⟨c, c2 | c2⟩ | ⟨c, c2, c3⟩
  all_goals (try (exfalso; omega))
  all_goals
    go_enter Try.func19, Try.ntmps19
    go_wp2_with (first | (go_at_call 15; refine (w_rsigned _ _ (by omega) (by omega)).mono ?_; rintro e w1 ⟨rfl, rfl⟩))
    go_region
    all_goals go_wp2_with (first | (go_at_call 31; refine (w_rcell _ _).mono ?_; rintro e w1 ⟨rfl, rfl⟩))
    all_goals go_ret3
    all_goals exact ⟨ret_iii (by unfold fsQ; omega) (by unfold fsR; omega) (by unfold fsE; omega), by repeat (first | exact Grown.refl _ | apply Grown.drew)⟩

set_option maxHeartbeats 2000000 in
theorem wr_725_01z (lo hi d N Z Q R : Int) (w : World) (h0 : 0 ≤ lo) (h1 : lo < 4294967296) (g0 : 0 ≤ hi) (g1 : hi < 4294967296) (d0 : 0 < d) (d1 : d < 4294967296) (hN : hi * 4294967296 + lo = N) (k0 : hi < 2147483648) (hZ : Hid (N = Z)) (z0 : 0 ≤ Z) (hD : wrap32 d < 0) (hD1 : -2147483648 ≤ wrap32 d) (hQ : IntKind.u64.wrap (-(N.tdiv (wrap32 d))) = Q) (hR : N.tmod (wrap32 d) = R) (hR2 : N % wrap32 d = R) (q0 : 0 ≤ Q) (q1 : Q ≤ 9223372036854775808) (r0 : 0 ≤ R) (r1 : R ≤ 2147483647) (rc : R ≤ 0) :
    Calls Try.prog 19 #[.int .i64 725, .int .u32 lo, .int .u32 hi, .int .u32 d] w fun e w' => e = .returned (.tuple #[.int .u32 (fsQ (-Q)), .int .u32 (fsR (-Q) (R)), .int .i64 (fsE (-Q))]) ∧ Grown w w' := by
  have n0 : 0 ≤ N := by omega
  have n1 : N < 18446744073709551616 := by omega
  have nb : decide (2147483648 ≤ hi) = false := by simp; omega
  have n2 : N < 9223372036854775808 := by omega
  have b1 : decide (wrap32 d < 0) = true := by simp; omega
  have b2 : ¬ -(wrap32 d) ≤ 0 := by omega
  have tb : decide (R < 0) = false := by simp; omega
  have tn : (R != 0) = false := by simp; omega
  rcases (show 4294967296 < Q ∨ (Q ≤ 4294967296 ∧ ((-Q) < -2147483648 ∨ 2147483648 ≤ (-Q))) ∨ (Q ≤ 4294967296 ∧ -2147483648 ≤ (-Q) ∧ (-Q) < 2147483648) by omega) with c | ⟨c, c2 | c2⟩ | ⟨c, c2, c3⟩
  all_goals (try (exfalso; omega))
  all_goals
    go_enter Try.func19, Try.ntmps19
    go_wp2_with (first | (go_at_call 15; refine (w_rsigned _ _ (by omega) (by omega)).mono ?_; rintro e w1 ⟨rfl, rfl⟩))
    go_region
    all_goals go_wp2_with (first | (go_at_call 31; refine (w_rcell _ _).mono ?_; rintro e w1 ⟨rfl, rfl⟩))
    all_goals go_ret3
    all_goals exact ⟨ret_iii (by unfold fsQ; omega) (by unfold fsR; omega) (by unfold fsE; omega), by repeat (first | exact Grown.refl _ | apply Grown.drew)⟩

set_option maxHeartbeats 2000000 in
theorem wr_725_01p (lo hi d N Z Q R : Int) (w : World) (h0 : 0 ≤ lo) (h1 : lo < 4294967296) (g0 : 0 ≤ hi) (g1 : hi < 4294967296) (d0 : 0 < d) (d1 : d < 4294967296) (hN : hi * 4294967296 + lo = N) (k0 : hi < 2147483648) (hZ : Hid (N = Z)) (z0 : 0 ≤ Z) (hD : wrap32 d < 0) (hD1 : -2147483648 ≤ wrap32 d) (hQ : IntKind.u64.wrap (-(N.tdiv (wrap32 d))) = Q) (hR : N.tmod (wrap32 d) = R) (hR2 : N % wrap32 d = R) (q0 : 0 ≤ Q) (q1 : Q ≤ 9223372036854775808) (r0 : 0 ≤ R) (r1 : R ≤ 2147483647) (rc : 0 < R) :
    Calls Try.prog 19 #[.int .i64 725, .int .u32 lo, .int .u32 hi, .int .u32 d] w fun e w' => e = .returned (.tuple #[.int .u32 (fsQ (-Q - 1)), .int .u32 (fsR (-Q - 1) (R + wrap32 d)), .int .i64 (fsE (-Q - 1))]) ∧ Grown w w' := by
  have n0 : 0 ≤ N := by omega
  have n1 : N < 18446744073709551616 := by omega
  have nb : decide (2147483648 ≤ hi) = false := by simp; omega
  have n2 : N < 9223372036854775808 := by omega
  have b1 : decide (wrap32 d < 0) = true := by simp; omega
  have b2 : ¬ -(wrap32 d) ≤ 0 := by omega
  have tb : decide (R < 0) = false := by simp; omega
  have tn : (R != 0) = true := by simp; omega
  rcases (show 4294967296 < Q ∨ (Q ≤ 4294967296 ∧ ((-Q - 1) < -2147483648 ∨ 2147483648 ≤ (-Q - 1))) ∨ (Q ≤ 4294967296 ∧ -2147483648 ≤ (-Q - 1) ∧ (-Q - 1) < 2147483648) by omega) with c | ⟨c, c2 | c2⟩ | ⟨c, c2, c3⟩
  all_goals (try (exfalso; omega))
  all_goals
    go_enter Try.func19, Try.ntmps19
    go_wp2_with (first | (go_at_call 15; refine (w_rsigned _ _ (by omega) (by omega)).mono ?_; rintro e w1 ⟨rfl, rfl⟩))
    go_region
    all_goals go_wp2_with (first | (go_at_call 31; refine (w_rcell _ _).mono ?_; rintro e w1 ⟨rfl, rfl⟩))
    all_goals go_ret3
    all_goals exact ⟨ret_iii (by unfold fsQ; omega) (by unfold fsR; omega) (by unfold fsE; omega), by repeat (first | exact Grown.refl _ | apply Grown.drew)⟩

set_option maxHeartbeats 2000000 in
theorem wr_725_10z (lo hi d N Z Q R : Int) (w : World) (h0 : 0 ≤ lo) (h1 : lo < 4294967296) (g0 : 0 ≤ hi) (g1 : hi < 4294967296) (d0 : 0 < d) (d1 : d < 4294967296) (hN : hi * 4294967296 + lo = N) (k0 : 2147483648 ≤ hi) (hZ : IntKind.u64.wrap (-N) = Z) (z0 : 0 ≤ Z) (hD : 0 < wrap32 d) (hD1 : wrap32 d ≤ 2147483647) (hQ : Z / wrap32 d = Q) (hQ2 : IntKind.u64.wrap (Z.tdiv (wrap32 d)) = Q) (hR : Z % wrap32 d = R) (hR2 : Z.tmod (wrap32 d) = R) (q0 : 0 ≤ Q) (q1 : Q ≤ 9223372036854775808) (r0 : 0 ≤ R) (r1 : R ≤ 2147483647) (rc : R ≤ 0) :
    Calls Try.prog 19 #[.int .i64 725, .int .u32 lo, .int .u32 hi, .int .u32 d] w fun e w' => e = .returned (.tuple #[.int .u32 (fsQ (-Q)), .int .u32 (fsR (-Q) (-R)), .int .i64 (fsE (-Q))]) ∧ Grown w w' := by
  have n0 : 0 ≤ N := by omega
  have n1 : N < 18446744073709551616 := by omega
  have nb : decide (2147483648 ≤ hi) = true := by simp; omega
  have b1 : decide (wrap32 d < 0) = false := by simp; omega
  have tb : decide (-R < 0) = false := by simp; omega
  have tn : (-R != 0) = false := by simp; omega
  rcases (show 4294967296 < Q ∨ (Q ≤ 4294967296 ∧ ((-Q) < -2147483648 ∨ 2147483648 ≤ (-Q))) ∨ (Q ≤ 4294967296 ∧ -2147483648 ≤ (-Q) ∧ (-Q) < 2147483648) by omega) with c | ⟨c, c2 | c2⟩ | ⟨c, c2, c3⟩
  all_goals (try (exfalso; omega))
  all_goals
    go_enter Try.func19, Try.ntmps19
    go_wp2_with (first | (go_at_call 15; refine (w_rsigned _ _ (by omega) (by omega)).mono ?_; rintro e w1 ⟨rfl, rfl⟩))
    go_region
    all_goals go_wp2_with (first | (go_at_call 31; refine (w_rcell _ _).mono ?_; rintro e w1 ⟨rfl, rfl⟩))
    all_goals go_ret3
    all_goals exact ⟨ret_iii (by unfold fsQ; omega) (by unfold fsR; omega) (by unfold fsE; omega), by repeat (first | exact Grown.refl _ | apply Grown.drew)⟩

set_option maxHeartbeats 2000000 in
theorem wr_725_10p (lo hi d N Z Q R : Int) (w : World) (h0 : 0 ≤ lo) (h1 : lo < 4294967296) (g0 : 0 ≤ hi) (g1 : hi < 4294967296) (d0 : 0 < d) (d1 : d < 4294967296) (hN : hi * 4294967296 + lo = N) (k0 : 2147483648 ≤ hi) (hZ : IntKind.u64.wrap (-N) = Z) (z0 : 0 ≤ Z) (hD : 0 < wrap32 d) (hD1 : wrap32 d ≤ 2147483647) (hQ : Z / wrap32 d = Q) (hQ2 : IntKind.u64.wrap (Z.tdiv (wrap32 d)) = Q) (hR : Z % wrap32 d = R) (hR2 : Z.tmod (wrap32 d) = R) (q0 : 0 ≤ Q) (q1 : Q ≤ 9223372036854775808) (r0 : 0 ≤ R) (r1 : R ≤ 2147483647) (rc : 0 < R) :
    Calls Try.prog 19 #[.int .i64 725, .int .u32 lo, .int .u32 hi, .int .u32 d] w fun e w' => e = .returned (.tuple #[.int .u32 (fsQ (-Q - 1)), .int .u32 (fsR (-Q - 1) (-R + wrap32 d)), .int .i64 (fsE (-Q - 1))]) ∧ Grown w w' := by
  have n0 : 0 ≤ N := by omega
  have n1 : N < 18446744073709551616 := by omega
  have nb : decide (2147483648 ≤ hi) = true := by simp; omega
  have b1 : decide (wrap32 d < 0) = false := by simp; omega
  have tb : decide (-R < 0) = true := by simp; omega
  have tn : (-R != 0) = true := by simp; omega
  rcases (show 4294967296 < Q ∨ (Q ≤ 4294967296 ∧ ((-Q - 1) < -2147483648 ∨ 2147483648 ≤ (-Q - 1))) ∨ (Q ≤ 4294967296 ∧ -2147483648 ≤ (-Q - 1) ∧ (-Q - 1) < 2147483648) by omega) with c | ⟨c, c2 | c2⟩ | ⟨c, c2, c3⟩
  all_goals (try (exfalso; omega))
  all_goals
    go_enter Try.func19, Try.ntmps19
    go_wp2_with (first | (go_at_call 15; refine (w_rsigned _ _ (by omega) (by omega)).mono ?_; rintro e w1 ⟨rfl, rfl⟩))
    go_region
    all_goals go_wp2_with (first | (go_at_call 31; refine (w_rcell _ _).mono ?_; rintro e w1 ⟨rfl, rfl⟩))
    all_goals go_ret3
    all_goals exact ⟨ret_iii (by unfold fsQ; omega) (by unfold fsR; omega) (by unfold fsE; omega), by repeat (first | exact Grown.refl _ | apply Grown.drew)⟩

end Go.Proofs.Ytfmlkclacbceeaa
