/-
  Wide and Times of the document's answer return the same plain functions as the program's, for all arguments.
-/
import Derived.Test.YtfmlkclacbceeaaRwi
import Derived.Test.YtfmlkclacbceeaaWma
namespace Go.Proofs.Ytfmlkclacbceeaa
open Go.ChangeShapes Go.WideShapes Go.ChangeAt Go.RowKit
set_option linter.unusedVariables false
set_option linter.unusedSimpArgs false

theorem neg_div (Z D : Int) (hz : 0 ≤ Z) (hd : D < 0) : Z.tdiv D = -(Z / (-D)) ∧ Z.tmod D = Z % (-D) ∧ Z % D = Z % (-D) := by
  have e : D = -(-D) := by omega
  refine ⟨?_, ?_, ?_⟩
  · rw [← Int.tdiv_eq_ediv_of_nonneg hz, Int.tdiv_neg]; omega
  · rw [← Int.tmod_eq_emod_of_nonneg hz, Int.tmod_neg]
  · rw [Int.emod_neg]
theorem half_of (Z m : Int) (hz : 0 ≤ Z) (hm : 2 ≤ m) : Z / m * 2 ≤ Z := by
  have h1 : Z / m * m ≤ Z := Int.ediv_mul_le Z (by omega)
  have h0 : 0 ≤ Z / m := Int.ediv_nonneg hz (by omega)
  have h2 : Z / m * 2 ≤ Z / m * m := Int.mul_le_mul_of_nonneg_left hm h0
  omega
theorem u64_id (x : Int) (h0 : 0 ≤ x) (h1 : x < 18446744073709551616) : IntKind.u64.wrap x = x := by rw [IntKind.wrap_u64]; omega

/-- the signed value of a double, by its sign -/
theorem signed_of (lo hi N : Int) (h0 : 0 ≤ lo) (h1 : lo < 4294967296) (g0 : 0 ≤ hi) (g1 : hi < 4294967296) (hN : lo + hi * 4294967296 = N) :
    (hi < 2147483648 → wrap64 N = N ∧ 0 ≤ N ∧ N < 9223372036854775808) ∧
    (2147483648 ≤ hi → ∃ Z, IntKind.u64.wrap (-N) = Z ∧ wrap64 N = -Z ∧ 0 < Z ∧ Z ≤ 9223372036854775808) := by
  constructor
  · intro h
    unfold wrap64; omega
  · intro h
    refine ⟨18446744073709551616 - N, ?_, ?_, ?_, ?_⟩
    · rw [IntKind.wrap_u64]; omega
    · unfold wrap64; omega
    · omega
    · omega

set_option maxHeartbeats 1000000 in
theorem w_rwide_469 (lo hi d N : Int) (w : World) (h0 : 0 ≤ lo) (h1 : lo < 4294967296) (g0 : 0 ≤ hi) (g1 : hi < 4294967296) (d0 : 0 < d) (d1 : d < 4294967296) (hN : Hid (lo + hi * 4294967296 = N)) :
    Calls Try.prog 19 #[.int .i64 469, .int .u32 lo, .int .u32 hi, .int .u32 d] w fun e w' => e = .returned (.tuple #[.int .u32 (fsQ (wrap64 ((wrap64 N).tdiv (wrap32 d)))), .int .u32 (fsR (wrap64 ((wrap64 N).tdiv (wrap32 d))) ((wrap64 N).tmod (wrap32 d))), .int .i64 (fsE (wrap64 ((wrap64 N).tdiv (wrap32 d))))]) ∧ Grown w w' := by
  have hn := wrap32_ne d (by omega) d1 (by omega)
  obtain ⟨b1, b2⟩ := wrap32_sbd d
  have hN2 : hi * 4294967296 + lo = N := by have := hN.out; omega
  obtain ⟨p1, p2⟩ := signed_of lo hi N h0 h1 g0 g1 hN.out
  rcases (show hi < 2147483648 ∨ 2147483648 ≤ hi by omega) with hh | hh
  · obtain ⟨e1, z0, z1⟩ := p1 hh
    rw [e1]
    rcases (show wrap32 d < 0 ∨ 0 < wrap32 d by omega) with hs | hs
    · obtain ⟨t1, t2, t3⟩ := neg_div N (wrap32 d) z0 hs
      obtain ⟨q0, q1, r0, r1⟩ := size_bd N (-(wrap32 d)) z0 (by omega)
      rw [t1, t2]
      obtain ⟨f1, f2, f3⟩ := fs_wrap (-(N / -(wrap32 d))) (N % -(wrap32 d)) (by omega) (by omega)
      rw [f1, f2, f3]
      refine wr_469_01 lo hi d N N _ _ w h0 h1 g0 g1 d0 d1 hN2 hh rfl z0 hs b1 ?_ t2 t3 q0 (by omega) r0 (by omega)
      rw [t1, Int.neg_neg]
      exact u64_id _ q0 (by omega)
    · obtain ⟨t1, t2⟩ := tdiv_nn N (wrap32 d) z0
      obtain ⟨q0, q1, r0, r1⟩ := size_bd N (wrap32 d) z0 hs
      rw [t1, t2]
      obtain ⟨f1, f2, f3⟩ := fs_wrap (N / wrap32 d) (N % wrap32 d) (by omega) (by omega)
      rw [f1, f2, f3]
      refine wr_469_00 lo hi d N N _ _ w h0 h1 g0 g1 d0 d1 hN2 hh rfl z0 hs (by omega) rfl ?_ rfl t2 q0 (by omega) r0 (by omega)
      rw [t1]
      exact u64_id _ q0 (by omega)
  · obtain ⟨Z, hZ, e1, z0, z1⟩ := p2 hh
    rw [e1, Int.neg_tdiv, Int.neg_tmod]
    rcases (show wrap32 d < 0 ∨ 0 < wrap32 d by omega) with hs | hs
    · obtain ⟨t1, t2, t3⟩ := neg_div Z (wrap32 d) (by omega) hs
      obtain ⟨q0, q1, r0, r1⟩ := size_bd Z (-(wrap32 d)) (by omega) (by omega)
      rw [t1, t2, Int.neg_neg]
      obtain ⟨f1, f2, f3⟩ := fs_wrap (Z / -(wrap32 d)) (-(Z % -(wrap32 d))) (by omega) (by omega)
      rw [f1, f2, f3]
      refine wr_469_11 lo hi d N Z _ _ w h0 h1 g0 g1 d0 d1 hN2 hh hZ (by omega) hs b1 ?_ t2 t3 q0 (by omega) r0 (by omega)
      rw [t1, Int.neg_neg]
      exact u64_id _ q0 (by omega)
    · obtain ⟨t1, t2⟩ := tdiv_nn Z (wrap32 d) (by omega)
      obtain ⟨q0, q1, r0, r1⟩ := size_bd Z (wrap32 d) (by omega) hs
      rw [t1, t2]
      obtain ⟨f1, f2, f3⟩ := fs_wrap (-(Z / wrap32 d)) (-(Z % wrap32 d)) (by omega) (by omega)
      rw [f1, f2, f3]
      refine wr_469_10 lo hi d N Z _ _ w h0 h1 g0 g1 d0 d1 hN2 hh hZ (by omega) hs (by omega) rfl ?_ rfl t2 q0 (by omega) r0 (by omega)
      rw [t1]
      exact u64_id _ q0 (by omega)

set_option maxHeartbeats 1000000 in
theorem w_rwide_725 (lo hi d N : Int) (w : World) (h0 : 0 ≤ lo) (h1 : lo < 4294967296) (g0 : 0 ≤ hi) (g1 : hi < 4294967296) (d0 : 0 < d) (d1 : d < 4294967296) (hN : Hid (lo + hi * 4294967296 = N)) :
    Calls Try.prog 19 #[.int .i64 725, .int .u32 lo, .int .u32 hi, .int .u32 d] w fun e w' => e = .returned (.tuple #[.int .u32 (fsQ (fq (wrap64 N) (wrap32 d))), .int .u32 (fsR (fq (wrap64 N) (wrap32 d)) (fr (wrap64 N) (wrap32 d))), .int .i64 (fsE (fq (wrap64 N) (wrap32 d)))]) ∧ Grown w w' := by
  have hn := wrap32_ne d (by omega) d1 (by omega)
  obtain ⟨b1, b2⟩ := wrap32_sbd d
  have hN2 : hi * 4294967296 + lo = N := by have := hN.out; omega
  obtain ⟨p1, p2⟩ := signed_of lo hi N h0 h1 g0 g1 hN.out
  rcases (show hi < 2147483648 ∨ 2147483648 ≤ hi by omega) with hh | hh
  · obtain ⟨e1, z0, z1⟩ := p1 hh
    rw [e1]
    rcases (show wrap32 d < 0 ∨ 0 < wrap32 d by omega) with hs | hs
    · obtain ⟨t1, t2, t3⟩ := neg_div N (wrap32 d) z0 hs
      obtain ⟨q0, q1, r0, r1⟩ := size_bd N (-(wrap32 d)) z0 (by omega)
      rcases (show N % -(wrap32 d) = 0 ∨ 0 < N % -(wrap32 d) by omega) with hr | hr
      · obtain ⟨k1, k2⟩ := fq_no N (wrap32 d) (Or.inl (by rw [t2]; exact hr))
        rw [k1, k2, t1, t2]
        obtain ⟨f1, f2, f3⟩ := fs_wrap (-(N / -(wrap32 d))) (N % -(wrap32 d)) (by omega) (by omega)
        rw [f1, f2, f3]
        refine wr_725_01z lo hi d N N _ _ w h0 h1 g0 g1 d0 d1 hN2 hh rfl z0 hs b1 ?_ t2 t3 q0 (by omega) r0 (by omega) (by omega)
        rw [t1, Int.neg_neg]
        exact u64_id _ q0 (by omega)
      · obtain ⟨k1, k2⟩ := fq_yes N (wrap32 d) (by rw [t2]; omega) (by rw [t2]; omega)
        have hl := half_of N (-(wrap32 d)) z0 (by omega)
        rw [k1, k2, t1, t2, wrap_pred _ (by omega) (by omega)]
        refine wr_725_01p lo hi d N N _ _ w h0 h1 g0 g1 d0 d1 hN2 hh rfl z0 hs b1 ?_ t2 t3 q0 (by omega) r0 (by omega) hr
        rw [t1, Int.neg_neg]
        exact u64_id _ q0 (by omega)
    · obtain ⟨t1, t2⟩ := tdiv_nn N (wrap32 d) z0
      obtain ⟨q0, q1, r0, r1⟩ := size_bd N (wrap32 d) z0 hs
      obtain ⟨k1, k2⟩ := fq_no N (wrap32 d) (Or.inr (by rw [t2]; omega))
      rw [k1, k2, t1, t2]
      obtain ⟨f1, f2, f3⟩ := fs_wrap (N / wrap32 d) (N % wrap32 d) (by omega) (by omega)
      rw [f1, f2, f3]
      refine wr_725_00 lo hi d N N _ _ w h0 h1 g0 g1 d0 d1 hN2 hh rfl z0 hs (by omega) rfl ?_ rfl t2 q0 (by omega) r0 (by omega)
      rw [t1]
      exact u64_id _ q0 (by omega)
  · obtain ⟨Z, hZ, e1, z0, z1⟩ := p2 hh
    rw [e1]
    rcases (show wrap32 d < 0 ∨ 0 < wrap32 d by omega) with hs | hs
    · obtain ⟨t1, t2, t3⟩ := neg_div Z (wrap32 d) (by omega) hs
      obtain ⟨q0, q1, r0, r1⟩ := size_bd Z (-(wrap32 d)) (by omega) (by omega)
      obtain ⟨k1, k2⟩ := fq_no (-Z) (wrap32 d) (by rw [Int.neg_tmod, t2]; omega)
      rw [k1, k2, Int.neg_tdiv, Int.neg_tmod, t1, t2, Int.neg_neg]
      obtain ⟨f1, f2, f3⟩ := fs_wrap (Z / -(wrap32 d)) (-(Z % -(wrap32 d))) (by omega) (by omega)
      rw [f1, f2, f3]
      rcases (show Z % -(wrap32 d) ≤ 0 ∨ 0 < Z % -(wrap32 d) by omega) with hr | hr
      · refine wr_725_11z lo hi d N Z _ _ w h0 h1 g0 g1 d0 d1 hN2 hh hZ (by omega) hs b1 ?_ t2 t3 q0 (by omega) r0 (by omega) hr
        rw [t1, Int.neg_neg]
        exact u64_id _ q0 (by omega)
      · refine wr_725_11p lo hi d N Z _ _ w h0 h1 g0 g1 d0 d1 hN2 hh hZ (by omega) hs b1 ?_ t2 t3 q0 (by omega) r0 (by omega) hr
        rw [t1, Int.neg_neg]
        exact u64_id _ q0 (by omega)
    · obtain ⟨t1, t2⟩ := tdiv_nn Z (wrap32 d) (by omega)
      obtain ⟨q0, q1, r0, r1⟩ := size_bd Z (wrap32 d) (by omega) hs
      rcases (show Z % wrap32 d = 0 ∨ 0 < Z % wrap32 d by omega) with hr | hr
      · obtain ⟨k1, k2⟩ := fq_no (-Z) (wrap32 d) (Or.inl (by rw [Int.neg_tmod, t2]; omega))
        rw [k1, k2, Int.neg_tdiv, Int.neg_tmod, t1, t2]
        obtain ⟨f1, f2, f3⟩ := fs_wrap (-(Z / wrap32 d)) (-(Z % wrap32 d)) (by omega) (by omega)
        rw [f1, f2, f3]
        refine wr_725_10z lo hi d N Z _ _ w h0 h1 g0 g1 d0 d1 hN2 hh hZ (by omega) hs (by omega) rfl ?_ rfl t2 q0 (by omega) r0 (by omega) (by omega)
        rw [t1]
        exact u64_id _ q0 (by omega)
      · obtain ⟨k1, k2⟩ := fq_yes (-Z) (wrap32 d) (by rw [Int.neg_tmod, t2]; omega) (by rw [Int.neg_tmod, t2]; omega)
        have hl := half_of Z (wrap32 d) (by omega) (by omega)
        rw [k1, k2, Int.neg_tdiv, Int.neg_tmod, t1, t2, wrap_pred _ (by omega) (by omega)]
        refine wr_725_10p lo hi d N Z _ _ w h0 h1 g0 g1 d0 d1 hN2 hh hZ (by omega) hs (by omega) rfl ?_ rfl t2 q0 (by omega) r0 (by omega) hr
        rw [t1]
        exact u64_id _ q0 (by omega)

set_option maxHeartbeats 1000000 in
theorem w_rwide_213 (lo hi d N : Int) (w : World) (h0 : 0 ≤ lo) (h1 : lo < 4294967296) (g0 : 0 ≤ hi) (g1 : hi < 4294967296) (d0 : 0 < d) (d1 : d < 4294967296) (hN : Hid (lo + hi * 4294967296 = N)) :
    Calls Try.prog 19 #[.int .i64 213, .int .u32 lo, .int .u32 hi, .int .u32 d] w fun e w' => e = .returned (.tuple #[.int .u32 (fcQ (N / d)), .int .u32 (fcR (N / d) (N % d)), .int .i64 (fcE (N / d))]) ∧ Grown w w' := by
  have hN2 : hi * 4294967296 + lo = N := by have := hN.out; omega
  have n0 : 0 ≤ N := by omega
  have n1 : N < 18446744073709551616 := by omega
  obtain ⟨q0, q1, r0, r1⟩ := size_bd N d n0 d0
  have hz : ¬ d = 0 := by omega
  obtain ⟨t1, t2⟩ := tdiv_nn N d n0
  obtain ⟨Q, hQ⟩ : ∃ Q, N / d = Q := ⟨_, rfl⟩
  obtain ⟨R, hR⟩ : ∃ R, N % d = R := ⟨_, rfl⟩
  have hw : IntKind.u64.wrap d = d := u64_id d (by omega) (by omega)
  have hv : IntKind.u64.wrap Q = Q := by rw [← hQ]; exact u64_id _ q0 (by omega)
  rw [hQ] at q0 q1 t1 ⊢
  rw [hR] at r0 r1 t2 ⊢
  rcases (show 4294967296 ≤ Q ∨ Q ≤ 4294967295 by omega) with c | c
  · go_enter Try.func19, Try.ntmps19
    go_wp2
    go_ret3
    exact ⟨ret_iii (by unfold fcQ; omega) (by unfold fcR; omega) (by unfold fcE; omega), Grown.refl _⟩
  · go_enter Try.func19, Try.ntmps19
    go_wp2
    go_region
    all_goals go_wp2
    all_goals go_ret3
    all_goals exact ⟨ret_iii (by unfold fcQ; omega) (by unfold fcR; omega) (by unfold fcE; omega), by repeat (first | exact Grown.refl _ | apply Grown.drew)⟩

set_option maxHeartbeats 1000000 in
theorem w_rwide_zero (op lo hi : Int) (w : World) (hop : op = 213 ∨ op = 469 ∨ op = 725) :
    Calls Try.prog 19 #[.int .i64 op, .int .u32 lo, .int .u32 hi, .int .u32 0] w fun e w' => e = .returned (.tuple #[.int .u32 0, .int .u32 0, .int .i64 7]) ∧ Grown w w' := by
  rcases hop with rfl | rfl | rfl
  all_goals
    go_enter Try.func19, Try.ntmps19
    go_wp2
    go_ret3
    exact ⟨rfl, Grown.refl _⟩

set_option maxHeartbeats 1000000 in
theorem w_rwide_none (op lo hi d : Int) (w : World) (c1 : ¬ op = 213) (c2 : ¬ op = 469) (c3 : ¬ op = 725) :
    Calls Try.prog 19 #[.int .i64 op, .int .u32 lo, .int .u32 hi, .int .u32 d] w fun e w' => e = .returned (.tuple #[.int .u32 0, .int .u32 0, .int .i64 2]) ∧ Grown w w' := by
  have t1 : (op != 213) = true := by simp [c1]
  have t2 : (op != 469) = true := by simp [c2]
  have t3 : (op != 725) = true := by simp [c3]
  go_enter Try.func19, Try.ntmps19
  go_wp2
  go_ret3
  exact ⟨rfl, Grown.refl _⟩

theorem w_rtimes (a b : Int) (w : World) (h0 : 0 ≤ a) (h1 : a < 4294967296) (g0 : 0 ≤ b) (g1 : b < 4294967296) :
    Calls Try.prog 21 #[.int .u32 a, .int .u32 b] w fun e w' => e = .returned (.tuple #[.int .u32 (a * b % 4294967296), .int .u32 (a * b / 4294967296)]) ∧ Grown w w' := by
  obtain ⟨p0, p1⟩ := mul_bd a b h0 h1 g0 g1
  obtain ⟨P, hP⟩ : ∃ P, a * b = P := ⟨_, rfl⟩
  rw [hP] at p0 p1 ⊢
  go_enter Try.func21, Try.ntmps21
  go_wp2
  go_ret2
  exact ⟨ret_ii (by omega) (by omega), Grown.refl _⟩

end Go.Proofs.Ytfmlkclacbceeaa
