/-
  Doubles: valueOf, doubleOf, Times and the fittings of the program return plain functions of their arguments, for all cells.
-/
import Derived.Test.YtfmlkclacbceeaaDiv
import Derived.Deep.QuietTactic
import Derived.BigQuiet
namespace Go.Proofs.Ytfmlkclacbceeaa
open Go.ChangeShapes Go.WideShapes Go.ChangeAt Go.RowKit
set_option linter.unusedVariables false
set_option linter.unusedSimpArgs false

theorem grown_drewN {W w' : World} (h : Grown W w') (n : Nat) : Grown W (w'.drewN n) := by
  induction n with
  | zero => exact h
  | succ k ih => exact ih
theorem or_join (lo hi : Int) (h0 : 0 ≤ lo) (h1 : lo < 4294967296) (g0 : 0 ≤ hi) (g1 : hi < 4294967296) : bits BinOp.or IntKind.u64 lo (hi * 4294967296) = lo + hi * 4294967296 := by
  obtain ⟨l, rfl⟩ := Int.eq_ofNat_of_zero_le h0
  obtain ⟨h, rfl⟩ := Int.eq_ofNat_of_zero_le g0
  have e : ((h : Int) * 4294967296) = ((2 ^ 32 * h : Nat) : Int) := by omega
  rw [e, u64_or_nat _ _ (by omega) (by omega), Nat.or_comm, ← Nat.two_pow_add_eq_or_of_lt (by omega : l < 2 ^ 32)]
  omega
theorem mul_bd (a b : Int) (h0 : 0 ≤ a) (h1 : a < 4294967296) (g0 : 0 ≤ b) (g1 : b < 4294967296) : 0 ≤ a * b ∧ a * b < 18446744065119617026 := by
  obtain ⟨m, rfl⟩ := Int.eq_ofNat_of_zero_le h0
  obtain ⟨n, rfl⟩ := Int.eq_ofNat_of_zero_le g0
  have l : m * n ≤ 4294967295 * 4294967295 := Nat.mul_le_mul (by omega) (by omega)
  have e : ((m : Int) * (n : Int)) = ((m * n : Nat) : Int) := by simp
  rw [e]
  generalize m * n = p at *
  omega

theorem w_valueOf (lo hi : Int) (w : World) (h0 : 0 ≤ lo) (h1 : lo < 4294967296) (g0 : 0 ≤ hi) (g1 : hi < 4294967296) :
    Calls Try.prog 39 #[.agg #[.int .u32 lo, .int .u32 hi]] w fun e w' => e = .returned (.int .u64 (lo + hi * 4294967296)) ∧ Grown w w' := by
  go_enter Try.func39, Try.ntmps39
  go_wp2
  go_ret
  exact ⟨ret_i (or_join lo hi h0 h1 g0 g1), (Grown.refl _).alloc _ _⟩

theorem w_doubleOf (n : Int) (w : World) (h0 : 0 ≤ n) (h1 : n < 18446744073709551616) :
    Calls Try.prog 43 #[.int .u64 n] w fun e w' => e = .returned (.agg #[.int .u32 (n % 4294967296), .int .u32 (n / 4294967296)]) ∧ Grown w w' := by
  go_enter Try.func43, Try.ntmps43
  go_wp2
  exact bodyPost_ret (v := .agg #[.int .u32 (n % 4294967296), .int .u32 (n / 4294967296)]) (by simp [results, Try.results43, go_sem]) rfl ⟨rfl, (Grown.refl _).alloc _ _⟩

theorem w_times (a b : Int) (w : World) (h0 : 0 ≤ a) (h1 : a < 4294967296) (g0 : 0 ≤ b) (g1 : b < 4294967296) :
    Calls Try.prog 20 #[.int .u32 a, .int .u32 b] w fun e w' => e = .returned (.tuple #[.int .u32 (a * b % 4294967296), .int .u32 (a * b / 4294967296)]) ∧ Grown w w' := by
  obtain ⟨p0, p1⟩ := mul_bd a b h0 h1 g0 g1
  go_enter Try.func20, Try.ntmps20
  go_wp2_with (go_at_call 43; refine (w_doubleOf _ _ (by omega) (by omega)).mono ?_; rintro e w1 ⟨rfl, hg⟩)
  go_quiet (fail)
  go_wp2
  go_ret2
  exact ⟨rfl, grown_drewN (hg.alloc _ _) _⟩

/-- what the fittings make of a quotient and a rest -/
def fcQ (q : Int) : Int := if 4294967295 < q then 0 else q
def fcR (q r : Int) : Int := if 4294967295 < q then 0 else r % 4294967296
def fcE (q : Int) : Int := if 4294967295 < q then 4 else 0
def fsQ (q : Int) : Int := if q < -2147483648 ∨ 2147483647 < q then 0 else q % 4294967296
def fsR (q r : Int) : Int := if q < -2147483648 ∨ 2147483647 < q then 0 else r % 4294967296
def fsE (q : Int) : Int := if q < -2147483648 ∨ 2147483647 < q then 4 else 0

theorem w_fitC (q r : Int) (w : World) (h0 : 0 ≤ q) (g0 : 0 ≤ r) :
    Calls Try.prog 40 #[.int .u64 q, .int .u64 r] w fun e w' => e = .returned (.tuple #[.int .u32 (fcQ q), .int .u32 (fcR q r), .int .i64 (fcE q)]) ∧ w' = w := by
  rcases (show 4294967295 < q ∨ q ≤ 4294967295 by omega) with c | c
  all_goals
    go_enter Try.func40, Try.ntmps40
    go_wp2
    go_ret3
    exact ⟨ret_iii (by unfold fcQ; omega) (by unfold fcR; omega) (by unfold fcE; omega), rfl⟩

theorem w_fitS (q r : Int) (w : World) :
    Calls Try.prog 41 #[.int .i64 q, .int .i64 r] w fun e w' => e = .returned (.tuple #[.int .u32 (fsQ q), .int .u32 (fsR q r), .int .i64 (fsE q)]) ∧ w' = w := by
  rcases (show q < -2147483648 ∨ (2147483647 < q ∧ -2147483648 ≤ q) ∨ (-2147483648 ≤ q ∧ q ≤ 2147483647) by omega) with c | ⟨c, c2⟩ | ⟨c, c2⟩
  all_goals
    go_enter Try.func41, Try.ntmps41
    go_wp2
    go_ret3
    exact ⟨ret_iii (by unfold fsQ; omega) (by unfold fsR; omega) (by unfold fsE; omega), rfl⟩

end Go.Proofs.Ytfmlkclacbceeaa
