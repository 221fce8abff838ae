/-
  Join and Split of the program and of the document's answer return the same plain functions of their arguments, for all cells.
-/
import Derived.Test.YtfmlkclacbceeaaBas
import Derived.Test.YtfmlkclacbceeaaArq
import Derived.Handy
import Derived.Deep.QuietTactic
import Derived.BigQuiet
import Derived.Deep.RegionWith
import Derived.Deep.DeepCutAuto
namespace Go.Proofs.Ytfmlkclacbceeaa
open Go.ChangeShapes Go.WideShapes Go.ChangeAt Go.RowKit
set_option linter.unusedVariables false
set_option linter.unusedSimpArgs false

theorem grown_drewN {W w' : World} (h : Grown W w') (n : Nat) : Grown W (w'.drewN n) := h
theorem and255 (x : Int) (h0 : 0 ≤ x) (h1 : x < 4294967296) : bits BinOp.and IntKind.u32 x 255 = x % 256 := by
  rw [u32_and x 255 h0 h1 (by omega) (by omega)]
  obtain ⟨n, rfl⟩ := Int.eq_ofNat_of_zero_le h0
  have e1 : (((n : Int)).toNat &&& (255 : Int).toNat) = n % 256 := by
    rw [Int.toNat_natCast]; exact Nat.and_two_pow_sub_one_eq_mod n 8
  rw [e1]; omega
theorem or_step (lo hi : Int) (k : Nat) (hk : k ≤ 24) (h0 : 0 ≤ lo) (h1 : lo < ((2 ^ k : Nat) : Int)) (g0 : 0 ≤ hi) (g1 : hi < 256) : bits BinOp.or IntKind.u32 lo (hi * ((2 ^ k : Nat) : Int)) = lo + hi * ((2 ^ k : Nat) : Int) := by
  obtain ⟨l, rfl⟩ := Int.eq_ofNat_of_zero_le h0
  obtain ⟨h, rfl⟩ := Int.eq_ofNat_of_zero_le g0
  have hp : 2 ^ k ≤ 2 ^ 24 := Nat.pow_le_pow_right (by decide) hk
  have hm : 2 ^ k * h ≤ 2 ^ 24 * 255 := Nat.mul_le_mul hp (by omega)
  have e : ((h : Int) * ((2 ^ k : Nat) : Int)) = ((2 ^ k * h : Nat) : Int) := by
    rw [Nat.mul_comm]; simp
  have hl : l < 2 ^ k := by omega
  rw [e, u32_or_nat _ _ (by omega) (by omega), Nat.or_comm, ← Nat.two_pow_add_eq_or_of_lt hl]
  omega

/-- the cell of the lowest bytes of four -/
def jn (x0 x1 x2 x3 : Int) : Int := x0 % 256 + x1 % 256 * 256 + x2 % 256 * 65536 + x3 % 256 * 16777216
theorem jn_or (x0 x1 x2 x3 : Int) : bits BinOp.or IntKind.u32 (bits BinOp.or IntKind.u32 (bits BinOp.or IntKind.u32 (bits BinOp.or IntKind.u32 0 (x0 % 256)) (x1 % 256 * 256)) (x2 % 256 * 65536)) (x3 % 256 * 16777216) = jn x0 x1 x2 x3 := by
  have s0 : bits BinOp.or IntKind.u32 0 (x0 % 256) = x0 % 256 := by
    have := or_step 0 (x0 % 256) 0 (by omega) (by omega) (by simp) (by omega) (by omega)
    simpa using this
  rw [s0]
  have s1 := or_step (x0 % 256) (x1 % 256) 8 (by omega) (by omega) (by simp; omega) (by omega) (by omega)
  rw [show ((2 ^ 8 : Nat) : Int) = 256 from rfl] at s1
  rw [s1]
  have s2 := or_step (x0 % 256 + x1 % 256 * 256) (x2 % 256) 16 (by omega) (by omega) (by rw [show ((2 ^ 16 : Nat) : Int) = 65536 from rfl]; omega) (by omega) (by omega)
  rw [show ((2 ^ 16 : Nat) : Int) = 65536 from rfl] at s2
  rw [s2]
  have s3 := or_step (x0 % 256 + x1 % 256 * 256 + x2 % 256 * 65536) (x3 % 256) 24 (by omega) (by omega) (by rw [show ((2 ^ 24 : Nat) : Int) = 16777216 from rfl]; omega) (by omega) (by omega)
  rw [show ((2 ^ 24 : Nat) : Int) = 16777216 from rfl] at s3
  rw [s3]
  rfl
theorem jn_bd (x0 x1 x2 x3 : Int) : 0 ≤ jn x0 x1 x2 x3 ∧ jn x0 x1 x2 x3 < 4294967296 := by unfold jn; omega

theorem w_join (x0 x1 x2 x3 : Int) (w : World) (a0 : 0 ≤ x0) (b0 : x0 < 4294967296) (a1 : 0 ≤ x1) (b1 : x1 < 4294967296) (a2 : 0 ≤ x2) (b2 : x2 < 4294967296) (a3 : 0 ≤ x3) (b3 : x3 < 4294967296) :
    Calls Try.prog 24 #[.agg #[.int .u32 x0, .int .u32 x1, .int .u32 x2, .int .u32 x3]] w fun e w' => e = .returned (.int .u32 (jn x0 x1 x2 x3)) ∧ w' = w.alloc (.cells #[.int .u32 x0, .int .u32 x1, .int .u32 x2, .int .u32 x3] 41) := by
  have i0 : ∀ w, (Instr.index 41 (.agg #[.int .u32 x0, .int .u32 x1, .int .u32 x2, .int .u32 x3]) (.int .i64 0)).run Try.prog w = .ok (.int .u32 x0) w := fun _ => by kernel_rfl
  have i1 : ∀ w, (Instr.index 41 (.agg #[.int .u32 x0, .int .u32 x1, .int .u32 x2, .int .u32 x3]) (.int .i64 1)).run Try.prog w = .ok (.int .u32 x1) w := fun _ => by kernel_rfl
  have i2 : ∀ w, (Instr.index 41 (.agg #[.int .u32 x0, .int .u32 x1, .int .u32 x2, .int .u32 x3]) (.int .i64 2)).run Try.prog w = .ok (.int .u32 x2) w := fun _ => by kernel_rfl
  have i3 : ∀ w, (Instr.index 41 (.agg #[.int .u32 x0, .int .u32 x1, .int .u32 x2, .int .u32 x3]) (.int .i64 3)).run Try.prog w = .ok (.int .u32 x3) w := fun _ => by kernel_rfl
  have e0 := and255 x0 a0 b0
  have e1 := and255 x1 a1 b1
  have e2 := and255 x2 a2 b2
  have e3 := and255 x3 a3 b3
  go_enter Try.func24, Try.ntmps24
  go_wp2
  go_rounds 5
  go_ret
  exact ⟨ret_i (jn_or x0 x1 x2 x3), rfl⟩

theorem w_rjoin (x0 x1 x2 x3 : Int) (w : World) (a0 : 0 ≤ x0) (b0 : x0 < 4294967296) (a1 : 0 ≤ x1) (b1 : x1 < 4294967296) (a2 : 0 ≤ x2) (b2 : x2 < 4294967296) (a3 : 0 ≤ x3) (b3 : x3 < 4294967296) :
    Calls Try.prog 25 #[.agg #[.int .u32 x0, .int .u32 x1, .int .u32 x2, .int .u32 x3]] w fun e w' => e = .returned (.int .u32 (jn x0 x1 x2 x3)) ∧ w' = w.alloc (.cells #[.int .u32 x0, .int .u32 x1, .int .u32 x2, .int .u32 x3] 41) := by
  go_enter Try.func25, Try.ntmps25
  go_wp2
  go_rounds 5
  go_ret
  exact ⟨ret_i (by unfold jn; omega), rfl⟩

theorem w_split (a : Int) (w : World) (a0 : 0 ≤ a) (b0 : a < 4294967296) :
    Calls Try.prog 26 #[.int .u32 a] w fun e w' => e = .returned (.agg #[.int .u32 (a % 256), .int .u32 (a / 256 % 256), .int .u32 (a / 65536 % 256), .int .u32 (a / 16777216 % 256)]) ∧
      w' = (w.alloc (.cells #[.int .u32 (a % 256), .int .u32 (a / 256 % 256), .int .u32 (a / 65536 % 256), .int .u32 (a / 16777216 % 256)] 41)).alloc (.cells #[.int .u32 (a % 256), .int .u32 (a / 256 % 256), .int .u32 (a / 65536 % 256), .int .u32 (a / 16777216 % 256)] 41) := by
  have e0 := and255 a (by omega) (by omega)
  have e1 := and255 (a / 256) (by omega) (by omega)
  have e2 := and255 (a / 65536) (by omega) (by omega)
  have e3 := and255 (a / 16777216) (by omega) (by omega)
  go_enter Try.func26, Try.ntmps26
  go_wp2
  go_rounds 5
  exact bodyPost_ret (v := .agg #[.int .u32 (a % 256), .int .u32 (a / 256 % 256), .int .u32 (a / 65536 % 256), .int .u32 (a / 16777216 % 256)]) (by simp [results, Try.results26, go_sem]) rfl ⟨rfl, rfl⟩

theorem w_rsplit (a : Int) (w : World) (a0 : 0 ≤ a) (b0 : a < 4294967296) :
    Calls Try.prog 27 #[.int .u32 a] w fun e w' => e = .returned (.agg #[.int .u32 (a % 256), .int .u32 (a / 256 % 256), .int .u32 (a / 65536 % 256), .int .u32 (a / 16777216 % 256)]) ∧
      w' = (w.alloc (.cells #[.int .u32 (a % 256), .int .u32 (a / 256 % 256), .int .u32 (a / 65536 % 256), .int .u32 (a / 16777216 % 256)] 41)).alloc (.cells #[.int .u32 (a % 256), .int .u32 (a / 256 % 256), .int .u32 (a / 65536 % 256), .int .u32 (a / 16777216 % 256)] 41) := by
  have q1 : a / 256 / 256 = a / 65536 := by omega
  have q2 : a / 65536 / 256 = a / 16777216 := by omega
  go_enter Try.func27, Try.ntmps27
  go_wp2
  go_rounds 5
  exact bodyPost_ret (v := .agg #[.int .u32 (a % 256), .int .u32 (a / 256 % 256), .int .u32 (a / 65536 % 256), .int .u32 (a / 16777216 % 256)]) (by simp [results, Try.results27, go_sem]) rfl ⟨rfl, rfl⟩

end Go.Proofs.Ytfmlkclacbceeaa
