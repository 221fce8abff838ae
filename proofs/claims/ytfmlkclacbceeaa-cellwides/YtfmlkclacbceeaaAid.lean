/-
  Plain facts on whole numbers and on endings, for the walks of package cell: no Go text in sight. No conditions beyond those that each lemma names.
-/
import Derived.WalkKit
import Derived.ProofKit
import Derived.OpenShut
import Derived.WalkLawsBesides
import Derived.Deep.Light
namespace Go.Proofs.Ytfmlkclacbceeaa
open Go.ChangeShapes Go.WideShapes Go.ChangeAt Go.RowKit

theorem ret_b {a b : Bool} (h : a = b) : Ending.returned (.bool a) = .returned (.bool b) := by rw [h]
theorem ret_i {k : IntKind} {a b : Int} (h : a = b) : Ending.returned (.int k a) = .returned (.int k b) := by rw [h]
theorem ret_ii {k l : IntKind} {a b c d : Int} (h : a = b) (g : c = d) : Ending.returned (.tuple #[.int k a, .int l c]) = .returned (.tuple #[.int k b, .int l d]) := by rw [h, g]
theorem ret_iii {k l m : IntKind} {a b c d x y : Int} (h : a = b) (g : c = d) (f : x = y) : Ending.returned (.tuple #[.int k a, .int l c, .int m x]) = .returned (.tuple #[.int k b, .int l d, .int m y]) := by rw [h, g, f]
theorem ret_ib {k : IntKind} {a b : Int} {c d : Bool} (h : a = b) (g : c = d) : Ending.returned (.tuple #[.int k a, .bool c]) = .returned (.tuple #[.int k b, .bool d]) := by rw [h, g]

theorem cell_eq (n : Int) : (IntKind.u64.wrap n).tmod 4294967296 % 4294967296 = n % 4294967296 := by
  have h : 0 ≤ IntKind.u64.wrap n := wrap_u64_nonneg n
  rw [Int.tmod_eq_emod_of_nonneg h]
  simp [IntKind.wrap, IntKind.bits, IntKind.signed]

/-- the bounds of a cell -/
theorem u32_bounds {n : Int} (h : (Lit.int .u32 n).wf = true) : 0 ≤ n ∧ n < 4294967296 := by
  simp [Lit.wf, IntKind.min, IntKind.max, IntKind.bits, IntKind.signed] at h
  omega

theorem xor_max (a : Int) (h0 : 0 ≤ a) (h1 : a < 4294967296) : bits BinOp.xor IntKind.u32 IntKind.u32.max a = 4294967295 - a := by
  have hm : IntKind.u32.max = 4294967295 := by simp [IntKind.max, IntKind.bits, IntKind.signed]
  rw [hm, u32_xor _ _ (by omega) (by omega) h0 h1]
  obtain ⟨n, rfl⟩ := Int.eq_ofNat_of_zero_le h0
  rw [Int.toNat_natCast]
  have hn : n < 4294967296 := by omega
  have e : (4294967295 : Int).toNat ^^^ n = 2 ^ 32 - (n + 1) := by
    apply Nat.eq_of_testBit_eq
    intro i
    rw [Nat.testBit_xor, Nat.testBit_two_pow_sub_succ (by simpa using hn)]
    have : ((4294967295 : Int).toNat) = 2 ^ 32 - 1 := by decide
    rw [this, Nat.testBit_two_pow_sub_one]
    by_cases hi : i < 32
    · simp [hi]
    · have : n.testBit i = false := Nat.testBit_lt_two_pow (Nat.lt_of_lt_of_le hn (by
        have : 2 ^ 32 ≤ 2 ^ i := Nat.pow_le_pow_right (by decide) (by omega)
        simpa using this))
      simp [hi, this]
  rw [e]
  omega

theorem swap_eq (a : Int) (h0 : 0 ≤ a) (h1 : a < 4294967296) :
    bits BinOp.or IntKind.u32 (bits BinOp.and IntKind.u32 a 255 * 256 % 4294967296) (bits BinOp.and IntKind.u32 (a / 256) 255) = a % 256 * 256 + a / 256 % 256 := by
  rw [u32_and a 255 h0 h1 (by omega) (by omega), u32_and (a / 256) 255 (by omega) (by omega) (by omega) (by omega)]
  obtain ⟨n, rfl⟩ := Int.eq_ofNat_of_zero_le h0
  have e1 : (((n : Int)).toNat &&& (255 : Int).toNat) = n % 256 := by
    rw [Int.toNat_natCast]; exact Nat.and_two_pow_sub_one_eq_mod n 8
  have e2 : ((((n : Int) / 256)).toNat &&& (255 : Int).toNat) = n / 256 % 256 := by
    have : ((n : Int) / 256).toNat = n / 256 := by omega
    rw [this]; exact Nat.and_two_pow_sub_one_eq_mod (n / 256) 8
  rw [e1, e2]
  have e3 : (((n % 256 : Nat) : Int) * 256 % 4294967296) = ((n % 256 * 2 ^ 8 : Nat) : Int) := by omega
  rw [e3, u32_or_nat _ _ (by omega) (by omega)]
  have e4 : n % 256 * 2 ^ 8 ||| n / 256 % 256 = n % 256 * 2 ^ 8 + n / 256 % 256 := by
    rw [Nat.mul_comm]
    exact (Nat.two_pow_add_eq_or_of_lt (by omega) _).symm
  rw [e4]
  omega
end Go.Proofs.Ytfmlkclacbceeaa
