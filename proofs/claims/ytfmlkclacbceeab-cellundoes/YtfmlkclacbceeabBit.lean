/-
  Words bit by bit: the document's answer 'bits' returns, for all cells, the and, the or and the exclusive or of the two numbers.
-/
import Derived.Test.YtfmlkclacbceeabSh
namespace Go.Proofs.Ytfmlkclacbceeab
open Go.ChangeShapes Go.WideShapes Go.ChangeAt Go.RowKit
set_option linter.unusedVariables false
set_option linter.unusedSimpArgs false

theorem nat_half (P j : Nat) : P / 2 ^ j = P / 2 ^ (j + 1) * 2 + P / 2 ^ j % 2 := by
  rw [Nat.pow_succ, ← Nat.div_div_eq_div_mul]
  omega
theorem int_bit (a : Int) (j : Nat) (h : 0 ≤ a) : a / 2 ^ j % 2 = ((a.toNat / 2 ^ j % 2 : Nat) : Int) := by
  obtain ⟨n, rfl⟩ := Int.eq_ofNat_of_zero_le h
  rw [Int.toNat_natCast]
  simp
theorem int_shift (a : Int) (j : Nat) (h : 0 ≤ a) : 0 ≤ a / 2 ^ j := Int.ediv_nonneg h (Int.le_of_lt (Int.pow_pos (by decide)))
theorem bit_of (P j : Nat) : P / 2 ^ j % 2 = if P.testBit j = true then 1 else 0 := by
  rw [Nat.testBit_eq_decide_div_mod_eq]
  have : P / 2 ^ j % 2 = 0 ∨ P / 2 ^ j % 2 = 1 := by omega
  rcases this with h | h <;> simp [h]

/-- what has been gathered when k bits are left -/
def bw_and (a b : Int) (k : Nat) : Int := ((a.toNat &&& b.toNat : Nat) : Int) / 2 ^ k
theorem bw_and_nat (a b : Int) (k : Nat) : bw_and a b k = (((a.toNat &&& b.toNat) / 2 ^ k : Nat) : Int) := by unfold bw_and; simp
theorem bw_and_lt (a b : Int) (h0 : 0 ≤ a) (h1 : a < 4294967296) (g0 : 0 ≤ b) (g1 : b < 4294967296) : a.toNat &&& b.toNat < 2 ^ 32 :=
  Nat.and_lt_two_pow _ (show b.toNat < 2 ^ 32 by omega)
theorem bw_and_zero (a b : Int) (h0 : 0 ≤ a) (h1 : a < 4294967296) (g0 : 0 ≤ b) (g1 : b < 4294967296) : bw_and a b 32 = 0 := by
  rw [bw_and_nat, Nat.div_eq_of_lt (bw_and_lt a b h0 h1 g0 g1)]; rfl
theorem bw_and_end (a b : Int) : bw_and a b 0 = ((a.toNat &&& b.toNat : Nat) : Int) := by unfold bw_and; simp
theorem bw_and_bd (a b : Int) (k : Nat) (h0 : 0 ≤ a) (h1 : a < 4294967296) (g0 : 0 ≤ b) (g1 : b < 4294967296) (hk : 1 ≤ k) : 0 ≤ bw_and a b k ∧ bw_and a b k ≤ 2147483647 := by
  rw [bw_and_nat]
  have h := bw_and_lt a b h0 h1 g0 g1
  have h2 : (a.toNat &&& b.toNat) / 2 ^ k ≤ (a.toNat &&& b.toNat) / 2 ^ 1 := Nat.div_le_div_left (Nat.pow_le_pow_right (by decide) hk) (by decide)
  generalize (a.toNat &&& b.toNat) / 2 ^ k = q at *
  omega
theorem bw_and_00 (a b : Int) (k : Nat) (h0 : 0 ≤ a) (g0 : 0 ≤ b) (hk : 1 ≤ k) (hx : a / 2 ^ (k - 1) % 2 = 0) (hy : b / 2 ^ (k - 1) % 2 = 0) : bw_and a b (k - 1) = bw_and a b k * 2 + 0 := by
  rw [bw_and_nat, bw_and_nat]
  rw [int_bit _ _ h0, bit_of] at hx
  rw [int_bit _ _ g0, bit_of] at hy
  have h := nat_half (a.toNat &&& b.toNat) (k - 1)
  rw [bit_of, Nat.testBit_and, show k - 1 + 1 = k from by omega] at h
  generalize (a.toNat &&& b.toNat) / 2 ^ k = q at *
  generalize (a.toNat &&& b.toNat) / 2 ^ (k - 1) = p at *
  revert h hx hy
  cases a.toNat.testBit (k - 1) <;> cases b.toNat.testBit (k - 1) <;> simp <;> omega
theorem bw_and_01 (a b : Int) (k : Nat) (h0 : 0 ≤ a) (g0 : 0 ≤ b) (hk : 1 ≤ k) (hx : a / 2 ^ (k - 1) % 2 = 0) (hy : b / 2 ^ (k - 1) % 2 = 1) : bw_and a b (k - 1) = bw_and a b k * 2 + 0 := by
  rw [bw_and_nat, bw_and_nat]
  rw [int_bit _ _ h0, bit_of] at hx
  rw [int_bit _ _ g0, bit_of] at hy
  have h := nat_half (a.toNat &&& b.toNat) (k - 1)
  rw [bit_of, Nat.testBit_and, show k - 1 + 1 = k from by omega] at h
  generalize (a.toNat &&& b.toNat) / 2 ^ k = q at *
  generalize (a.toNat &&& b.toNat) / 2 ^ (k - 1) = p at *
  revert h hx hy
  cases a.toNat.testBit (k - 1) <;> cases b.toNat.testBit (k - 1) <;> simp <;> omega
theorem bw_and_10 (a b : Int) (k : Nat) (h0 : 0 ≤ a) (g0 : 0 ≤ b) (hk : 1 ≤ k) (hx : a / 2 ^ (k - 1) % 2 = 1) (hy : b / 2 ^ (k - 1) % 2 = 0) : bw_and a b (k - 1) = bw_and a b k * 2 + 0 := by
  rw [bw_and_nat, bw_and_nat]
  rw [int_bit _ _ h0, bit_of] at hx
  rw [int_bit _ _ g0, bit_of] at hy
  have h := nat_half (a.toNat &&& b.toNat) (k - 1)
  rw [bit_of, Nat.testBit_and, show k - 1 + 1 = k from by omega] at h
  generalize (a.toNat &&& b.toNat) / 2 ^ k = q at *
  generalize (a.toNat &&& b.toNat) / 2 ^ (k - 1) = p at *
  revert h hx hy
  cases a.toNat.testBit (k - 1) <;> cases b.toNat.testBit (k - 1) <;> simp <;> omega
theorem bw_and_11 (a b : Int) (k : Nat) (h0 : 0 ≤ a) (g0 : 0 ≤ b) (hk : 1 ≤ k) (hx : a / 2 ^ (k - 1) % 2 = 1) (hy : b / 2 ^ (k - 1) % 2 = 1) : bw_and a b (k - 1) = bw_and a b k * 2 + 1 := by
  rw [bw_and_nat, bw_and_nat]
  rw [int_bit _ _ h0, bit_of] at hx
  rw [int_bit _ _ g0, bit_of] at hy
  have h := nat_half (a.toNat &&& b.toNat) (k - 1)
  rw [bit_of, Nat.testBit_and, show k - 1 + 1 = k from by omega] at h
  generalize (a.toNat &&& b.toNat) / 2 ^ k = q at *
  generalize (a.toNat &&& b.toNat) / 2 ^ (k - 1) = p at *
  revert h hx hy
  cases a.toNat.testBit (k - 1) <;> cases b.toNat.testBit (k - 1) <;> simp <;> omega

/-- what has been gathered when k bits are left -/
def bw_or (a b : Int) (k : Nat) : Int := ((a.toNat ||| b.toNat : Nat) : Int) / 2 ^ k
theorem bw_or_nat (a b : Int) (k : Nat) : bw_or a b k = (((a.toNat ||| b.toNat) / 2 ^ k : Nat) : Int) := by unfold bw_or; simp
theorem bw_or_lt (a b : Int) (h0 : 0 ≤ a) (h1 : a < 4294967296) (g0 : 0 ≤ b) (g1 : b < 4294967296) : a.toNat ||| b.toNat < 2 ^ 32 :=
  Nat.or_lt_two_pow (show a.toNat < 2 ^ 32 by omega) (show b.toNat < 2 ^ 32 by omega)
theorem bw_or_zero (a b : Int) (h0 : 0 ≤ a) (h1 : a < 4294967296) (g0 : 0 ≤ b) (g1 : b < 4294967296) : bw_or a b 32 = 0 := by
  rw [bw_or_nat, Nat.div_eq_of_lt (bw_or_lt a b h0 h1 g0 g1)]; rfl
theorem bw_or_end (a b : Int) : bw_or a b 0 = ((a.toNat ||| b.toNat : Nat) : Int) := by unfold bw_or; simp
theorem bw_or_bd (a b : Int) (k : Nat) (h0 : 0 ≤ a) (h1 : a < 4294967296) (g0 : 0 ≤ b) (g1 : b < 4294967296) (hk : 1 ≤ k) : 0 ≤ bw_or a b k ∧ bw_or a b k ≤ 2147483647 := by
  rw [bw_or_nat]
  have h := bw_or_lt a b h0 h1 g0 g1
  have h2 : (a.toNat ||| b.toNat) / 2 ^ k ≤ (a.toNat ||| b.toNat) / 2 ^ 1 := Nat.div_le_div_left (Nat.pow_le_pow_right (by decide) hk) (by decide)
  generalize (a.toNat ||| b.toNat) / 2 ^ k = q at *
  omega
theorem bw_or_00 (a b : Int) (k : Nat) (h0 : 0 ≤ a) (g0 : 0 ≤ b) (hk : 1 ≤ k) (hx : a / 2 ^ (k - 1) % 2 = 0) (hy : b / 2 ^ (k - 1) % 2 = 0) : bw_or a b (k - 1) = bw_or a b k * 2 + 0 := by
  rw [bw_or_nat, bw_or_nat]
  rw [int_bit _ _ h0, bit_of] at hx
  rw [int_bit _ _ g0, bit_of] at hy
  have h := nat_half (a.toNat ||| b.toNat) (k - 1)
  rw [bit_of, Nat.testBit_or, show k - 1 + 1 = k from by omega] at h
  generalize (a.toNat ||| b.toNat) / 2 ^ k = q at *
  generalize (a.toNat ||| b.toNat) / 2 ^ (k - 1) = p at *
  revert h hx hy
  cases a.toNat.testBit (k - 1) <;> cases b.toNat.testBit (k - 1) <;> simp <;> omega
theorem bw_or_01 (a b : Int) (k : Nat) (h0 : 0 ≤ a) (g0 : 0 ≤ b) (hk : 1 ≤ k) (hx : a / 2 ^ (k - 1) % 2 = 0) (hy : b / 2 ^ (k - 1) % 2 = 1) : bw_or a b (k - 1) = bw_or a b k * 2 + 1 := by
  rw [bw_or_nat, bw_or_nat]
  rw [int_bit _ _ h0, bit_of] at hx
  rw [int_bit _ _ g0, bit_of] at hy
  have h := nat_half (a.toNat ||| b.toNat) (k - 1)
  rw [bit_of, Nat.testBit_or, show k - 1 + 1 = k from by omega] at h
  generalize (a.toNat ||| b.toNat) / 2 ^ k = q at *
  generalize (a.toNat ||| b.toNat) / 2 ^ (k - 1) = p at *
  revert h hx hy
  cases a.toNat.testBit (k - 1) <;> cases b.toNat.testBit (k - 1) <;> simp <;> omega
theorem bw_or_10 (a b : Int) (k : Nat) (h0 : 0 ≤ a) (g0 : 0 ≤ b) (hk : 1 ≤ k) (hx : a / 2 ^ (k - 1) % 2 = 1) (hy : b / 2 ^ (k - 1) % 2 = 0) : bw_or a b (k - 1) = bw_or a b k * 2 + 1 := by
  rw [bw_or_nat, bw_or_nat]
  rw [int_bit _ _ h0, bit_of] at hx
  rw [int_bit _ _ g0, bit_of] at hy
  have h := nat_half (a.toNat ||| b.toNat) (k - 1)
  rw [bit_of, Nat.testBit_or, show k - 1 + 1 = k from by omega] at h
  generalize (a.toNat ||| b.toNat) / 2 ^ k = q at *
  generalize (a.toNat ||| b.toNat) / 2 ^ (k - 1) = p at *
  revert h hx hy
  cases a.toNat.testBit (k - 1) <;> cases b.toNat.testBit (k - 1) <;> simp <;> omega
theorem bw_or_11 (a b : Int) (k : Nat) (h0 : 0 ≤ a) (g0 : 0 ≤ b) (hk : 1 ≤ k) (hx : a / 2 ^ (k - 1) % 2 = 1) (hy : b / 2 ^ (k - 1) % 2 = 1) : bw_or a b (k - 1) = bw_or a b k * 2 + 1 := by
  rw [bw_or_nat, bw_or_nat]
  rw [int_bit _ _ h0, bit_of] at hx
  rw [int_bit _ _ g0, bit_of] at hy
  have h := nat_half (a.toNat ||| b.toNat) (k - 1)
  rw [bit_of, Nat.testBit_or, show k - 1 + 1 = k from by omega] at h
  generalize (a.toNat ||| b.toNat) / 2 ^ k = q at *
  generalize (a.toNat ||| b.toNat) / 2 ^ (k - 1) = p at *
  revert h hx hy
  cases a.toNat.testBit (k - 1) <;> cases b.toNat.testBit (k - 1) <;> simp <;> omega

/-- what has been gathered when k bits are left -/
def bw_xor (a b : Int) (k : Nat) : Int := ((a.toNat ^^^ b.toNat : Nat) : Int) / 2 ^ k
theorem bw_xor_nat (a b : Int) (k : Nat) : bw_xor a b k = (((a.toNat ^^^ b.toNat) / 2 ^ k : Nat) : Int) := by unfold bw_xor; simp
theorem bw_xor_lt (a b : Int) (h0 : 0 ≤ a) (h1 : a < 4294967296) (g0 : 0 ≤ b) (g1 : b < 4294967296) : a.toNat ^^^ b.toNat < 2 ^ 32 :=
  Nat.xor_lt_two_pow (show a.toNat < 2 ^ 32 by omega) (show b.toNat < 2 ^ 32 by omega)
theorem bw_xor_zero (a b : Int) (h0 : 0 ≤ a) (h1 : a < 4294967296) (g0 : 0 ≤ b) (g1 : b < 4294967296) : bw_xor a b 32 = 0 := by
  rw [bw_xor_nat, Nat.div_eq_of_lt (bw_xor_lt a b h0 h1 g0 g1)]; rfl
theorem bw_xor_end (a b : Int) : bw_xor a b 0 = ((a.toNat ^^^ b.toNat : Nat) : Int) := by unfold bw_xor; simp
theorem bw_xor_bd (a b : Int) (k : Nat) (h0 : 0 ≤ a) (h1 : a < 4294967296) (g0 : 0 ≤ b) (g1 : b < 4294967296) (hk : 1 ≤ k) : 0 ≤ bw_xor a b k ∧ bw_xor a b k ≤ 2147483647 := by
  rw [bw_xor_nat]
  have h := bw_xor_lt a b h0 h1 g0 g1
  have h2 : (a.toNat ^^^ b.toNat) / 2 ^ k ≤ (a.toNat ^^^ b.toNat) / 2 ^ 1 := Nat.div_le_div_left (Nat.pow_le_pow_right (by decide) hk) (by decide)
  generalize (a.toNat ^^^ b.toNat) / 2 ^ k = q at *
  omega
theorem bw_xor_00 (a b : Int) (k : Nat) (h0 : 0 ≤ a) (g0 : 0 ≤ b) (hk : 1 ≤ k) (hx : a / 2 ^ (k - 1) % 2 = 0) (hy : b / 2 ^ (k - 1) % 2 = 0) : bw_xor a b (k - 1) = bw_xor a b k * 2 + 0 := by
  rw [bw_xor_nat, bw_xor_nat]
  rw [int_bit _ _ h0, bit_of] at hx
  rw [int_bit _ _ g0, bit_of] at hy
  have h := nat_half (a.toNat ^^^ b.toNat) (k - 1)
  rw [bit_of, Nat.testBit_xor, show k - 1 + 1 = k from by omega] at h
  generalize (a.toNat ^^^ b.toNat) / 2 ^ k = q at *
  generalize (a.toNat ^^^ b.toNat) / 2 ^ (k - 1) = p at *
  revert h hx hy
  cases a.toNat.testBit (k - 1) <;> cases b.toNat.testBit (k - 1) <;> simp <;> omega
theorem bw_xor_01 (a b : Int) (k : Nat) (h0 : 0 ≤ a) (g0 : 0 ≤ b) (hk : 1 ≤ k) (hx : a / 2 ^ (k - 1) % 2 = 0) (hy : b / 2 ^ (k - 1) % 2 = 1) : bw_xor a b (k - 1) = bw_xor a b k * 2 + 1 := by
  rw [bw_xor_nat, bw_xor_nat]
  rw [int_bit _ _ h0, bit_of] at hx
  rw [int_bit _ _ g0, bit_of] at hy
  have h := nat_half (a.toNat ^^^ b.toNat) (k - 1)
  rw [bit_of, Nat.testBit_xor, show k - 1 + 1 = k from by omega] at h
  generalize (a.toNat ^^^ b.toNat) / 2 ^ k = q at *
  generalize (a.toNat ^^^ b.toNat) / 2 ^ (k - 1) = p at *
  revert h hx hy
  cases a.toNat.testBit (k - 1) <;> cases b.toNat.testBit (k - 1) <;> simp <;> omega
theorem bw_xor_10 (a b : Int) (k : Nat) (h0 : 0 ≤ a) (g0 : 0 ≤ b) (hk : 1 ≤ k) (hx : a / 2 ^ (k - 1) % 2 = 1) (hy : b / 2 ^ (k - 1) % 2 = 0) : bw_xor a b (k - 1) = bw_xor a b k * 2 + 1 := by
  rw [bw_xor_nat, bw_xor_nat]
  rw [int_bit _ _ h0, bit_of] at hx
  rw [int_bit _ _ g0, bit_of] at hy
  have h := nat_half (a.toNat ^^^ b.toNat) (k - 1)
  rw [bit_of, Nat.testBit_xor, show k - 1 + 1 = k from by omega] at h
  generalize (a.toNat ^^^ b.toNat) / 2 ^ k = q at *
  generalize (a.toNat ^^^ b.toNat) / 2 ^ (k - 1) = p at *
  revert h hx hy
  cases a.toNat.testBit (k - 1) <;> cases b.toNat.testBit (k - 1) <;> simp <;> omega
theorem bw_xor_11 (a b : Int) (k : Nat) (h0 : 0 ≤ a) (g0 : 0 ≤ b) (hk : 1 ≤ k) (hx : a / 2 ^ (k - 1) % 2 = 1) (hy : b / 2 ^ (k - 1) % 2 = 1) : bw_xor a b (k - 1) = bw_xor a b k * 2 + 0 := by
  rw [bw_xor_nat, bw_xor_nat]
  rw [int_bit _ _ h0, bit_of] at hx
  rw [int_bit _ _ g0, bit_of] at hy
  have h := nat_half (a.toNat ^^^ b.toNat) (k - 1)
  rw [bit_of, Nat.testBit_xor, show k - 1 + 1 = k from by omega] at h
  generalize (a.toNat ^^^ b.toNat) / 2 ^ k = q at *
  generalize (a.toNat ^^^ b.toNat) / 2 ^ (k - 1) = p at *
  revert h hx hy
  cases a.toNat.testBit (k - 1) <;> cases b.toNat.testBit (k - 1) <;> simp <;> omega

end Go.Proofs.Ytfmlkclacbceeab
