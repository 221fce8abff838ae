/-
  Shifts: the document's answer 'shift' returns, for all cells, what shifting by min(b, 32) bits means on whole numbers: to the left, to the right, to the right with the sign.
-/
import Derived.Test.YtfmlkclacbceeaaBas
namespace Go.Proofs.Ytfmlkclacbceeaa
open Go.ChangeShapes Go.WideShapes Go.ChangeAt Go.RowKit
set_option linter.unusedVariables false
set_option linter.unusedSimpArgs false

def shl (a : Int) (k : Nat) : Int := a * 2 ^ k % 4294967296
theorem shl_bd (a : Int) (k : Nat) : 0 ≤ shl a k ∧ shl a k < 4294967296 := by unfold shl; omega
theorem shl_succ (a : Int) (k : Nat) : shl a (k + 1) = shl a k * 2 % 4294967296 := by
  unfold shl
  rw [Int.pow_succ, ← Int.mul_assoc]
  omega
theorem shl_zero (a : Int) (h0 : 0 ≤ a) (h1 : a < 4294967296) : shl a 0 = a := by
  unfold shl; simp; omega
def shr (a : Int) (k : Nat) : Int := a / 2 ^ k
theorem shr_succ (a : Int) (k : Nat) : shr a (k + 1) = shr a k / 2 := by
  unfold shr
  rw [Int.pow_succ, Int.ediv_ediv_of_nonneg (Int.le_of_lt (Int.pow_pos (by decide)))]
theorem shr_bd (a : Int) (k : Nat) (h0 : 0 ≤ a) (h1 : a < 4294967296) : 0 ≤ shr a k ∧ shr a k < 4294967296 := by
  induction k with
  | zero => unfold shr; simp; omega
  | succ k ih => rw [shr_succ]; omega
theorem shr_zero (a : Int) : shr a 0 = a := by unfold shr; simp
theorem shr_sbd (a : Int) (k : Nat) (h0 : -2147483648 ≤ a) (h1 : a < 2147483648) : -2147483648 ≤ shr a k ∧ shr a k < 2147483648 := by
  induction k with
  | zero => unfold shr; simp; omega
  | succ k ih => rw [shr_succ]; omega
def sar (a : Int) (k : Nat) : Int := shr (wrap32 a) k % 4294967296
theorem sar_bd (a : Int) (k : Nat) : 0 ≤ sar a k ∧ sar a k < 4294967296 := by unfold sar; omega
theorem sar_zero (a : Int) (h0 : 0 ≤ a) (h1 : a < 4294967296) : sar a 0 = a := by
  unfold sar; rw [shr_zero]; unfold wrap32; omega
theorem sar_succ (a : Int) (k : Nat) : sar a (k + 1) = sar a k / 2 + sar a k / 2147483648 * 2147483648 := by
  have h := shr_sbd (wrap32 a) k (wrap32_sbd a).1 (wrap32_sbd a).2
  unfold sar
  rw [shr_succ]
  omega

set_option maxHeartbeats 400000 in
theorem w_shl (a b : Int) (w : World) (h0 : 0 ≤ a) (h1 : a < 4294967296) (g0 : 0 ≤ b) (g1 : b < 4294967296) :
    Calls Try.prog 33 #[.int .i64 39, .int .u32 a, .int .u32 b] w fun e w' => e = .returned (.int .u32 (shl a (min b.toNat 32))) ∧ w' = w := by
  obtain ⟨n, rfl⟩ := Int.eq_ofNat_of_zero_le g0
  rw [Int.toNat_natCast]
  have hz : Hid (shl a 0 = a) := shl_zero a h0 h1
  by_cases hb : n ≤ 32
  · rw [show min n 32 = n from by omega]
    go_enter Try.func33, Try.ntmps33
    go_wp2
    go_loop [1, 8] (fun A i => ∃ k : Nat, k ≤ n ∧ i = .int .i64 k ∧ A = .int .u32 (shl a k)) (fun _ i => n - (intOf i).toNat)
    case atStart => exact ⟨0, by omega, rfl, by rw [hz.out]⟩
    case round =>
      obtain ⟨k, hk, rfl, rfl⟩ := hrel
      have hbd := shl_bd a k
      have hs : Hid (shl a (k + 1) = shl a k * 2 % 4294967296) := shl_succ a k
      by_cases hlt : k < n
      · go_wp2_with (go_at_call 31; refine (w_rcell _ _).mono ?_; rintro e w' ⟨rfl, rfl⟩)
        go_round
        case rel => exact ⟨k + 1, by omega, by go_num, by rw [hs.out]⟩
        case measure => simp [intOf]; omega
      · obtain rfl : k = n := by omega
        go_wp2
        go_ret
        exact ⟨rfl, rfl⟩
  · rw [show min n 32 = 32 from by omega]
    have hb2 : (32 : Int) < (n : Int) := by omega
    clear hb
    go_enter Try.func33, Try.ntmps33
    go_wp2
    go_loop [1, 8] (fun A i => ∃ k : Nat, (k : Int) ≤ 32 ∧ i = .int .i64 k ∧ A = .int .u32 (shl a k)) (fun _ i => 32 - (intOf i).toNat)
    case atStart => exact ⟨0, by omega, rfl, by rw [hz.out]⟩
    case round =>
      obtain ⟨k, hk, rfl, rfl⟩ := hrel
      have hbd := shl_bd a k
      have hs : Hid (shl a (k + 1) = shl a k * 2 % 4294967296) := shl_succ a k
      by_cases hlt : (k : Int) < 32
      · go_wp2_with (go_at_call 31; refine (w_rcell _ _).mono ?_; rintro e w' ⟨rfl, rfl⟩)
        go_round
        case rel => exact ⟨k + 1, by omega, by go_num, by rw [hs.out]⟩
        case measure => simp [intOf]; omega
      · obtain rfl : k = 32 := by omega
        go_wp2
        go_ret
        exact ⟨rfl, rfl⟩

set_option maxHeartbeats 400000 in
theorem w_shr (a b : Int) (w : World) (h0 : 0 ≤ a) (h1 : a < 4294967296) (g0 : 0 ≤ b) (g1 : b < 4294967296) :
    Calls Try.prog 33 #[.int .i64 40, .int .u32 a, .int .u32 b] w fun e w' => e = .returned (.int .u32 (shr a (min b.toNat 32))) ∧ w' = w := by
  obtain ⟨n, rfl⟩ := Int.eq_ofNat_of_zero_le g0
  rw [Int.toNat_natCast]
  have hz : Hid (shr a 0 = a) := shr_zero a
  by_cases hb : n ≤ 32
  · rw [show min n 32 = n from by omega]
    go_enter Try.func33, Try.ntmps33
    go_wp2
    go_loop [1, 8] (fun A i => ∃ k : Nat, k ≤ n ∧ i = .int .i64 k ∧ A = .int .u32 (shr a k)) (fun _ i => n - (intOf i).toNat)
    case atStart => exact ⟨0, by omega, rfl, by rw [hz.out]⟩
    case round =>
      obtain ⟨k, hk, rfl, rfl⟩ := hrel
      have hbd := shr_bd a k h0 h1
      have hs : Hid (shr a (k + 1) = shr a k / 2) := shr_succ a k
      by_cases hlt : k < n
      · go_wp2
        go_round
        case rel => exact ⟨k + 1, by omega, by go_num, by rw [hs.out]⟩
        case measure => simp [intOf]; omega
      · obtain rfl : k = n := by omega
        go_wp2
        go_ret
        exact ⟨rfl, rfl⟩
  · rw [show min n 32 = 32 from by omega]
    have hb2 : (32 : Int) < (n : Int) := by omega
    clear hb
    go_enter Try.func33, Try.ntmps33
    go_wp2
    go_loop [1, 8] (fun A i => ∃ k : Nat, (k : Int) ≤ 32 ∧ i = .int .i64 k ∧ A = .int .u32 (shr a k)) (fun _ i => 32 - (intOf i).toNat)
    case atStart => exact ⟨0, by omega, rfl, by rw [hz.out]⟩
    case round =>
      obtain ⟨k, hk, rfl, rfl⟩ := hrel
      have hbd := shr_bd a k h0 h1
      have hs : Hid (shr a (k + 1) = shr a k / 2) := shr_succ a k
      by_cases hlt : (k : Int) < 32
      · go_wp2
        go_round
        case rel => exact ⟨k + 1, by omega, by go_num, by rw [hs.out]⟩
        case measure => simp [intOf]; omega
      · obtain rfl : k = 32 := by omega
        go_wp2
        go_ret
        exact ⟨rfl, rfl⟩

set_option maxHeartbeats 400000 in
theorem w_sar (a b : Int) (w : World) (h0 : 0 ≤ a) (h1 : a < 4294967296) (g0 : 0 ≤ b) (g1 : b < 4294967296) :
    Calls Try.prog 33 #[.int .i64 41, .int .u32 a, .int .u32 b] w fun e w' => e = .returned (.int .u32 (sar a (min b.toNat 32))) ∧ w' = w := by
  obtain ⟨n, rfl⟩ := Int.eq_ofNat_of_zero_le g0
  rw [Int.toNat_natCast]
  have hz : Hid (sar a 0 = a) := sar_zero a h0 h1
  by_cases hb : n ≤ 32
  · rw [show min n 32 = n from by omega]
    go_enter Try.func33, Try.ntmps33
    go_wp2
    go_loop [1, 8] (fun A i => ∃ k : Nat, k ≤ n ∧ i = .int .i64 k ∧ A = .int .u32 (sar a k)) (fun _ i => n - (intOf i).toNat)
    case atStart => exact ⟨0, by omega, rfl, by rw [hz.out]⟩
    case round =>
      obtain ⟨k, hk, rfl, rfl⟩ := hrel
      have hbd := sar_bd a k
      have hs : Hid (sar a (k + 1) = sar a k / 2 + sar a k / 2147483648 * 2147483648) := sar_succ a k
      by_cases hlt : k < n
      · go_wp2
        go_round
        case rel => exact ⟨k + 1, by omega, by go_num, by rw [hs.out]⟩
        case measure => simp [intOf]; omega
      · obtain rfl : k = n := by omega
        go_wp2
        go_ret
        exact ⟨rfl, rfl⟩
  · rw [show min n 32 = 32 from by omega]
    have hb2 : (32 : Int) < (n : Int) := by omega
    clear hb
    go_enter Try.func33, Try.ntmps33
    go_wp2
    go_loop [1, 8] (fun A i => ∃ k : Nat, (k : Int) ≤ 32 ∧ i = .int .i64 k ∧ A = .int .u32 (sar a k)) (fun _ i => 32 - (intOf i).toNat)
    case atStart => exact ⟨0, by omega, rfl, by rw [hz.out]⟩
    case round =>
      obtain ⟨k, hk, rfl, rfl⟩ := hrel
      have hbd := sar_bd a k
      have hs : Hid (sar a (k + 1) = sar a k / 2 + sar a k / 2147483648 * 2147483648) := sar_succ a k
      by_cases hlt : (k : Int) < 32
      · go_wp2
        go_round
        case rel => exact ⟨k + 1, by omega, by go_num, by rw [hs.out]⟩
        case measure => simp [intOf]; omega
      · obtain rfl : k = 32 := by omega
        go_wp2
        go_ret
        exact ⟨rfl, rfl⟩

end Go.Proofs.Ytfmlkclacbceeaa
