/-
  The landed package nvram: what its small functions call: prop.EncodeInt, prop.DecodeInt, slices.Clone, bytes.Clone at this seat.
-/
import Derived.Test.YtlnlifijnijgmaaNr4
import Derived.Test.YtlnlifijnijgmaaCp
import Derived.Deep.MidRow
import Derived.Deep.WholeRow
namespace Go.Proofs.Ytlnlifijnijgmaa
open Go.ChangeShapes Go.WideShapes Go.ChangeAt Go.RowKit
set_option linter.unusedVariables false
set_option linter.unusedSimpArgs false

set_option maxHeartbeats 1000000 in
set_option maxRecDepth 100000 in
theorem w_bcl18 (v : Value) (xs : List Int) (w : World) (h : Rd .u8 w v xs) (hz : xs.length ≤ 140737488355328) :
    Calls Try.prog 39 #[v] w fun e w' => ∃ v', e = .returned v' ∧ Rd .u8 w' v' xs ∧ Below w.heap.size w w' := by
  obtain ⟨i0, hi, hz0, hz1, hz2⟩ := info_parts infoU8
  obtain ⟨ao, cap, rfl, hc, hn, hx⟩ := rd_form h
  cases ao with
  | none =>
    have hc0 := hn rfl
    have hl : xs = [] := List.eq_nil_of_length_eq_zero (by omega)
    subst hl
    subst hc0
    show Calls _ _ #[.slice none 0 0] _ _
    have q := Lib.run_eql_slice_nil (P := Try.prog) w 22 5 none 0 0 0 0 Try.underlying22
    go_enter Try.func39, Try.ntmps39
    go_wp2_with fail
    go_ret
    exact ⟨_, rfl, Rd_nil, Below.refl _ _⟩
  | some a =>
    have q := Lib.run_eql_slice_nil (P := Try.prog) w 22 5 (some a) xs.length cap 0 0 Try.underlying22
    have ha := h.below (box_below w (.cells #[] 5))
    go_enter Try.func39, Try.ntmps39
    go_wp2_with (at_builtin; refine wpList_append_rd (k := .u8) rfl _ _ 22 rfl w.heap.size 5 i0 1 Try.underlying22 hi hz0 hz1 hz2 _ [] rfl (World.ownsRow_made w #[] 0 (Nat.le_refl _) (Nat.zero_le _) rfl) _ xs rfl ha (by unfold maxLen; simp; omega) (by simp; omega) (by simp) ?_; intro v5 w5 ho5 hg5)
    go_ret
    refine ⟨v5, rfl, (Rd_own (by simpa using ho5)).1, below_grown (box_below w _) hg5 (fun k hk => by simp [Value.ownBlock, Act.eval] at hk; omega)⟩

set_option maxHeartbeats 1000000 in
set_option maxRecDepth 100000 in
theorem w_pclo18 (v : Value) (xs : List Int) (w : World) (h : Rd .u8 w v xs) (hz : xs.length ≤ 140737488355328) :
    Calls Try.prog 31 #[v] w fun e w' => ∃ v', e = .returned v' ∧ Own8 w.heap.size w' v' xs ∧ Below w.heap.size w w' := by
  obtain ⟨i0, hi, hz0, hz1, hz2⟩ := info_parts infoU8
  obtain ⟨ao, cap, rfl, hc, hn, hx⟩ := rd_form h
  cases ao with
  | none =>
    have hc0 := hn rfl
    have hl : xs = [] := List.eq_nil_of_length_eq_zero (by omega)
    subst hl
    subst hc0
    show Calls _ _ #[.slice none 0 0] _ _
    have q := Lib.run_eql_slice_nil (P := Try.prog) w 22 5 none 0 0 0 0 Try.underlying22
    go_enter Try.func31, Try.ntmps31
    go_wp2_with fail
    go_ret
    exact ⟨_, rfl, ⟨by simp, Or.inl ⟨rfl, rfl⟩⟩, Below.refl _ _⟩
  | some a =>
    have q := Lib.run_eql_slice_nil (P := Try.prog) w 22 5 (some a) xs.length cap 0 0 Try.underlying22
    have ha := h.below (box_below w (.cells #[] 5))
    go_enter Try.func31, Try.ntmps31
    go_wp2_with (at_builtin; refine wpList_append_rd (k := .u8) rfl _ _ 22 rfl w.heap.size 5 i0 1 Try.underlying22 hi hz0 hz1 hz2 _ [] rfl (World.ownsRow_made w #[] 0 (Nat.le_refl _) (Nat.zero_le _) rfl) _ xs rfl ha (by unfold maxLen; simp; omega) (by simp; omega) (by simp) ?_; intro v5 w5 ho5 hg5)
    go_ret
    refine ⟨v5, rfl, by simpa [Own8] using ho5, below_grown (box_below w _) hg5 (fun k hk => by simp [Value.ownBlock, Act.eval] at hk; omega)⟩

theorem or_join18 (y b k : Nat) (h : b < 2 ^ k) : (y * 2 ^ k ||| b) = y * 2 ^ k + b := by
  rw [Nat.mul_comm, Nat.two_pow_add_eq_or_of_lt h]
theorem or32_18 (y b : Int) (k : Nat) (y0 : 0 ≤ y) (b0 : 0 ≤ b) (hb : b < 2 ^ k) (hy : y * 2 ^ k + b < 4294967296) : bits .or .u32 (y * 2 ^ k) b = y * 2 ^ k + b := by
  obtain ⟨n, rfl⟩ := Int.eq_ofNat_of_zero_le y0
  obtain ⟨m, rfl⟩ := Int.eq_ofNat_of_zero_le b0
  have e : (n : Int) * 2 ^ k = ((n * 2 ^ k : Nat) : Int) := by simp
  have hm : m < 2 ^ k := by
    have : (m : Int) < ((2 ^ k : Nat) : Int) := by simpa using hb
    omega
  rw [e] at hy ⊢
  rw [u32_or _ _ (by omega) (by omega) (by omega) (by omega), Int.toNat_natCast, Int.toNat_natCast, or_join18 n m k hm]
  simp

set_option maxHeartbeats 1000000 in
set_option maxRecDepth 100000 in
theorem w_pfirst18 (v : Value) (xs : List Int) (w : World) (h : Rd .u8 w v xs) (hB : bytesL xs) (h4 : 4 ≤ xs.length) :
    Calls Try.prog 38 #[v] w fun e w' => e = .returned (.int .u32 (beV (xs.take 4))) ∧ Below w.heap.size w w' := by
  obtain ⟨ad0, b0, r0, c0, l0, u0, g0⟩ := mem_at h hB 0 (by omega) (by omega)
  obtain ⟨ad1, b1, r1, c1, l1, u1, g1⟩ := mem_at h hB 1 (by omega) (by omega)
  obtain ⟨ad2, b2, r2, c2, l2, u2, g2⟩ := mem_at h hB 2 (by omega) (by omega)
  obtain ⟨ad3, b3, r3, c3, l3, u3, g3⟩ := mem_at h hB 3 (by omega) (by omega)
  have ev : beV (xs.take 4) = ((b0 * 256 + b1) * 256 + b2) * 256 + b3 := by
    have e4 := take_more xs 0 3 (by omega)
    rw [take_more xs 1 2 (by omega), take_more xs 2 1 (by omega), take_one xs 3 (by omega)] at e4
    simp only [Int.toNat_zero, show (1 : Int).toNat = 1 from rfl, show (2 : Int).toNat = 2 from rfl, show (3 : Int).toNat = 3 from rfl] at g0 g1 g2 g3
    rw [g0, g1, g2, g3] at e4
    rw [show xs.take 4 = (xs.drop 0).take (3 + 1) by simp, e4]
    simp [beV]
  have o1 : bits .or .u32 (b0 * 16777216) (b1 * 65536) = b0 * 16777216 + b1 * 65536 := or32_18 b0 (b1 * 65536) 24 l0 (by omega) (by omega) (by omega)
  have o2 : bits .or .u32 (b0 * 16777216 + b1 * 65536) (b2 * 256) = b0 * 16777216 + b1 * 65536 + b2 * 256 := by
    have := or32_18 (b0 * 256 + b1) (b2 * 256) 16 (by omega) (by omega) (by omega) (by omega)
    rw [show (b0 * 256 + b1) * 2 ^ 16 = b0 * 16777216 + b1 * 65536 by omega] at this
    exact this
  have o3 : bits .or .u32 (b0 * 16777216 + b1 * 65536 + b2 * 256) b3 = b0 * 16777216 + b1 * 65536 + b2 * 256 + b3 := by
    have := or32_18 (b0 * 65536 + b1 * 256 + b2) b3 8 (by omega) (by omega) (by omega) (by omega)
    rw [show (b0 * 65536 + b1 * 256 + b2) * 2 ^ 8 = b0 * 16777216 + b1 * 65536 + b2 * 256 by omega] at this
    exact this
  obtain ⟨R, hR⟩ : ∃ R, beV (xs.take 4) = R := ⟨_, rfl⟩
  have HR := hid (hR.symm.trans ev)
  rw [hR]
  clear ev hR g0 g1 g2 g3 hB
  go_enter Try.func38, Try.ntmps38
  go_wp2_with fail
  go_quiet (fail)
  go_wp2_with fail
  go_ret
  refine ⟨ret_i ?_, below_drewN (Below.refl _ _) _⟩
  rw [HR.out]
  omega

set_option maxHeartbeats 1000000 in
set_option maxRecDepth 100000 in
theorem w_pdecint18 (v : Value) (xs : List Int) (w : World) (h : Rd .u8 w v xs) (hB : bytesL xs) (hl : 4 ≤ xs.length) (hz : xs.length ≤ 140737488355328) :
    Calls Try.prog 37 #[v] w fun e w' => ∃ v1, e = .returned (.tuple #[.int .u32 (beV (xs.take 4)), v1, .int .i64 0]) ∧ Below w.heap.size w w' := by
  have hlen := rd_len h uB (P := Try.prog)
  have h4 : ¬ (xs.length : Int) < 4 := by omega
  have cf := fun w h => w_pfirst18 v xs w h hB (by omega)
  obtain ⟨va, ra, _, _, c5⟩ := rd_cutI h uB zB 4 xs.length (by omega) (by omega) (by omega)
  rw [show (4 : Int).toNat = 4 from rfl, List.take_of_length_le (by simp; omega)] at ra
  have c5' := c5 rfl
  have hdl : (xs.drop 4).length ≤ xs.length := by simp
  obtain ⟨D, hD⟩ : ∃ D, xs.drop 4 = D := ⟨_, rfl⟩
  obtain ⟨R, hR⟩ : ∃ R, beV (xs.take 4) = R := ⟨_, rfl⟩
  simp only [hR] at cf
  rw [hD] at ra hdl
  rw [hR]
  clear hD hR c5
  go_enter Try.func37, Try.ntmps37
  go_wp2_with fail
  have B0 : Below w.heap.size w w.drew := below_drewN (Below.refl _ _) 1
  have hz2 : D.length ≤ 140737488355328 := by omega
  go_region_with (first
    | (go_at_call 38; refine (cf _ (h.below B0)).mono ?_; rintro e w1 ⟨rfl, b1⟩)
    | (go_at_call 38; refine (cf _ ((h.below B0).below b2)).mono ?_; rintro e w1 ⟨rfl, b1⟩)
    | (go_at_call 39; refine (w_bcl18 va D _ (ra.below B0) hz2).mono ?_; rintro e w2 ⟨v2, rfl, r2, b2⟩)
    | (go_at_call 39; refine (w_bcl18 va D _ ((ra.below B0).below b1) hz2).mono ?_; rintro e w2 ⟨v2, rfl, r2, b2⟩))
  all_goals (
    go_wp2_with fail
    go_ret3
    exact ⟨v2, rfl, below_trans B0 (below_trans b1 b2)⟩)

set_option maxHeartbeats 1000000 in
set_option maxRecDepth 100000 in
theorem w_pencint18 (n : Int) (w : World) (h0 : 0 ≤ n) (h1 : n < 4294967296) :
    Calls Try.prog 36 #[.int .u32 n] w fun e w' => ∃ v, e = .returned v ∧ Rd .u8 w' v (beB 4 n) ∧ Below w.heap.size w w' := by
  have e : beB 4 n = [n / 16777216, n / 65536 % 256, n / 256 % 256, n % 256] := by simp [beB]; omega
  rw [e]
  go_enter Try.func36, Try.ntmps36
  go_wp2_with fail
  go_ret
  exact ⟨_, rfl, rd_lit w [n / 16777216, n / 65536 % 256, n / 256 % 256, n % 256] 5 (by simp) (by simp [maxLen]), box_below _ _⟩
end Go.Proofs.Ytlnlifijnijgmaa
