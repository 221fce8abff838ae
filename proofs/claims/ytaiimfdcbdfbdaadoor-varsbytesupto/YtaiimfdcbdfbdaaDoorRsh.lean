/-
  Show and Signed of the document's answer return the plain texts, for all numbers and bases.
-/
import Derived.Test.YtaiimfdcbdfbdaaDoorRdg
import Derived.Test.YtaiimfdcbdfbdaaDoorDsh
namespace Go.Proofs.YtaiimfdcbdfbdaaDoor
open Go.ChangeShapes Go.WideShapes Go.ChangeAt Go.RowKit
set_option linter.unusedVariables false
set_option linter.unusedSimpArgs false

/-- one digit cut out of the constant text -/
def one (r : Nat) : ByteArray := dgs.extract r (r + 1)
theorem one_L (r : Nat) (h : r < 36) : L (one r) = [dg r] := by
  unfold one
  rw [L_extract dgs r (r + 1) (by rw [dgs_size]; omega), L_drop dgs r (by rw [dgs_size]; omega), dgs_get r (by rw [dgs_size]; omega)]
  simp
theorem run_one0 (r : Nat) (h : (r : Int) < 36) (w : World) : (Instr.slice 9 (.string dgs) (some (.int .i64 r)) (some (.int .i64 ((r : Int) + 1))) none).run Tryd.prog w = .ok (.string (one r)) w := by
  rw [run_slice_string _ _ _ _ _ _ _ Tryd.underlying9 (by omega) (by omega) (by rw [dgs_size]; omega)]
  rfl
theorem run_one (r : Nat) (h : (r : Int) < 36) (w : World) : (Instr.slice 9 (.string ⟨#[48, 49, 50, 51, 52, 53, 54, 55, 56, 57, 97, 98, 99, 100, 101, 102, 103, 104, 105, 106, 107, 108, 109, 110, 111, 112, 113, 114, 115, 116, 117, 118, 119, 120, 121, 122]⟩) (some (.int .i64 r)) (some (.int .i64 ((r : Int) + 1))) none).run Tryd.prog w = .ok (.string (one r)) w :=
  run_one0 r h w
theorem pow_split (k : Nat) (h : k < 32) : (2 : Int) ^ (32 - k) = 2 ^ (32 - (k + 1)) * 2 := by
  rw [show 32 - k = (32 - (k + 1)) + 1 by omega, Int.pow_succ]

/-- what holds of the loop that shows a number: k digits are written, m is left -/
def ShInv (b n : Int) (k : Nat) (m : Int) (t : ByteArray) : Prop :=
  (0 < m ∨ k = 0 → sh b n = shF b (32 - k) m ++ L t) ∧ (m = 0 ∧ 0 < k → sh b n = L t) ∧ m < 2 ^ (32 - k) ∧ t.size = k
theorem ShInv_start (b n : Int) (h1 : n < 4294967296) : ShInv b n 0 n ⟨#[]⟩ :=
  ⟨fun _ => by simp [sh, L], fun h => by omega, by simpa using h1, rfl⟩
theorem ShInv_step (b n : Int) (k : Nat) (m : Int) (t : ByteArray) (r : Nat) (b0 : 2 ≤ b) (b1 : b ≤ 36) (hk : k < 32) (m0 : 0 ≤ m) (hm : 0 < m ∨ k = 0) (hr : m % b = r) (h : ShInv b n k m t) :
    ShInv b n (k + 1) (m / b) (one r ++ t) := by
  obtain ⟨i1, i2, i3, i4⟩ := h
  obtain ⟨q0, q1, r0, r1⟩ := div_half m b m0 b0
  have hs := i1 hm
  have hL : L (one r ++ t) = dg r :: L t := by rw [L_app, one_L r (by omega)]; rfl
  have hp := pow_split k hk
  have hz : (one r ++ t).size = k + 1 := by
    have e1 := L_len (one r ++ t)
    rw [hL, List.length_cons, L_len] at e1
    omega
  rw [show 32 - k = (32 - (k + 1)) + 1 by omega] at hs
  by_cases c : m < b
  · have e0 : m / b = 0 := Int.ediv_eq_zero_of_lt m0 c
    have e1 : m % b = m := Int.emod_eq_of_lt m0 c
    rw [shF_lo b m _ c] at hs
    unfold ShInv
    rw [hL, e0]
    refine ⟨fun h => by omega, fun _ => ?_, Int.pow_pos (by decide), hz⟩
    rw [hs, ← e1, hr]; rfl
  · have qp := div_pos m b b0 c
    rw [shF_hi b m _ c, hr] at hs
    unfold ShInv
    rw [hL]
    refine ⟨fun _ => ?_, fun h => by omega, by omega, hz⟩
    rw [hs]; simp
theorem ShInv_end (b n : Int) (k : Nat) (m : Int) (t : ByteArray) (hk : 0 < k) (hm : m ≤ 0) (m0 : 0 ≤ m) (h : ShInv b n k m t) : t = toB (sh b n) :=
  L_eq t _ (h.2.1 ⟨by omega, hk⟩).symm
theorem ShInv_last (b n m : Int) (t : ByteArray) (m0 : 0 ≤ m) (h : ShInv b n 32 m t) : m ≤ 0 := by
  have := h.2.2.1; simp at this; omega

/-- what Show answers -/
def shT (n b : Int) : ByteArray := if b < 2 ∨ 36 < b then ⟨#[]⟩ else toB (sh b n)
def shE (b : Int) : Int := if b < 2 ∨ 36 < b then 1 else 0

set_option maxHeartbeats 1000000 in
theorem w_rshow (n b : Int) (w : World) (n0 : 0 ≤ n) (n1 : n < 4294967296) (g0 : 0 ≤ b) (g1 : b < 4294967296) :
    Calls Tryd.prog 34 #[.int .u32 n, .int .u32 b] w fun e w' => e = .returned (.tuple #[.string (shT n b), .int .i64 (shE b)]) ∧ w' = w := by
  by_cases hb : b < 2 ∨ 36 < b
  · have e1 : shT n b = ⟨#[]⟩ := by unfold shT; rw [if_pos hb]
    have e2 : shE b = 1 := by unfold shE; rw [if_pos hb]
    rw [e1, e2]
    rcases hb with hb | hb
    · go_enter Tryd.func34, Tryd.ntmps34
      go_wp2
      go_ret2
      exact ⟨rfl, rfl⟩
    · have : ¬ b < 2 := by omega
      go_enter Tryd.func34, Tryd.ntmps34
      go_wp2
      go_ret2
      exact ⟨rfl, rfl⟩
  · have e1 : Hid (shT n b = toB (sh b n)) := by show _ = _; unfold shT; rw [if_neg hb]
    have e2 : Hid (shE b = 0) := by show _ = _; unfold shE; rw [if_neg hb]
    have b0 : 2 ≤ b := by omega
    have b1 : b ≤ 36 := by omega
    clear hb
    go_enter Tryd.func34, Tryd.ntmps34
    go_wp2
    go_loop [0, 6, 7] (fun N S i => ∃ (k : Nat) (m : Int) (t : ByteArray), (k : Int) ≤ 32 ∧ i = .int .i64 k ∧ N = .int .u32 m ∧ 0 ≤ m ∧ m < 4294967296 ∧ S = .string t ∧ (t.size : Int) ≤ 32 ∧ ShInv b n k m t) (fun _ _ i => (32 - intOf i).toNat)
    case atStart => exact ⟨0, n, ⟨#[]⟩, by omega, rfl, rfl, n0, n1, rfl, by decide, ShInv_start b n n1⟩
    case round =>
      obtain ⟨k, m, t, hk, rfl, rfl, m0, m1, rfl, ht, hI⟩ := hrel
      by_cases hlt : (k : Int) < 32
      · by_cases hm : 0 < m ∨ k = 0
        · obtain ⟨q0, q1, r0, r1⟩ := div_half m b m0 b0
          obtain ⟨r, hr⟩ : ∃ r : Nat, m % b = (r : Int) := Int.eq_ofNat_of_zero_le r0
          have hI2 := ShInv_step b n k m t r b0 b1 (by omega) m0 hm hr hI
          rw [hr] at r1
          clear r0
          have ho := run_one r (by omega)
          have hz := hI.2.2.2
          have hz2 : ((one r).size : Int) = 1 := by
            have := L_len (one r); rw [one_L r (by omega)] at this; simp at this; omega
          have hz3 : ((one r ++ t).size : Int) ≤ 32 := by have := hI2.2.2.2; omega
          have Hz : Hid (t.size = k) := hz
          clear hz
          rcases hm with hm | hm
          · go_wp2
            go_round
            case rel => exact ⟨k + 1, m / b, one r ++ t, by omega, by go_num, rfl, q0, by omega, rfl, hz3, hI2⟩
            case measure => simp [intOf]; omega
          · subst hm
            by_cases hm2 : 0 < m
            · go_wp2
              go_round
              case rel => exact ⟨0 + 1, m / b, one r ++ t, by omega, by go_num, rfl, q0, by omega, rfl, hz3, hI2⟩
              case measure => simp [intOf]
            · go_wp2
              go_round
              case rel => exact ⟨0 + 1, m / b, one r ++ t, by omega, by go_num, rfl, q0, by omega, rfl, hz3, hI2⟩
              case measure => simp [intOf]
        · have hfin := ShInv_end b n k m t (by omega) (by omega) m0 hI
          have hm1 : ¬ 0 < m := by omega
          have hk1 : ((k : Int) == 0) = false := beq_eq_false_iff_ne.2 (by omega)
          have Hf : Hid (t = toB (sh b n)) := hfin
          clear hm hI hfin
          go_wp2
          go_ret2
          exact ⟨ret_si (by rw [e1.out]; exact Hf.out) e2.out.symm, rfl⟩
      · obtain rfl : k = 32 := by omega
        have hfin := ShInv_end b n 32 m t (by omega) (ShInv_last b n m t m0 hI) m0 hI
        have Hf : Hid (t = toB (sh b n)) := hfin
        clear hI hfin
        go_wp2
        go_ret2
        exact ⟨ret_si (by rw [e1.out]; exact Hf.out) e2.out.symm, rfl⟩

/-- what Signed answers -/
def sgT (n b : Int) : ByteArray := if b < 2 ∨ 36 < b then ⟨#[]⟩ else toB (sg b n)

theorem sh_size (n b : Int) : (shT n b).size ≤ 33 := by
  unfold shT
  split
  · decide
  · rw [toB_size]; have := shF_len b 32 n; unfold sh; omega
theorem sg_size (n b : Int) : (sgT n b).size ≤ 33 := by
  unfold sgT
  split
  · decide
  · rw [toB_size]; unfold sg
    split
    · have := shF_len b 32 n; unfold sh; omega
    · have := shF_len b 32 (4294967296 - n); unfold sh; simp; omega
theorem shT_back (n b : Int) (n0 : 0 ≤ n) (n1 : n < 4294967296) (b0 : 2 ≤ b) (b1 : b ≤ 36) : prs (L (shT n b)) b = (n, 0) := by
  unfold shT; rw [if_neg (by omega), sh_L b n b0 b1 n0 n1]; exact sh_back b n b0 b1 n0 n1
theorem sgT_back (n b : Int) (n0 : 0 ≤ n) (n1 : n < 4294967296) (b0 : 2 ≤ b) (b1 : b ≤ 36) : prs (L (sgT n b)) b = (n, 0) := by
  unfold sgT; rw [if_neg (by omega), sg_bytes b n b0 b1 n0 n1]; exact sg_back b n b0 b1 n0 n1
theorem shT_same (n m b : Int) (n0 : 0 ≤ n) (n1 : n < 4294967296) (m0 : 0 ≤ m) (m1 : m < 4294967296) (b0 : 2 ≤ b) (b1 : b ≤ 36) : ((shT n b).toList == (shT m b).toList) = (n == m) := by
  have h : (shT n b).toList = (shT m b).toList ↔ n = m := by
    constructor
    · intro h
      rw [ByteArray.toList_eq, ByteArray.toList_eq] at h
      have : L (shT n b) = L (shT m b) := by unfold L; rw [h]
      unfold shT at this
      rw [if_neg (by omega), if_neg (by omega), sh_L b n b0 b1 n0 n1, sh_L b m b0 b1 m0 m1] at this
      exact (sh_inj b n m b0 b1 n0 n1 m0 m1).1 this
    · intro h; rw [h]
  rw [Bool.eq_iff_iff]
  simp [h]

end Go.Proofs.YtaiimfdcbdfbdaaDoor
