/-
  Named, EncodeInt, EncodeText of the document's answer for properties.
-/
import Derived.Test.YtlnlifijnijgmaaRmm
import Derived.Test.YtlnlifijnijgmaaPpr
namespace Go.Proofs.Ytlnlifijnijgmaa
open Go.ChangeShapes Go.WideShapes Go.ChangeAt Go.RowKit
set_option linter.unusedVariables false
set_option linter.unusedSimpArgs false

theorem run_at {w : World} (s : ByteArray) (k : Nat) (h : k < s.size) (hm : s.size ≤ maxLen) : (Instr.index 9 (.string s) (.int .i64 (k : Int))).run Try.prog w = .ok (.int .u8 (s[k].toNat : Int)) w := by
  unfold maxLen at hm
  rw [run_index_string (h := Try.underlying9)]
  simp [h]

theorem run_bad (k : Nat) (hk : k < 6) (w : World) : (Instr.index 9 (.string ⟨#[47, 92, 58, 91, 93, 64]⟩) (.int .i64 (k : Int))).run Try.prog w = .ok (.int .u8 (([47, 92, 58, 91, 93, 64] : List Int).getD k 0)) w := by
  rw [run_at ⟨#[47, 92, 58, 91, 93, 64]⟩ k (show k < 6 from hk) (by decide)]
  have : k = 0 ∨ k = 1 ∨ k = 2 ∨ k = 3 ∨ k = 4 ∨ k = 5 := by omega
  rcases this with rfl | rfl | rfl | rfl | rfl | rfl <;> rfl

/-- one byte more on a row of bytes of the call's own -/
def Own8 (base : Nat) (w : World) (v : Value) (xs : List Int) : Prop := w.ownsRow base 5 1 v xs.length (xs.map (Value.int .u8))

theorem enc_at (n : Int) (h0 : 0 ≤ n) (k : Nat) (hk : k ≤ 3) : (beB 4 n).take (3 - k + 1) = (beB 4 n).take (3 - k) ++ [n / 2 ^ (8 * k) % 256] := by
  have e : beB 4 n = [n / 256 / 256 / 256 % 256, n / 256 / 256 % 256, n / 256 % 256, n % 256] := by simp [beB]
  rw [e]
  have : k = 0 ∨ k = 1 ∨ k = 2 ∨ k = 3 := by omega
  rcases this with rfl | rfl | rfl | rfl
  all_goals simp
  all_goals omega

set_option maxHeartbeats 1000000 in
set_option maxRecDepth 100000 in
theorem w_rencint (n : Int) (w : World) (h0 : 0 ≤ n) (h1 : n < 4294967296) :
    Calls Try.prog 30 #[.int .u32 n] w fun e w' => ∃ v, e = .returned v ∧ Own8 w.heap.size w' v (beB 4 n) ∧ Below w.heap.size w w' := by
  obtain ⟨i0, hi, hz0, hz1, hz2⟩ := info_parts infoU8
  obtain ⟨F, hF⟩ : ∃ F, beB 4 n = F := ⟨_, rfl⟩
  have hFl : F.length = 4 := by rw [← hF]; exact beB_len 4 n
  have hst := enc_at n h0
  rw [hF] at hst ⊢
  have Hst := hid hst
  clear hst hF
  go_enter Try.func30, Try.ntmps30
  go_wp2_with fail
  go_loopw [3, 4] (fun U I wx => ∃ (k : Nat), (k : Int) ≤ 4 ∧ I = .int .i64 ((k : Int) - 1) ∧ Own8 w.heap.size wx U (F.take (4 - k)) ∧ Below w.heap.size w wx) (fun _ I _ => (intOf I + 1).toNat)
  case atStart => exact ⟨4, by omega, rfl, World.ownsRow_nil _ _ _ _, Below.refl _ _⟩
  case round =>
    obtain ⟨k, hk, rfl, ho, hb⟩ := hrel
    rcases Nat.eq_zero_or_pos k with hk0 | hk0
    · subst hk0
      go_wp2_with fail
      go_ret
      refine ⟨_, rfl, ?_, hb⟩
      rw [show 4 - 0 = 4 from rfl, List.take_of_length_le (by omega)] at ho
      exact ho
    · obtain ⟨j, rfl⟩ : ∃ j, k = j + 1 := ⟨k - 1, by omega⟩
      have hq0 : 0 ≤ n / 2 ^ (8 * j) := Int.ediv_nonneg h0 (Int.le_of_lt (Int.pow_pos (by decide)))
      have hq1 : n / 2 ^ (8 * j) ≤ n := Int.ediv_le_self _ h0
      obtain ⟨q, hq⟩ : ∃ q, n / 2 ^ (8 * j) = q := ⟨_, rfl⟩
      obtain ⟨x, hx⟩ : ∃ x, n / 2 ^ (8 * j) % 256 = x := ⟨_, rfl⟩
      have hx0 : 0 ≤ x ∧ x < 256 := by omega
      obtain ⟨x0, x1⟩ := hx0
      rw [hq] at hq0 hq1
      have hm : q.tmod 256 = x := by rw [Int.tmod_eq_emod_of_nonneg hq0, ← hx, hq]
      have hs2 : Hid (F.take (4 - j) = F.take (4 - (j + 1)) ++ [x]) := by
        show _ = _
        have := Hst.out j (by omega)
        rw [hx, show 3 - j + 1 = 4 - j by omega, show 3 - j = 4 - (j + 1) by omega] at this
        exact this
      have ho3 := World.ownsRow.alloc ho (.cells #[.int .u8 x] 5)
      have hb3 := hb.alloc hb.size (.cells #[.int .u8 x] 5)
      have hll : (F.take (4 - (j + 1))).length ≤ 4 := by rw [List.length_take]; omega
      obtain ⟨ys, hys⟩ : ∃ ys, F.take (4 - (j + 1)) = ys := ⟨_, rfl⟩
      have Hys := hid hys
      rw [hys] at ho3 hll
      clear hys ho hx
      go_wp2_with (at_builtin; refine wpList_append_rd (k := .u8) rfl _ _ 22 rfl w.heap.size 5 i0 1 Try.underlying22 hi hz0 hz1 hz2 _ ys rfl ho3 _ [x] rfl (rd_one _ x 5) (by unfold maxLen; simp; omega) (by simp; omega) hb3.size ?_; intro v4 w4 ho4 hg4)
      go_roundw
      case rel =>
        refine ⟨j, by omega, by go_num, ?_, below_grown hb3 hg4 (fun k hk => (ho3.lt k hk).1)⟩
        rw [hs2.out, Hys.out]
        exact ho4
      case measure => simp [intOf]
end Go.Proofs.Ytlnlifijnijgmaa
