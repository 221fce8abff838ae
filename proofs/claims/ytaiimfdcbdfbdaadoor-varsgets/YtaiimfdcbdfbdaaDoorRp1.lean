/-
  Named, EncodeInt, EncodeText of the document's answer for properties.
-/
import Derived.Test.YtaiimfdcbdfbdaaDoorRmm
import Derived.Test.YtaiimfdcbdfbdaaDoorPpr
namespace Go.Proofs.YtaiimfdcbdfbdaaDoor
open Go.ChangeShapes Go.WideShapes Go.ChangeAt Go.RowKit
set_option linter.unusedVariables false
set_option linter.unusedSimpArgs false

theorem run_at {w : World} (s : ByteArray) (k : Nat) (h : k < s.size) (hm : s.size ≤ maxLen) : (Instr.index 9 (.string s) (.int .i64 (k : Int))).run Tryd.prog w = .ok (.int .u8 (s[k].toNat : Int)) w := by
  unfold maxLen at hm
  rw [run_index_string (h := Tryd.underlying9)]
  simp [h]

theorem run_bad (k : Nat) (hk : k < 6) (w : World) : (Instr.index 9 (.string ⟨#[47, 92, 58, 91, 93, 64]⟩) (.int .i64 (k : Int))).run Tryd.prog w = .ok (.int .u8 (([47, 92, 58, 91, 93, 64] : List Int).getD k 0)) w := by
  rw [run_at ⟨#[47, 92, 58, 91, 93, 64]⟩ k (show k < 6 from hk) (by decide)]
  have : k = 0 ∨ k = 1 ∨ k = 2 ∨ k = 3 ∨ k = 4 ∨ k = 5 := by omega
  rcases this with rfl | rfl | rfl | rfl | rfl | rfl <;> rfl

/-- one byte more on a row of bytes of the call's own -/
def Own8 (base : Nat) (w : World) (v : Value) (xs : List Int) : Prop := w.ownsRow base 5 1 v xs.length (xs.map (Value.int .u8))

theorem enc_at (n : Int) (h0 : 0 ≤ n) (k : Nat) (hk : k ≤ 3) : (beB 4 n).take (3 - k + 1) = (beB 4 n).take (3 - k) ++ [n / 2 ^ (8 * k) % 256] := by
  have e : beB 4 n = [n / 256 / 256 / 256 % 256, n / 256 / 256 % 256, n / 256 % 256, n % 256] := by simp [beB]
  rw [e]
  have : k = 0 ∨ k = 1 ∨ k = 2 ∨ k = 3 := by omega
  rcases this with rfl | rfl | rfl | rfl
  all_goals simp
  all_goals omega
end Go.Proofs.YtaiimfdcbdfbdaaDoor
