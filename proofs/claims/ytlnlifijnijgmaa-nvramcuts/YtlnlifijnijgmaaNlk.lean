/-
  Lists of data, rows of cuts: what NvramCuts reads of them.
-/
import Derived.Test.YtlnlifijnijgmaaNal
import Derived.Test.YtlnlifijnijgmaaPn3
import Derived.Test.YtlnlifijnijgmaaSg
namespace Go.Proofs.Ytlnlifijnijgmaa
open Go.ChangeShapes Go.WideShapes Go.ChangeAt Go.RowKit
set_option linter.unusedVariables false
set_option linter.unusedSimpArgs false

theorem uBb : Try.prog.underlying 40 = some (.slice (Try.prog.elem 40)) := by kernel_rfl
theorem eBb : Try.prog.elem 40 = 22 := by kernel_rfl
theorem zBb (w : World) : (sizeOf (Try.prog.elem 40)).run Try.prog w = .ok 1 w := by rw [eBb]; exact Try.sizeOf22 w

theorem uI : Try.prog.underlying 41 = some (.slice (Try.prog.elem 41)) := by kernel_rfl
theorem eI : Try.prog.elem 41 = 3 := by kernel_rfl
theorem zI (w : World) : (sizeOf (Try.prog.elem 41)).run Try.prog w = .ok 1 w := by rw [eI]; exact Try.sizeOf3 w

theorem byt_k {w : World} {v : Value} {xs : List (List Int)} (h : SlR 1 bytR w v xs) (k : Nat) (hk : k < xs.length) :
    ∃ (ad : Addr) (c : Value), (∀ w', (Instr.indexAt 40 v (.int .i64 (k : Int))).run Try.prog w' = .ok (.pointer (some ad)) w') ∧ w.cell? ad = some c ∧ ∃ D, xs[k] = D ∧ Rd .u8 w c D ∧ bytesL D := by
  obtain ⟨ad, c, h1, h2, h3⟩ := slr_idx h uBb zBb k (by omega) (by omega)
  obtain ⟨c', e, r, b⟩ := h3
  injection e with e
  subst e
  exact ⟨ad, c, h1, h2, _, rfl, r, b⟩

end Go.Proofs.Ytlnlifijnijgmaa
