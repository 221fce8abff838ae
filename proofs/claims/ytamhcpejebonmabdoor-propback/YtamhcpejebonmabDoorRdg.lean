/-
  Small and Value of the document's answer return the plain functions, for all bytes and bases.
-/
import Derived.Test.YtamhcpejebonmabDoorProg
import Derived.Test.YtamhcpejebonmabDoorDgs
namespace Go.Proofs.YtamhcpejebonmabDoor
open Go.ChangeShapes Go.WideShapes Go.ChangeAt Go.RowKit
set_option linter.unusedVariables false
set_option linter.unusedSimpArgs false

/-- the constant text of all digits -/
def dgs : ByteArray := ⟨#[48, 49, 50, 51, 52, 53, 54, 55, 56, 57, 97, 98, 99, 100, 101, 102, 103, 104, 105, 106, 107, 108, 109, 110, 111, 112, 113, 114, 115, 116, 117, 118, 119, 120, 121, 122]⟩
theorem dgs_at : ∀ k : Fin 36, ((dgs.data[k.val]!).toNat : Int) = dg k.val := by decide
theorem dgs_size : dgs.size = 36 := by decide
theorem dgs_get (k : Nat) (h : k < dgs.size) : ((dgs[k]'h).toNat : Int) = dg k := by
  have e := dgs_at ⟨k, by rw [dgs_size] at h; exact h⟩
  have h2 : k < dgs.data.size := h
  simp only [getElem!_pos dgs.data k h2] at e
  exact e
theorem run_dgs0 (k : Nat) (hk : (k : Int) < 36) (w : World) : (Instr.index 9 (.string dgs) (.int .i64 k)).run Tryd.prog w = .ok (.int .u8 (dg k)) w := by
  have hs : k < dgs.size := by rw [dgs_size]; omega
  rw [run_index_string _ _ _ _ _ Tryd.underlying9, dif_pos ⟨by omega, by rw [dgs_size]; omega⟩]
  simp only [Int.toNat_natCast, dgs_get k hs]
theorem run_dgs (k : Nat) (hk : (k : Int) < 36) (w : World) : (Instr.index 9 (.string ⟨#[48, 49, 50, 51, 52, 53, 54, 55, 56, 57, 97, 98, 99, 100, 101, 102, 103, 104, 105, 106, 107, 108, 109, 110, 111, 112, 113, 114, 115, 116, 117, 118, 119, 120, 121, 122]⟩) (.int .i64 k)).run Tryd.prog w = .ok (.int .u8 (dg k)) w :=
  run_dgs0 k hk w

end Go.Proofs.YtamhcpejebonmabDoor
