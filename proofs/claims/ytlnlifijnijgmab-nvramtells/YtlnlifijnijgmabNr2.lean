/-
  bank, Counts, Recover of the document's answer for layer 18.
-/
import Derived.Test.YtlnlifijnijgmabNr1
namespace Go.Proofs.Ytlnlifijnijgmab
open Go.ChangeShapes Go.WideShapes Go.ChangeAt Go.RowKit
set_option linter.unusedVariables false
set_option linter.unusedSimpArgs false

/-- what a bank tells to who asks -/
def BkP (w : World) (B : List Int) (e : Ending) (w' : World) : Prop :=
  ∃ (g : Int) (v' : Value), e = .returned (.tuple #[.int .u8 g, v', .bool (bkR B)]) ∧ (0 ≤ g ∧ g < 256) ∧ (bkR B = true → g = B.getD 1 0 ∧ Rd .u8 w v' (bkD B)) ∧ Below w.heap.size w w'

theorem cnt_rg (xs : List Int) : ((cntF xs).1 = -1 ∨ (cntF xs).1 = 0 ∨ (cntF xs).1 = 1) ∧ (¬ (cntF xs).1 = -1 → bkR (bkF xs (cntF xs).1) = true) := by
  rcases cnt_spec xs with ⟨e, h, _⟩ | ⟨e, h⟩ | ⟨e, _⟩
  · rw [e]; exact ⟨by simp, fun _ => h⟩
  · rw [e]; exact ⟨by simp, fun _ => h⟩
  · rw [e]; exact ⟨by simp, fun z => absurd rfl z⟩
theorem rcv_bytes {xs : List Int} (h : bytesL xs) : bytesL (rcvF xs).1 := by
  unfold rcvF
  split
  · split
    · intro x hx; simp at hx
    · exact bytes_take (bytes_drop (bk_bytes h _) _) _
  · intro x hx; simp at hx
theorem bkD_le (B : List Int) (h : B.length ≤ 256) : (bkD B).length ≤ 256 := by simp only [bkD, List.length_take, List.length_drop]; omega
theorem bkF_le (xs : List Int) (k : Int) : (bkF xs k).length ≤ 256 := by simp only [bkF, List.length_take]; omega
end Go.Proofs.Ytlnlifijnijgmab
