/-
  StackTurns: for every stack and row of words, words done by the program that undo one another leave the stack as it was, or the first one is refused: the law returns true. No conditions.
-/
import Derived.Test.YtefiohepglggdaaDoorRows
import Derived.WalkKit
import Derived.ProofKit
import Derived.OpenShut
import Derived.ShutString
import Derived.ChangeOld
import Derived.Below
import Derived.Carry
import Derived.SizedLaws
import Derived.Deep.DeepHandedRow
import Derived.SevenTiedAt
import Derived.Test.YtefiohepglggdaaDoorCards
import Derived.Test.YtefiohepglggdaaDoorTie
import Derived.Test.YtefiohepglggdaaDoorSl
import Derived.Test.YtefiohepglggdaaDoorSal
import Derived.Test.YtefiohepglggdaaDoorPsb
namespace Go.Proofs.YtefiohepglggdaaDoor.stackTurns
open Go.ChangeShapes Go.WideShapes Go.ChangeAt Go.RowKit
open Go.ChangeMaps (open_string shut_string)
set_option linter.unusedVariables false

theorem own : ownKnob Tryd.prog.godebug = none := by kernel_rfl
theorem laidOut : laidOutB Tryd.prog = true := by kernel_rfl
theorem bytes39 : Tryd.prog.bytesOf 39 = 4 := by kernel_rfl

set_option maxHeartbeats 4000000 in
set_option maxRecDepth 100000 in
theorem walk (v0 : Value) (x0 : List Int) (a1 : Int) (w : World) (hT : Tab w) (r0 : Rd .u32 w v0 x0) (f0 : ∀ n ∈ x0, (Lit.int .u32 n).wf = true) (z0 : x0.length * 4 ≤ 140737488351232) (w1 : (Lit.int .u8 a1).wf = true) :
    Calls Tryd.prog 6 #[v0, .int .u8 a1] w fun e w' => e = .returned (.bool true) ∧ Below w.heap.size w w' := by
  have hX := wf_u32 f0
  have hlen := rd_len r0 uS (P := Tryd.prog)
  obtain ⟨q0, q1⟩ := u8b w1
  go_enter Tryd.func6, Tryd.ntmps6
  go_upto_region 4 with (go_at_call 8; refine (w_alive _ hT).mono ?_; rintro e wa ⟨rfl, ba⟩)
  have BW := below_trans ba (lay_below wa [.cells #[.int .i64 73, .int .i64 73] 3, .cells #[.int .i64 85, .int .i64 85] 3, .cells #[.int .i64 74, .int .i64 74, .int .i64 74] 3, .cells #[.int .i64 86, .int .i64 86, .int .i64 86] 3, .cells #[.int .i64 74, .int .i64 75] 3, .cells #[.int .i64 75, .int .i64 74] 3, .cells #[.int .i64 71, .int .i64 70] 3, .cells #[.int .i64 83, .int .i64 82] 3, .cells #[.int .i64 72, .int .i64 70] 3, .cells #[.int .i64 84, .int .i64 82] 3, .cells #[.int .i64 81, .int .i64 70] 3, .cells #[.slice (some ⟨wa.heap.size, 0, none⟩) 2 2, .slice (some ⟨wa.heap.size + 1, 0, none⟩) 2 2, .slice (some ⟨wa.heap.size + 1 + 1, 0, none⟩) 3 3, .slice (some ⟨wa.heap.size + 1 + 1 + 1, 0, none⟩) 3 3, .slice (some ⟨wa.heap.size + 1 + 1 + 1 + 1, 0, none⟩) 2 2, .slice (some ⟨wa.heap.size + 1 + 1 + 1 + 1 + 1, 0, none⟩) 2 2, .slice (some ⟨wa.heap.size + 1 + 1 + 1 + 1 + 1 + 1, 0, none⟩) 2 2, .slice (some ⟨wa.heap.size + 1 + 1 + 1 + 1 + 1 + 1 + 1, 0, none⟩) 2 2, .slice (some ⟨wa.heap.size + 1 + 1 + 1 + 1 + 1 + 1 + 1 + 1, 0, none⟩) 2 2, .slice (some ⟨wa.heap.size + 1 + 1 + 1 + 1 + 1 + 1 + 1 + 1 + 1, 0, none⟩) 2 2, .slice (some ⟨wa.heap.size + 1 + 1 + 1 + 1 + 1 + 1 + 1 + 1 + 1 + 1, 0, none⟩) 2 2] 35])
  go_cut [6] from 25 to 32 (fun s6 wx => Below w.heap.size w wx ∧ ∃ ops, Hid (ops ∈ rows11) ∧ Rd .i64 wx s6 ops)
  case first =>
    clear hX hlen
    rcases (show a1 % 11 = 0 ∨ a1 % 11 = 1 ∨ a1 % 11 = 2 ∨ a1 % 11 = 3 ∨ a1 % 11 = 4 ∨ a1 % 11 = 5 ∨ a1 % 11 = 6 ∨ a1 % 11 = 7 ∨ a1 % 11 = 8 ∨ a1 % 11 = 9 ∨ a1 % 11 = 10 by omega) with hj | hj | hj | hj | hj | hj | hj | hj | hj | hj | hj
    · have hr := hj
      go_wp2_with fail
      go_meet
      exact ⟨BW, [73, 73], hid (by simp [rows11]), rd_lay wa [.cells #[.int .i64 73, .int .i64 73] 3, .cells #[.int .i64 85, .int .i64 85] 3, .cells #[.int .i64 74, .int .i64 74, .int .i64 74] 3, .cells #[.int .i64 86, .int .i64 86, .int .i64 86] 3, .cells #[.int .i64 74, .int .i64 75] 3, .cells #[.int .i64 75, .int .i64 74] 3, .cells #[.int .i64 71, .int .i64 70] 3, .cells #[.int .i64 83, .int .i64 82] 3, .cells #[.int .i64 72, .int .i64 70] 3, .cells #[.int .i64 84, .int .i64 82] 3, .cells #[.int .i64 81, .int .i64 70] 3, .cells #[.slice (some ⟨wa.heap.size, 0, none⟩) 2 2, .slice (some ⟨wa.heap.size + 1, 0, none⟩) 2 2, .slice (some ⟨wa.heap.size + 1 + 1, 0, none⟩) 3 3, .slice (some ⟨wa.heap.size + 1 + 1 + 1, 0, none⟩) 3 3, .slice (some ⟨wa.heap.size + 1 + 1 + 1 + 1, 0, none⟩) 2 2, .slice (some ⟨wa.heap.size + 1 + 1 + 1 + 1 + 1, 0, none⟩) 2 2, .slice (some ⟨wa.heap.size + 1 + 1 + 1 + 1 + 1 + 1, 0, none⟩) 2 2, .slice (some ⟨wa.heap.size + 1 + 1 + 1 + 1 + 1 + 1 + 1, 0, none⟩) 2 2, .slice (some ⟨wa.heap.size + 1 + 1 + 1 + 1 + 1 + 1 + 1 + 1, 0, none⟩) 2 2, .slice (some ⟨wa.heap.size + 1 + 1 + 1 + 1 + 1 + 1 + 1 + 1 + 1, 0, none⟩) 2 2, .slice (some ⟨wa.heap.size + 1 + 1 + 1 + 1 + 1 + 1 + 1 + 1 + 1 + 1, 0, none⟩) 2 2] 35] 0 (by simp only [List.length_cons, List.length_nil]; omega) [73, 73] 3 rfl (by decide) (by decide)⟩
    · have hr := hj
      go_wp2_with fail
      go_meet
      exact ⟨BW, [85, 85], hid (by simp [rows11]), rd_lay wa [.cells #[.int .i64 73, .int .i64 73] 3, .cells #[.int .i64 85, .int .i64 85] 3, .cells #[.int .i64 74, .int .i64 74, .int .i64 74] 3, .cells #[.int .i64 86, .int .i64 86, .int .i64 86] 3, .cells #[.int .i64 74, .int .i64 75] 3, .cells #[.int .i64 75, .int .i64 74] 3, .cells #[.int .i64 71, .int .i64 70] 3, .cells #[.int .i64 83, .int .i64 82] 3, .cells #[.int .i64 72, .int .i64 70] 3, .cells #[.int .i64 84, .int .i64 82] 3, .cells #[.int .i64 81, .int .i64 70] 3, .cells #[.slice (some ⟨wa.heap.size, 0, none⟩) 2 2, .slice (some ⟨wa.heap.size + 1, 0, none⟩) 2 2, .slice (some ⟨wa.heap.size + 1 + 1, 0, none⟩) 3 3, .slice (some ⟨wa.heap.size + 1 + 1 + 1, 0, none⟩) 3 3, .slice (some ⟨wa.heap.size + 1 + 1 + 1 + 1, 0, none⟩) 2 2, .slice (some ⟨wa.heap.size + 1 + 1 + 1 + 1 + 1, 0, none⟩) 2 2, .slice (some ⟨wa.heap.size + 1 + 1 + 1 + 1 + 1 + 1, 0, none⟩) 2 2, .slice (some ⟨wa.heap.size + 1 + 1 + 1 + 1 + 1 + 1 + 1, 0, none⟩) 2 2, .slice (some ⟨wa.heap.size + 1 + 1 + 1 + 1 + 1 + 1 + 1 + 1, 0, none⟩) 2 2, .slice (some ⟨wa.heap.size + 1 + 1 + 1 + 1 + 1 + 1 + 1 + 1 + 1, 0, none⟩) 2 2, .slice (some ⟨wa.heap.size + 1 + 1 + 1 + 1 + 1 + 1 + 1 + 1 + 1 + 1, 0, none⟩) 2 2] 35] 1 (by simp only [List.length_cons, List.length_nil]; omega) [85, 85] 3 rfl (by decide) (by decide)⟩
    · have hr := hj
      go_wp2_with fail
      go_meet
      exact ⟨BW, [74, 74, 74], hid (by simp [rows11]), rd_lay wa [.cells #[.int .i64 73, .int .i64 73] 3, .cells #[.int .i64 85, .int .i64 85] 3, .cells #[.int .i64 74, .int .i64 74, .int .i64 74] 3, .cells #[.int .i64 86, .int .i64 86, .int .i64 86] 3, .cells #[.int .i64 74, .int .i64 75] 3, .cells #[.int .i64 75, .int .i64 74] 3, .cells #[.int .i64 71, .int .i64 70] 3, .cells #[.int .i64 83, .int .i64 82] 3, .cells #[.int .i64 72, .int .i64 70] 3, .cells #[.int .i64 84, .int .i64 82] 3, .cells #[.int .i64 81, .int .i64 70] 3, .cells #[.slice (some ⟨wa.heap.size, 0, none⟩) 2 2, .slice (some ⟨wa.heap.size + 1, 0, none⟩) 2 2, .slice (some ⟨wa.heap.size + 1 + 1, 0, none⟩) 3 3, .slice (some ⟨wa.heap.size + 1 + 1 + 1, 0, none⟩) 3 3, .slice (some ⟨wa.heap.size + 1 + 1 + 1 + 1, 0, none⟩) 2 2, .slice (some ⟨wa.heap.size + 1 + 1 + 1 + 1 + 1, 0, none⟩) 2 2, .slice (some ⟨wa.heap.size + 1 + 1 + 1 + 1 + 1 + 1, 0, none⟩) 2 2, .slice (some ⟨wa.heap.size + 1 + 1 + 1 + 1 + 1 + 1 + 1, 0, none⟩) 2 2, .slice (some ⟨wa.heap.size + 1 + 1 + 1 + 1 + 1 + 1 + 1 + 1, 0, none⟩) 2 2, .slice (some ⟨wa.heap.size + 1 + 1 + 1 + 1 + 1 + 1 + 1 + 1 + 1, 0, none⟩) 2 2, .slice (some ⟨wa.heap.size + 1 + 1 + 1 + 1 + 1 + 1 + 1 + 1 + 1 + 1, 0, none⟩) 2 2] 35] 2 (by simp only [List.length_cons, List.length_nil]; omega) [74, 74, 74] 3 rfl (by decide) (by decide)⟩
    · have hr := hj
      go_wp2_with fail
      go_meet
      exact ⟨BW, [86, 86, 86], hid (by simp [rows11]), rd_lay wa [.cells #[.int .i64 73, .int .i64 73] 3, .cells #[.int .i64 85, .int .i64 85] 3, .cells #[.int .i64 74, .int .i64 74, .int .i64 74] 3, .cells #[.int .i64 86, .int .i64 86, .int .i64 86] 3, .cells #[.int .i64 74, .int .i64 75] 3, .cells #[.int .i64 75, .int .i64 74] 3, .cells #[.int .i64 71, .int .i64 70] 3, .cells #[.int .i64 83, .int .i64 82] 3, .cells #[.int .i64 72, .int .i64 70] 3, .cells #[.int .i64 84, .int .i64 82] 3, .cells #[.int .i64 81, .int .i64 70] 3, .cells #[.slice (some ⟨wa.heap.size, 0, none⟩) 2 2, .slice (some ⟨wa.heap.size + 1, 0, none⟩) 2 2, .slice (some ⟨wa.heap.size + 1 + 1, 0, none⟩) 3 3, .slice (some ⟨wa.heap.size + 1 + 1 + 1, 0, none⟩) 3 3, .slice (some ⟨wa.heap.size + 1 + 1 + 1 + 1, 0, none⟩) 2 2, .slice (some ⟨wa.heap.size + 1 + 1 + 1 + 1 + 1, 0, none⟩) 2 2, .slice (some ⟨wa.heap.size + 1 + 1 + 1 + 1 + 1 + 1, 0, none⟩) 2 2, .slice (some ⟨wa.heap.size + 1 + 1 + 1 + 1 + 1 + 1 + 1, 0, none⟩) 2 2, .slice (some ⟨wa.heap.size + 1 + 1 + 1 + 1 + 1 + 1 + 1 + 1, 0, none⟩) 2 2, .slice (some ⟨wa.heap.size + 1 + 1 + 1 + 1 + 1 + 1 + 1 + 1 + 1, 0, none⟩) 2 2, .slice (some ⟨wa.heap.size + 1 + 1 + 1 + 1 + 1 + 1 + 1 + 1 + 1 + 1, 0, none⟩) 2 2] 35] 3 (by simp only [List.length_cons, List.length_nil]; omega) [86, 86, 86] 3 rfl (by decide) (by decide)⟩
    · have hr := hj
      go_wp2_with fail
      go_meet
      exact ⟨BW, [74, 75], hid (by simp [rows11]), rd_lay wa [.cells #[.int .i64 73, .int .i64 73] 3, .cells #[.int .i64 85, .int .i64 85] 3, .cells #[.int .i64 74, .int .i64 74, .int .i64 74] 3, .cells #[.int .i64 86, .int .i64 86, .int .i64 86] 3, .cells #[.int .i64 74, .int .i64 75] 3, .cells #[.int .i64 75, .int .i64 74] 3, .cells #[.int .i64 71, .int .i64 70] 3, .cells #[.int .i64 83, .int .i64 82] 3, .cells #[.int .i64 72, .int .i64 70] 3, .cells #[.int .i64 84, .int .i64 82] 3, .cells #[.int .i64 81, .int .i64 70] 3, .cells #[.slice (some ⟨wa.heap.size, 0, none⟩) 2 2, .slice (some ⟨wa.heap.size + 1, 0, none⟩) 2 2, .slice (some ⟨wa.heap.size + 1 + 1, 0, none⟩) 3 3, .slice (some ⟨wa.heap.size + 1 + 1 + 1, 0, none⟩) 3 3, .slice (some ⟨wa.heap.size + 1 + 1 + 1 + 1, 0, none⟩) 2 2, .slice (some ⟨wa.heap.size + 1 + 1 + 1 + 1 + 1, 0, none⟩) 2 2, .slice (some ⟨wa.heap.size + 1 + 1 + 1 + 1 + 1 + 1, 0, none⟩) 2 2, .slice (some ⟨wa.heap.size + 1 + 1 + 1 + 1 + 1 + 1 + 1, 0, none⟩) 2 2, .slice (some ⟨wa.heap.size + 1 + 1 + 1 + 1 + 1 + 1 + 1 + 1, 0, none⟩) 2 2, .slice (some ⟨wa.heap.size + 1 + 1 + 1 + 1 + 1 + 1 + 1 + 1 + 1, 0, none⟩) 2 2, .slice (some ⟨wa.heap.size + 1 + 1 + 1 + 1 + 1 + 1 + 1 + 1 + 1 + 1, 0, none⟩) 2 2] 35] 4 (by simp only [List.length_cons, List.length_nil]; omega) [74, 75] 3 rfl (by decide) (by decide)⟩
    · have hr := hj
      go_wp2_with fail
      go_meet
      exact ⟨BW, [75, 74], hid (by simp [rows11]), rd_lay wa [.cells #[.int .i64 73, .int .i64 73] 3, .cells #[.int .i64 85, .int .i64 85] 3, .cells #[.int .i64 74, .int .i64 74, .int .i64 74] 3, .cells #[.int .i64 86, .int .i64 86, .int .i64 86] 3, .cells #[.int .i64 74, .int .i64 75] 3, .cells #[.int .i64 75, .int .i64 74] 3, .cells #[.int .i64 71, .int .i64 70] 3, .cells #[.int .i64 83, .int .i64 82] 3, .cells #[.int .i64 72, .int .i64 70] 3, .cells #[.int .i64 84, .int .i64 82] 3, .cells #[.int .i64 81, .int .i64 70] 3, .cells #[.slice (some ⟨wa.heap.size, 0, none⟩) 2 2, .slice (some ⟨wa.heap.size + 1, 0, none⟩) 2 2, .slice (some ⟨wa.heap.size + 1 + 1, 0, none⟩) 3 3, .slice (some ⟨wa.heap.size + 1 + 1 + 1, 0, none⟩) 3 3, .slice (some ⟨wa.heap.size + 1 + 1 + 1 + 1, 0, none⟩) 2 2, .slice (some ⟨wa.heap.size + 1 + 1 + 1 + 1 + 1, 0, none⟩) 2 2, .slice (some ⟨wa.heap.size + 1 + 1 + 1 + 1 + 1 + 1, 0, none⟩) 2 2, .slice (some ⟨wa.heap.size + 1 + 1 + 1 + 1 + 1 + 1 + 1, 0, none⟩) 2 2, .slice (some ⟨wa.heap.size + 1 + 1 + 1 + 1 + 1 + 1 + 1 + 1, 0, none⟩) 2 2, .slice (some ⟨wa.heap.size + 1 + 1 + 1 + 1 + 1 + 1 + 1 + 1 + 1, 0, none⟩) 2 2, .slice (some ⟨wa.heap.size + 1 + 1 + 1 + 1 + 1 + 1 + 1 + 1 + 1 + 1, 0, none⟩) 2 2] 35] 5 (by simp only [List.length_cons, List.length_nil]; omega) [75, 74] 3 rfl (by decide) (by decide)⟩
    · have hr := hj
      go_wp2_with fail
      go_meet
      exact ⟨BW, [71, 70], hid (by simp [rows11]), rd_lay wa [.cells #[.int .i64 73, .int .i64 73] 3, .cells #[.int .i64 85, .int .i64 85] 3, .cells #[.int .i64 74, .int .i64 74, .int .i64 74] 3, .cells #[.int .i64 86, .int .i64 86, .int .i64 86] 3, .cells #[.int .i64 74, .int .i64 75] 3, .cells #[.int .i64 75, .int .i64 74] 3, .cells #[.int .i64 71, .int .i64 70] 3, .cells #[.int .i64 83, .int .i64 82] 3, .cells #[.int .i64 72, .int .i64 70] 3, .cells #[.int .i64 84, .int .i64 82] 3, .cells #[.int .i64 81, .int .i64 70] 3, .cells #[.slice (some ⟨wa.heap.size, 0, none⟩) 2 2, .slice (some ⟨wa.heap.size + 1, 0, none⟩) 2 2, .slice (some ⟨wa.heap.size + 1 + 1, 0, none⟩) 3 3, .slice (some ⟨wa.heap.size + 1 + 1 + 1, 0, none⟩) 3 3, .slice (some ⟨wa.heap.size + 1 + 1 + 1 + 1, 0, none⟩) 2 2, .slice (some ⟨wa.heap.size + 1 + 1 + 1 + 1 + 1, 0, none⟩) 2 2, .slice (some ⟨wa.heap.size + 1 + 1 + 1 + 1 + 1 + 1, 0, none⟩) 2 2, .slice (some ⟨wa.heap.size + 1 + 1 + 1 + 1 + 1 + 1 + 1, 0, none⟩) 2 2, .slice (some ⟨wa.heap.size + 1 + 1 + 1 + 1 + 1 + 1 + 1 + 1, 0, none⟩) 2 2, .slice (some ⟨wa.heap.size + 1 + 1 + 1 + 1 + 1 + 1 + 1 + 1 + 1, 0, none⟩) 2 2, .slice (some ⟨wa.heap.size + 1 + 1 + 1 + 1 + 1 + 1 + 1 + 1 + 1 + 1, 0, none⟩) 2 2] 35] 6 (by simp only [List.length_cons, List.length_nil]; omega) [71, 70] 3 rfl (by decide) (by decide)⟩
    · have hr := hj
      go_wp2_with fail
      go_meet
      exact ⟨BW, [83, 82], hid (by simp [rows11]), rd_lay wa [.cells #[.int .i64 73, .int .i64 73] 3, .cells #[.int .i64 85, .int .i64 85] 3, .cells #[.int .i64 74, .int .i64 74, .int .i64 74] 3, .cells #[.int .i64 86, .int .i64 86, .int .i64 86] 3, .cells #[.int .i64 74, .int .i64 75] 3, .cells #[.int .i64 75, .int .i64 74] 3, .cells #[.int .i64 71, .int .i64 70] 3, .cells #[.int .i64 83, .int .i64 82] 3, .cells #[.int .i64 72, .int .i64 70] 3, .cells #[.int .i64 84, .int .i64 82] 3, .cells #[.int .i64 81, .int .i64 70] 3, .cells #[.slice (some ⟨wa.heap.size, 0, none⟩) 2 2, .slice (some ⟨wa.heap.size + 1, 0, none⟩) 2 2, .slice (some ⟨wa.heap.size + 1 + 1, 0, none⟩) 3 3, .slice (some ⟨wa.heap.size + 1 + 1 + 1, 0, none⟩) 3 3, .slice (some ⟨wa.heap.size + 1 + 1 + 1 + 1, 0, none⟩) 2 2, .slice (some ⟨wa.heap.size + 1 + 1 + 1 + 1 + 1, 0, none⟩) 2 2, .slice (some ⟨wa.heap.size + 1 + 1 + 1 + 1 + 1 + 1, 0, none⟩) 2 2, .slice (some ⟨wa.heap.size + 1 + 1 + 1 + 1 + 1 + 1 + 1, 0, none⟩) 2 2, .slice (some ⟨wa.heap.size + 1 + 1 + 1 + 1 + 1 + 1 + 1 + 1, 0, none⟩) 2 2, .slice (some ⟨wa.heap.size + 1 + 1 + 1 + 1 + 1 + 1 + 1 + 1 + 1, 0, none⟩) 2 2, .slice (some ⟨wa.heap.size + 1 + 1 + 1 + 1 + 1 + 1 + 1 + 1 + 1 + 1, 0, none⟩) 2 2] 35] 7 (by simp only [List.length_cons, List.length_nil]; omega) [83, 82] 3 rfl (by decide) (by decide)⟩
    · have hr := hj
      go_wp2_with fail
      go_meet
      exact ⟨BW, [72, 70], hid (by simp [rows11]), rd_lay wa [.cells #[.int .i64 73, .int .i64 73] 3, .cells #[.int .i64 85, .int .i64 85] 3, .cells #[.int .i64 74, .int .i64 74, .int .i64 74] 3, .cells #[.int .i64 86, .int .i64 86, .int .i64 86] 3, .cells #[.int .i64 74, .int .i64 75] 3, .cells #[.int .i64 75, .int .i64 74] 3, .cells #[.int .i64 71, .int .i64 70] 3, .cells #[.int .i64 83, .int .i64 82] 3, .cells #[.int .i64 72, .int .i64 70] 3, .cells #[.int .i64 84, .int .i64 82] 3, .cells #[.int .i64 81, .int .i64 70] 3, .cells #[.slice (some ⟨wa.heap.size, 0, none⟩) 2 2, .slice (some ⟨wa.heap.size + 1, 0, none⟩) 2 2, .slice (some ⟨wa.heap.size + 1 + 1, 0, none⟩) 3 3, .slice (some ⟨wa.heap.size + 1 + 1 + 1, 0, none⟩) 3 3, .slice (some ⟨wa.heap.size + 1 + 1 + 1 + 1, 0, none⟩) 2 2, .slice (some ⟨wa.heap.size + 1 + 1 + 1 + 1 + 1, 0, none⟩) 2 2, .slice (some ⟨wa.heap.size + 1 + 1 + 1 + 1 + 1 + 1, 0, none⟩) 2 2, .slice (some ⟨wa.heap.size + 1 + 1 + 1 + 1 + 1 + 1 + 1, 0, none⟩) 2 2, .slice (some ⟨wa.heap.size + 1 + 1 + 1 + 1 + 1 + 1 + 1 + 1, 0, none⟩) 2 2, .slice (some ⟨wa.heap.size + 1 + 1 + 1 + 1 + 1 + 1 + 1 + 1 + 1, 0, none⟩) 2 2, .slice (some ⟨wa.heap.size + 1 + 1 + 1 + 1 + 1 + 1 + 1 + 1 + 1 + 1, 0, none⟩) 2 2] 35] 8 (by simp only [List.length_cons, List.length_nil]; omega) [72, 70] 3 rfl (by decide) (by decide)⟩
    · have hr := hj
      go_wp2_with fail
      go_meet
      exact ⟨BW, [84, 82], hid (by simp [rows11]), rd_lay wa [.cells #[.int .i64 73, .int .i64 73] 3, .cells #[.int .i64 85, .int .i64 85] 3, .cells #[.int .i64 74, .int .i64 74, .int .i64 74] 3, .cells #[.int .i64 86, .int .i64 86, .int .i64 86] 3, .cells #[.int .i64 74, .int .i64 75] 3, .cells #[.int .i64 75, .int .i64 74] 3, .cells #[.int .i64 71, .int .i64 70] 3, .cells #[.int .i64 83, .int .i64 82] 3, .cells #[.int .i64 72, .int .i64 70] 3, .cells #[.int .i64 84, .int .i64 82] 3, .cells #[.int .i64 81, .int .i64 70] 3, .cells #[.slice (some ⟨wa.heap.size, 0, none⟩) 2 2, .slice (some ⟨wa.heap.size + 1, 0, none⟩) 2 2, .slice (some ⟨wa.heap.size + 1 + 1, 0, none⟩) 3 3, .slice (some ⟨wa.heap.size + 1 + 1 + 1, 0, none⟩) 3 3, .slice (some ⟨wa.heap.size + 1 + 1 + 1 + 1, 0, none⟩) 2 2, .slice (some ⟨wa.heap.size + 1 + 1 + 1 + 1 + 1, 0, none⟩) 2 2, .slice (some ⟨wa.heap.size + 1 + 1 + 1 + 1 + 1 + 1, 0, none⟩) 2 2, .slice (some ⟨wa.heap.size + 1 + 1 + 1 + 1 + 1 + 1 + 1, 0, none⟩) 2 2, .slice (some ⟨wa.heap.size + 1 + 1 + 1 + 1 + 1 + 1 + 1 + 1, 0, none⟩) 2 2, .slice (some ⟨wa.heap.size + 1 + 1 + 1 + 1 + 1 + 1 + 1 + 1 + 1, 0, none⟩) 2 2, .slice (some ⟨wa.heap.size + 1 + 1 + 1 + 1 + 1 + 1 + 1 + 1 + 1 + 1, 0, none⟩) 2 2] 35] 9 (by simp only [List.length_cons, List.length_nil]; omega) [84, 82] 3 rfl (by decide) (by decide)⟩
    · have hr := hj
      go_wp2_with fail
      go_meet
      exact ⟨BW, [81, 70], hid (by simp [rows11]), rd_lay wa [.cells #[.int .i64 73, .int .i64 73] 3, .cells #[.int .i64 85, .int .i64 85] 3, .cells #[.int .i64 74, .int .i64 74, .int .i64 74] 3, .cells #[.int .i64 86, .int .i64 86, .int .i64 86] 3, .cells #[.int .i64 74, .int .i64 75] 3, .cells #[.int .i64 75, .int .i64 74] 3, .cells #[.int .i64 71, .int .i64 70] 3, .cells #[.int .i64 83, .int .i64 82] 3, .cells #[.int .i64 72, .int .i64 70] 3, .cells #[.int .i64 84, .int .i64 82] 3, .cells #[.int .i64 81, .int .i64 70] 3, .cells #[.slice (some ⟨wa.heap.size, 0, none⟩) 2 2, .slice (some ⟨wa.heap.size + 1, 0, none⟩) 2 2, .slice (some ⟨wa.heap.size + 1 + 1, 0, none⟩) 3 3, .slice (some ⟨wa.heap.size + 1 + 1 + 1, 0, none⟩) 3 3, .slice (some ⟨wa.heap.size + 1 + 1 + 1 + 1, 0, none⟩) 2 2, .slice (some ⟨wa.heap.size + 1 + 1 + 1 + 1 + 1, 0, none⟩) 2 2, .slice (some ⟨wa.heap.size + 1 + 1 + 1 + 1 + 1 + 1, 0, none⟩) 2 2, .slice (some ⟨wa.heap.size + 1 + 1 + 1 + 1 + 1 + 1 + 1, 0, none⟩) 2 2, .slice (some ⟨wa.heap.size + 1 + 1 + 1 + 1 + 1 + 1 + 1 + 1, 0, none⟩) 2 2, .slice (some ⟨wa.heap.size + 1 + 1 + 1 + 1 + 1 + 1 + 1 + 1 + 1, 0, none⟩) 2 2, .slice (some ⟨wa.heap.size + 1 + 1 + 1 + 1 + 1 + 1 + 1 + 1 + 1 + 1, 0, none⟩) 2 2] 35] 10 (by simp only [List.length_cons, List.length_nil]; omega) [81, 70] 3 rfl (by decide) (by decide)⟩
  case rest =>
    obtain ⟨bx, ops, hops, rops⟩ := hcut
    have ht := t_all x0 ops hops.out
    have hol : Hid (0 < ops.length ∧ ops.length ≤ 3) := rows_len ops hops.out
    have olen := rd_len rops uI (P := Tryd.prog)
    rcases ht with hrf | ⟨st, s0, sl, hst⟩
    · obtain ⟨R1, R2, hd⟩ : ∃ R1 R2, doF (ops.getD 0 0) x0 = (R1, R2) := ⟨_, _, rfl⟩
      rw [hd] at hrf
      obtain ⟨hR1, hRc⟩ := hrf
      have hR1' : R1 = [] := hR1
      subst hR1'
      have hRc' := hid hRc
      clear hR1 hRc
      obtain ⟨ad, hrun, hcell⟩ := rd_idx rops uI zI 0 (by omega) (by have := hol.out; omega)
      obtain ⟨o0, ho0⟩ : ∃ o0, ops.getD 0 0 = o0 := ⟨_, rfl⟩
      rw [show (0 : Int).toNat = 0 from rfl, ho0] at hcell
      rw [ho0] at hd
      have holI : (0 : Int) < ops.length := by have := hol.out; omega
      have cd : ∀ w', Tab w' → Rd .u32 w' v0 x0 → Calls Tryd.prog 10 #[.int .i64 o0, v0] w' fun e w'' => ∃ u, e = .returned (.tuple #[u, .int .i64 R2]) ∧ Rd .u32 w'' u [] ∧ Below w'.heap.size w' w'' := fun w' hT h => by
        have := w_sdo v0 x0 o0 w' hT h hX
        rw [hd] at this
        exact this
      clear ho0 hd
      go_wp2_with fail
      go_loopw [7, 8] (fun X I wx => X = v0 ∧ I = .int .i64 0 ∧ wx = wc) (fun _ _ _ => 0)
      case atStart => exact ⟨rfl, rfl, rfl⟩
      case round =>
        obtain ⟨rfl, rfl, hwx⟩ := hrel
        subst hwx
        have hRcc := hRc'.out
        clear hRc'
        rcases hRcc with ⟨h1, h2⟩ | ⟨h1, h2⟩ | ⟨h1, h2⟩
        · have h1' : R2 = 1 := h1
          subst h1'
          have h2' : (64 : Int) < x0.length := by omega
          clear h1 h2
          go_wp2_with (go_at_call 10; refine (cd _ (hT.below bx) (r0.below bx)).mono ?_; rintro e wd ⟨u, rfl, ru, bd⟩; have ulen := rd_len ru uS (P := Tryd.prog))
          go_ret
          exact ⟨rfl, below_trans bx bd⟩
        · have h1' : R2 = 5 := h1
          subst h1'
          have h2' : (x0.length : Int) < 6 := by omega
          clear h1 h2
          go_wp2_with (go_at_call 10; refine (cd _ (hT.below bx) (r0.below bx)).mono ?_; rintro e wd ⟨u, rfl, ru, bd⟩; have ulen := rd_len ru uS (P := Tryd.prog))
          go_ret
          exact ⟨rfl, below_trans bx bd⟩
        · have h1' : R2 = 6 := h1
          subst h1'
          have h2' : (62 : Int) < x0.length := by omega
          clear h1 h2
          go_wp2_with (go_at_call 10; refine (cd _ (hT.below bx) (r0.below bx)).mono ?_; rintro e wd ⟨u, rfl, ru, bd⟩; have ulen := rd_len ru uS (P := Tryd.prog))
          go_ret
          exact ⟨rfl, below_trans bx bd⟩
    · have holI : (ops.length : Int) ≤ 3 := by have := hol.out; omega
      have HS := hid hst
      have HL := hid sl
      clear hst sl
      go_wp2_with fail
      go_loopw [7, 8] (fun X I wx => ∃ k : Nat, (k : Int) ≤ ops.length ∧ I = .int .i64 k ∧ Rd .u32 wx X (st k) ∧ Hid (cells (st k)) ∧ Below wc.heap.size wc wx) (fun _ I _ => (ops.length - intOf I).toNat)
      case atStart => exact ⟨0, by omega, rfl, by rw [s0]; exact r0.below bx, by show cells _; rw [s0]; exact hX, Below.refl _ _⟩
      case round =>
        obtain ⟨k, hk, rfl, rx, hcs, bk⟩ := hrel
        by_cases hlt : (k : Int) < ops.length
        · obtain ⟨ad, hrun, hcell⟩ := rd_idx (rops.below bk) uI zI (k : Int) (by omega) hlt
          obtain ⟨o0, ho0⟩ : ∃ o0, ops.getD k 0 = o0 := ⟨_, rfl⟩
          rw [show ((k : Int)).toNat = k by omega, ho0] at hcell
          have hd : doF o0 (st k) = (st (k + 1), 0) := by rw [← ho0]; exact HS.out k (by omega)
          have hcs2 : Hid (cells (st (k + 1))) := by
            show cells _
            have := cells_do o0 (st k) hcs.out
            rw [hd] at this
            exact this
          obtain ⟨Z, hZ⟩ : ∃ Z, st (k + 1) = Z := ⟨_, rfl⟩
          have cd := w_sdo _ (st k) o0 _ ((hT.below bx).below bk) rx hcs.out
          rw [hd, hZ] at cd
          have HZ := hid hZ
          clear ho0 hd hZ
          go_wp2_with (go_at_call 10; refine cd.mono ?_; rintro e wd ⟨u, rfl, ru, bd⟩)
          go_roundw
          case rel => exact ⟨k + 1, by omega, by go_num, by rw [HZ.out]; exact ru, hcs2, below_trans bk bd⟩
          case measure => simp [intOf]; omega
        · obtain rfl : k = ops.length := by omega
          rw [HL.out] at rx
          go_wp2_with (go_at_call 12; refine (w_rsame _ _ _ _ _ rx (r0.below (below_trans bx bk))).mono ?_; rintro e wd ⟨rfl, bd⟩)
          go_ret
          exact ⟨ret_b (by simp), below_trans (below_trans bx bk) bd⟩

/-- what the walk gives, for every argument and every world that holds what is listed -/
theorem contract (H : Type) (enc : TypeId × Value → H) (W : World) (base : Nat) (args : Array Value) (ds gs : List (DataW H)) (before : List MemPlace)
    (hval0 : ∀ (j : Nat) t v, Tryd.f6.params[j]? = some t → args[j]? = some v → Value.okWide Tryd.prog W .any base t v)
    (hW : DataW.Whole enc Tryd.prog Tryd.f6.params.toList Rows.stackTurnsSpec.vars false W args.toList ds gs before)
    (hsz0 : (DataW.weightsEach Tryd.prog (Tryd.f6.params.toList ++ Rows.stackTurnsSpec.plain.varTypes Tryd.prog) (ds ++ gs)).all (· ≤ reachBytes) = true)
    (hL : laidMetH Tryd.prog Rows.stackTurnsRow.laid W) :
    Calls Tryd.prog 6 args W fun e W' => ∃ v, e = .returned v ∧ Rows.stackTurnsSpec.post enc Tryd.prog Tryd.f6 false true false false W args v W' := by
  have hval : ∀ (j : Nat) t v, Tryd.f6.params[j]? = some t → args[j]? = some v → Value.okWide Tryd.prog W .any base t v := hval0
  have hsz : (DataW.weightsEach Tryd.prog (Tryd.f6.params.toList ++ Rows.stackTurnsSpec.plain.varTypes Tryd.prog) (ds ++ gs)).all (· ≤ reachBytes) = true := hsz0
  have hT : Tab W := tab_of_laid hL
  have hW' := hW
  obtain ⟨p, q, hA0, hV, rfl, hfz, hnd⟩ := hW
  have hA : DataW.TrodAll enc Tryd.prog W 0 (fun _ => true) true Tryd.f6.params.toList args.toList ds p := hA0
  rw [Tryd.params6] at hA hval hsz
  obtain ⟨v0, vs0, d0, ds0, p0, q0, hargs, rfl, rfl, h0, r0⟩ := trodAll_cons hA
  obtain ⟨v1, vs1, d1, ds1, p1, q1, rfl, rfl, rfl, h1, r1⟩ := trodAll_cons r0
  obtain ⟨rfl, rfl, rfl⟩ := trodAll_nil r1
  obtain rfl : args = #[v0, v1] := by cases args; simp_all
  obtain ⟨rfl, rfl⟩ := trodVars_none hV
  obtain ⟨s0, l0, c0, rfl⟩ := okWide_slice Tryd.underlying22 (hval 0 22 v0 rfl rfl)
  have k0 := h0
  have lt0 : ∀ x ∈ p0, x.block < W.heap.size := by obtain ⟨m, hm⟩ := k0; exact DataW.trod_lt m _ _ _ hm
  obtain ⟨x0, r100, f0, hd0⟩ := rd_open (k := .u32) Tryd.underlying22 Tryd.underlying39 (by kernel_rfl) h0
  have z0 : x0.length * 4 ≤ 140737488351232 := by
    rcases hd0 with rfl | ⟨ys, zs, rfl, hle⟩
    · simp
    · have := sized_slice hsz (j := 0) (t := 22) (e := 39) rfl rfl Tryd.underlying22
      rw [bytes39] at this
      unfold reachBytes at this
      omega
  obtain ⟨a1, rfl, rfl, rfl, w1⟩ := open_int Tryd.underlying5 (hval 1 5 v1 rfl rfl) h1
  clear hA0 hval0 hsz0
  refine (walk (.slice s0 l0 c0) x0 a1 W hT r100 f0 z0 w1).mono fun e W' ⟨he, bel⟩ => ?_
  subst he
  exact ⟨_, rfl, _, _, _, [], _, [], hW', trodAll_mk1 (shut_bool Tryd.underlying4 _), (trodAll_cons_mk (Below.trod laidOut (by kernel_rfl) (of_decide_eq_true (by kernel_rfl)) k0 bel lt0) (trodAll_cons_mk (shut_int Tryd.underlying5 w1) trodAll_mk0)), rfl, bel.frame _, fun h => by cases h⟩

/-- a world for the witness: the settled one, the listed blocks as their initialisers lay them -/
def layBlock (b : Nat × Array Value) : Obj → Obj
  | .cells _ t frozen => .cells b.2 t frozen
  | o => o
noncomputable def laidWorld (os : Os) : World :=
  { World.holding Tryd.prog os ⟨#[], #[], []⟩ with heap := laidBlocks.foldl (fun h b => h.modify b.1 (layBlock b)) (World.holding Tryd.prog os ⟨#[], #[], []⟩).heap }
theorem laid_met (os : Os) : laidMet Tryd.prog Rows.stackTurnsRow.laid ((laidWorld os).forCall (fun _ _ => 0) ⟨#[], #[.slice none 0 0, .int .u8 0], []⟩).memory :=
  laidMet_of_run' 8 (by kernel_rfl) (by kernel_rfl)
theorem reads (os : Os) {H : Type} (enc : TypeId × Value → H) : ∃ places, DataW.whole enc Tryd.prog ((laidWorld os).forCall (fun _ _ => 0) ⟨#[], #[.slice none 0 0, .int .u8 0], []⟩).memory Tryd.f6.params.toList Rows.stackTurnsSpec.vars false #[.slice none 0 0, .int .u8 0].toList 8 = some ([.nil, .lit (.int .u8 0)], [], places) :=
  ⟨[], by kernel_rfl⟩

set_option maxRecDepth 100000 in
theorem lifted (os : Os) (started : os.Started) (H : Type) (enc : TypeId × Value → H) (F : Stop.Interp) :
    ReturnsInHanded {} Tryd.checked os 6 .any ((OpenSpec.ofChange Rows.stackTurnsSpec).preRow enc Tryd.prog Tryd.f6 Rows.stackTurnsRow.domain false Rows.stackTurnsRow.laid) (((OpenSpec.ofChange Rows.stackTurnsSpec).at F).post enc Tryd.prog Tryd.f6 false true false false) := by
  obtain ⟨places, hx⟩ := reads os enc
  refine returnsInHanded_of_row (C := Tryd.checked) (s := OpenSpec.ofChange Rows.stackTurnsSpec) own started (by kernel_rfl) Tryd.func6
    (witness_row_at (enc := enc) (C := Tryd.checked) false (laidWorld os) #[.slice none 0 0, .int .u8 0] rfl (by kernel_rfl) (by kernel_rfl) (by kernel_rfl)
      (OpenSpec.preRow_of_cond 8 hx (by kernel_rfl) (fun k hk => by cases hk) (by kernel_rfl) (laid_met os))) ?_
  intro W base args ds gs before hval hW _ _ hsz hL _ _
  exact contract H enc W base args ds gs before hval hW hsz hL

theorem said : Rows.StackTurnsSaid :=
  OpenClaim.holds_of_cond 6 Tryd.f6 rfl rfl rfl rfl rfl rfl rfl ⟨rfl, rfl, rfl, rfl, rfl⟩ rfl rfl rfl rfl rfl (by kernel_rfl) Tryd.func6 (by kernel_rfl)
    (of_decide_eq_true (by kernel_rfl)) (by unfold Func.isWrapper; first | (rw [if_pos (by decide +kernel)]; kernel_rfl) | (rw [if_neg (by decide +kernel)]; exact ⟨rfl, rfl⟩))
    (fun os started H enc _ F => by rw [OpenClaim.pre_eq_preRow]; exact lifted os started H enc F)

theorem plain (f : FuncId) (fn : Func) (hf : Tryd.pinned.checked.prog.funcNamed "tinder/tinderlaw03.StackTurns" = some f) (hfn : Tryd.pinned.checked.prog.funcs[f]? = some fn) :
    false = Tryd.pinned.checked.prog.looks [] ∧ ∀ (j : Nat) t, fn.params[j]? = some t → Tryd.pinned.checked.prog.wantsStandIn t = false := by
  obtain rfl : f = 6 := Option.some.inj ((show Tryd.prog.funcNamed "tinder/tinderlaw03.StackTurns" = some 6 by kernel_rfl).symm.trans hf) |>.symm
  obtain rfl : fn = Tryd.f6 := (Option.some.inj (Tryd.func6.symm.trans hfn)).symm
  refine ⟨by kernel_rfl, fun j t ht => ?_⟩
  rw [Tryd.params6] at ht
  rcases j with _ | _ | j
  · obtain rfl : t = 22 := by simpa using ht.symm
    exact (show Tryd.prog.wantsStandIn 22 = false by kernel_rfl)
  · obtain rfl : t = 5 := by simpa using ht.symm
    exact (show Tryd.prog.wantsStandIn 5 = false by kernel_rfl)
  · simp at ht

theorem card : Rows.StackTurnsCardSaid :=
  Claim7.holds_tied_plain_at .later [] _ _ _ _ said (fun _ h => by cases h) (by kernel_rfl) (fun _ h => by cases h) stackTurns_row_tie rfl ⟨rfl, rfl⟩ (by kernel_rfl) rfl plain (by kernel_rfl)
end Go.Proofs.YtefiohepglggdaaDoor.stackTurns
namespace Go.Proofs.YtefiohepglggdaaDoor
theorem stackTurns_holds : Rows.StackTurnsCardSaid := stackTurns.card
#print axioms stackTurns_holds
end Go.Proofs.YtefiohepglggdaaDoor
