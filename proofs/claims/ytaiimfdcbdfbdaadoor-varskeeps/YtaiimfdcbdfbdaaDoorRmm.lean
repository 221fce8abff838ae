/-
  In, Same, Copy, wrong, Fetch, Text of the document's answer for a memory of bytes.
-/
import Derived.Test.YtaiimfdcbdfbdaaDoorProg
import Derived.Test.YtaiimfdcbdfbdaaDoorPmm
namespace Go.Proofs.YtaiimfdcbdfbdaaDoor
open Go.ChangeShapes Go.WideShapes Go.ChangeAt Go.RowKit
set_option linter.unusedVariables false
set_option linter.unusedSimpArgs false

theorem uB : Tryd.prog.underlying 39 = some (.slice (Tryd.prog.elem 39)) := by kernel_rfl
theorem eB : Tryd.prog.elem 39 = 5 := by kernel_rfl
theorem zB (w : World) : (sizeOf (Tryd.prog.elem 39)).run Tryd.prog w = .ok 1 w := by rw [eB]; exact Tryd.sizeOf5 w
theorem infoU8 : (Tryd.prog.info? 5).map (fun i => (i.zero, i.size, i.bytes)) = some (some (.int .u8 0), 1, 1) := by kernel_rfl
theorem rd_strT {w : World} {v : Value} {xs : List Int} (h : Rd .u8 w v xs) : (convert 39 9 v).run Tryd.prog w = .ok (.string (strOfNums xs)) w :=
  rd_str h Tryd.underlying39 Tryd.underlying5 Tryd.underlying9

theorem w_rsame (va vb : Value) (xs ys : List Int) (w : World) (ha : Rd .u8 w va xs) (hb : Rd .u8 w vb ys) (bx : bytesL xs) (by' : bytesL ys) :
    Calls Tryd.prog 28 #[va, vb] w fun e w' => e = .returned (.bool (decide (xs = ys))) ∧ w' = w := by
  have c1 := rd_strT ha
  have c2 := rd_strT hb
  have he : Hid (((strOfNums xs).toList == (strOfNums ys).toList) = decide (xs = ys)) := by
    show _ = _
    rw [str_beq]
    simp only [nums_eq xs ys bx by']
  obtain ⟨A, hA⟩ : ∃ A, strOfNums xs = A := ⟨_, rfl⟩
  obtain ⟨B, hB⟩ : ∃ B, strOfNums ys = B := ⟨_, rfl⟩
  rw [hA] at c1 he
  rw [hB] at c2 he
  go_enter Tryd.func28, Tryd.ntmps28
  go_wp2_with fail
  go_ret
  exact ⟨ret_b he.out, rfl⟩
end Go.Proofs.YtaiimfdcbdfbdaaDoor
