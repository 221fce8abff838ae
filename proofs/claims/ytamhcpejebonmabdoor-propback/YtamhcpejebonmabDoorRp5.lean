/-
  ParseUnit and ShowUnit of the document's answer for properties.
-/
import Derived.Test.YtamhcpejebonmabDoorRp4
import Derived.Test.YtamhcpejebonmabDoorRpa
import Derived.Test.YtamhcpejebonmabDoorRsh
namespace Go.Proofs.YtamhcpejebonmabDoor
open Go.ChangeShapes Go.WideShapes Go.ChangeAt Go.RowKit
set_option linter.unusedVariables false
set_option linter.unusedSimpArgs false

theorem uU : Tryd.prog.underlying 22 = some (.slice (Tryd.prog.elem 22)) := by kernel_rfl
theorem eU : Tryd.prog.elem 22 = 27 := by kernel_rfl
theorem zU (w : World) : (sizeOf (Tryd.prog.elem 22)).run Tryd.prog w = .ok 1 w := by rw [eU]; exact Tryd.sizeOf27 w

/-- the piece that is being read, and the pieces from it on -/
def pcAt (X : List Int) (f k : Nat) : List Int := (X.drop f).take (k - f)
def spR (X : List Int) (f k : Nat) : List (List Int) := if k ≤ X.length then spl 44 (pcAt X f k) (X.drop k) else []
theorem pcAt_len (X : List Int) (f k : Nat) (h1 : f ≤ k) (h2 : k ≤ X.length) : (pcAt X f k).length = k - f := by simp [pcAt]; omega
theorem pcAt_bytes {X : List Int} (h : bytesL X) (f k : Nat) : bytesL (pcAt X f k) := bytes_take (bytes_drop h f) _
theorem spR_on (X : List Int) (f k : Nat) (h1 : f ≤ k) (h2 : k < X.length) (hc : ¬ X[k] = 44) : spR X f (k + 1) = spR X f k := by
  unfold spR
  rw [if_pos (by omega), if_pos (by omega), List.drop_eq_getElem_cons h2, spl, if_neg hc]
  congr 1
  unfold pcAt
  rw [show k + 1 - f = (k - f) + 1 by omega, List.take_succ_eq_append_getElem (by simp; omega)]
  congr 2
  simp
  congr 1
  omega
theorem spR_cut (X : List Int) (f k : Nat) (h1 : f ≤ k) (h2 : k < X.length) (hc : X[k] = 44) : spR X f k = pcAt X f k :: spR X (k + 1) (k + 1) := by
  unfold spR
  rw [if_pos (by omega), if_pos (by omega), List.drop_eq_getElem_cons h2, spl, if_pos hc]
  simp [pcAt]
theorem spR_end (X : List Int) (f k : Nat) (h2 : k = X.length) : spR X f k = pcAt X f k :: spR X (k + 1) (k + 1) := by
  unfold spR
  rw [if_pos (by omega), if_neg (by omega), h2, List.drop_of_length_le (Nat.le_refl _)]
  rfl
theorem pun_bad (X : List Int) (done : List (List Int)) (p : List Int) (r : List (List Int)) (h : spl 44 [] X = done ++ (p :: r)) (hp : pcOk p = false) : punF X = ([], 15) := by
  unfold punF
  rw [if_pos]
  rw [h]
  simp [hp]
theorem pun_many (X : List Int) (done : List (List Int)) (h : spl 44 [] X = done) (ha : done.all pcOk = true) (hl : 4 < done.length) : punF X = ([], 3) := by
  unfold punF
  rw [h, ha, if_neg (by decide), if_pos hl]
theorem pun_ok (X : List Int) (done : List (List Int)) (h : spl 44 [] X = done) (ha : done.all pcOk = true) (hl : ¬ 4 < done.length) : punF X = ((done.take 4).map (num 16), 0) := by
  unfold punF
  rw [h, ha, if_neg (by decide), if_neg hl, List.take_of_length_le (by omega)]
theorem run_part {w : World} (s : ByteArray) (f k : Nat) (h1 : f ≤ k) (h2 : k ≤ s.size) : (Instr.slice 9 (.string s) (some (.int .i64 (f : Int))) (some (.int .i64 (k : Int))) none).run Tryd.prog w = .ok (.string (s.extract f k)) w := by
  simp [Instr.slice, Instr.sliceBounds, run_underlying Tryd.underlying9, run_sliceBound, h1, h2]
theorem L_part (s : ByteArray) (f k : Nat) (h2 : k ≤ s.size) : L (s.extract f k) = pcAt (L s) f k := L_extract s f k h2
end Go.Proofs.YtamhcpejebonmabDoor
