/-
  In, Same, Copy, wrong, Fetch, Text of the document's answer for a memory of bytes.
-/
import Derived.Test.YtlnlifijnijgmaaProg
import Derived.Test.YtlnlifijnijgmaaPmm
namespace Go.Proofs.Ytlnlifijnijgmaa
open Go.ChangeShapes Go.WideShapes Go.ChangeAt Go.RowKit
set_option linter.unusedVariables false
set_option linter.unusedSimpArgs false

theorem uB : Try.prog.underlying 22 = some (.slice (Try.prog.elem 22)) := by kernel_rfl
theorem eB : Try.prog.elem 22 = 5 := by kernel_rfl
theorem zB (w : World) : (sizeOf (Try.prog.elem 22)).run Try.prog w = .ok 1 w := by rw [eB]; exact Try.sizeOf5 w
theorem infoU8 : (Try.prog.info? 5).map (fun i => (i.zero, i.size, i.bytes)) = some (some (.int .u8 0), 1, 1) := by kernel_rfl
theorem rd_strT {w : World} {v : Value} {xs : List Int} (h : Rd .u8 w v xs) : (convert 22 9 v).run Try.prog w = .ok (.string (strOfNums xs)) w :=
  rd_str h Try.underlying22 Try.underlying5 Try.underlying9

theorem w_rsame (va vb : Value) (xs ys : List Int) (w : World) (ha : Rd .u8 w va xs) (hb : Rd .u8 w vb ys) (bx : bytesL xs) (by' : bytesL ys) :
    Calls Try.prog 15 #[va, vb] w fun e w' => e = .returned (.bool (decide (xs = ys))) ∧ w' = w := by
  have c1 := rd_strT ha
  have c2 := rd_strT hb
  have he : Hid (((strOfNums xs).toList == (strOfNums ys).toList) = decide (xs = ys)) := by
    show _ = _
    rw [str_beq]
    simp only [nums_eq xs ys bx by']
  obtain ⟨A, hA⟩ : ∃ A, strOfNums xs = A := ⟨_, rfl⟩
  obtain ⟨B, hB⟩ : ∃ B, strOfNums ys = B := ⟨_, rfl⟩
  rw [hA] at c1 he
  rw [hB] at c2 he
  go_enter Try.func15, Try.ntmps15
  go_wp2_with fail
  go_ret
  exact ⟨ret_b he.out, rfl⟩

theorem w_rcopy (v : Value) (xs : List Int) (w : World) (h : Rd .u8 w v xs) (hb : xs.length ≤ 140737488355328) :
    Calls Try.prog 12 #[v] w fun e w' => ∃ v', e = .returned v' ∧ w'.ownsRow w.heap.size 5 1 v' xs.length (xs.map (Value.int .u8)) ∧ Below w.heap.size w w' := by
  obtain ⟨i0, hi, hz0, hz1, hz2⟩ := info_parts infoU8
  go_enter Try.func12, Try.ntmps12
  go_wp2_with (at_builtin; refine wpList_append_rd (k := .u8) rfl _ _ 22 rfl w.heap.size 5 i0 1 Try.underlying22 hi hz0 hz1 hz2 (.slice none 0 0) [] rfl (World.ownsRow_nil _ _ _ _) v xs rfl h (by unfold maxLen; simp; omega) (by simpa using hb) (Nat.le_refl _) ?_; intro v' w1 hown hgr)
  go_ret
  exact ⟨v', rfl, by simpa using hown, below_grown (Below.refl _ _) hgr (fun k hk => by cases hk)⟩
end Go.Proofs.Ytlnlifijnijgmaa
