/-
  Pop and Push of the document's answer return the plain lists, in new memory, for all lists that can be.
-/
import Derived.Test.YtefiohepglggdaaDoorRsa
namespace Go.Proofs.YtefiohepglggdaaDoor
open Go.ChangeShapes Go.WideShapes Go.ChangeAt Go.RowKit
set_option linter.unusedVariables false
set_option linter.unusedSimpArgs false

theorem uS : Tryd.prog.underlying 22 = some (.slice (Tryd.prog.elem 22)) := by kernel_rfl
theorem eS : Tryd.prog.elem 22 = 39 := by kernel_rfl
theorem zS (w : World) : (sizeOf (Tryd.prog.elem 22)).run Tryd.prog w = .ok 1 w := by rw [eS]; exact Tryd.sizeOf39 w

/-- what Pop answers -/
def popF (l : List Int) (n : Int) : List Int × List Int × Int :=
  if n < 0 then ([], [], 1) else if (l.length : Int) < n then ([], [], 5) else (l.take (l.length - n.toNat), l.drop (l.length - n.toNat), 0)

set_option maxHeartbeats 1000000 in
theorem w_rpop (v : Value) (xs : List Int) (n : Int) (w : World) (h : Rd .u32 w v xs) (hz : xs.length * 4 ≤ 140737488355328) :
    Calls Tryd.prog 16 #[v, .int .i64 n] w fun e w' => ∃ v1 v2, e = .returned (.tuple #[v1, v2, .int .i64 (popF xs n).2.2]) ∧ Rd .u32 w' v1 (popF xs n).1 ∧ Rd .u32 w' v2 (popF xs n).2.1 ∧ Below w.heap.size w w' := by
  have hlen := rd_len h uS (P := Tryd.prog)
  by_cases h0 : n < 0
  · have e : popF xs n = ([], [], 1) := by unfold popF; rw [if_pos h0]
    rw [e]
    go_enter Tryd.func16, Tryd.ntmps16
    go_wp2_with fail
    go_ret3
    exact ⟨_, _, rfl, Rd_nil, Rd_nil, Below.refl _ _⟩
  · by_cases h1 : (xs.length : Int) < n
    · have e : popF xs n = ([], [], 5) := by unfold popF; rw [if_neg h0, if_pos h1]
      rw [e]
      go_enter Tryd.func16, Tryd.ntmps16
      go_wp2_with fail
      go_ret3
      exact ⟨_, _, rfl, Rd_nil, Rd_nil, Below.refl _ _⟩
    · obtain ⟨A, hA⟩ : ∃ A, xs.take (xs.length - n.toNat) = A := ⟨_, rfl⟩
      obtain ⟨B, hB⟩ : ∃ B, xs.drop (xs.length - n.toNat) = B := ⟨_, rfl⟩
      have e : popF xs n = (A, B, 0) := by unfold popF; rw [if_neg h0, if_neg h1, hA, hB]
      rw [e]
      clear e
      obtain ⟨va, ra, x1, c1, x2⟩ := rd_cutI h uS zS 0 ((xs.length : Int) - n) (by omega) (by omega) (by omega)
      have c1' := c1 rfl
      clear c1
      obtain ⟨vb, rb, x3, x4, c2⟩ := rd_cutI h uS zS ((xs.length : Int) - n) xs.length (by omega) (by omega) (by omega)
      have c2' := c2 rfl
      rw [show ((xs.length : Int) - n - 0).toNat = xs.length - n.toNat by omega, show (0 : Int).toNat = 0 from rfl, List.drop_zero, hA] at ra
      rw [show ((xs.length : Int) - n).toNat = xs.length - n.toNat by omega, show ((xs.length : Int) - ((xs.length : Int) - n)).toNat = n.toNat by omega, hB, List.take_of_length_le (by rw [← hB]; simp; omega)] at rb
      have zA : A.length * 4 ≤ 140737488355328 := by rw [← hA]; simp; omega
      have zB : B.length * 4 ≤ 140737488355328 := by rw [← hB]; simp; omega
      clear hA hB c2 h x1 x2 x3 x4
      have hw : IntKind.i64.wrap ((xs.length : Int) - n) = (xs.length : Int) - n := by rw [IntKind.wrap_i64]; omega
      go_enter Tryd.func16, Tryd.ntmps16
      go_wp2_with fail
      go_region_with (go_at_call 9; first | (refine (w_rcopy va A _ (by first | exact ra | exact ra.below ⟨bb.os, bb.tape, bb.output, bb.size, bb.block⟩) (by unfold maxLen; omega) zA).mono ?_; rintro e wa ⟨ua, rfl, oa, ba⟩) | (refine (w_rcopy vb B _ (by first | exact rb | exact rb.below ⟨ba.os, ba.tape, ba.output, ba.size, ba.block⟩) (by unfold maxLen; omega) zB).mono ?_; rintro e wb ⟨ub, rfl, ob, bb⟩))
      go_wp2_with fail
      go_ret3
      exact ⟨ua, ub, rfl, (Rd_own oa).1.below bb, (Rd_own ob).1, below_trans (a := w) ⟨ba.os, ba.tape, ba.output, ba.size, ba.block⟩ bb⟩

/-- what Push answers -/
def pushF (l m : List Int) : List Int × Int := if 64 < l.length + m.length then ([], 6) else (l ++ m, 0)
set_option maxHeartbeats 1000000 in
theorem w_rpush (v u : Value) (xs ys : List Int) (w : World) (h : Rd .u32 w v xs) (g : Rd .u32 w u ys) (hz : xs.length * 4 ≤ 140737488355328) (gz : ys.length * 4 ≤ 140737488355328) :
    Calls Tryd.prog 14 #[v, u] w fun e w' => ∃ v1, e = .returned (.tuple #[v1, .int .i64 (pushF xs ys).2]) ∧ Rd .u32 w' v1 (pushF xs ys).1 ∧ Below w.heap.size w w' := by
  have hlen := rd_len h uS (P := Tryd.prog)
  have glen := rd_len g uS (P := Tryd.prog)
  by_cases h0 : (64 : Int) < xs.length
  · have e : pushF xs ys = ([], 6) := by unfold pushF; rw [if_pos (by omega)]
    rw [e]
    go_enter Tryd.func14, Tryd.ntmps14
    go_wp2_with fail
    go_ret2
    exact ⟨_, rfl, Rd_nil, Below.refl _ _⟩
  · by_cases h1 : (64 : Int) - xs.length < ys.length
    · have e : pushF xs ys = ([], 6) := by unfold pushF; rw [if_pos (by omega)]
      rw [e]
      go_enter Tryd.func14, Tryd.ntmps14
      go_wp2_with fail
      go_ret2
      exact ⟨_, rfl, Rd_nil, Below.refl _ _⟩
    · have e : pushF xs ys = (xs ++ ys, 0) := by unfold pushF; rw [if_neg (by omega)]
      rw [e]
      clear e
      obtain ⟨i0, hi, hz0, hz1, hz2⟩ := info_parts infoU32
      go_enter Tryd.func14, Tryd.ntmps14
      go_wp2_with (first
        | (go_at_call 9; refine (w_rcopy v xs _ h (by unfold maxLen; omega) hz).mono ?_; rintro e wa ⟨ua, rfl, oa, ba⟩)
        | (at_builtin; refine wpList_append_rd (k := .u32) rfl _ _ 22 rfl w.heap.size 39 i0 4 Tryd.underlying22 hi hz0 hz1 hz2 ua xs rfl oa u ys rfl (g.below ba) (by unfold maxLen; omega) (by omega) ba.size ?_; intro v' w1 hown hgr))
      go_ret2
      exact ⟨v', rfl, (Rd_own hown).1, below_grown ba hgr (fun k hk => (oa.lt k hk).1)⟩
end Go.Proofs.YtefiohepglggdaaDoor
