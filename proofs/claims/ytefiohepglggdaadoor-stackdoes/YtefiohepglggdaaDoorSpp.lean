/-
  Push and Pop of package stack return the plain lists, in new memory, for all lists.
-/
import Derived.Test.YtefiohepglggdaaDoorGsl
namespace Go.Proofs.YtefiohepglggdaaDoor
open Go.ChangeShapes Go.WideShapes Go.ChangeAt Go.RowKit
set_option linter.unusedVariables false
set_option linter.unusedSimpArgs false

set_option maxHeartbeats 1000000 in
theorem w_spop (v : Value) (xs : List Int) (n : Int) (w : World) (h : Rd .u32 w v xs) (hz : xs.length * 4 ≤ 140737488355328) :
    Calls Tryd.prog 15 #[v, .int .i64 n] w fun e w' => ∃ v1 v2, e = .returned (.tuple #[v1, v2, .int .i64 (popF xs n).2.2]) ∧ Rd .u32 w' v1 (popF xs n).1 ∧ Rd .u32 w' v2 (popF xs n).2.1 ∧ Below w.heap.size w w' := by
  have hlen := rd_len h uS (P := Tryd.prog)
  by_cases h0 : n < 0
  · have e : popF xs n = ([], [], 1) := by unfold popF; rw [if_pos h0]
    rw [e]
    go_enter Tryd.func15, Tryd.ntmps15
    go_wp2_with fail
    go_ret3
    exact ⟨_, _, rfl, Rd_nil, Rd_nil, Below.refl _ _⟩
  · by_cases h1 : (xs.length : Int) < n
    · have e : popF xs n = ([], [], 5) := by unfold popF; rw [if_neg h0, if_pos h1]
      rw [e]
      go_enter Tryd.func15, Tryd.ntmps15
      go_wp2_with fail
      go_ret3
      exact ⟨_, _, rfl, Rd_nil, Rd_nil, Below.refl _ _⟩
    · obtain ⟨A, hA⟩ : ∃ A, xs.take (xs.length - n.toNat) = A := ⟨_, rfl⟩
      obtain ⟨B, hB⟩ : ∃ B, xs.drop (xs.length - n.toNat) = B := ⟨_, rfl⟩
      have e : popF xs n = (A, B, 0) := by unfold popF; rw [if_neg h0, if_neg h1, hA, hB]
      rw [e]
      clear e
      obtain ⟨va, ra, x1, c1, x2⟩ := rd_cutI h uS zS 0 ((xs.length : Int) - n) (by omega) (by omega) (by omega)
      have c1' := c1 rfl
      clear c1
      obtain ⟨vb, rb, x3, x4, c2⟩ := rd_cutI h uS zS ((xs.length : Int) - n) xs.length (by omega) (by omega) (by omega)
      have c2' := c2 rfl
      rw [show ((xs.length : Int) - n - 0).toNat = xs.length - n.toNat by omega, show (0 : Int).toNat = 0 from rfl, List.drop_zero, hA] at ra
      rw [show ((xs.length : Int) - n).toNat = xs.length - n.toNat by omega, show ((xs.length : Int) - ((xs.length : Int) - n)).toNat = n.toNat by omega, hB, List.take_of_length_le (by rw [← hB]; simp; omega)] at rb
      have zA : A.length * 4 ≤ 140737488355328 := by rw [← hA]; simp; omega
      have zB : B.length * 4 ≤ 140737488355328 := by rw [← hB]; simp; omega
      clear hA hB c2 h x1 x2 x3 x4
      have hw : IntKind.i64.wrap ((xs.length : Int) - n) = (xs.length : Int) - n := by rw [IntKind.wrap_i64]; omega
      go_enter Tryd.func15, Tryd.ntmps15
      go_wp2_with fail
      go_quiet (fail)
      go_wp2_with fail
      refine (w_clone va A _ ?ga (by unfold maxLen; omega) zA).mono ?_
      case ga => exact ra.below (below_drewN (Below.refl _ _) _)
      rintro e wa ⟨ua, rfl, oa, ba⟩
      go_wp2_with fail
      refine (w_clone vb B _ ?gb (by unfold maxLen; omega) zB).mono ?_
      case gb => exact (rb.below (below_drewN (Below.refl _ _) _)).below ba
      rintro e wb ⟨ub, rfl, ob, bb⟩
      go_wp2_with fail
      go_ret3
      exact ⟨ua, ub, rfl, oa.below bb, ob, below_trans (below_trans (below_drewN (Below.refl _ _) _) ba) bb⟩

set_option maxHeartbeats 1000000 in
theorem w_spush (v u : Value) (xs ys : List Int) (w : World) (h : Rd .u32 w v xs) (g : Rd .u32 w u ys) (hz : xs.length * 4 ≤ 140737488355328) (gz : ys.length * 4 ≤ 140737488355328) :
    Calls Tryd.prog 13 #[v, u] w fun e w' => ∃ v1, e = .returned (.tuple #[v1, .int .i64 (pushF xs ys).2]) ∧ Rd .u32 w' v1 (pushF xs ys).1 ∧ Below w.heap.size w w' := by
  have hlen := rd_len h uS (P := Tryd.prog)
  have glen := rd_len g uS (P := Tryd.prog)
  by_cases h0 : (64 : Int) < xs.length + ys.length
  · have e : pushF xs ys = ([], 6) := by unfold pushF; rw [if_pos (by omega)]
    rw [e]
    go_enter Tryd.func13, Tryd.ntmps13
    go_wp2_with fail
    go_ret2
    exact ⟨_, rfl, Rd_nil, Below.refl _ _⟩
  · have e : pushF xs ys = (xs ++ ys, 0) := by unfold pushF; rw [if_neg (by omega)]
    rw [e]
    clear e
    obtain ⟨ao, ca, rfl, x1, x2, x3⟩ := rd_form h
    obtain ⟨bo, cb, rfl, y1, y2, y3⟩ := rd_form g
    obtain ⟨V, hV⟩ : ∃ V, V = Value.slice ao xs.length ca := ⟨_, rfl⟩
    obtain ⟨U, hU⟩ : ∃ U, U = Value.slice bo ys.length cb := ⟨_, rfl⟩
    have b0 := (Below.refl w.heap.size w).alloc (Nat.le_refl _) (.cells #[V, U] 22)
    have hc : ∀ i, i < 2 → (w.alloc (.cells #[V, U] 22)).cell? ⟨w.heap.size, i, none⟩ = some (if i = 0 then V else U) := by
      intro i hi
      rw [World.cell?_alloc_new]
      rcases i with _ | _ | i
      · rfl
      · rfl
      · omega
    have hr : ∀ i, i < 2 → Rd .u32 (w.alloc (.cells #[V, U] 22)) (if i = 0 then V else U) (if i = 0 then xs else ys) := by
      intro i hi
      rcases i with _ | _ | i
      · exact (show Rd .u32 w V xs from by rw [hV]; exact h).below b0
      · exact (show Rd .u32 w U ys from by rw [hU]; exact g).below b0
      · omega
    have cc := w_concat w.heap.size 2 (fun i => if i = 0 then V else U) (fun i => if i = 0 then xs else ys) _ (by omega) (by omega) hc hr (by simp [cat]; omega)
    rw [show cat (fun i => if i = 0 then xs else ys) 2 = xs ++ ys by simp [cat]] at cc
    rw [hV, hU] at cc b0
    clear hc hr hV hU x1 x2 x3 y1 y2 y3 h g
    go_enter Tryd.func13, Tryd.ntmps13
    go_wp2_with (go_at_call 20; refine cc.mono ?_; rintro e w1 ⟨v1, rfl, r1, b1⟩)
    go_ret2
    exact ⟨v1, rfl, r1, below_trans b0 b1⟩
end Go.Proofs.YtefiohepglggdaaDoor
