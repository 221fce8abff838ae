/-
  turn of package stack: the cells off the top come back by letters.
-/
import Derived.Test.YtefiohepglggdaaDoorSpp
import Derived.Test.YtefiohepglggdaaDoorRdo
import Derived.Laws.MakeOwn
namespace Go.Proofs.YtefiohepglggdaaDoor
open Go.ChangeShapes Go.WideShapes Go.ChangeAt Go.RowKit
set_option linter.unusedVariables false
set_option linter.unusedSimpArgs false

theorem fits_push (l m : List Int) : fits (l ++ m) = pushF l m := by unfold fits pushF; rw [List.length_append]
set_option maxHeartbeats 2000000 in
set_option maxRecDepth 100000 in
theorem w_turn (v : Value) (xs : List Int) (t : Int) (S : ByteArray) (w : World) (h : Rd .u32 w v xs) (hlI : (xs.length : Int) ≤ 64) (hlet : ∀ c ∈ LB S, 97 ≤ c ∧ c < 97 + t) (hls : (S.size : Int) ≤ 6) (t1 : 1 ≤ t) (t6 : t ≤ 6) :
    Calls Tryd.prog 18 #[v, .int .i64 t, .string S] w fun e w' => ∃ v1, e = .returned (.tuple #[v1, .int .i64 (doT xs t (LB S)).2]) ∧ Rd .u32 w' v1 (doT xs t (LB S)).1 ∧ Below w.heap.size w w' := by
  have hlen := rd_len h uS (P := Tryd.prog)
  have Hlet := hid hlet
  clear hlet
  by_cases hu : (xs.length : Int) < t
  · have e : doT xs t (LB S) = ([], 5) := by unfold doT; rw [if_pos hu]
    rw [e]
    clear e
    go_enter Tryd.func18, Tryd.ntmps18
    go_wp2_with fail
    go_ret2
    exact ⟨_, rfl, Rd_nil, Below.refl _ _⟩
  · obtain ⟨p, hp⟩ : ∃ p : Nat, xs.length - t.toNat = p := ⟨_, rfl⟩
    have hpI : (xs.length : Int) - t = p := by omega
    have e : doT xs t (LB S) = pushF (xs.take p) (pickL xs p (LB S)) := by unfold doT; rw [if_neg hu, hp, fits_push]
    rw [e]
    clear e
    obtain ⟨va, ra, x1, c1, x2⟩ := rd_cutI h uS zS 0 (p : Int) (by omega) (by omega) (by omega)
    have c1' := c1 rfl
    rw [show ((p : Int) - 0).toNat = p by omega, show (0 : Int).toNat = 0 from rfl, List.drop_zero] at ra
    clear c1 x1 x2
    have htl : Hid ((xs.take p).length = p) := by show _ = _; simp; omega
    have Hp := hid hp
    clear hp
    obtain ⟨i0, hi, hz0, hz1, hz2⟩ := info_parts infoU32
    obtain ⟨w1, hmk, how, hgw⟩ := run_make_own (P := Tryd.prog) w w.heap.size 22 39 i0 (.int .u32 0) 1 Tryd.underlying22 hi hz0 hz1 .i64 .i64 S.size (by rw [hz2]; omega) (by unfold maxLen; omega) (Nat.le_refl _)
    have b1 : Below w.heap.size w w1 := below_grown (Below.refl _ _) hgw (fun k hk => by cases hk)
    have ra1 := hid ra
    clear hgw ra
    obtain ⟨U0, hU0⟩ : ∃ U, Value.slice (some ⟨w.heap.size, 0, none⟩) 0 S.size = U := ⟨_, rfl⟩
    rw [hU0] at hmk how
    clear hU0
    go_enter Tryd.func18, Tryd.ntmps18
    go_wp2_with fail
    go_loopw [9, 24] (fun O I wx => ∃ (k : Nat) (ys : List Int), (k : Int) ≤ S.size ∧ I = .int .i64 k ∧ Hid (ys = pickL xs p ((LB S).take k)) ∧ (ys.length : Int) ≤ k ∧ Own w.heap.size wx O ys ∧ Below w.heap.size w wx) (fun _ I _ => (S.size - intOf I).toNat)
    case atStart => exact ⟨0, [], by omega, rfl, hid (by simp [pickL]), by simp, how, b1⟩
    case round =>
      obtain ⟨k, ys, hk, rfl, hys, hyl, ho, hb⟩ := hrel
      by_cases hlt : (k : Int) < S.size
      · have hks : k < S.size := by omega
        have htk : Hid ((LB S).take (k + 1) = (LB S).take k ++ [(S[k].toNat : Int)]) := LB_take S k hks
        have hc := Hlet.out _ (LB_mem S k hks)
        obtain ⟨c, hcc⟩ : ∃ c, (S[k].toNat : Int) = c := ⟨_, rfl⟩
        rw [hcc] at hc
        obtain ⟨c0, c1⟩ := hc
        obtain ⟨ad, hrun, hcell⟩ := rd_idx (h.below hb) uS zS ((p : Int) + (c - 97)) (by omega) (by omega)
        obtain ⟨y, hy⟩ : ∃ y, xs.getD ((p : Int) + (c - 97)).toNat 0 = y := ⟨_, rfl⟩
        rw [hy] at hcell
        have hy2 : Hid (ys ++ [y] = pickL xs p ((LB S).take (k + 1))) := by
          show _ = _
          rw [htk.out, hcc, pickL_snoc _ _ _ _ (by omega), ← hys.out, ← hy, show ((p : Int) + (c - 97)).toNat = p + (c - 97).toNat by omega]
        clear hy
        have ho2 := World.ownsRow.alloc ho (.cells #[.int .u32 y] 39)
        have hb2 := hb.alloc hb.size (.cells #[.int .u32 y] 39)
        go_wp2_with (at_builtin; refine wpList_append_rd (k := .u32) rfl _ _ 22 rfl w.heap.size 39 i0 4 Tryd.underlying22 hi hz0 hz1 hz2 _ ys rfl ho2 _ [y] rfl (rd_one _ y 39) (by unfold maxLen; simp; omega) (by simp; omega) hb2.size ?_; intro v3 w3 hown3 hgr3)
        go_roundw
        case rel => exact ⟨k + 1, ys ++ [y], by omega, by go_num, hy2, by simp; omega, hown3, below_grown hb2 hgr3 (fun k hk => (ho2.lt k hk).1)⟩
        case measure => simp [intOf]; omega
      · obtain rfl : k = S.size := by omega
        have htk : (LB S).take S.size = LB S := List.take_of_length_le (by rw [LB_len]; exact Nat.le_refl _)
        rw [htk] at hys
        clear htk
        have cp := w_spush va _ (xs.take p) ys _ (ra1.out.below hb) (Rd_own ho).1 (by simp; omega) (by omega)
        rw [hys.out] at cp
        go_wp2_with (go_at_call 13; refine cp.mono ?_; rintro e w2 ⟨v2, rfl, r2, b2⟩)
        go_ret2
        exact ⟨v2, rfl, r2, below_trans hb b2⟩
end Go.Proofs.YtefiohepglggdaaDoor
