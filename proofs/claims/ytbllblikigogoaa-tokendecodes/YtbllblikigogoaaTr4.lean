/-
  Same of the document's answer for tokens.
-/
import Derived.Test.YtbllblikigogoaaTqm
namespace Go.Proofs.Ytbllblikigogoaa
open Go.ChangeShapes Go.WideShapes Go.ChangeAt Go.RowKit
set_option linter.unusedVariables false
set_option linter.unusedSimpArgs false

set_option maxHeartbeats 1000000 in
theorem w_r13same (va vb : Value) (xs ys : List Tq) (w : World) (ha : SlR 4 tqR w va xs) (hb : SlR 4 tqR w vb ys) (bx : ∀ x ∈ xs, bytesL x.t) (by' : ∀ x ∈ ys, bytesL x.t) :
    Calls Try.prog 16 #[va, vb] w fun e w' => e = .returned (.bool (decide (xs = ys))) ∧ Below w.heap.size w w' := by
  have hla := slr_len ha uQ (P := Try.prog)
  have hlb := slr_len hb uQ (P := Try.prog)
  have hma := slr_max ha
  have hmb := slr_max hb
  unfold maxLen at hma hmb
  by_cases hl : xs.length = ys.length
  · have hn : ((xs.length : Int) != (ys.length : Int)) = false := by simp [hl]
    have Hl := hid hl
    clear hl
    go_enter Try.func16, Try.ntmps16
    go_wp2_with fail
    go_loopw [5] (fun i wx => ∃ k : Nat, (k : Int) ≤ xs.length ∧ i = .int .i64 k ∧ Hid (xs.take k = ys.take k) ∧ Below w.heap.size w wx) (fun i _ => (xs.length - intOf i).toNat)
    case atStart => exact ⟨0, by omega, rfl, hid (by simp), Below.refl _ _⟩
    case round =>
      obtain ⟨j, hj, rfl, ht, hg⟩ := hrel
      by_cases hlt : (j : Int) < xs.length
      · have hka : j < xs.length := by omega
        have hkb : j < ys.length := by have := Hl.out; omega
        obtain ⟨b1, o1, k1, n1, p1, T1, r1, a0, a1, a2, a3, e0, e1, e2, e3⟩ := tq_at (ha.below hg tqR_below) j hka
        obtain ⟨b2, o2, k2, n2, p2, T2, r2, d0, d1, d2, d3, f0, f1, f2, f3⟩ := tq_at (hb.below hg tqR_below) j hkb
        have hne := fun w => tq_neq w k1 n1 p1 k2 n2 p2 T1 T2
        have hgd := fun w x y => run_eqGuard_agg (P := Try.prog) w .neq 37 x y #[.int .i64 k1, .int .u32 n1, .string T1, .int .i64 p1] #[.int .i64 k2, .int .u32 n2, .string T2, .int .i64 p2] tq_guard
        have hq : (k1 == k2 && (n1 == n2 && (T1.toList == T2.toList && p1 == p2))) = decide (xs[j] = ys[j]) := by
          have t1 : xs[j].t = LB T1 := by rw [← e2]; exact (LB_nums _ (bx _ (List.getElem_mem hka))).symm
          have t2 : ys[j].t = LB T2 := by rw [← f2]; exact (LB_nums _ (by' _ (List.getElem_mem hkb))).symm
          have x1 : xs[j] = ⟨k1, n1, LB T1, p1⟩ := by rw [← t1, ← e0, ← e1, ← e3]
          have x2 : ys[j] = ⟨k2, n2, LB T2, p2⟩ := by rw [← t2, ← f0, ← f1, ← f3]
          rw [x1, x2, str_beq, Bool.eq_iff_iff]
          simp only [LB_eq]
          simp
        by_cases hxy : xs[j] = ys[j]
        · have ht2 : Hid (xs.take (j + 1) = ys.take (j + 1)) := by
            show _ = _
            rw [List.take_succ_eq_append_getElem hka, List.take_succ_eq_append_getElem hkb, ht.out, hxy]
          rw [show decide (xs[j] = ys[j]) = true by simp [hxy]] at hq
          simp only [hq, Bool.not_true] at hne
          clear e0 e1 e2 e3 f0 f1 f2 f3 hq hxy
          go_wp2_with fail
          go_quiet (fail)
          go_wp2_with fail
          go_roundw
          case rel => exact ⟨j + 1, by omega, by go_num, ht2, below_drewN hg _⟩
          case measure => simp [intOf]; omega
        · have hf : Hid (decide (xs = ys) = false) := by
            show _ = _
            simp
            intro h
            subst h
            exact hxy rfl
          rw [show decide (xs[j] = ys[j]) = false by simp [hxy]] at hq
          simp only [hq, Bool.not_false] at hne
          clear e0 e1 e2 e3 f0 f1 f2 f3 hq hxy
          go_wp2_with fail
          go_quiet (fail)
          go_wp2_with fail
          go_ret
          exact ⟨ret_b hf.out.symm, below_drewN hg _⟩
      · have hf : Hid (decide (xs = ys) = true) := by
          show _ = _
          have h1 : xs.take j = xs := List.take_of_length_le (by omega)
          have h2 : ys.take j = ys := List.take_of_length_le (by have := Hl.out; omega)
          have := ht.out
          rw [h1, h2] at this
          simp [this]
        go_wp2_with fail
        go_ret
        exact ⟨ret_b hf.out.symm, hg⟩
  · have hf : Hid (decide (xs = ys) = false) := by show _ = _; simp; intro h; exact hl (by rw [h])
    have hn : ((xs.length : Int) != (ys.length : Int)) = true := by simp; omega
    clear hl
    go_enter Try.func16, Try.ntmps16
    go_wp2_with fail
    go_ret
    exact ⟨ret_b hf.out.symm, Below.refl _ _⟩
end Go.Proofs.Ytbllblikigogoaa
