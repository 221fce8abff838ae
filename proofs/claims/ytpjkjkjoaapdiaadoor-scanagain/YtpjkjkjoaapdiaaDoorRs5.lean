/-
  Same and Show of the document's answer for tokens.
-/
import Derived.Test.YtpjkjkjoaapdiaaDoorRs4
import Derived.Laws.StructEq
namespace Go.Proofs.YtpjkjkjoaapdiaaDoor
open Go.ChangeShapes Go.WideShapes Go.ChangeAt Go.RowKit
set_option linter.unusedVariables false
set_option linter.unusedSimpArgs false

theorem uK : Tryd.prog.underlying 23 = some (.slice (Tryd.prog.elem 23)) := by kernel_rfl
theorem eK : Tryd.prog.elem 23 = 33 := by kernel_rfl
theorem zK (w : World) : (sizeOf (Tryd.prog.elem 23)).run Tryd.prog w = .ok 3 w := by rw [eK]; exact Tryd.sizeOf33 w
theorem tok_at {w : World} {v : Value} {xs : List Tk} (h : SlR 3 tokR w v xs) (i : Nat) (h1 : i < xs.length) :
    ∃ (b o : Nat) (k p : Int) (T : ByteArray), (∀ w', (Instr.indexAt 23 v (.int .i64 (i : Int))).run Tryd.prog w' = .ok (.pointer (some ⟨b, o, none⟩)) w') ∧ w.cell? ⟨b, o, none⟩ = some (.int .i64 k) ∧ w.cell? ⟨b, o + 1, none⟩ = some (.string T) ∧ w.cell? ⟨b, o + 2, none⟩ = some (.int .i64 p) ∧ xs[i].1 = k ∧ strOfNums xs[i].2.1 = T ∧ xs[i].2.2 = p := by
  obtain ⟨b, o, c0, c1, c2, r, e0, e1, e2, hR⟩ := slr_idx3 h uK zK i h1
  simp only [tokR, tkC, List.cons.injEq] at hR
  obtain ⟨rfl, rfl, rfl, _⟩ := hR
  exact ⟨b, o, _, _, _, r, e0, e1, e2, rfl, rfl, rfl⟩
theorem tokR_below {w w' : World} (cs : List Value) (x : Tk) (h : tokR w cs x) : tokR w' cs x := h

theorem tok_str : Tryd.prog.underlying 33 = some (.struct (Tryd.prog.fieldsOf 33)) := by kernel_rfl
theorem tok_held : Tryd.prog.stoodInHeld 33 = false := by kernel_rfl
theorem tok_guard : Tryd.prog.eqGuardType Tryd.prog.depth 33 = false := by kernel_rfl
theorem tok_neq (w : World) (k1 p1 k2 p2 : Int) (T1 T2 : ByteArray) : (binOp .neq 33 (.agg #[.int .i64 k1, .string T1, .int .i64 p1]) (.agg #[.int .i64 k2, .string T2, .int .i64 p2])).run Tryd.prog w = .ok (.bool (!(k1 == k2 && (T1.toList == T2.toList && p1 == p2)))) w := by
  rw [run_neq_struct, run_equalIn_agg w _ _ _ _ tok_str tok_held]
  cases h1 : (k1 == k2) <;> cases h2 : (T1.toList == T2.toList) <;> cases h3 : (p1 == p2)
  all_goals simp [go_sem, h1, h2, h3]

set_option maxHeartbeats 1000000 in
theorem w_r6same (va vb : Value) (xs ys : List Tk) (w : World) (ha : SlR 3 tokR w va xs) (hb : SlR 3 tokR w vb ys) (bx : ∀ x ∈ xs, bytesL x.2.1) (by' : ∀ x ∈ ys, bytesL x.2.1) :
    Calls Tryd.prog 11 #[va, vb] w fun e w' => e = .returned (.bool (decide (xs = ys))) ∧ Below w.heap.size w w' := by
  have hla := slr_len ha uK (P := Tryd.prog)
  have hlb := slr_len hb uK (P := Tryd.prog)
  have hma := slr_max ha
  have hmb := slr_max hb
  unfold maxLen at hma hmb
  by_cases hl : xs.length = ys.length
  · have hn : ((xs.length : Int) != (ys.length : Int)) = false := by simp [hl]
    have Hl := hid hl
    clear hl
    go_enter Tryd.func11, Tryd.ntmps11
    go_wp2_with fail
    go_loopw [5] (fun i wx => ∃ k : Nat, (k : Int) ≤ xs.length ∧ i = .int .i64 k ∧ Hid (xs.take k = ys.take k) ∧ Below w.heap.size w wx) (fun i _ => (xs.length - intOf i).toNat)
    case atStart => exact ⟨0, by omega, rfl, hid (by simp), Below.refl _ _⟩
    case round =>
      obtain ⟨j, hj, rfl, ht, hg⟩ := hrel
      by_cases hlt : (j : Int) < xs.length
      · have hka : j < xs.length := by omega
        have hkb : j < ys.length := by have := Hl.out; omega
        obtain ⟨b1, o1, k1, p1, T1, r1, a0, a1, a2, e0, e1, e2⟩ := tok_at (ha.below hg tokR_below) j hka
        obtain ⟨b2, o2, k2, p2, T2, r2, d0, d1, d2, f0, f1, f2⟩ := tok_at (hb.below hg tokR_below) j hkb
        have hne := fun w => tok_neq w k1 p1 k2 p2 T1 T2
        have hgd := fun w x y => run_eqGuard_agg (P := Tryd.prog) w .neq 33 x y #[.int .i64 k1, .string T1, .int .i64 p1] #[.int .i64 k2, .string T2, .int .i64 p2] tok_guard
        have hq : (k1 == k2 && (T1.toList == T2.toList && p1 == p2)) = decide (xs[j] = ys[j]) := by
          rw [str_eq_L, ← e1, ← f1, show L (strOfNums xs[j].2.1) = xs[j].2.1 from LB_nums _ (bx _ (List.getElem_mem hka)), show L (strOfNums ys[j].2.1) = ys[j].2.1 from LB_nums _ (by' _ (List.getElem_mem hkb)), ← e0, ← f0, ← e2, ← f2]
          rw [Bool.eq_iff_iff]
          simp [Prod.ext_iff]
        by_cases hxy : xs[j] = ys[j]
        · have ht2 : Hid (xs.take (j + 1) = ys.take (j + 1)) := by
            show _ = _
            rw [List.take_succ_eq_append_getElem hka, List.take_succ_eq_append_getElem hkb, ht.out, hxy]
          rw [show decide (xs[j] = ys[j]) = true by simp [hxy]] at hq
          simp only [hq, Bool.not_true] at hne
          clear e0 e1 e2 f0 f1 f2 hq hxy
          go_wp2_with fail
          go_quiet (fail)
          go_wp2_with fail
          go_roundw
          case rel => exact ⟨j + 1, by omega, by go_num, ht2, below_drewN hg _⟩
          case measure => simp [intOf]; omega
        · have hf : Hid (decide (xs = ys) = false) := by
            show _ = _
            simp
            intro h
            subst h
            exact hxy rfl
          rw [show decide (xs[j] = ys[j]) = false by simp [hxy]] at hq
          simp only [hq, Bool.not_false] at hne
          clear e0 e1 e2 f0 f1 f2 hq hxy
          go_wp2_with fail
          go_quiet (fail)
          go_wp2_with fail
          go_ret
          exact ⟨ret_b hf.out.symm, below_drewN hg _⟩
      · have hf : Hid (decide (xs = ys) = true) := by
          show _ = _
          have h1 : xs.take j = xs := List.take_of_length_le (by omega)
          have h2 : ys.take j = ys := List.take_of_length_le (by have := Hl.out; omega)
          have := ht.out
          rw [h1, h2] at this
          simp [this]
        go_wp2_with fail
        go_ret
        exact ⟨ret_b hf.out.symm, hg⟩
  · have hf : Hid (decide (xs = ys) = false) := by show _ = _; simp; intro h; exact hl (by rw [h])
    have hn : ((xs.length : Int) != (ys.length : Int)) = true := by simp; omega
    clear hl
    go_enter Tryd.func11, Tryd.ntmps11
    go_wp2_with fail
    go_ret
    exact ⟨ret_b hf.out.symm, Below.refl _ _⟩
end Go.Proofs.YtpjkjkjoaapdiaaDoor
