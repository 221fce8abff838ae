/-
  Same of the document's answer for steps.
-/
import Derived.Test.YtmjgiaomijghoaaDoorRa3
import Derived.Test.YtmjgiaomijghoaaDoorR3q
namespace Go.Proofs.YtmjgiaomijghoaaDoor
open Go.ChangeShapes Go.WideShapes Go.ChangeAt Go.RowKit
set_option linter.unusedVariables false
set_option linter.unusedSimpArgs false

theorem uP : Tryd.prog.underlying 23 = some (.slice (Tryd.prog.elem 23)) := by kernel_rfl
theorem eP : Tryd.prog.elem 23 = 40 := by kernel_rfl
theorem zP (w : World) : (sizeOf (Tryd.prog.elem 23)).run Tryd.prog w = .ok 3 w := by rw [eP]; exact Tryd.sizeOf40 w
theorem stp_at {w : World} {v : Value} {xs : List Sp} (h : SlR 3 stpR w v xs) (i : Nat) (h1 : i < xs.length) :
    ∃ (b o : Nat) (nm ar : ByteArray) (ao : Option Addr) (n cap : Nat), (∀ w', (Instr.indexAt 23 v (.int .i64 (i : Int))).run Tryd.prog w' = .ok (.pointer (some ⟨b, o, none⟩)) w') ∧ w.cell? ⟨b, o, none⟩ = some (.string nm) ∧ w.cell? ⟨b, o + 1, none⟩ = some (.slice ao n cap) ∧ w.cell? ⟨b, o + 2, none⟩ = some (.string ar) ∧ strOfNums xs[i].1 = nm ∧ strOfNums xs[i].2.2 = ar ∧ Rd .u32 w (.slice ao n cap) xs[i].2.1 := by
  obtain ⟨b, o, c0, c1, c2, r, e0, e1, e2, u, hR, hU⟩ := slr_idx3 h uP zP i h1
  simp only [List.cons.injEq] at hR
  obtain ⟨rfl, rfl, rfl, _⟩ := hR
  obtain ⟨ao, cap, rfl, _⟩ := rd_form hU
  exact ⟨b, o, _, _, ao, _, cap, r, e0, e1, e2, rfl, rfl, hU⟩
theorem str_ne_L (A B : ByteArray) (a b : List Int) (ha : bytesL a) (hb : bytesL b) (h1 : strOfNums a = A) (h2 : strOfNums b = B) : (A.toList == B.toList) = decide (a = b) := by
  rw [str_beq, ← h1, ← h2]
  simp only [nums_eq a b ha hb]

set_option maxHeartbeats 4000000 in
set_option maxRecDepth 100000 in
theorem w_r7same (va vb : Value) (xs ys : List Sp) (w : World) (ha : SlR 3 stpR w va xs) (hb : SlR 3 stpR w vb ys) (bx : ∀ x ∈ xs, bytesL x.1 ∧ bytesL x.2.2) (by' : ∀ x ∈ ys, bytesL x.1 ∧ bytesL x.2.2) :
    Calls Tryd.prog 11 #[va, vb] w fun e w' => e = .returned (.bool (decide (xs = ys))) ∧ Below w.heap.size w w' := by
  have hla := slr_len ha uP (P := Tryd.prog)
  have hlb := slr_len hb uP (P := Tryd.prog)
  have hma := slr_max ha
  have hmb := slr_max hb
  unfold maxLen at hma hmb
  by_cases hl : xs.length = ys.length
  · have hn : ((xs.length : Int) != (ys.length : Int)) = false := by simp [hl]
    have Hl := hid hl
    clear hl
    go_enter Tryd.func11, Tryd.ntmps11
    go_wp2_with fail
    go_loopw [5] (fun i wx => ∃ k : Nat, (k : Int) ≤ xs.length ∧ i = .int .i64 k ∧ Hid (xs.take k = ys.take k) ∧ Below w.heap.size w wx) (fun i _ => (xs.length - intOf i).toNat)
    case atStart => exact ⟨0, by omega, rfl, hid (by simp), Below.refl _ _⟩
    case round =>
      obtain ⟨j, hj, rfl, ht, hg⟩ := hrel
      by_cases hlt : (j : Int) < xs.length
      · have hka : j < xs.length := by omega
        have hkb : j < ys.length := by have := Hl.out; omega
        obtain ⟨b1, o1, N1, A1, ao1, n1, cp1, r1, a0, a1, a2, e0, e2, u1⟩ := stp_at (ha.below hg (stpR_below hg)) j hka
        obtain ⟨b2, o2, N2, A2, ao2, n2, cp2, r2, d0, d1, d2, f0, f2, u2⟩ := stp_at (hb.below hg (stpR_below hg)) j hkb
        have hN := str_ne_L N1 N2 _ _ (bx _ (List.getElem_mem hka)).1 (by' _ (List.getElem_mem hkb)).1 e0 f0
        have hA := str_ne_L A1 A2 _ _ (bx _ (List.getElem_mem hka)).2 (by' _ (List.getElem_mem hkb)).2 e2 f2
        have cu := fun w (h : Rd .u32 w (.slice ao1 n1 cp1) xs[j].2.1) (g : Rd .u32 w (.slice ao2 n2 cp2) ys[j].2.1) => w_r3sameQ (.slice ao1 n1 cp1) (.slice ao2 n2 cp2) xs[j].2.1 ys[j].2.1 w h g
        have hf : ¬ xs[j] = ys[j] → Hid (decide (xs = ys) = false) := by
          intro hxy
          show _ = _
          simp
          intro h
          subst h
          exact hxy rfl
        by_cases h1 : xs[j].1 = ys[j].1
        · rw [decide_eq_true h1] at hN
          have hN2 : (N1.toList != N2.toList) = false := by simp [bne, hN]
          by_cases h2 : xs[j].2.2 = ys[j].2.2
          · rw [decide_eq_true h2] at hA
            have hA2 : (A1.toList != A2.toList) = false := by simp [bne, hA]
            by_cases h3 : xs[j].2.1 = ys[j].2.1
            · have ht2 : Hid (xs.take (j + 1) = ys.take (j + 1)) := by
                show _ = _
                rw [List.take_succ_eq_append_getElem hka, List.take_succ_eq_append_getElem hkb, ht.out]
                congr 2
                exact Prod.ext h1 (Prod.ext h3 h2)
              rw [decide_eq_true h3] at cu
              clear hf h1 h2 h3 e0 e2 f0 f2
              go_wp2_with fail
              go_quiet (first | (go_at_call 23; exact Calls.quiet_of (cu _ (u1.below (below_drewN (Below.refl _ _) _)) (u2.below (below_drewN (Below.refl _ _) _)))))
              go_wp2_with fail
              go_roundw
              case rel => exact ⟨j + 1, by omega, by go_num, ht2, below_drewN hg _⟩
              case measure => simp [intOf]; omega
            · have hf2 := hf (fun h => h3 (by rw [h]))
              rw [decide_eq_false h3] at cu
              clear hf h1 h2 h3 e0 e2 f0 f2
              go_wp2_with fail
              go_quiet (first | (go_at_call 23; exact Calls.quiet_of (cu _ (u1.below (below_drewN (Below.refl _ _) _)) (u2.below (below_drewN (Below.refl _ _) _)))))
              go_wp2_with fail
              go_ret
              exact ⟨ret_b hf2.out.symm, below_drewN hg _⟩
          · have hf2 := hf (fun h => h2 (by rw [h]))
            rw [decide_eq_false h2] at hA
            have hA2 : (A1.toList != A2.toList) = true := by simp [bne, hA]
            clear hf h1 h2 e0 e2 f0 f2
            go_wp2_with fail
            go_quiet (fail)
            go_wp2_with fail
            go_ret
            exact ⟨ret_b hf2.out.symm, below_drewN hg _⟩
        · have hf2 := hf (fun h => h1 (by rw [h]))
          rw [decide_eq_false h1] at hN
          have hN2 : (N1.toList != N2.toList) = true := by simp [bne, hN]
          clear hf h1 e0 e2 f0 f2
          go_wp2_with fail
          go_quiet (fail)
          go_wp2_with fail
          go_ret
          exact ⟨ret_b hf2.out.symm, below_drewN hg _⟩
      · have hf : Hid (decide (xs = ys) = true) := by
          show _ = _
          have h1 : xs.take j = xs := List.take_of_length_le (by omega)
          have h2 : ys.take j = ys := List.take_of_length_le (by have := Hl.out; omega)
          have := ht.out
          rw [h1, h2] at this
          simp [this]
        go_wp2_with fail
        go_ret
        exact ⟨ret_b hf.out.symm, hg⟩
  · have hf : Hid (decide (xs = ys) = false) := by show _ = _; simp; intro h; exact hl (by rw [h])
    have hn : ((xs.length : Int) != (ys.length : Int)) = true := by simp; omega
    clear hl
    go_enter Tryd.func11, Tryd.ntmps11
    go_wp2_with fail
    go_ret
    exact ⟨ret_b hf.out.symm, Below.refl _ _⟩
end Go.Proofs.YtmjgiaomijghoaaDoor
