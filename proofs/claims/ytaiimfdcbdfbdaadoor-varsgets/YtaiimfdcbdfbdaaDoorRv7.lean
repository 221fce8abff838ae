/-
  Encode, Same of the document's answer for layer 19.
-/
import Derived.Test.YtaiimfdcbdfbdaaDoorRv6
namespace Go.Proofs.YtaiimfdcbdfbdaaDoor
open Go.ChangeShapes Go.WideShapes Go.ChangeAt Go.RowKit
set_option linter.unusedVariables false
set_option linter.unusedSimpArgs false

set_option maxHeartbeats 1000000 in
theorem w_rencode19 (v : Value) (l : List Stt) (w : World) (h : SlR 2 stR w v l) :
    Calls Tryd.prog 25 #[v] w fun e w' => ∃ v', e = .returned (.tuple #[v', .int .i64 (vaEn l).2]) ∧ Own8 w.heap.size w' v' (vaEn l).1 ∧ Below w.heap.size w w' := by
  have cR := w_rright v l w h
  unfold vaEn
  cases hR : vaG (-1) l
  · rw [hR] at cR
    simp only [Bool.false_eq_true, if_false]
    clear hR
    go_enter Tryd.func25, Tryd.ntmps25
    go_wp2_with (go_at_call 23; refine cR.mono ?_; rintro e w1 ⟨rfl, b1⟩)
    go_ret2
    exact ⟨_, rfl, World.ownsRow_nil _ _ _ _, b1⟩
  · rw [hR] at cR
    simp only [if_true]
    have cB := fun w h => w_rbytes19 v l w h hR
    clear hR
    generalize vaB l = B at cB ⊢
    by_cases hL : 248 < B.length
    · rw [if_pos hL]
      go_enter Tryd.func25, Tryd.ntmps25
      go_wp2_with (first
        | (go_at_call 23; refine cR.mono ?_; rintro e w1 ⟨rfl, b1⟩; have h1 := h.below b1 stR_below)
        | (go_at_call 38; refine (cB _ h1).mono ?_; rintro e w2 ⟨v2, rfl, o2, b2⟩; have hl2 := rd_len (Rd_own o2).1 uB (P := Tryd.prog)))
      go_ret2
      exact ⟨_, rfl, World.ownsRow_nil _ _ _ _, below_trans b1 b2⟩
    · rw [if_neg hL]
      go_enter Tryd.func25, Tryd.ntmps25
      go_wp2_with (first
        | (go_at_call 23; refine cR.mono ?_; rintro e w1 ⟨rfl, b1⟩; have h1 := h.below b1 stR_below)
        | (go_at_call 38; refine (cB _ h1).mono ?_; rintro e w2 ⟨v2, rfl, o2, b2⟩; have hl2 := rd_len (Rd_own o2).1 uB (P := Tryd.prog)))
      go_ret2
      refine ⟨_, rfl, ?_, below_trans b1 b2⟩
      obtain ⟨hl, h⟩ := o2
      refine ⟨hl, ?_⟩
      rcases h with h | ⟨b, cap, cur, rfl, hb2, hg, hc, hm, hs, ht⟩
      · exact Or.inl h
      · exact Or.inr ⟨b, cap, cur, rfl, Nat.le_trans b1.size hb2, hg, hc, hm, hs, ht⟩

set_option maxHeartbeats 1000000 in
theorem w_rsame19 (va vb : Value) (xs ys : List Stt) (w : World) (ha : SlR 2 stR w va xs) (hb : SlR 2 stR w vb ys) :
    Calls Tryd.prog 19 #[va, vb] w fun e w' => e = .returned (.bool (decide (xs = ys))) ∧ Below w.heap.size w w' := by
  have hla := slr_len ha uSt (P := Tryd.prog)
  have hlb := slr_len hb uSt (P := Tryd.prog)
  have hma := slr_max ha
  have hmb := slr_max hb
  unfold maxLen at hma hmb
  by_cases hl : xs.length = ys.length
  · have hn : ((xs.length : Int) != (ys.length : Int)) = false := by simp [hl]
    have Hl := hid hl
    clear hl
    go_enter Tryd.func19, Tryd.ntmps19
    go_wp2_with fail
    go_loopw [5] (fun i wx => ∃ k : Nat, (k : Int) ≤ xs.length ∧ i = .int .i64 k ∧ Hid (xs.take k = ys.take k) ∧ Below w.heap.size w wx) (fun i _ => (xs.length - intOf i).toNat)
    case atStart => exact ⟨0, by omega, rfl, hid (by simp), Below.refl _ _⟩
    case round =>
      obtain ⟨j, hj, rfl, ht, hg⟩ := hrel
      by_cases hlt : (j : Int) < xs.length
      · have hka : j < xs.length := by omega
        have hkb : j < ys.length := by have := Hl.out; omega
        obtain ⟨b1, o1, k1, n1, r1, a0, a1, e0, _⟩ := st_at (ha.below hg stR_below) j hka
        obtain ⟨b2, o2, k2, n2, r2, d0, d1, f0, _⟩ := st_at (hb.below hg stR_below) j hkb
        have hne := fun w => st_neq w k1 n1 k2 n2
        have hgd := fun w x y => run_eqGuard_agg (P := Tryd.prog) w .neq 46 x y #[.string k1, .string n1] #[.string k2, .string n2] st_guard
        have hq : (decide (k1 = k2) && decide (n1 = n2)) = decide (xs[j] = ys[j]) := by
          rw [e0, f0, Bool.eq_iff_iff]
          simp
        by_cases hxy : xs[j] = ys[j]
        · have ht2 : Hid (xs.take (j + 1) = ys.take (j + 1)) := by
            show _ = _
            rw [List.take_succ_eq_append_getElem hka, List.take_succ_eq_append_getElem hkb, ht.out, hxy]
          rw [show decide (xs[j] = ys[j]) = true by simp [hxy]] at hq
          simp only [hq, Bool.not_true] at hne
          clear e0 f0 hq hxy
          go_wp2_with fail
          go_quiet (fail)
          go_wp2_with fail
          go_roundw
          case rel => exact ⟨j + 1, by omega, by go_num, ht2, below_drewN hg _⟩
          case measure => simp [intOf]; omega
        · have hf : Hid (decide (xs = ys) = false) := by
            show _ = _
            simp
            intro h
            subst h
            exact hxy rfl
          rw [show decide (xs[j] = ys[j]) = false by simp [hxy]] at hq
          simp only [hq, Bool.not_false] at hne
          clear e0 f0 hq hxy
          go_wp2_with fail
          go_quiet (fail)
          go_wp2_with fail
          go_ret
          exact ⟨ret_b hf.out.symm, below_drewN hg _⟩
      · have hf : Hid (decide (xs = ys) = true) := by
          show _ = _
          have h1 := ht.out
          rw [List.take_of_length_le (by omega), List.take_of_length_le (by have := Hl.out; omega)] at h1
          simpa using h1
        go_wp2_with fail
        go_ret
        exact ⟨ret_b hf.out.symm, hg⟩
  · have hn : ((xs.length : Int) != (ys.length : Int)) = true := by simp; omega
    have hf : decide (xs = ys) = false := by simp; intro h; exact hl (by rw [h])
    rw [hf]
    clear hl hf
    go_enter Tryd.func19, Tryd.ntmps19
    go_wp2_with fail
    go_ret
    exact ⟨rfl, Below.refl _ _⟩
end Go.Proofs.YtaiimfdcbdfbdaaDoor
