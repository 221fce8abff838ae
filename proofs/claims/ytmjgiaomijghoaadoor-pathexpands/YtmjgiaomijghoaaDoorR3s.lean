/-
  Same and Copy of the document's answer: the one tells whether two lists are one, the other returns the list in new memory, for all lists.
-/
import Derived.Test.YtmjgiaomijghoaaDoorProg
import Derived.Test.YtmjgiaomijghoaaDoorSl
namespace Go.Proofs.YtmjgiaomijghoaaDoor
open Go.ChangeShapes Go.WideShapes Go.ChangeAt Go.RowKit
set_option linter.unusedVariables false
set_option linter.unusedSimpArgs false

theorem same_take (xs ys : List Int) (k : Nat) (h1 : k < xs.length) (h2 : k < ys.length) (h : xs.take k = ys.take k) (e : xs.getD k 0 = ys.getD k 0) : xs.take (k + 1) = ys.take (k + 1) := by
  rw [List.take_succ_eq_append_getElem h1, List.take_succ_eq_append_getElem h2, h]
  simp [List.getD_eq_getElem?_getD, List.getElem?_eq_getElem h1, List.getElem?_eq_getElem h2] at e
  rw [e]
theorem ne_at (xs ys : List Int) (k : Nat) (e : ¬ xs.getD k 0 = ys.getD k 0) : ¬ xs = ys := fun h => e (by rw [h])

set_option maxHeartbeats 1000000 in
theorem w_r3same (va vb : Value) (xs ys : List Int) (w : World) (ha : Rd .u32 w va xs) (hb : Rd .u32 w vb ys) :
    Calls Tryd.prog 23 #[va, vb] w fun e w' => e = .returned (.bool (decide (xs = ys))) ∧ Below w.heap.size w w' := by
  rcases ha with ⟨ao, ca, rfl, hao, rfl⟩ | ⟨b, off, ca, rfl, a0, a1, a2, hca⟩
  · rcases hb with ⟨bo, cb, rfl, hbo, rfl⟩ | ⟨b', off', cb, rfl, b0, b1, b2, hcb⟩
    · go_enter Tryd.func23, Tryd.ntmps23
      go_wp2
      go_rounds 1
      go_ret
      exact ⟨ret_b (by simp), Below.refl _ _⟩
    · have hf : Hid (decide (([] : List Int) = ys) = false) := by show _ = _; simp; intro h; subst h; simp at b0
      have hn : ((0 : Int) != (ys.length : Int)) = true := by simp; omega
      go_enter Tryd.func23, Tryd.ntmps23
      go_wp2
      all_goals go_ret
      all_goals exact ⟨ret_b hf.out.symm, Below.refl _ _⟩
  · rcases hb with ⟨bo, cb, rfl, hbo, rfl⟩ | ⟨b', off', cb, rfl, b0, b1, b2, hcb⟩
    · have hf : Hid (decide (xs = ([] : List Int)) = false) := by show _ = _; simp; intro h; subst h; simp at a0
      have hn : ((xs.length : Int) != (0 : Int)) = true := by simp; intro h; subst h; simp at a0
      go_enter Tryd.func23, Tryd.ntmps23
      go_wp2
      all_goals go_ret
      all_goals exact ⟨ret_b hf.out.symm, Below.refl _ _⟩
    · unfold maxLen at a2 b2
      by_cases hl : xs.length = ys.length
      · have hn : ((xs.length : Int) != (ys.length : Int)) = false := by simp [hl]
        have Hl := hid hl
        have HA := hid hca
        have HB := hid hcb
        clear hl hca hcb
        go_enter Tryd.func23, Tryd.ntmps23
        go_wp2
        go_loopw [5] (fun i wx => ∃ k : Nat, (k : Int) ≤ xs.length ∧ i = .int .i64 k ∧ Hid (xs.take k = ys.take k) ∧ Below w.heap.size w wx) (fun i _ => (xs.length - intOf i).toNat)
        case atStart => exact ⟨0, by omega, rfl, hid (by simp), Below.refl _ _⟩
        case round =>
          obtain ⟨k, hk, rfl, ht, hg⟩ := hrel
          by_cases hlt : (k : Int) < xs.length
          · have c1 := below_cell hg (HA.out k (by omega))
            have c2 := below_cell hg (HB.out k (by have := Hl.out; omega))
            have hlt2 : (k : Int) < (ys.length : Int) := by have := Hl.out; omega
            obtain ⟨x, hx⟩ : ∃ x, xs.getD k 0 = x := ⟨_, rfl⟩
            obtain ⟨y, hy⟩ : ∃ y, ys.getD k 0 = y := ⟨_, rfl⟩
            rw [hx] at c1
            rw [hy] at c2
            by_cases hxy : x = y
            · have ht2 : Hid (xs.take (k + 1) = ys.take (k + 1)) := same_take xs ys k (by omega) (by omega) ht.out (by rw [hx, hy, hxy])
              have hb : (x != y) = false := by simp [hxy]
              clear hx hy hxy
              go_wp2
              go_quiet (fail)
              go_wp2
              go_roundw
              case rel => exact ⟨k + 1, by omega, by go_num, ht2, below_drewN hg _⟩
              case measure => simp [intOf]; omega
            · have hf : Hid (decide (xs = ys) = false) := by show _ = _; simp; exact ne_at xs ys k (by rw [hx, hy]; exact hxy)
              have hb : (x != y) = true := by simp [hxy]
              clear hx hy hxy
              go_wp2
              go_quiet (fail)
              go_wp2
              go_ret
              exact ⟨ret_b hf.out.symm, below_drewN hg _⟩
          · have hf : Hid (decide (xs = ys) = true) := by
              show _ = _
              have h1 : xs.take k = xs := List.take_of_length_le (by omega)
              have h2 : ys.take k = ys := List.take_of_length_le (by have := Hl.out; omega)
              have := ht.out
              rw [h1, h2] at this
              simp [this]
            go_wp2
            go_ret
            exact ⟨ret_b hf.out.symm, hg⟩
      · have hf : Hid (decide (xs = ys) = false) := by show _ = _; simp; intro h; exact hl (by rw [h])
        have hn : ((xs.length : Int) != (ys.length : Int)) = true := by simp; omega
        clear hl
        go_enter Tryd.func23, Tryd.ntmps23
        go_wp2
        go_ret
        exact ⟨ret_b hf.out.symm, Below.refl _ _⟩

theorem infoU32 : (Tryd.prog.info? 37).map (fun i => (i.zero, i.size, i.bytes)) = some (some (.int .u32 0), 1, 4) := by kernel_rfl

end Go.Proofs.YtmjgiaomijghoaaDoor
