/-
  Same of lists of cells, of the document's answer, that it only draws: for regions that draw their order.
-/
import Derived.Test.YtmjgiaomijghoaaDoorR3s
namespace Go.Proofs.YtmjgiaomijghoaaDoor
open Go.ChangeShapes Go.WideShapes Go.ChangeAt Go.RowKit
set_option linter.unusedVariables false
set_option linter.unusedSimpArgs false

/-- but for draws the same world -/
def Dr (w w' : World) : Prop := ∃ m, w' = w.drewN m
theorem dr_refl (w : World) : Dr w w := ⟨0, rfl⟩
theorem dr_more {w w' : World} (h : Dr w w') (n : Nat) : Dr w (w'.drewN n) := by
  obtain ⟨m, rfl⟩ := h
  exact ⟨m + n, by rw [World.drewN_drewN]⟩
theorem dr_below {w w' : World} (h : Dr w w') : Below w.heap.size w w' := by
  obtain ⟨m, rfl⟩ := h
  exact below_drewN (Below.refl _ _) m

set_option maxHeartbeats 1000000 in
theorem w_r3sameQ (va vb : Value) (xs ys : List Int) (w : World) (ha : Rd .u32 w va xs) (hb : Rd .u32 w vb ys) :
    Calls Tryd.prog 23 #[va, vb] w fun e w' => e = .returned (.bool (decide (xs = ys))) ∧ Dr w w' := by
  rcases ha with ⟨ao, ca, rfl, hao, rfl⟩ | ⟨b, off, ca, rfl, a0, a1, a2, hca⟩
  · rcases hb with ⟨bo, cb, rfl, hbo, rfl⟩ | ⟨b', off', cb, rfl, b0, b1, b2, hcb⟩
    · go_enter Tryd.func23, Tryd.ntmps23
      go_wp2
      go_rounds 1
      go_ret
      exact ⟨ret_b (by simp), dr_refl _⟩
    · have hf : Hid (decide (([] : List Int) = ys) = false) := by show _ = _; simp; intro h; subst h; simp at b0
      have hn : ((0 : Int) != (ys.length : Int)) = true := by simp; omega
      go_enter Tryd.func23, Tryd.ntmps23
      go_wp2
      all_goals go_ret
      all_goals exact ⟨ret_b hf.out.symm, dr_refl _⟩
  · rcases hb with ⟨bo, cb, rfl, hbo, rfl⟩ | ⟨b', off', cb, rfl, b0, b1, b2, hcb⟩
    · have hf : Hid (decide (xs = ([] : List Int)) = false) := by show _ = _; simp; intro h; subst h; simp at a0
      have hn : ((xs.length : Int) != (0 : Int)) = true := by simp; intro h; subst h; simp at a0
      go_enter Tryd.func23, Tryd.ntmps23
      go_wp2
      all_goals go_ret
      all_goals exact ⟨ret_b hf.out.symm, dr_refl _⟩
    · unfold maxLen at a2 b2
      by_cases hl : xs.length = ys.length
      · have hn : ((xs.length : Int) != (ys.length : Int)) = false := by simp [hl]
        have Hl := hid hl
        have HA := hid hca
        have HB := hid hcb
        clear hl hca hcb
        go_enter Tryd.func23, Tryd.ntmps23
        go_wp2
        go_loopw [5] (fun i wx => ∃ k : Nat, (k : Int) ≤ xs.length ∧ i = .int .i64 k ∧ Hid (xs.take k = ys.take k) ∧ Dr w wx) (fun i _ => (xs.length - intOf i).toNat)
        case atStart => exact ⟨0, by omega, rfl, hid (by simp), dr_refl _⟩
        case round =>
          obtain ⟨k, hk, rfl, ht, hg⟩ := hrel
          by_cases hlt : (k : Int) < xs.length
          · have c1 := below_cell (dr_below hg) (HA.out k (by omega))
            have c2 := below_cell (dr_below hg) (HB.out k (by have := Hl.out; omega))
            have hlt2 : (k : Int) < (ys.length : Int) := by have := Hl.out; omega
            obtain ⟨x, hx⟩ : ∃ x, xs.getD k 0 = x := ⟨_, rfl⟩
            obtain ⟨y, hy⟩ : ∃ y, ys.getD k 0 = y := ⟨_, rfl⟩
            rw [hx] at c1
            rw [hy] at c2
            by_cases hxy : x = y
            · have ht2 : Hid (xs.take (k + 1) = ys.take (k + 1)) := same_take xs ys k (by omega) (by omega) ht.out (by rw [hx, hy, hxy])
              have hb : (x != y) = false := by simp [hxy]
              clear hx hy hxy
              go_wp2
              go_quiet (fail)
              go_wp2
              go_roundw
              case rel => exact ⟨k + 1, by omega, by go_num, ht2, dr_more hg _⟩
              case measure => simp [intOf]; omega
            · have hf : Hid (decide (xs = ys) = false) := by show _ = _; simp; exact ne_at xs ys k (by rw [hx, hy]; exact hxy)
              have hb : (x != y) = true := by simp [hxy]
              clear hx hy hxy
              go_wp2
              go_quiet (fail)
              go_wp2
              go_ret
              exact ⟨ret_b hf.out.symm, dr_more hg _⟩
          · have hf : Hid (decide (xs = ys) = true) := by
              show _ = _
              have h1 : xs.take k = xs := List.take_of_length_le (by omega)
              have h2 : ys.take k = ys := List.take_of_length_le (by have := Hl.out; omega)
              have := ht.out
              rw [h1, h2] at this
              simp [this]
            go_wp2
            go_ret
            exact ⟨ret_b hf.out.symm, hg⟩
      · have hf : Hid (decide (xs = ys) = false) := by show _ = _; simp; intro h; exact hl (by rw [h])
        have hn : ((xs.length : Int) != (ys.length : Int)) = true := by simp; omega
        clear hl
        go_enter Tryd.func23, Tryd.ntmps23
        go_wp2
        go_ret
        exact ⟨ret_b hf.out.symm, dr_refl _⟩
end Go.Proofs.YtmjgiaomijghoaaDoor
