/-
  One number of a unit address, as package prop reads it.
-/
import Derived.Test.YtmjgiaomijghoaaDoorPlp
namespace Go.Proofs.YtmjgiaomijghoaaDoor
open Go.ChangeShapes Go.WideShapes Go.ChangeAt Go.RowKit
set_option linter.unusedVariables false
set_option linter.unusedSimpArgs false

set_option maxHeartbeats 4000000 in
theorem w_unitn (t : ByteArray) (w : World) (hs : t.size ≤ maxLen) (hT : Tab w) :
    Calls Tryd.prog 58 #[.string t] w fun e w' => ∃ n, e = .returned (.tuple #[.int .u32 n, .bool (pcOk (L t))]) ∧ (pcOk (L t) = true → n = num 16 (L t)) ∧ Below w.heap.size w w' := by
  unfold maxLen at hs
  by_cases h8 : (8 : Int) < t.size
  · have e : pcOk (L t) = false := by unfold pcOk; rw [L_len, show decide (1 ≤ t.size ∧ t.size ≤ 8) = false by simp; omega]; rfl
    rw [e]
    go_enter Tryd.func58, Tryd.ntmps58
    go_wp2_with fail
    go_ret2
    exact ⟨_, rfl, (fun h => by cases h), Below.refl _ _⟩
  · cases hok : pcOk (L t)
    · have c := fun w hT => w_spu_no t w (by omega) hok hT
      clear hok
      go_enter Tryd.func58, Tryd.ntmps58
      go_wp2_with (go_at_call 72; refine (c _ hT).mono ?_; rintro e w1 ⟨T, p, rfl, hb⟩)
      go_quiet (fail)
      go_wp2_with fail
      go_ret2
      exact ⟨_, rfl, (fun h => by cases h), below_drewN hb _⟩
    · have c := fun w => w_spu_ok t w (by omega) hok
      have hn := pc_num (L t) (LB_bytes t) hok
      obtain ⟨n, hnn⟩ : ∃ n, num 16 (L t) = n := ⟨_, rfl⟩
      rw [hnn] at hn ⊢
      simp only [hnn] at c
      obtain ⟨n0, n1⟩ := hn
      clear hok hnn
      go_enter Tryd.func58, Tryd.ntmps58
      go_wp2_with (go_at_call 72; refine (c _).mono ?_; rintro e w1 ⟨rfl, hb⟩)
      go_quiet (fail)
      go_wp2_with fail
      go_ret2
      exact ⟨n, rfl, fun _ => rfl, below_drewN hb _⟩
end Go.Proofs.YtmjgiaomijghoaaDoor
