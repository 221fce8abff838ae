/-
  Small and Value of the document's answer return the plain functions, for all bytes and bases.
-/
import Derived.Test.YtaiimfdcbdfbdaaDoorProg
import Derived.Test.YtaiimfdcbdfbdaaDoorDgs
namespace Go.Proofs.YtaiimfdcbdfbdaaDoor
open Go.ChangeShapes Go.WideShapes Go.ChangeAt Go.RowKit
set_option linter.unusedVariables false
set_option linter.unusedSimpArgs false

/-- the constant text of all digits -/
def dgs : ByteArray := ⟨#[48, 49, 50, 51, 52, 53, 54, 55, 56, 57, 97, 98, 99, 100, 101, 102, 103, 104, 105, 106, 107, 108, 109, 110, 111, 112, 113, 114, 115, 116, 117, 118, 119, 120, 121, 122]⟩
theorem dgs_at : ∀ k : Fin 36, ((dgs.data[k.val]!).toNat : Int) = dg k.val := by decide
theorem dgs_size : dgs.size = 36 := by decide
theorem dgs_get (k : Nat) (h : k < dgs.size) : ((dgs[k]'h).toNat : Int) = dg k := by
  have e := dgs_at ⟨k, by rw [dgs_size] at h; exact h⟩
  have h2 : k < dgs.data.size := h
  simp only [getElem!_pos dgs.data k h2] at e
  exact e
theorem run_dgs0 (k : Nat) (hk : (k : Int) < 36) (w : World) : (Instr.index 9 (.string dgs) (.int .i64 k)).run Tryd.prog w = .ok (.int .u8 (dg k)) w := by
  have hs : k < dgs.size := by rw [dgs_size]; omega
  rw [run_index_string _ _ _ _ _ Tryd.underlying9, dif_pos ⟨by omega, by rw [dgs_size]; omega⟩]
  simp only [Int.toNat_natCast, dgs_get k hs]
theorem run_dgs (k : Nat) (hk : (k : Int) < 36) (w : World) : (Instr.index 9 (.string ⟨#[48, 49, 50, 51, 52, 53, 54, 55, 56, 57, 97, 98, 99, 100, 101, 102, 103, 104, 105, 106, 107, 108, 109, 110, 111, 112, 113, 114, 115, 116, 117, 118, 119, 120, 121, 122]⟩) (.int .i64 k)).run Tryd.prog w = .ok (.int .u8 (dg k)) w :=
  run_dgs0 k hk w

theorem w_rsmall (c : Int) (w : World) (h0 : 0 ≤ c) (h1 : c < 256) : Calls Tryd.prog 53 #[.int .u8 c] w fun e w' => e = .returned (.int .u8 (sm c)) ∧ w' = w := by
  go_enter Tryd.func53, Tryd.ntmps53
  go_wp2
  all_goals go_ret
  all_goals exact ⟨ret_i (by unfold sm; omega), rfl⟩

set_option maxHeartbeats 400000 in
theorem w_rvalue (c b : Int) (w : World) (h0 : 0 ≤ c) (h1 : c < 256) (g0 : 0 ≤ b) (g1 : b < 4294967296) :
    Calls Tryd.prog 45 #[.int .u8 c, .int .u32 b] w fun e w' => e = .returned (.tuple #[.int .u32 (vl c b), .bool (isD c b)]) ∧ Gr w w' := by
  by_cases hb : b < 2 ∨ 36 < b
  · obtain ⟨e1, e2⟩ := isD_unfit c b hb
    rw [e1, e2]
    rcases hb with hb | hb
    · go_enter Tryd.func45, Tryd.ntmps45
      go_wp2
      go_ret2
      exact ⟨rfl, Gr.refl _⟩
    · have : ¬ b < 2 := by omega
      go_enter Tryd.func45, Tryd.ntmps45
      go_wp2
      go_ret2
      exact ⟨rfl, Gr.refl _⟩
  · have b0 : 2 ≤ b := by omega
    have b1 : b ≤ 36 := by omega
    clear hb
    obtain ⟨s0, s1⟩ := sm_bd c h0 h1
    go_enter Tryd.func45, Tryd.ntmps45
    go_wp2
    go_loopw [6] (fun i wx => ∃ k : Nat, (k : Int) ≤ b ∧ i = .int .i64 k ∧ (∀ j : Nat, j < k → ¬ dg j = sm c) ∧ Gr w wx) (fun i _ => (b - intOf i).toNat)
    case atStart => exact ⟨0, by omega, rfl, fun j hj => absurd hj (by omega), Gr.refl _⟩
    case round =>
      obtain ⟨k, hk, rfl, hm, hgr⟩ := hrel
      have HM : Hid (∀ j : Nat, j < k → ¬ dg j = sm c) := hm
      clear hm
      by_cases hlt : (k : Int) < b
      · have hr := run_dgs k (by omega)
        by_cases he : dg k = sm c
        · obtain ⟨e1, e2⟩ := isD_hit c b k h0 h1 b0 b1 (by omega) hlt he
          have E1 : Hid (isD c b = true) := e1
          have E2 : Hid (vl c b = k) := e2
          clear e1 e2
          go_wp2
          go_quiet ((go_at_call 53; exact Calls.quiet_of_same (w_rsmall _ _ h0 h1)))
          go_wp2
          go_ret2
          exact ⟨ret_ib E2.out.symm E1.out.symm, grown_drewN hgr _⟩
        · go_wp2
          go_quiet ((go_at_call 53; exact Calls.quiet_of_same (w_rsmall _ _ h0 h1)))
          go_wp2
          go_roundw
          case rel =>
            refine ⟨k + 1, by omega, by go_num, fun j hj => ?_, grown_drewN hgr _⟩
            by_cases hjk : j = k
            · subst hjk; exact he
            · exact HM.out j (by omega)
          case measure => simp [intOf]; omega
      · obtain ⟨e1, e2⟩ := isD_miss c b h0 h1 (fun j hj => HM.out j (by omega))
        have E1 : Hid (isD c b = false) := e1
        have E2 : Hid (vl c b = 0) := e2
        clear e1 e2
        go_wp2
        go_ret2
        exact ⟨ret_ib E2.out.symm E1.out.symm, hgr⟩

end Go.Proofs.YtaiimfdcbdfbdaaDoor
