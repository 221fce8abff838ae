/-
  Named of the document's answer for properties, that it only draws: for regions that draw their order.
-/
import Derived.Test.YtmjgiaomijghoaaDoorRp1
import Derived.Test.YtmjgiaomijghoaaDoorR3q
namespace Go.Proofs.YtmjgiaomijghoaaDoor
open Go.ChangeShapes Go.WideShapes Go.ChangeAt Go.RowKit
set_option linter.unusedVariables false
set_option linter.unusedSimpArgs false

set_option maxHeartbeats 1000000 in
set_option maxRecDepth 100000 in
theorem w_rnamedQ (s : ByteArray) (w : World) (hs : s.size ≤ maxLen) :
    Calls Tryd.prog 29 #[.string s] w fun e w' => e = .returned (.bool (nmF (L s))) ∧ Dr w w' := by
  have hs2 := hs
  unfold maxLen at hs2
  have z0 := run_bad 0 (by omega)
  have z1 := run_bad 1 (by omega)
  have z2 := run_bad 2 (by omega)
  have z3 := run_bad 3 (by omega)
  have z4 := run_bad 4 (by omega)
  have z5 := run_bad 5 (by omega)
  simp only [List.getD_eq_getElem?_getD, List.getElem?_cons_zero, List.getElem?_cons_succ, Option.getD_some, Int.cast_ofNat_Int] at z0 z1 z2 z3 z4 z5
  by_cases h1 : 1 ≤ s.size ∧ s.size ≤ 31
  · obtain ⟨h1, h31⟩ := h1
    go_enter Tryd.func29, Tryd.ntmps29
    go_wp2_with fail
    go_loopw [3] (fun I wx => ∃ (k : Nat), (k : Int) ≤ s.size ∧ I = .int .i64 k ∧ Hid (((L s).take k).all nmC = true) ∧ Dr w wx) (fun I _ => (s.size - intOf I).toNat)
    case atStart => exact ⟨0, by omega, rfl, hid rfl, dr_refl _⟩
    case round =>
      obtain ⟨k, hk, rfl, ha, hb⟩ := hrel
      by_cases hlt : (k : Int) < s.size
      · have hkk : k < s.size := by omega
        obtain ⟨c, hc⟩ : ∃ c, (s[k].toNat : Int) = c := ⟨_, rfl⟩
        have hcb := L_bd s k hkk
        rw [hc] at hcb
        obtain ⟨c0, c1⟩ := hcb
        have hLd : Hid (L s = (L s).take k ++ c :: (L s).drop (k + 1)) := by
          show _ = _
          rw [← hc, ← L_drop s k hkk, List.take_append_drop]
        have hLt : Hid ((L s).take (k + 1) = (L s).take k ++ [c]) := by show _ = _; rw [← hc]; exact L_take s k hkk
        cases hcc : nmC c
        · have hf : Hid (nmF (L s) = false) := by show _ = _; rw [hLd.out]; exact nm_mid _ _ _ hcc
          have hcs : c < 33 ∨ 126 < c ∨ (65 ≤ c ∧ c ≤ 90) ∨ c = 47 ∨ c = 92 ∨ c = 58 ∨ c = 91 ∨ c = 93 ∨ c = 64 := by simp [nmC] at hcc; omega
          have hrun := run_at (w := wr) s k hkk hs
          rw [hc] at hrun
          clear hcc hLd hLt hc
          rcases hcs with h | h | h | h | h | h | h | h | h
          · go_wp2_with fail
            go_ret
            exact ⟨ret_b hf.out.symm, hb⟩
          · go_wp2_with fail
            go_ret
            exact ⟨ret_b hf.out.symm, hb⟩
          · obtain ⟨h, h'⟩ := h
            go_wp2_with fail
            go_ret
            exact ⟨ret_b hf.out.symm, hb⟩
          all_goals subst h
          all_goals go_wp2_with fail
          all_goals go_rounds 7
          all_goals go_ret
          all_goals exact ⟨ret_b hf.out.symm, hb⟩
        · have ha2 : Hid (((L s).take (k + 1)).all nmC = true) := by
            show _ = _
            rw [hLt.out, List.all_append, ha.out]
            simp [hcc]
          simp [nmC] at hcc
          have hrun := run_at (w := wr) s k hkk hs
          rw [hc] at hrun
          obtain ⟨q1, q2, q3, n1, n2, n3, n4, n5, n6⟩ := hcc
          clear hLd hLt hc
          rcases q3 with hq | hq
          all_goals go_wp2_with fail
          all_goals go_rounds 7
          all_goals go_roundw
          case rel => exact ⟨k + 1, by omega, by go_num, ha2, hb⟩
          case measure => simp [intOf]; omega
          case rel => exact ⟨k + 1, by omega, by go_num, ha2, hb⟩
          case measure => simp [intOf]; omega
      · have hf : Hid (nmF (L s) = true) := by
          show _ = _
          have := ha.out
          rw [List.take_of_length_le (by rw [L_len]; omega)] at this
          unfold nmF
          rw [this, L_len]
          simp
          omega
        go_wp2_with fail
        go_ret
        exact ⟨ret_b hf.out.symm, hb⟩
  · have hf : Hid (nmF (L s) = false) := by
      show _ = _
      unfold nmF
      rw [L_len]
      simp
      omega
    by_cases h0 : s.size < 1
    · go_enter Tryd.func29, Tryd.ntmps29
      go_wp2_with fail
      go_ret
      exact ⟨ret_b hf.out.symm, dr_refl _⟩
    · have h32 : (31 : Int) < s.size := by omega
      go_enter Tryd.func29, Tryd.ntmps29
      go_wp2_with fail
      go_ret
      exact ⟨ret_b hf.out.symm, dr_refl _⟩
end Go.Proofs.YtmjgiaomijghoaaDoor
