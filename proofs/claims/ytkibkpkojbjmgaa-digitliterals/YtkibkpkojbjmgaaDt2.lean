/-
  Literal of the program's package digit returns the plain function, for every text.
-/
import Derived.Test.YtkibkpkojbjmgaaDt1
namespace Go.Proofs.Ytkibkpkojbjmgaa
open Go.ChangeShapes Go.WideShapes Go.ChangeAt Go.RowKit
set_option linter.unusedVariables false
set_option linter.unusedSimpArgs false

theorem w_baseof (c : Int) (w : World) (h0 : 0 ≤ c) (h1 : c < 256) : Calls Try.prog 32 #[.int .u8 c] w fun e w' => e = .returned (.int .u32 (litB c)) ∧ w' = w := by
  go_enter Try.func32, Try.ntmps32
  go_wp2
  all_goals go_ret
  all_goals refine ⟨ret_i ?_, rfl⟩
  all_goals go_light
  all_goals try simp only [beq_iff_eq, beq_eq_false_iff_ne] at *
  all_goals (unfold litB sm; omega)

theorem litB_bd (c : Int) : 0 ≤ litB c ∧ litB c ≤ 16 := by unfold litB; omega
theorem litR_unfit (l : List Int) (b : Int) (h : b < 2 ∨ 36 < b) : litR l b = (0, false) := by
  unfold litR prs; rw [if_pos h]; rfl
theorem litR_nil (b : Int) : litR [] b = (0, false) := by
  by_cases h : b < 2 ∨ 36 < b
  · exact litR_unfit [] b h
  · unfold litR prs; rw [if_neg h]; rfl
theorem litR_two (c : Int) : litR [c, 35] 10 = (0, false) := by
  have h35 : isD 35 10 = false := by decide
  unfold litR prs
  rw [if_neg (by omega)]
  by_cases hc : c = 45
  · subst hc
    rw [if_pos (by rfl)]
    simp [prsT, allD, h35]
  · rw [if_neg (by simpa using hc)]
    simp [prsT, allD, h35]

/-- behind the number sign, however short -/
theorem lit_sign2 (s : ByteArray) (h : 1 < s.size) (h1 : (s[1].toNat : Int) = 35) : lit (L s) = litR ((L s).drop 2) (litB (s[0].toNat : Int)) := by
  by_cases h2 : 2 < s.size
  · rw [lit_sign s h2 h1]
    by_cases hb : litB (s[0].toNat : Int) = 0
    · rw [if_pos hb, hb, litR_unfit _ 0 (by omega)]
    · rw [if_neg hb]
  · have e0 := L_drop s 0 (by omega)
    have e1 := L_drop s 1 h
    have e2 : (L s).drop 2 = [] := List.drop_eq_nil_of_le (by rw [L_len]; omega)
    rw [lit_plain s (by omega), e2, litR_nil]
    simp only [List.drop_zero] at e0
    rw [e0, e1, e2, h1, litR_two]

set_option maxHeartbeats 1000000 in
set_option maxRecDepth 10000 in
theorem w_dliteral (s : ByteArray) (w : World) (hs : s.size ≤ maxLen) :
    Calls Try.prog 20 #[.string s] w fun e w' => e = .returned (.tuple #[.int .u32 (lit (L s)).1, .bool (lit (L s)).2]) ∧ Grown w w' := by
  have hs2 := hs
  unfold maxLen at hs2
  by_cases hz : 1 < s.size
  · have z0 : 0 < s.size := by omega
    have zI : (2 : Int) ≤ (s.size : Int) := by omega
    by_cases hc : ((s[1]'hz).toNat : Int) = 35
    · have e1 := lit_sign2 s hz hc
      have hc2 : (((s[1]'hz).toNat : Int) == 35) = true := by simp [hc]
      clear hc
      have hcb := hid (L_bd s 0 z0)
      obtain ⟨T, hT⟩ : ∃ T, s.extract 2 s.size = T := ⟨_, rfl⟩
      have hTL : L T = (L s).drop 2 := by rw [← hT]; exact L_from s 2
      have hTz : Hid (T.size ≤ maxLen) := by show _ ≤ _; rw [← hT]; simp; unfold maxLen; omega
      rw [← hTL] at e1
      clear hTL
      rw [e1]
      clear e1
      have hlb := hid (litB_bd (s[0].toNat : Int))
      go_enter Try.func20, Try.ntmps20
      go_wp2_with (first | (go_at_call 12; refine (w_dparse0 _ _ _ hTz.out (by omega) (by omega)).mono ?_; rintro e w2 ⟨rfl, rfl⟩))
      go_quiet ((go_at_call 32; exact Calls.quiet_of_same (w_baseof _ _ hcb.out.1 hcb.out.2)))
      go_wp2_with (first | (go_at_call 12; refine (w_dparse0 _ _ _ hTz.out hlb.out.1 (by have := hlb.out.2; omega)).mono ?_; rintro e w2 ⟨rfl, rfl⟩))
      go_ret2
      exact ⟨rfl, grown_drewN (Grown.refl _) _⟩
    · have e1 : lit (L s) = litR (L s) 10 := lit_plain s (by
        intro h
        have e : (L s)[1]? = some (s[1].toNat : Int) := by rw [List.getElem?_eq_getElem (by rw [L_len]; omega), L_get s 1 (by omega)]
        rw [e] at h
        exact hc (by simpa using h.2))
      have hc2 : (((s[1]'hz).toNat : Int) == 35) = false := beq_eq_false_iff_ne.2 hc
      rw [e1]
      clear hc e1
      go_enter Try.func20, Try.ntmps20
      go_wp2_with (go_at_call 12; refine (w_dparse0 _ _ _ hs (by omega) (by omega)).mono ?_; rintro e w2 ⟨rfl, rfl⟩)
      go_ret2
      exact ⟨rfl, Grown.refl _⟩
  · have e1 : lit (L s) = litR (L s) 10 := lit_plain s (fun h => hz (by omega))
    rw [e1]
    clear e1
    go_enter Try.func20, Try.ntmps20
    go_wp2_with (go_at_call 12; refine (w_dparse0 _ _ _ hs (by omega) (by omega)).mono ?_; rintro e w2 ⟨rfl, rfl⟩)
    go_ret2
    exact ⟨rfl, Grown.refl _⟩
end Go.Proofs.Ytkibkpkojbjmgaa
