/-
  CellSymmetric: for all cells and both signs, the symmetric quotient times the divisor, and the rest, are the number; the rest is 0 or has the number's sign; it is refused just where the quotient is too great: the law returns true. No conditions.
-/
import Derived.Test.YtfmlkclacbceeabRows
import Derived.WalkKit
import Derived.ProofKit
import Derived.OpenShut
import Derived.Test.YtfmlkclacbceeabSym
namespace Go.Proofs.Ytfmlkclacbceeab.cellSymmetric
open Go.ChangeShapes Go.WideShapes Go.ChangeAt Go.RowKit
set_option linter.unusedVariables false      -- a walk need not use every 'w<i>' (that an integer argument fits its kind)

theorem own : ownKnob Try.prog.godebug = none := by kernel_rfl

/-! ### STEP 1: THE WALK: the Go text returns true. 'Grown w w'': the world has at most new blocks (Derived/RowKit3.lean). Part the cases AHEAD of 'go_enter' where a test parts the walk; take each callee by a contract of your own. -/
set_option maxHeartbeats 4000000 in
theorem walk (a0 : Int) (a1 : Int) (a2 : Bool) (w0 : (Lit.int .u32 a0).wf = true) (w1 : (Lit.int .u32 a1).wf = true) (w : World) :
    Calls Try.prog 4 #[.int .u32 a0, .int .u32 a1, .bool a2] w fun e w' => e = .returned (.bool true) ∧ Grown w w' := by
  obtain ⟨g0, g1⟩ := u32_bounds w0
  obtain ⟨k0, k1⟩ := u32_bounds w1
  by_cases c1 : a1 = 0
  · subst c1
    cases a2
    all_goals
      go_enter Try.func4, Try.ntmps4
      go_wp2_with (first | (go_at_call 6; refine (w_alive _).mono ?_; rintro e w' ⟨rfl, rfl⟩) | (go_at_call 9; refine (w_wide_zero _ _ _ _ (Or.inr (Or.inl rfl))).mono ?_; rintro e w4 ⟨rfl, hg4⟩))
      go_ret
      exact ⟨rfl, hg4⟩
  have d0 : 0 < a1 := by omega
  have hn := wrap32_ne a1 k0 k1 c1
  obtain ⟨b1, b2⟩ := wrap32_sbd a1
  cases a2
  · obtain ⟨N, hN0⟩ : ∃ N, a0 + 0 * 4294967296 = N := ⟨_, rfl⟩
    have hw : wrap64 N = a0 := by rw [← hN0]; unfold wrap64; omega
    obtain ⟨S, T, hS0, hT0, s0, s1, hE, t0, t1, p0, p1⟩ := sym_facts a0 (wrap32 a1) (by omega) (by omega) b1 b2 hn
    have hN : Hid (a0 + 0 * 4294967296 = N) := hN0
    clear hN0
    have hS : Hid (wrap64 ((wrap64 N).tdiv (wrap32 a1)) = S) := by show _ = _; rw [hw]; exact hS0
    have hT : Hid ((wrap64 N).tmod (wrap32 a1) = T) := by show _ = _; rw [hw]; exact hT0
    clear hw
    rcases (show S < -2147483648 ∨ (2147483647 < S) ∨ (-2147483648 ≤ S ∧ S ≤ 2147483647) by omega) with c | c | ⟨c2, c3⟩
    · have e1 := fs_out S T (Or.inl c)
      clear hT0
      go_enter Try.func4, Try.ntmps4
      go_wp2_with (first | (go_at_call 6; refine (w_alive _).mono ?_; rintro e w' ⟨rfl, rfl⟩) | (go_at_call 8; refine (w_signed _ _ (by omega) (by omega)).mono ?_; rintro e w' ⟨rfl, rfl⟩) | (go_at_call 9; refine (w_wide_sym _ _ _ N S T _ g0 g1 (by omega) (by omega) d0 k1 hN hS hT).mono ?_; rintro e w4 ⟨rfl, hg4⟩))
      all_goals go_ret
      all_goals (first | exact ⟨rfl, hg4⟩ | exact ⟨ret_b (by simp; omega), hg4⟩)
    · have e1 := fs_out S T (Or.inr c)
      clear hT0
      go_enter Try.func4, Try.ntmps4
      go_wp2_with (first | (go_at_call 6; refine (w_alive _).mono ?_; rintro e w' ⟨rfl, rfl⟩) | (go_at_call 8; refine (w_signed _ _ (by omega) (by omega)).mono ?_; rintro e w' ⟨rfl, rfl⟩) | (go_at_call 9; refine (w_wide_sym _ _ _ N S T _ g0 g1 (by omega) (by omega) d0 k1 hN hS hT).mono ?_; rintro e w4 ⟨rfl, hg4⟩))
      all_goals go_ret
      all_goals (first | exact ⟨rfl, hg4⟩ | exact ⟨ret_b (by simp; omega), hg4⟩)
    · obtain ⟨e1, e2, e3, r1, r2, r3, r4⟩ := fs_in S T c2 c3 t0 t1
      have hc : (0 ≤ T ∧ T ≤ 0) ∨ (T < 0 ∧ a0 < 0) ∨ (0 < T ∧ 0 ≤ a0) := by omega
      clear hS0 hT0 p0 p1 hn
      rcases hc with ⟨x1, x2⟩ | ⟨x1, x2⟩ | ⟨x1, x2⟩
      all_goals
        go_enter Try.func4, Try.ntmps4
        go_wp2_with (first | (go_at_call 6; refine (w_alive _).mono ?_; rintro e w' ⟨rfl, rfl⟩) | (go_at_call 8; refine (w_signed _ _ (by omega) (by omega)).mono ?_; rintro e w' ⟨rfl, rfl⟩) | (go_at_call 9; refine (w_wide_sym _ _ _ N S T _ g0 g1 (by omega) (by omega) d0 k1 hN hS hT).mono ?_; rintro e w4 ⟨rfl, hg4⟩))
        all_goals go_ret
        all_goals (first | exact ⟨rfl, hg4⟩ | exact ⟨ret_b (by simp; omega), hg4⟩)
  · obtain ⟨N, hN0⟩ : ∃ N, a0 + 4294967295 * 4294967296 = N := ⟨_, rfl⟩
    have hw : wrap64 N = (a0 - 4294967296) := by rw [← hN0]; unfold wrap64; omega
    obtain ⟨S, T, hS0, hT0, s0, s1, hE, t0, t1, p0, p1⟩ := sym_facts (a0 - 4294967296) (wrap32 a1) (by omega) (by omega) b1 b2 hn
    have hN : Hid (a0 + 4294967295 * 4294967296 = N) := hN0
    clear hN0
    have hS : Hid (wrap64 ((wrap64 N).tdiv (wrap32 a1)) = S) := by show _ = _; rw [hw]; exact hS0
    have hT : Hid ((wrap64 N).tmod (wrap32 a1) = T) := by show _ = _; rw [hw]; exact hT0
    clear hw
    rcases (show S < -2147483648 ∨ (2147483647 < S) ∨ (-2147483648 ≤ S ∧ S ≤ 2147483647) by omega) with c | c | ⟨c2, c3⟩
    · have e1 := fs_out S T (Or.inl c)
      clear hT0
      go_enter Try.func4, Try.ntmps4
      go_wp2_with (first | (go_at_call 6; refine (w_alive _).mono ?_; rintro e w' ⟨rfl, rfl⟩) | (go_at_call 8; refine (w_signed _ _ (by omega) (by omega)).mono ?_; rintro e w' ⟨rfl, rfl⟩) | (go_at_call 9; refine (w_wide_sym _ _ _ N S T _ g0 g1 (by omega) (by omega) d0 k1 hN hS hT).mono ?_; rintro e w4 ⟨rfl, hg4⟩))
      all_goals go_ret
      all_goals (first | exact ⟨rfl, hg4⟩ | exact ⟨ret_b (by simp; omega), hg4⟩)
    · have e1 := fs_out S T (Or.inr c)
      clear hT0
      go_enter Try.func4, Try.ntmps4
      go_wp2_with (first | (go_at_call 6; refine (w_alive _).mono ?_; rintro e w' ⟨rfl, rfl⟩) | (go_at_call 8; refine (w_signed _ _ (by omega) (by omega)).mono ?_; rintro e w' ⟨rfl, rfl⟩) | (go_at_call 9; refine (w_wide_sym _ _ _ N S T _ g0 g1 (by omega) (by omega) d0 k1 hN hS hT).mono ?_; rintro e w4 ⟨rfl, hg4⟩))
      all_goals go_ret
      all_goals (first | exact ⟨rfl, hg4⟩ | exact ⟨ret_b (by simp; omega), hg4⟩)
    · obtain ⟨e1, e2, e3, r1, r2, r3, r4⟩ := fs_in S T c2 c3 t0 t1
      have hc : (0 ≤ T ∧ T ≤ 0) ∨ (T < 0 ∧ (a0 - 4294967296) < 0) ∨ (0 < T ∧ 0 ≤ (a0 - 4294967296)) := by omega
      clear hS0 hT0 p0 p1 hn
      rcases hc with ⟨x1, x2⟩ | ⟨x1, x2⟩ | ⟨x1, x2⟩
      all_goals
        go_enter Try.func4, Try.ntmps4
        go_wp2_with (first | (go_at_call 6; refine (w_alive _).mono ?_; rintro e w' ⟨rfl, rfl⟩) | (go_at_call 8; refine (w_signed _ _ (by omega) (by omega)).mono ?_; rintro e w' ⟨rfl, rfl⟩) | (go_at_call 9; refine (w_wide_sym _ _ _ N S T _ g0 g1 (by omega) (by omega) d0 k1 hN hS hT).mono ?_; rintro e w4 ⟨rfl, hg4⟩))
        all_goals go_ret
        all_goals (first | exact ⟨rfl, hg4⟩ | exact ⟨ret_b (by simp; omega), hg4⟩)

/-! ### THE ROW's STEP: WRITTEN OUT: LEAVE IT -/
set_option maxRecDepth 100000 in
theorem lifted (os : Os) (started : os.Started) (H : Type) (enc : TypeId × Value → H) :
    ReturnsInHanded {} Try.checked os 4 .any (Rows.cellSymmetricSpec.pre6 enc Try.prog Try.f4 Rows.cellSymmetricRow.domain false) (Rows.cellSymmetricSpec.post enc Try.prog Try.f4 false true false false) := by
  refine returnsInHanded_of_change (C := Try.checked) own started (by kernel_rfl) Try.func4
    (ChangeSpec.witness6 (enc := enc) (C := Try.checked) false ⟨#[], #[.int .u32 0, .int .u32 0, .bool false], []⟩ 8 (by kernel_rfl) (by kernel_rfl) (by kernel_rfl) (by kernel_rfl)) ?_
  intro W base args ds gs before hval0 hW hcnd _
  have hval : ∀ (j : Nat) t v, Try.f4.params[j]? = some t → args[j]? = some v → Value.okWide Try.prog W .any base t v := hval0
  have hW' := hW
  obtain ⟨p, q, hA0, hV, rfl, hfz, hnd⟩ := hW
  have hA : DataW.TrodAll enc Try.prog W 0 (fun _ => true) true Try.f4.params.toList args.toList ds p := hA0
  rw [Try.params4] at hA hval
  obtain ⟨v0, vs0, d0, ds0, p0, q0, hargs, rfl, rfl, h0, r0⟩ := trodAll_cons hA
  obtain ⟨v1, vs1, d1, ds1, p1, q1, rfl, rfl, rfl, h1, r1⟩ := trodAll_cons r0
  obtain ⟨v2, vs2, d2, ds2, p2, q2, rfl, rfl, rfl, h2, r2⟩ := trodAll_cons r1
  obtain ⟨rfl, rfl, rfl⟩ := trodAll_nil r2
  obtain rfl : args = #[v0, v1, v2] := by cases args; simp_all
  obtain ⟨rfl, rfl⟩ := trodVars_none hV
  obtain ⟨a0, rfl, rfl, rfl, w0⟩ := open_int Try.underlying22 (hval 0 22 v0 rfl rfl) h0
  obtain ⟨a1, rfl, rfl, rfl, w1⟩ := open_int Try.underlying22 (hval 1 22 v1 rfl rfl) h1
  obtain ⟨a2, rfl, rfl, rfl⟩ := open_bool Try.underlying4 (hval 2 4 v2 rfl rfl) h2
  clear hA0 hval0
  simp only [List.append_nil] at hW'
  refine (walk a0 a1 a2 w0 w1 W).mono fun e W' ⟨he, hg⟩ => ?_
  subst he
  exact ⟨_, rfl, post_of_same (pa := []) (pv := []) hW' (fun _ _ _ => (trodAll_cons_mk (shut_bool Try.underlying4 _) trodAll_mk0)) (fun sp _ => (trodAll_cons_mk (shut_int Try.underlying22 w0) (trodAll_cons_mk (shut_int Try.underlying22 w1) (trodAll_cons_mk (shut_bool Try.underlying4 _) trodAll_mk0)))) (fun _ _ => rfl) rfl
    (hg.frame _) hg.2.1 (ok_one (by kernel_rfl) rfl (okWide_bool_mk Try.underlying4 _))⟩

theorem over : Rows.cellSymmetricRow.holds Try.pinned (OpenSpec.ofChange Rows.cellSymmetricSpec) :=
  OpenClaim.holds_of_wide 4 Try.f4 rfl rfl rfl rfl rfl rfl rfl ⟨rfl, rfl, rfl, rfl, rfl⟩ rfl rfl rfl rfl rfl (by kernel_rfl) Try.func4 (by kernel_rfl)
    (of_decide_eq_true (by kernel_rfl)) (by unfold Func.isWrapper; first | (rw [if_pos (by decide +kernel)]; kernel_rfl) | (rw [if_neg (by decide +kernel)]; exact ⟨rfl, rfl⟩))
    (fun os started H enc _ => lifted os started H enc)

/-- the given statement -/
theorem proved : Rows.CellSymmetricSaid :=
  over
end Go.Proofs.Ytfmlkclacbceeab.cellSymmetric
namespace Go.Proofs.Ytfmlkclacbceeab
theorem cellSymmetric_holds : Rows.CellSymmetricSaid := cellSymmetric.proved
#print axioms cellSymmetric_holds
end Go.Proofs.Ytfmlkclacbceeab
