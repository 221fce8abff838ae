/-
  CellEuclid: for all cells, the floored quotient times the divisor, and the rest, are the number; the rest is 0 or has the divisor's sign and is less than it without their signs: the law returns true. No conditions.
-/
import Derived.Test.YtfmlkclacbceeabRows
import Derived.WalkKit
import Derived.ProofKit
import Derived.OpenShut
import Derived.Test.YtfmlkclacbceeabEuc
namespace Go.Proofs.Ytfmlkclacbceeab.cellEuclid
open Go.ChangeShapes Go.WideShapes Go.ChangeAt Go.RowKit
set_option linter.unusedVariables false      -- a walk need not use every 'w<i>' (that an integer argument fits its kind)

theorem own : ownKnob Try.prog.godebug = none := by kernel_rfl

/-! ### STEP 1: THE WALK: the Go text returns true. 'Grown w w'': the world has at most new blocks (Derived/RowKit3.lean). Part the cases AHEAD of 'go_enter' where a test parts the walk; take each callee by a contract of your own. -/
set_option maxHeartbeats 4000000 in
theorem walk (a0 : Int) (a1 : Int) (w0 : (Lit.int .u32 a0).wf = true) (w1 : (Lit.int .u32 a1).wf = true) (w : World) :
    Calls Try.prog 3 #[.int .u32 a0, .int .u32 a1] w fun e w' => e = .returned (.bool true) ∧ Grown w w' := by
  obtain ⟨g0, g1⟩ := u32_bounds w0
  obtain ⟨k0, k1⟩ := u32_bounds w1
  by_cases c1 : a1 = 0
  · subst c1
    obtain ⟨z1, z2, z3⟩ := dv_zero a0
    go_enter Try.func3, Try.ntmps3
    go_wp2_with (first | (go_at_call 6; refine (w_alive _).mono ?_; rintro e w' ⟨rfl, rfl⟩) | (go_at_call 7; refine (w_divide _ _ _ _ g0 g1 (by omega) (by omega)).mono ?_; rintro e w1 ⟨rfl, hg1⟩))
    go_ret
    exact ⟨rfl, hg1⟩
  by_cases c2 : a0 = 2147483648 ∧ a1 = 4294967295
  · obtain ⟨rfl, rfl⟩ := c2
    obtain ⟨z1, z2, z3⟩ := dv_edge
    go_enter Try.func3, Try.ntmps3
    go_wp2_with (first | (go_at_call 6; refine (w_alive _).mono ?_; rintro e w' ⟨rfl, rfl⟩) | (go_at_call 7; refine (w_divide _ _ _ _ g0 g1 (by omega) (by omega)).mono ?_; rintro e w1 ⟨rfl, hg1⟩))
    go_ret
    exact ⟨rfl, hg1⟩
  have z3 := dv_ok a1 c1
  obtain ⟨S, T, hS, hT, hE, t0, t1, f1, f2⟩ := euclid_cells a0 a1 g0 g1 k0 k1 c1 c2
  obtain ⟨q1, q2⟩ := wrap32_sbd a1
  have hn := wrap32_ne a1 k0 k1 c1
  have dq : 0 ≤ dvQ 42 a0 a1 ∧ dvQ 42 a0 a1 < 4294967296 := by simp only [dvQ, c1]; simp; omega
  have dr : 0 ≤ dvR 42 a0 a1 ∧ dvR 42 a0 a1 < 4294967296 := by simp only [dvR, c1]; simp; omega
  obtain ⟨dq1, dq2⟩ := dq
  obtain ⟨dr1, dr2⟩ := dr
  have hE2 : Hid (wrap64 (wrap64 (S * wrap32 a1) + T) = wrap32 a0) := hE
  clear hE
  have c3 : (a0 == 2147483648) = false ∨ ((a0 == 2147483648) = true ∧ (a1 == 4294967295) = false) := by
    by_cases e : a0 = 2147483648
    · right; constructor
      · simp [e]
      · simp; omega
    · left; simp [e]
  clear c2
  have hc : (0 ≤ T ∧ T ≤ 0 ∧ wrap32 a1 < 0) ∨ (0 ≤ T ∧ T ≤ 0 ∧ 0 < wrap32 a1) ∨ (T < 0 ∧ wrap32 a1 < 0 ∧ wrap32 a1 < T) ∨ (0 < T ∧ 0 < wrap32 a1 ∧ T < wrap32 a1) := by omega
  clear f1 f2
  have hE := hE2.out
  clear hE2 hn
  rcases hc with ⟨x1, x2, x3⟩ | ⟨x1, x2, x3⟩ | ⟨x1, x2, x3⟩ | ⟨x1, x2, x3⟩
  all_goals rcases c3 with c3 | ⟨c3, c4⟩
  all_goals
    go_enter Try.func3, Try.ntmps3
    go_wp2_with (first | (go_at_call 6; refine (w_alive _).mono ?_; rintro e w' ⟨rfl, rfl⟩) | (go_at_call 7; refine (w_divide _ _ _ _ g0 g1 k0 k1).mono ?_; rintro e w1 ⟨rfl, hg1⟩) | (go_at_call 8; refine (w_signed _ _ (by omega) (by omega)).mono ?_; rintro e w' ⟨rfl, rfl⟩))
    go_ret
    exact ⟨rfl, hg1⟩

/-! ### THE ROW's STEP: WRITTEN OUT: LEAVE IT -/
set_option maxRecDepth 100000 in
theorem lifted (os : Os) (started : os.Started) (H : Type) (enc : TypeId × Value → H) :
    ReturnsInHanded {} Try.checked os 3 .any (Rows.cellEuclidSpec.pre6 enc Try.prog Try.f3 Rows.cellEuclidRow.domain false) (Rows.cellEuclidSpec.post enc Try.prog Try.f3 false true false false) := by
  refine returnsInHanded_of_change (C := Try.checked) own started (by kernel_rfl) Try.func3
    (ChangeSpec.witness6 (enc := enc) (C := Try.checked) false ⟨#[], #[.int .u32 0, .int .u32 0], []⟩ 8 (by kernel_rfl) (by kernel_rfl) (by kernel_rfl) (by kernel_rfl)) ?_
  intro W base args ds gs before hval0 hW hcnd _
  have hval : ∀ (j : Nat) t v, Try.f3.params[j]? = some t → args[j]? = some v → Value.okWide Try.prog W .any base t v := hval0
  have hW' := hW
  obtain ⟨p, q, hA0, hV, rfl, hfz, hnd⟩ := hW
  have hA : DataW.TrodAll enc Try.prog W 0 (fun _ => true) true Try.f3.params.toList args.toList ds p := hA0
  rw [Try.params3] at hA hval
  obtain ⟨v0, vs0, d0, ds0, p0, q0, hargs, rfl, rfl, h0, r0⟩ := trodAll_cons hA
  obtain ⟨v1, vs1, d1, ds1, p1, q1, rfl, rfl, rfl, h1, r1⟩ := trodAll_cons r0
  obtain ⟨rfl, rfl, rfl⟩ := trodAll_nil r1
  obtain rfl : args = #[v0, v1] := by cases args; simp_all
  obtain ⟨rfl, rfl⟩ := trodVars_none hV
  obtain ⟨a0, rfl, rfl, rfl, w0⟩ := open_int Try.underlying22 (hval 0 22 v0 rfl rfl) h0
  obtain ⟨a1, rfl, rfl, rfl, w1⟩ := open_int Try.underlying22 (hval 1 22 v1 rfl rfl) h1
  clear hA0 hval0
  simp only [List.append_nil] at hW'
  refine (walk a0 a1 w0 w1 W).mono fun e W' ⟨he, hg⟩ => ?_
  subst he
  exact ⟨_, rfl, post_of_same (pa := []) (pv := []) hW' (fun _ _ _ => (trodAll_cons_mk (shut_bool Try.underlying4 _) trodAll_mk0)) (fun sp _ => (trodAll_cons_mk (shut_int Try.underlying22 w0) (trodAll_cons_mk (shut_int Try.underlying22 w1) trodAll_mk0))) (fun _ _ => rfl) rfl
    (hg.frame _) hg.2.1 (ok_one (by kernel_rfl) rfl (okWide_bool_mk Try.underlying4 _))⟩

theorem over : Rows.cellEuclidRow.holds Try.pinned (OpenSpec.ofChange Rows.cellEuclidSpec) :=
  OpenClaim.holds_of_wide 3 Try.f3 rfl rfl rfl rfl rfl rfl rfl ⟨rfl, rfl, rfl, rfl, rfl⟩ rfl rfl rfl rfl rfl (by kernel_rfl) Try.func3 (by kernel_rfl)
    (of_decide_eq_true (by kernel_rfl)) (by unfold Func.isWrapper; first | (rw [if_pos (by decide +kernel)]; kernel_rfl) | (rw [if_neg (by decide +kernel)]; exact ⟨rfl, rfl⟩))
    (fun os started H enc _ => lifted os started H enc)

/-- the given statement -/
theorem proved : Rows.CellEuclidSaid :=
  over
end Go.Proofs.Ytfmlkclacbceeab.cellEuclid
namespace Go.Proofs.Ytfmlkclacbceeab
theorem cellEuclid_holds : Rows.CellEuclidSaid := cellEuclid.proved
#print axioms cellEuclid_holds
end Go.Proofs.Ytfmlkclacbceeab
