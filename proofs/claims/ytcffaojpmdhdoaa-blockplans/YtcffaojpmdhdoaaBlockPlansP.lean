/-
  Which sectors are read and written for some bytes is what the document says: both calls come to one plain row.
-/
import Derived.Test.YtcffaojpmdhdoaaRows
import Derived.WalkKit
import Derived.ProofKit
import Derived.OpenShut
import Derived.ShutString
import Derived.ChangeOld
import Derived.Below
import Derived.Carry
import Derived.SizedLaws
import Derived.Test.YtcffaojpmdhdoaaB5
namespace Go.Proofs.Ytcffaojpmdhdoaa.blockPlans
open Go.ChangeShapes Go.WideShapes Go.ChangeAt Go.RowKit
open Go.ChangeMaps (open_string shut_string)
set_option linter.unusedVariables false
set_option linter.unusedSimpArgs false

theorem own : ownKnob Try.prog.godebug = none := by kernel_rfl
theorem laidOut : laidOutB Try.prog = true := by kernel_rfl

set_option maxHeartbeats 4000000 in
set_option maxRecDepth 100000 in
theorem walk (a0 : Int) (a1 : Int) (w : World) (w0 : (Lit.int .i64 a0).wf = true) (w1 : (Lit.int .i64 a1).wf = true) :
    Calls Try.prog 4 #[.int .i64 a0, .int .i64 a1] w fun e w' => e = .returned (.bool true) ∧ Below w.heap.size w w' := by
  have n0 : -9223372036854775808 ≤ a0 ∧ a0 < 9223372036854775808 := by have := w0; simp [Lit.wf, IntKind.min, IntKind.max, IntKind.bits, IntKind.signed] at this; omega
  have m0 : -9223372036854775808 ≤ a1 ∧ a1 < 9223372036854775808 := by have := w1; simp [Lit.wf, IntKind.min, IntKind.max, IntKind.bits, IntKind.signed] at this; omega
  have c1 := fun w => w_pplan20 a0 a1 w n0.1 n0.2 m0.1 m0.2
  have c2 := fun w => w_rplan20 a0 a1 w n0.1 n0.2 m0.1 m0.2
  have hb := dkP_bd a0 a1
  obtain ⟨⟨R, E⟩, hR⟩ : ∃ x, dkP a0 a1 = x := ⟨_, rfl⟩
  simp only [hR] at c1 c2 hb
  clear hR n0 m0
  go_enter Try.func4, Try.ntmps4
  go_wp2_with (first
    | (go_at_call 8; refine (w_alive20 _).mono ?_; rintro e q1 ⟨rfl, b1⟩)
    | (go_at_call 17; refine (c1 _).mono ?_; rintro e q2 ⟨v3, rfl, r3, b2⟩; have b12 := below_trans b1 b2; have hl3 := slr_len r3 uAc (P := Try.prog))
    | (go_at_call 18; refine (c2 _).mono ?_; rintro e q3 ⟨v4, rfl, o4, b3⟩; have r4 := o4.read; have b13 := below_trans b12 b3; have r3' := r3.below b3 acR_below; have hl4 := slr_len r4 uAc (P := Try.prog)))
  go_loopw [9] (fun i wx => ∃ k : Nat, (k : Int) ≤ R.length ∧ i = .int .i64 k ∧ Below q3.heap.size q3 wx) (fun i _ => (R.length - intOf i).toNat)
  case atStart => exact ⟨0, by omega, rfl, Below.refl _ _⟩
  case round =>
    obtain ⟨j, hj, rfl, hg⟩ := hrel
    by_cases hlt : (j : Int) < R.length
    · obtain ⟨z1, o1, k1, n1, s1, d0, d1, e0⟩ := ac_at (r3'.below hg acR_below) j (by omega)
      obtain ⟨z2, o2, k2, n2, s2, f0, f1, g0⟩ := ac_at (r4.below hg acR_below) j (by omega)
      obtain ⟨rfl, rfl⟩ : k1 = k2 ∧ n1 = n2 := by rw [e0] at g0; simpa using g0
      have hne := fun w => ac_neq w k1 k1 n1 n1
      simp only [beq_self_eq_true, Bool.and_self, Bool.not_true] at hne
      have hgd := fun w x y => run_eqGuard_agg (P := Try.prog) w .neq 36 x y #[.bool k1, .int .i64 n1] #[.bool k1, .int .i64 n1] ac_guard
      clear e0 g0
      go_wp2_with fail
      go_quiet (fail)
      go_wp2_with fail
      go_roundw
      case rel => exact ⟨j + 1, by omega, by go_num, below_drewN hg _⟩
      case measure => simp [intOf]; omega
    · go_wp2_with fail
      go_ret
      exact ⟨rfl, below_trans b13 hg⟩

set_option maxRecDepth 100000 in
theorem lifted (os : Os) (started : os.Started) (H : Type) (enc : TypeId × Value → H) :
    ReturnsInHanded {} Try.checked os 4 .any (Rows.blockPlansSpec.pre6 enc Try.prog Try.f4 Rows.blockPlansRow.domain false) (Rows.blockPlansSpec.post enc Try.prog Try.f4 false true false false) := by
  refine returnsInHanded_of_change_sized (C := Try.checked) own started (by kernel_rfl) Try.func4
    (ChangeSpec.witness6 (enc := enc) (C := Try.checked) false ⟨#[], #[.int .i64 0, .int .i64 0], []⟩ 8 (by kernel_rfl) (by kernel_rfl) (by kernel_rfl) (by kernel_rfl)) ?_
  intro W base args ds gs before hval0 hW hcnd hsz0 _
  have hval : ∀ (j : Nat) t v, Try.f4.params[j]? = some t → args[j]? = some v → Value.okWide Try.prog W .any base t v := hval0
  have hsz : (DataW.weightsEach Try.prog (Try.f4.params.toList ++ Rows.blockPlansSpec.plain.varTypes Try.prog) (ds ++ gs)).all (· ≤ reachBytes) = true := hsz0
  have hW' := hW
  obtain ⟨p, q, hA0, hV, rfl, hfz, hnd⟩ := hW
  have hA : DataW.TrodAll enc Try.prog W 0 (fun _ => true) true Try.f4.params.toList args.toList ds p := hA0
  rw [Try.params4] at hA hval hsz
  obtain ⟨v0, vs0, d0, ds0, p0, q0, hargs, rfl, rfl, h0, r0⟩ := trodAll_cons hA
  obtain ⟨v1, vs1, d1, ds1, p1, q1, rfl, rfl, rfl, h1, r1⟩ := trodAll_cons r0
  obtain ⟨rfl, rfl, rfl⟩ := trodAll_nil r1
  obtain rfl : args = #[v0, v1] := by cases args; simp_all
  obtain ⟨rfl, rfl⟩ := trodVars_none hV
  obtain ⟨a0, rfl, rfl, rfl, w0⟩ := open_int Try.underlying3 (hval 0 3 v0 rfl rfl) h0
  obtain ⟨a1, rfl, rfl, rfl, w1⟩ := open_int Try.underlying3 (hval 1 3 v1 rfl rfl) h1
  clear hA0 hval0 hsz0
  refine (walk a0 a1 W w0 w1).mono fun e W' ⟨he, bel⟩ => ?_
  subst he
  exact ⟨_, rfl, _, _, _, [], _, [], hW', trodAll_mk1 (shut_bool Try.underlying4 _), (trodAll_cons_mk (shut_int Try.underlying3 w0) (trodAll_cons_mk (shut_int Try.underlying3 w1) trodAll_mk0)), rfl, bel.frame _, fun h => by cases h⟩

theorem over : Rows.blockPlansRow.holds Try.pinned (OpenSpec.ofChange Rows.blockPlansSpec) :=
  OpenClaim.holds_of_wide 4 Try.f4 rfl rfl rfl rfl rfl rfl rfl ⟨rfl, rfl, rfl, rfl, rfl⟩ rfl rfl rfl rfl rfl (by kernel_rfl) Try.func4 (by kernel_rfl)
    (of_decide_eq_true (by kernel_rfl)) (by unfold Func.isWrapper; first | (rw [if_pos (by decide +kernel)]; kernel_rfl) | (rw [if_neg (by decide +kernel)]; exact ⟨rfl, rfl⟩))
    (fun os started H enc _ => lifted os started H enc)
end Go.Proofs.Ytcffaojpmdhdoaa.blockPlans
namespace Go.Proofs.Ytcffaojpmdhdoaa
theorem blockPlans_holds : Rows.BlockPlansSaid := blockPlans.over
#print axioms blockPlans_holds
end Go.Proofs.Ytcffaojpmdhdoaa
