/-
  DigitBack: for all numbers and bases, what Show and Signed show is parsed as the number, and shown texts of unlike numbers are unlike; a base that isn't fit is refused: the law returns true. No conditions.
-/
import Derived.Test.YtkibkpkojbjmgaaRows
import Derived.WalkKit
import Derived.ProofKit
import Derived.OpenShut
import Derived.Test.YtkibkpkojbjmgaaDal
namespace Go.Proofs.Ytkibkpkojbjmgaa.digitBack
open Go.ChangeShapes Go.WideShapes Go.ChangeAt Go.RowKit
open Go.ChangeMaps (open_string shut_string)
set_option linter.unusedVariables false

theorem own : ownKnob Try.prog.godebug = none := by kernel_rfl

set_option maxHeartbeats 4000000 in
theorem walk (a0 : Int) (a1 : Int) (a2 : Int) (w0 : (Lit.int .u32 a0).wf = true) (w1 : (Lit.int .u32 a1).wf = true) (w2 : (Lit.int .u32 a2).wf = true) (w : World) :
    Calls Try.prog 8 #[.int .u32 a0, .int .u32 a1, .int .u32 a2] w fun e w' => e = .returned (.bool true) ∧ Grown w w' := by
  obtain ⟨n0, n1⟩ := u32_bounds w0
  obtain ⟨m0, m1⟩ := u32_bounds w1
  obtain ⟨b0, b1⟩ := u32_bounds w2
  by_cases hb : a2 < 2 ∨ 36 < a2
  · have e1 : shT a0 a2 = ⟨#[]⟩ := by unfold shT; rw [if_pos hb]
    have e2 : sgT a0 a2 = ⟨#[]⟩ := by unfold sgT; rw [if_pos hb]
    have e3 : shE a2 = 1 := by unfold shE; rw [if_pos hb]
    rcases hb with hb | hb
    · go_enter Try.func8, Try.ntmps8
      go_wp2_with (first | (go_at_call 9; refine (w_alive _).mono ?_; rintro e wa ⟨rfl, hga⟩) | (go_at_call 14; refine (w_dshow _ _ _ n0 n1 b0 b1).mono ?_; rintro e w1 ⟨rfl, hgs⟩) | (go_at_call 16; refine (w_dsigned2 _ _ _ n0 n1 b0 b1).mono ?_; rintro e w1 ⟨rfl, hgs⟩))
      go_ret
      exact ⟨rfl, by repeat (first | exact Grown.refl _ | assumption | refine grown_trans ?_ (by assumption))⟩
    · have hb2 : ¬ a2 < 2 := by omega
      go_enter Try.func8, Try.ntmps8
      go_wp2_with (first | (go_at_call 9; refine (w_alive _).mono ?_; rintro e wa ⟨rfl, hga⟩) | (go_at_call 14; refine (w_dshow _ _ _ n0 n1 b0 b1).mono ?_; rintro e w1 ⟨rfl, hgs⟩) | (go_at_call 16; refine (w_dsigned2 _ _ _ n0 n1 b0 b1).mono ?_; rintro e w1 ⟨rfl, hgs⟩))
      go_ret
      exact ⟨rfl, by repeat (first | exact Grown.refl _ | assumption | refine grown_trans ?_ (by assumption))⟩
  · have c0 : 2 ≤ a2 := by omega
    have c1 : a2 ≤ 36 := by omega
    have e0 : shE a2 = 0 := by unfold shE; rw [if_neg hb]
    clear hb
    have e1 := shT_back a0 a2 n0 n1 c0 c1
    have e2 := sgT_back a0 a2 n0 n1 c0 c1
    have e3 := shT_same a0 a1 a2 n0 n1 m0 m1 c0 c1
    have z1 := hid (sh_size a0 a2)
    have z2 := hid (sg_size a0 a2)
    go_enter Try.func8, Try.ntmps8
    go_wp2_with (first | (go_at_call 9; refine (w_alive _).mono ?_; rintro e wa ⟨rfl, hga⟩))
    refine (w_dshow _ _ _ n0 n1 b0 b1).mono ?_
    rintro e w1 ⟨rfl, hgb1⟩
    go_wp2_with fail
    refine (w_dsigned2 _ _ _ n0 n1 b0 b1).mono ?_
    rintro e w1 ⟨rfl, hgb2⟩
    go_wp2_with fail
    refine (w_dparse _ _ _ (by have := z1.out; unfold maxLen; omega) b0 b1).mono ?_
    rintro e w2 ⟨rfl, hg2⟩
    go_wp2_with fail
    refine (w_dparse _ _ _ (by have := z2.out; unfold maxLen; omega) b0 b1).mono ?_
    rintro e w3 ⟨rfl, hg3⟩
    go_wp2_with fail
    refine (w_dshow _ _ _ m0 m1 b0 b1).mono ?_
    rintro e w4 ⟨rfl, hgb3⟩
    go_wp2_with fail
    go_ret
    exact ⟨ret_b (by simp), by repeat (first | exact Grown.refl _ | assumption | refine grown_trans ?_ (by assumption))⟩

set_option maxRecDepth 100000 in
theorem lifted (os : Os) (started : os.Started) (H : Type) (enc : TypeId × Value → H) :
    ReturnsInHanded {} Try.checked os 8 .any (Rows.digitBackSpec.pre6 enc Try.prog Try.f8 Rows.digitBackRow.domain false) (Rows.digitBackSpec.post enc Try.prog Try.f8 false true false false) := by
  refine returnsInHanded_of_change (C := Try.checked) own started (by kernel_rfl) Try.func8
    (ChangeSpec.witness6 (enc := enc) (C := Try.checked) false ⟨#[], #[.int .u32 0, .int .u32 0, .int .u32 0], []⟩ 8 (by kernel_rfl) (by kernel_rfl) (by kernel_rfl) (by kernel_rfl)) ?_
  intro W base args ds gs before hval0 hW hcnd _
  have hval : ∀ (j : Nat) t v, Try.f8.params[j]? = some t → args[j]? = some v → Value.okWide Try.prog W .any base t v := hval0
  have hW' := hW
  obtain ⟨p, q, hA0, hV, rfl, hfz, hnd⟩ := hW
  have hA : DataW.TrodAll enc Try.prog W 0 (fun _ => true) true Try.f8.params.toList args.toList ds p := hA0
  rw [Try.params8] at hA hval
  obtain ⟨v0, vs0, d0, ds0, p0, q0, hargs, rfl, rfl, h0, r0⟩ := trodAll_cons hA
  obtain ⟨v1, vs1, d1, ds1, p1, q1, rfl, rfl, rfl, h1, r1⟩ := trodAll_cons r0
  obtain ⟨v2, vs2, d2, ds2, p2, q2, rfl, rfl, rfl, h2, r2⟩ := trodAll_cons r1
  obtain ⟨rfl, rfl, rfl⟩ := trodAll_nil r2
  obtain rfl : args = #[v0, v1, v2] := by cases args; simp_all
  obtain ⟨rfl, rfl⟩ := trodVars_none hV
  obtain ⟨a0, rfl, rfl, rfl, w0⟩ := open_int Try.underlying22 (hval 0 22 v0 rfl rfl) h0
  obtain ⟨a1, rfl, rfl, rfl, w1⟩ := open_int Try.underlying22 (hval 1 22 v1 rfl rfl) h1
  obtain ⟨a2, rfl, rfl, rfl, w2⟩ := open_int Try.underlying22 (hval 2 22 v2 rfl rfl) h2
  clear hA0 hval0
  simp only [List.append_nil] at hW'
  refine (walk a0 a1 a2 w0 w1 w2 W).mono fun e W' ⟨he, hg⟩ => ?_
  subst he
  exact ⟨_, rfl, post_of_same (pa := []) (pv := []) hW' (fun _ _ _ => (trodAll_cons_mk (shut_bool Try.underlying4 _) trodAll_mk0)) (fun sp _ => (trodAll_cons_mk (shut_int Try.underlying22 w0) (trodAll_cons_mk (shut_int Try.underlying22 w1) (trodAll_cons_mk (shut_int Try.underlying22 w2) trodAll_mk0)))) (fun _ _ => rfl) rfl
    (hg.frame _) hg.2.1 (ok_one (by kernel_rfl) rfl (okWide_bool_mk Try.underlying4 _))⟩

theorem over : Rows.digitBackRow.holds Try.pinned (OpenSpec.ofChange Rows.digitBackSpec) :=
  OpenClaim.holds_of_wide 8 Try.f8 rfl rfl rfl rfl rfl rfl rfl ⟨rfl, rfl, rfl, rfl, rfl⟩ rfl rfl rfl rfl rfl (by kernel_rfl) Try.func8 (by kernel_rfl)
    (of_decide_eq_true (by kernel_rfl)) (by unfold Func.isWrapper; first | (rw [if_pos (by decide +kernel)]; kernel_rfl) | (rw [if_neg (by decide +kernel)]; exact ⟨rfl, rfl⟩))
    (fun os started H enc _ => lifted os started H enc)
end Go.Proofs.Ytkibkpkojbjmgaa.digitBack
namespace Go.Proofs.Ytkibkpkojbjmgaa
theorem digitBack_holds : Rows.DigitBackSaid := digitBack.over
#print axioms digitBack_holds
end Go.Proofs.Ytkibkpkojbjmgaa
