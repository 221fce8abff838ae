/-
  CellUndoes: for all cells, a product divided by a factor is the other one, and sums, exclusive ors and signs are undone: the law returns true. No conditions.
-/
import Derived.Test.YtfmlkclacbceeabRows
import Derived.WalkKit
import Derived.ProofKit
import Derived.OpenShut
import Derived.Test.YtfmlkclacbceeabWid
import Derived.Test.YtfmlkclacbceeabUn
import Derived.Test.YtfmlkclacbceeabBin
namespace Go.Proofs.Ytfmlkclacbceeab.cellUndoes
open Go.ChangeShapes Go.WideShapes Go.ChangeAt Go.RowKit
set_option linter.unusedVariables false      -- a walk need not use every 'w<i>' (that an integer argument fits its kind)

theorem own : ownKnob Try.prog.godebug = none := by kernel_rfl

/-! ### STEP 1: THE WALK: the Go text returns true. 'Grown w w'': the world has at most new blocks (Derived/RowKit3.lean). Part the cases AHEAD of 'go_enter' where a test parts the walk; take each callee by a contract of your own. -/
set_option maxHeartbeats 4000000 in
theorem walk (a0 : Int) (a1 : Int) (a2 : Int) (w0 : (Lit.int .u32 a0).wf = true) (w1 : (Lit.int .u32 a1).wf = true) (w2 : (Lit.int .u32 a2).wf = true) (w : World) :
    Calls Try.prog 5 #[.int .u32 a0, .int .u32 a1, .int .u32 a2] w fun e w' => e = .returned (.bool true) ∧ Grown w w' := by
  obtain ⟨g0, g1⟩ := u32_bounds w0
  obtain ⟨k0, k1⟩ := u32_bounds w1
  obtain ⟨l0, l1⟩ := u32_bounds w2
  have s1 : 0 ≤ binX 30 a0 a2 ∧ binX 30 a0 a2 < 4294967296 := by rw [bin_30]; omega
  have s2 : 0 ≤ binX 37 a0 a2 ∧ binX 37 a0 a2 < 4294967296 := by
    rw [bin_37]
    have := Nat.xor_lt_two_pow (show a0.toNat < 2 ^ 32 by omega) (show a2.toNat < 2 ^ 32 by omega)
    omega
  have s3 : 0 ≤ unX 44 a0 ∧ unX 44 a0 < 4294967296 := by unfold unX; omega
  obtain ⟨s11, s12⟩ := s1
  obtain ⟨s21, s22⟩ := s2
  obtain ⟨s31, s32⟩ := s3
  have u1 : binX 31 (binX 30 a0 a2) a2 = a0 := by rw [bin_30, bin_31]; omega
  have u2 : binX 37 (binX 37 a0 a2) a2 = a0 := by
    rw [bin_37, bin_37, Int.toNat_natCast, Nat.xor_assoc, Nat.xor_self, Nat.xor_zero]; omega
  have u3 : binX 30 (unX 44 a0) a0 = 0 := by rw [bin_30]; unfold unX; omega
  have v1 : binE 30 a2 = 0 := by simp [binE]
  obtain ⟨p0, p1⟩ := mul_bd a0 a1 g0 g1 k0 k1
  obtain ⟨N, hN0⟩ : ∃ N, a0 * a1 = N := ⟨_, rfl⟩
  have hN : Hid (a0 * a1 = N) := hN0
  rw [hN0] at p0 p1
  clear hN0
  have pN : Hid (N % 4294967296 + N / 4294967296 * 4294967296 = N) := by show _ = _; omega
  have q0 : 0 ≤ N % 4294967296 := by omega
  have q1 : N % 4294967296 < 4294967296 := by omega
  have q2 : 0 ≤ N / 4294967296 := by omega
  have q3 : N / 4294967296 < 4294967296 := by omega
  by_cases c1 : a1 = 0
  · subst c1
    go_enter Try.func5, Try.ntmps5
    go_wp2_with (first | (go_at_call 6; refine (w_alive _).mono ?_; rintro e w' ⟨rfl, rfl⟩) | (go_at_call 10; refine (w_timesN _ _ N _ g0 g1 k0 k1 hN).mono ?_; rintro e w3 ⟨rfl, hg3⟩) | (go_at_call 9; refine (w_wide_zero _ _ _ _ (Or.inl rfl)).mono ?_; rintro e w4 ⟨rfl, hg4⟩) | (go_at_call 11; refine (w_bin _ _ _ _ (by omega) (by omega) (by omega) (by omega)).mono ?_; rintro e w5 ⟨rfl, hg5⟩) | (go_at_call 12; refine (w_un _ _ _ g0 g1).mono ?_; rintro e w6 ⟨rfl, rfl⟩))
    go_ret
    exact ⟨rfl, by repeat (first | exact Grown.refl _ | assumption | refine grown_trans ?_ (by assumption))⟩
  · have d1 : N / a1 = a0 := by rw [← hN.out]; exact Int.mul_ediv_cancel a0 c1
    have d2 : N % a1 = 0 := by rw [← hN.out]; exact Int.mul_emod_left a0 a1
    have e1 : fcQ (N / a1) = a0 := by rw [d1]; unfold fcQ; omega
    have e2 : fcR (N / a1) (N % a1) = 0 := by rw [d1, d2]; unfold fcR; omega
    have e3 : fcE (N / a1) = 0 := by rw [d1]; unfold fcE; omega
    clear d1 d2
    go_enter Try.func5, Try.ntmps5
    go_wp2_with (first | (go_at_call 6; refine (w_alive _).mono ?_; rintro e w' ⟨rfl, rfl⟩) | (go_at_call 10; refine (w_timesN _ _ N _ g0 g1 k0 k1 hN).mono ?_; rintro e w3 ⟨rfl, hg3⟩) | (go_at_call 9; refine (w_wide_213 _ _ _ N _ q0 q1 q2 q3 (by omega) k1 pN).mono ?_; rintro e w4 ⟨rfl, hg4⟩) | (go_at_call 11; refine (w_bin _ _ _ _ (by omega) (by omega) (by omega) (by omega)).mono ?_; rintro e w5 ⟨rfl, hg5⟩) | (go_at_call 12; refine (w_un _ _ _ g0 g1).mono ?_; rintro e w6 ⟨rfl, rfl⟩))
    go_ret
    exact ⟨rfl, by repeat (first | exact Grown.refl _ | assumption | refine grown_trans ?_ (by assumption))⟩

/-! ### THE ROW's STEP: WRITTEN OUT: LEAVE IT -/
set_option maxRecDepth 100000 in
theorem lifted (os : Os) (started : os.Started) (H : Type) (enc : TypeId × Value → H) :
    ReturnsInHanded {} Try.checked os 5 .any (Rows.cellUndoesSpec.pre6 enc Try.prog Try.f5 Rows.cellUndoesRow.domain false) (Rows.cellUndoesSpec.post enc Try.prog Try.f5 false true false false) := by
  refine returnsInHanded_of_change (C := Try.checked) own started (by kernel_rfl) Try.func5
    (ChangeSpec.witness6 (enc := enc) (C := Try.checked) false ⟨#[], #[.int .u32 0, .int .u32 0, .int .u32 0], []⟩ 8 (by kernel_rfl) (by kernel_rfl) (by kernel_rfl) (by kernel_rfl)) ?_
  intro W base args ds gs before hval0 hW hcnd _
  have hval : ∀ (j : Nat) t v, Try.f5.params[j]? = some t → args[j]? = some v → Value.okWide Try.prog W .any base t v := hval0
  have hW' := hW
  obtain ⟨p, q, hA0, hV, rfl, hfz, hnd⟩ := hW
  have hA : DataW.TrodAll enc Try.prog W 0 (fun _ => true) true Try.f5.params.toList args.toList ds p := hA0
  rw [Try.params5] at hA hval
  obtain ⟨v0, vs0, d0, ds0, p0, q0, hargs, rfl, rfl, h0, r0⟩ := trodAll_cons hA
  obtain ⟨v1, vs1, d1, ds1, p1, q1, rfl, rfl, rfl, h1, r1⟩ := trodAll_cons r0
  obtain ⟨v2, vs2, d2, ds2, p2, q2, rfl, rfl, rfl, h2, r2⟩ := trodAll_cons r1
  obtain ⟨rfl, rfl, rfl⟩ := trodAll_nil r2
  obtain rfl : args = #[v0, v1, v2] := by cases args; simp_all
  obtain ⟨rfl, rfl⟩ := trodVars_none hV
  obtain ⟨a0, rfl, rfl, rfl, w0⟩ := open_int Try.underlying22 (hval 0 22 v0 rfl rfl) h0
  obtain ⟨a1, rfl, rfl, rfl, w1⟩ := open_int Try.underlying22 (hval 1 22 v1 rfl rfl) h1
  obtain ⟨a2, rfl, rfl, rfl, w2⟩ := open_int Try.underlying22 (hval 2 22 v2 rfl rfl) h2
  clear hA0 hval0
  simp only [List.append_nil] at hW'
  refine (walk a0 a1 a2 w0 w1 w2 W).mono fun e W' ⟨he, hg⟩ => ?_
  subst he
  exact ⟨_, rfl, post_of_same (pa := []) (pv := []) hW' (fun _ _ _ => (trodAll_cons_mk (shut_bool Try.underlying4 _) trodAll_mk0)) (fun sp _ => (trodAll_cons_mk (shut_int Try.underlying22 w0) (trodAll_cons_mk (shut_int Try.underlying22 w1) (trodAll_cons_mk (shut_int Try.underlying22 w2) trodAll_mk0)))) (fun _ _ => rfl) rfl
    (hg.frame _) hg.2.1 (ok_one (by kernel_rfl) rfl (okWide_bool_mk Try.underlying4 _))⟩

theorem over : Rows.cellUndoesRow.holds Try.pinned (OpenSpec.ofChange Rows.cellUndoesSpec) :=
  OpenClaim.holds_of_wide 5 Try.f5 rfl rfl rfl rfl rfl rfl rfl ⟨rfl, rfl, rfl, rfl, rfl⟩ rfl rfl rfl rfl rfl (by kernel_rfl) Try.func5 (by kernel_rfl)
    (of_decide_eq_true (by kernel_rfl)) (by unfold Func.isWrapper; first | (rw [if_pos (by decide +kernel)]; kernel_rfl) | (rw [if_neg (by decide +kernel)]; exact ⟨rfl, rfl⟩))
    (fun os started H enc _ => lifted os started H enc)

/-- the given statement -/
theorem proved : Rows.CellUndoesSaid :=
  over
end Go.Proofs.Ytfmlkclacbceeab.cellUndoes
namespace Go.Proofs.Ytfmlkclacbceeab
theorem cellUndoes_holds : Rows.CellUndoesSaid := cellUndoes.proved
#print axioms cellUndoes_holds
end Go.Proofs.Ytfmlkclacbceeab
