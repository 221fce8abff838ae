/-
  CellParts: for all cells, Join and Split of the program answer as the document says, and each undoes the other: the law returns true. No conditions.
-/
import Derived.Test.YtfmlkclacbceeaaRows
import Derived.WalkKit
import Derived.ProofKit
import Derived.OpenShut
import Derived.Test.YtfmlkclacbceeaaArr
import Derived.Test.YtfmlkclacbceeaaPar
namespace Go.Proofs.Ytfmlkclacbceeaa.cellParts
open Go.ChangeShapes Go.WideShapes Go.ChangeAt Go.RowKit
set_option linter.unusedVariables false

theorem own : ownKnob Try.prog.godebug = none := by kernel_rfl
theorem cells22 : Try.prog.cellsOf 22 = 1 := by kernel_rfl
theorem cells41 : Try.prog.cellsOf 41 = 4 := by kernel_rfl

set_option maxHeartbeats 4000000 in
theorem walk (a0_0 a0_1 a0_2 a0_3 : Int) (a1 : Int) (w0_0 : (Lit.int .u32 a0_0).wf = true) (w0_1 : (Lit.int .u32 a0_1).wf = true) (w0_2 : (Lit.int .u32 a0_2).wf = true) (w0_3 : (Lit.int .u32 a0_3).wf = true) (w1 : (Lit.int .u32 a1).wf = true) (w : World) :
    Calls Try.prog 8 #[.agg #[.int .u32 a0_0, .int .u32 a0_1, .int .u32 a0_2, .int .u32 a0_3], .int .u32 a1] w fun e w' => e = .returned (.bool true) ∧ Grown w w' := by
  obtain ⟨h0, g0⟩ := u32_bounds w0_0
  obtain ⟨h1, g1⟩ := u32_bounds w0_1
  obtain ⟨h2, g2⟩ := u32_bounds w0_2
  obtain ⟨h3, g3⟩ := u32_bounds w0_3
  obtain ⟨k0, k1⟩ := u32_bounds w1
  obtain ⟨j0, j1⟩ := jn_bd a0_0 a0_1 a0_2 a0_3
  have u1 : jn (a1 % 256) (a1 / 256 % 256) (a1 / 65536 % 256) (a1 / 16777216 % 256) = a1 := by unfold jn; omega
  have v0 : jn a0_0 a0_1 a0_2 a0_3 % 256 = a0_0 % 256 := by unfold jn; omega
  have v1 : jn a0_0 a0_1 a0_2 a0_3 / 256 % 256 = a0_1 % 256 := by unfold jn; omega
  have v2 : jn a0_0 a0_1 a0_2 a0_3 / 65536 % 256 = a0_2 % 256 := by unfold jn; omega
  have v3 : jn a0_0 a0_1 a0_2 a0_3 / 16777216 % 256 = a0_3 % 256 := by unfold jn; omega
  have qe := fun (w : World) (x0 x1 x2 x3 y0 y1 y2 y3 : Int) => run_neq_arr4 (P := Try.prog) w Try.underlying41 Try.underlying22 szU32 ptU32 x0 x1 x2 x3 y0 y1 y2 y3
  go_enter Try.func8, Try.ntmps8
  go_upto_region 3 with (first | (go_at_call 9; refine (w_alive _).mono ?_; rintro e w' ⟨rfl, rfl⟩))
  go_cut [27] (fun c wx => c = .bool false ∧ wx.cell? ⟨w.heap.size, 0, none⟩ = some (.int .u32 a0_0) ∧ wx.cell? ⟨w.heap.size, 1, none⟩ = some (.int .u32 a0_1) ∧ wx.cell? ⟨w.heap.size, 2, none⟩ = some (.int .u32 a0_2) ∧ wx.cell? ⟨w.heap.size, 3, none⟩ = some (.int .u32 a0_3) ∧ w.heap.size < wx.heap.size ∧ Grown w wx)
  case first =>
    go_region_with (first | (go_at_call 24; refine (w_join _ _ _ _ _ (by omega) (by omega) (by omega) (by omega) (by omega) (by omega) (by omega) (by omega)).mono ?_; rintro e w' ⟨rfl, rfl⟩) | (go_at_call 25; refine (w_rjoin _ _ _ _ _ (by omega) (by omega) (by omega) (by omega) (by omega) (by omega) (by omega) (by omega)).mono ?_; rintro e w' ⟨rfl, rfl⟩) | (go_at_call 26; refine (w_split _ _ (by omega) (by omega)).mono ?_; rintro e w' ⟨rfl, rfl⟩) | (go_at_call 27; refine (w_rsplit _ _ (by omega) (by omega)).mono ?_; rintro e w' ⟨rfl, rfl⟩))
    all_goals
      go_wp2_with fail
      go_meet
      refine ⟨rfl, ?_, ?_, ?_, ?_, ?_, by repeat (first | exact Grown.refl _ | assumption | apply Grown.drew | apply Grown.alloc | (refine grown_drewN ?_ _))⟩
      all_goals (first | (simp [go_sem]; done) | go_cell | (simp; omega))
  case rest =>
    obtain ⟨rfl, x0, x1, x2, x3, xs, xg⟩ := hcut
    have xt : ¬ w.heap.size = wc.heap.size := by omega
    have y1 : w.heap.size < wc.heap.size + 1 := by omega
    have y2 : w.heap.size < wc.heap.size + 1 + 1 := by omega
    have y3 : w.heap.size < wc.heap.size + 1 + 1 + 1 := by omega
    have z1 : ¬ w.heap.size = wc.heap.size + 1 := by omega
    have z2 : ¬ w.heap.size = wc.heap.size + 1 + 1 := by omega
    have z3 : ¬ w.heap.size = wc.heap.size + 1 + 1 + 1 := by omega
    go_wp2_with (first | (go_at_call 24; refine (w_join _ _ _ _ _ (by omega) (by omega) (by omega) (by omega) (by omega) (by omega) (by omega) (by omega)).mono ?_; rintro e w' ⟨rfl, rfl⟩) | (go_at_call 26; refine (w_split _ _ (by omega) (by omega)).mono ?_; rintro e w' ⟨rfl, rfl⟩))
    refine wp_loop_rounds 5 ?_
    rw [rounds_succ]
    go_wp2
    go_quiet (fail)
    go_wp2
    rw [rounds_succ]
    go_wp2
    go_quiet (fail)
    go_wp2
    rw [rounds_succ]
    go_wp2
    go_quiet (fail)
    go_wp2
    rw [rounds_succ]
    go_wp2
    go_quiet (fail)
    go_wp2
    rw [rounds_succ]
    go_wp2
    go_ret
    exact ⟨rfl, by repeat (first | exact Grown.refl _ | assumption | apply Grown.drew | apply Grown.alloc | (refine grown_drewN ?_ _))⟩

set_option maxRecDepth 100000 in
theorem lifted (os : Os) (started : os.Started) (H : Type) (enc : TypeId × Value → H) :
    ReturnsInHanded {} Try.checked os 8 .any (Rows.cellPartsSpec.pre6 enc Try.prog Try.f8 Rows.cellPartsRow.domain false) (Rows.cellPartsSpec.post enc Try.prog Try.f8 false true false false) := by
  refine returnsInHanded_of_change (C := Try.checked) own started (by kernel_rfl) Try.func8
    (ChangeSpec.witness6 (enc := enc) (C := Try.checked) false ⟨#[], #[.agg #[.int .u32 0, .int .u32 0, .int .u32 0, .int .u32 0], .int .u32 0], []⟩ 8 (by kernel_rfl) (by kernel_rfl) (by kernel_rfl) (by kernel_rfl)) ?_
  intro W base args ds gs before hval0 hW hcnd _
  have hval : ∀ (j : Nat) t v, Try.f8.params[j]? = some t → args[j]? = some v → Value.okWide Try.prog W .any base t v := hval0
  have hW' := hW
  obtain ⟨p, q, hA0, hV, rfl, hfz, hnd⟩ := hW
  have hA : DataW.TrodAll enc Try.prog W 0 (fun _ => true) true Try.f8.params.toList args.toList ds p := hA0
  rw [Try.params8] at hA hval
  obtain ⟨v0, vs0, d0, ds0, p0, q0, hargs, rfl, rfl, h0, r0⟩ := trodAll_cons hA
  obtain ⟨v1, vs1, d1, ds1, p1, q1, rfl, rfl, rfl, h1, r1⟩ := trodAll_cons r0
  obtain ⟨rfl, rfl, rfl⟩ := trodAll_nil r1
  obtain rfl : args = #[v0, v1] := by cases args; simp_all
  obtain ⟨rfl, rfl⟩ := trodVars_none hV
  obtain ⟨a0_0, a0_1, a0_2, a0_3, rfl, rfl, rfl, w0_0, w0_1, w0_2, w0_3⟩ := open_arr4 Try.underlying41 Try.underlying22 cells22 cells41 (hval 0 41 v0 rfl rfl) h0
  obtain ⟨a1, rfl, rfl, rfl, w1⟩ := open_int Try.underlying22 (hval 1 22 v1 rfl rfl) h1
  clear hA0 hval0
  simp only [List.append_nil] at hW'
  refine (walk a0_0 a0_1 a0_2 a0_3 a1 w0_0 w0_1 w0_2 w0_3 w1 W).mono fun e W' ⟨he, hg⟩ => ?_
  subst he
  exact ⟨_, rfl, post_of_same (pa := []) (pv := []) hW' (fun _ _ _ => (trodAll_cons_mk (shut_bool Try.underlying4 _) trodAll_mk0)) (fun sp _ => (trodAll_cons_mk (shut_arr4 Try.underlying41 Try.underlying22 cells22 cells41 w0_0 w0_1 w0_2 w0_3) (trodAll_cons_mk (shut_int Try.underlying22 w1) trodAll_mk0))) (fun _ _ => rfl) rfl
    (hg.frame _) hg.2.1 (ok_one (by kernel_rfl) rfl (okWide_bool_mk Try.underlying4 _))⟩

theorem over : Rows.cellPartsRow.holds Try.pinned (OpenSpec.ofChange Rows.cellPartsSpec) :=
  OpenClaim.holds_of_wide 8 Try.f8 rfl rfl rfl rfl rfl rfl rfl ⟨rfl, rfl, rfl, rfl, rfl⟩ rfl rfl rfl rfl rfl (by kernel_rfl) Try.func8 (by kernel_rfl)
    (of_decide_eq_true (by kernel_rfl)) (by unfold Func.isWrapper; first | (rw [if_pos (by decide +kernel)]; kernel_rfl) | (rw [if_neg (by decide +kernel)]; exact ⟨rfl, rfl⟩))
    (fun os started H enc _ => lifted os started H enc)
end Go.Proofs.Ytfmlkclacbceeaa.cellParts
namespace Go.Proofs.Ytfmlkclacbceeaa
theorem cellParts_holds : Rows.CellPartsSaid := cellParts.over
#print axioms cellParts_holds
end Go.Proofs.Ytfmlkclacbceeaa
