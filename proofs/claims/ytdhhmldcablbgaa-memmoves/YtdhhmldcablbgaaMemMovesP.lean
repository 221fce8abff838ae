/-
  MemMoves: for every memory and stretches, also over one another, Move and Fill of the program answer as the document says and leave what they are handed: the law returns true. No conditions.
-/
import Derived.Test.YtdhhmldcablbgaaRows
import Derived.WalkKit
import Derived.ProofKit
import Derived.OpenShut
import Derived.ShutString
import Derived.ChangeOld
import Derived.Below
import Derived.Carry
import Derived.SizedLaws
import Derived.Test.YtdhhmldcablbgaaSl
import Derived.Test.YtdhhmldcablbgaaArr
import Derived.Test.YtdhhmldcablbgaaMal
import Derived.Test.YtdhhmldcablbgaaPmn
namespace Go.Proofs.Ytdhhmldcablbgaa.memMoves
open Go.ChangeShapes Go.WideShapes Go.ChangeAt Go.RowKit
open Go.ChangeMaps (open_string shut_string)
set_option linter.unusedVariables false

theorem own : ownKnob Try.prog.godebug = none := by kernel_rfl
theorem laidOut : laidOutB Try.prog = true := by kernel_rfl
theorem cells23 : Try.prog.cellsOf 23 = 1 := by kernel_rfl
theorem cells38 : Try.prog.cellsOf 38 = 3 := by kernel_rfl
theorem bytes5 : Try.prog.bytesOf 5 = 1 := by kernel_rfl

set_option maxHeartbeats 4000000 in
set_option maxRecDepth 100000 in
theorem walk (v0 : Value) (x0 : List Int) (a1_0 a1_1 a1_2 : Int) (a2 : Int) (w : World) (r0 : Rd .u8 w v0 x0) (f0 : ∀ n ∈ x0, (Lit.int .u8 n).wf = true) (z0 : x0.length * 1 ≤ 140737488351232) (w1_0 : (Lit.int .u32 a1_0).wf = true) (w1_1 : (Lit.int .u32 a1_1).wf = true) (w1_2 : (Lit.int .u32 a1_2).wf = true) (w2 : (Lit.int .u32 a2).wf = true) :
    Calls Try.prog 5 #[v0, .agg #[.int .u32 a1_0, .int .u32 a1_1, .int .u32 a1_2], .int .u32 a2] w fun e w' => e = .returned (.bool true) ∧ Below w.heap.size w w' := by
  have hB := wf_u8 f0
  obtain ⟨p0, p1⟩ := wf_c w1_0
  obtain ⟨q0, q1⟩ := wf_c w1_1
  obtain ⟨n0, n1⟩ := wf_c w1_2
  obtain ⟨s0, s1⟩ := wf_c w2
  have hz : x0.length ≤ 140737488355328 := by omega
  have hM := mov_bytes hB a1_0 a1_1 a1_2
  have hF := fil_bytes hB a1_0 a1_2 a2
  have BZ := box_below w (.cells #[.int .u32 a1_0, .int .u32 a1_1, .int .u32 a1_2] 38)
  have cZ0 := box_cell w #[.int .u32 a1_0, .int .u32 a1_1, .int .u32 a1_2] 38 0 (.int .u32 a1_0) rfl
  have cZ1 := box_cell w #[.int .u32 a1_0, .int .u32 a1_1, .int .u32 a1_2] 38 1 (.int .u32 a1_1) rfl
  have cZ2 := box_cell w #[.int .u32 a1_0, .int .u32 a1_1, .int .u32 a1_2] 38 2 (.int .u32 a1_2) rfl
  go_enter Try.func5, Try.ntmps5
  go_wp2_with (first
    | (go_at_call 9; refine (w_alive _).mono ?_; rintro e wa ⟨rfl, ba⟩; have BA := below_trans BZ ba; have cA0 := below_cell ba cZ0; have cA1 := below_cell ba cZ1; have cA2 := below_cell ba cZ2)
    | (go_at_call 10; refine (w_rcopy v0 x0 _ (r0.below BA) hz).mono ?_; rintro e wb ⟨u1, rfl, o1, bb⟩; have BB := below_trans BA bb; have cB0 := below_cell bb cA0; have cB1 := below_cell bb cA1; have cB2 := below_cell bb cA2; have ro := (Rd_own o1).1)
    | (go_at_call 20; refine (w_mmove u1 x0 a1_0 a1_1 a1_2 _ ro hB hz p0 p1 q0 q1 n0 n1).mono ?_; rintro e wc ⟨u4, rfl, ru4, bc⟩; have BC := below_trans BB bc; have cC0 := below_cell bc cB0; have cC1 := below_cell bc cB1; have cC2 := below_cell bc cB2)
    | (go_at_call 21; refine (w_rmove v0 x0 a1_0 a1_1 a1_2 _ (r0.below BC) hB hz p0 p1 q0 q1 n0 n1).mono ?_; rintro e wd ⟨u5, rfl, ru5, bd⟩; have BD := below_trans BC bd; have cD0 := below_cell bd cC0; have cD1 := below_cell bd cC1; have cD2 := below_cell bd cC2)
    | (go_at_call 22; refine (w_mfill u1 x0 a1_0 a1_2 a2 _ (ro.below (below_trans bc bd)) hB hz p0 p1 n0 n1 s0 s1).mono ?_; rintro e we ⟨u2, rfl, ru2, be⟩; have BE := below_trans BD be; have cE0 := below_cell be cD0; have cE1 := below_cell be cD1; have cE2 := below_cell be cD2)
    | (go_at_call 23; refine (w_rfill v0 x0 a1_0 a1_2 a2 _ (r0.below BE) hz p0 p1 n0 n1 s0 s1).mono ?_; rintro e wf ⟨u3, rfl, ru3, bf⟩; have BF := below_trans BE bf; have cF0 := below_cell bf cE0; have cF1 := below_cell bf cE1; have cF2 := below_cell bf cE2))
  refine (w_rsame _ _ _ _ _ (ru4.below (below_trans (below_trans bd be) bf)) (ru5.below (below_trans be bf)) hM hM).mono ?_
  rintro e wg ⟨rfl, rfl⟩
  go_wp2_with fail
  refine (w_rsame _ _ _ _ _ (ru2.below bf) ru3 hF hF).mono ?_
  rintro e wh ⟨rfl, rfl⟩
  go_wp2_with fail
  refine (w_rsame _ _ _ _ _ (ro.below (below_trans (below_trans (below_trans bc bd) be) bf)) (r0.below BF) hB hB).mono ?_
  rintro e wi ⟨rfl, rfl⟩
  go_wp2_with fail
  go_ret
  exact ⟨ret_b (by simp), BF⟩

set_option maxRecDepth 100000 in
theorem lifted (os : Os) (started : os.Started) (H : Type) (enc : TypeId × Value → H) :
    ReturnsInHanded {} Try.checked os 5 .any (Rows.memMovesSpec.pre6 enc Try.prog Try.f5 Rows.memMovesRow.domain false) (Rows.memMovesSpec.post enc Try.prog Try.f5 false true false false) := by
  refine returnsInHanded_of_change_sized (C := Try.checked) own started (by kernel_rfl) Try.func5
    (ChangeSpec.witness6 (enc := enc) (C := Try.checked) false ⟨#[], #[.slice none 0 0, .agg #[.int .u32 0, .int .u32 0, .int .u32 0], .int .u32 0], []⟩ 8 (by kernel_rfl) (by kernel_rfl) (by kernel_rfl) (by kernel_rfl)) ?_
  intro W base args ds gs before hval0 hW hcnd hsz0 _
  have hval : ∀ (j : Nat) t v, Try.f5.params[j]? = some t → args[j]? = some v → Value.okWide Try.prog W .any base t v := hval0
  have hsz : (DataW.weightsEach Try.prog (Try.f5.params.toList ++ Rows.memMovesSpec.plain.varTypes Try.prog) (ds ++ gs)).all (· ≤ reachBytes) = true := hsz0
  have hW' := hW
  obtain ⟨p, q, hA0, hV, rfl, hfz, hnd⟩ := hW
  have hA : DataW.TrodAll enc Try.prog W 0 (fun _ => true) true Try.f5.params.toList args.toList ds p := hA0
  rw [Try.params5] at hA hval hsz
  obtain ⟨v0, vs0, d0, ds0, p0, q0, hargs, rfl, rfl, h0, r0⟩ := trodAll_cons hA
  obtain ⟨v1, vs1, d1, ds1, p1, q1, rfl, rfl, rfl, h1, r1⟩ := trodAll_cons r0
  obtain ⟨v2, vs2, d2, ds2, p2, q2, rfl, rfl, rfl, h2, r2⟩ := trodAll_cons r1
  obtain ⟨rfl, rfl, rfl⟩ := trodAll_nil r2
  obtain rfl : args = #[v0, v1, v2] := by cases args; simp_all
  obtain ⟨rfl, rfl⟩ := trodVars_none hV
  obtain ⟨s0, l0, c0, rfl⟩ := okWide_slice Try.underlying22 (hval 0 22 v0 rfl rfl)
  have k0 := h0
  have lt0 : ∀ x ∈ p0, x.block < W.heap.size := by obtain ⟨m, hm⟩ := k0; exact DataW.trod_lt m _ _ _ hm
  obtain ⟨x0, r100, f0, hd0⟩ := rd_open (k := .u8) Try.underlying22 Try.underlying5 (by kernel_rfl) h0
  have z0 : x0.length * 1 ≤ 140737488351232 := by
    rcases hd0 with rfl | ⟨ys, zs, rfl, hle⟩
    · simp
    · have := sized_slice hsz (j := 0) (t := 22) (e := 5) rfl rfl Try.underlying22
      rw [bytes5] at this
      unfold reachBytes at this
      omega
  obtain ⟨a1_0, a1_1, a1_2, rfl, rfl, rfl, w1_0, w1_1, w1_2⟩ := open_arr3 Try.underlying38 Try.underlying23 cells23 cells38 (hval 1 38 v1 rfl rfl) h1
  obtain ⟨a2, rfl, rfl, rfl, w2⟩ := open_int Try.underlying23 (hval 2 23 v2 rfl rfl) h2
  clear hA0 hval0 hsz0
  refine (walk (.slice s0 l0 c0) x0 a1_0 a1_1 a1_2 a2 W r100 f0 z0 w1_0 w1_1 w1_2 w2).mono fun e W' ⟨he, bel⟩ => ?_
  subst he
  exact ⟨_, rfl, _, _, _, [], _, [], hW', trodAll_mk1 (shut_bool Try.underlying4 _), (trodAll_cons_mk (Below.trod laidOut (by kernel_rfl) (of_decide_eq_true (by kernel_rfl)) k0 bel lt0) (trodAll_cons_mk (shut_arr3 Try.underlying38 Try.underlying23 cells23 cells38 w1_0 w1_1 w1_2) (trodAll_cons_mk (shut_int Try.underlying23 w2) trodAll_mk0))), rfl, bel.frame _, fun h => by cases h⟩

theorem over : Rows.memMovesRow.holds Try.pinned (OpenSpec.ofChange Rows.memMovesSpec) :=
  OpenClaim.holds_of_wide 5 Try.f5 rfl rfl rfl rfl rfl rfl rfl ⟨rfl, rfl, rfl, rfl, rfl⟩ rfl rfl rfl rfl rfl (by kernel_rfl) Try.func5 (by kernel_rfl)
    (of_decide_eq_true (by kernel_rfl)) (by unfold Func.isWrapper; first | (rw [if_pos (by decide +kernel)]; kernel_rfl) | (rw [if_neg (by decide +kernel)]; exact ⟨rfl, rfl⟩))
    (fun os started H enc _ => lifted os started H enc)
end Go.Proofs.Ytdhhmldcablbgaa.memMoves
namespace Go.Proofs.Ytdhhmldcablbgaa
theorem memMoves_holds : Rows.MemMovesSaid := memMoves.over
#print axioms memMoves_holds
end Go.Proofs.Ytdhhmldcablbgaa
