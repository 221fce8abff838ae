/-
  MemCompares: for every memory and stretches, Compare of the program answers as the document says, and the other way round with the other sign: the law returns true. No conditions.
-/
import Derived.Test.YtdhhmldcablbgaaRows
import Derived.WalkKit
import Derived.ProofKit
import Derived.OpenShut
import Derived.ShutString
import Derived.ChangeOld
import Derived.Below
import Derived.Carry
import Derived.SizedLaws
import Derived.Test.YtdhhmldcablbgaaSl
import Derived.Test.YtdhhmldcablbgaaArr
import Derived.Test.YtdhhmldcablbgaaMal
import Derived.Test.YtdhhmldcablbgaaPmn
namespace Go.Proofs.Ytdhhmldcablbgaa.memCompares
open Go.ChangeShapes Go.WideShapes Go.ChangeAt Go.RowKit
open Go.ChangeMaps (open_string shut_string)
set_option linter.unusedVariables false

theorem own : ownKnob Try.prog.godebug = none := by kernel_rfl
theorem laidOut : laidOutB Try.prog = true := by kernel_rfl
theorem cells23 : Try.prog.cellsOf 23 = 1 := by kernel_rfl
theorem cells38 : Try.prog.cellsOf 38 = 3 := by kernel_rfl
theorem bytes5 : Try.prog.bytesOf 5 = 1 := by kernel_rfl

set_option maxHeartbeats 4000000 in
set_option maxRecDepth 100000 in
theorem walk (v0 : Value) (x0 : List Int) (a1_0 a1_1 a1_2 : Int) (w : World) (r0 : Rd .u8 w v0 x0) (f0 : ∀ n ∈ x0, (Lit.int .u8 n).wf = true) (z0 : x0.length * 1 ≤ 140737488351232) (w1_0 : (Lit.int .u32 a1_0).wf = true) (w1_1 : (Lit.int .u32 a1_1).wf = true) (w1_2 : (Lit.int .u32 a1_2).wf = true) :
    Calls Try.prog 6 #[v0, .agg #[.int .u32 a1_0, .int .u32 a1_1, .int .u32 a1_2]] w fun e w' => e = .returned (.bool true) ∧ Below w.heap.size w w' := by
  have hB := wf_u8 f0
  obtain ⟨p0, p1⟩ := wf_c w1_0
  obtain ⟨q0, q1⟩ := wf_c w1_1
  obtain ⟨n0, n1⟩ := wf_c w1_2
  have hz : x0.length ≤ 140737488355328 := by omega
  obtain ⟨R, E, e1, e2, hR⟩ := cmpF_anti x0 a1_0 a1_1 a1_2
  have BZ := box_below w (.cells #[.int .u32 a1_0, .int .u32 a1_1, .int .u32 a1_2] 38)
  have cZ0 := box_cell w #[.int .u32 a1_0, .int .u32 a1_1, .int .u32 a1_2] 38 0 (.int .u32 a1_0) rfl
  have cZ1 := box_cell w #[.int .u32 a1_0, .int .u32 a1_1, .int .u32 a1_2] 38 1 (.int .u32 a1_1) rfl
  have cZ2 := box_cell w #[.int .u32 a1_0, .int .u32 a1_1, .int .u32 a1_2] 38 2 (.int .u32 a1_2) rfl
  have m1 : ∀ w, Rd .u8 w v0 x0 → Calls Try.prog 24 #[v0, .int .u32 a1_0, .int .u32 a1_1, .int .u32 a1_2] w fun e w' => e = .returned (.tuple #[.int .u32 R, .int .i64 E]) ∧ Below w.heap.size w w' := fun w h => by
    have := w_mcompare v0 x0 a1_0 a1_1 a1_2 w h hB hz p0 p1 q0 q1 n0 n1
    rw [e1] at this
    exact this
  have m2 : ∀ w, Rd .u8 w v0 x0 → Calls Try.prog 25 #[v0, .int .u32 a1_0, .int .u32 a1_1, .int .u32 a1_2] w fun e w' => e = .returned (.tuple #[.int .u32 R, .int .i64 E]) ∧ Below w.heap.size w w' := fun w h => by
    have := w_rcompare v0 x0 a1_0 a1_1 a1_2 w h hB hz p0 p1 q0 q1 n0 n1
    rw [e1] at this
    exact this
  have m3 : ∀ w, Rd .u8 w v0 x0 → Calls Try.prog 24 #[v0, .int .u32 a1_1, .int .u32 a1_0, .int .u32 a1_2] w fun e w' => e = .returned (.tuple #[.int .u32 (if R = 0 then 0 else 4294967296 - R), .int .i64 E]) ∧ Below w.heap.size w w' := fun w h => by
    have := w_mcompare v0 x0 a1_1 a1_0 a1_2 w h hB hz q0 q1 p0 p1 n0 n1
    rw [e2] at this
    exact this
  clear e1 e2
  rcases hR with rfl | rfl | rfl
  · go_enter Try.func6, Try.ntmps6
    go_wp2_with (go_at_call 9; refine (w_alive _).mono ?_; rintro e wa ⟨rfl, ba⟩; have BA := below_trans BZ ba; have cA0 := below_cell ba cZ0; have cA1 := below_cell ba cZ1; have cA2 := below_cell ba cZ2)
    refine (m1 _ (r0.below BA)).mono ?_
    rintro e wb ⟨rfl, bb⟩
    have BB := below_trans BA bb
    have cB0 := below_cell bb cA0
    have cB1 := below_cell bb cA1
    have cB2 := below_cell bb cA2
    go_wp2_with (go_at_call 25; refine (m2 _ (r0.below BB)).mono ?_; rintro e wc ⟨rfl, bc⟩; have BC := below_trans BB bc; have cC0 := below_cell bc cB0; have cC1 := below_cell bc cB1; have cC2 := below_cell bc cB2)
    refine (m3 _ (r0.below BC)).mono ?_
    rintro e wd ⟨rfl, bd⟩
    go_wp2_with fail
    go_ret
    exact ⟨rfl, below_trans BC bd⟩
  · go_enter Try.func6, Try.ntmps6
    go_wp2_with (go_at_call 9; refine (w_alive _).mono ?_; rintro e wa ⟨rfl, ba⟩; have BA := below_trans BZ ba; have cA0 := below_cell ba cZ0; have cA1 := below_cell ba cZ1; have cA2 := below_cell ba cZ2)
    refine (m1 _ (r0.below BA)).mono ?_
    rintro e wb ⟨rfl, bb⟩
    have BB := below_trans BA bb
    have cB0 := below_cell bb cA0
    have cB1 := below_cell bb cA1
    have cB2 := below_cell bb cA2
    go_wp2_with (go_at_call 25; refine (m2 _ (r0.below BB)).mono ?_; rintro e wc ⟨rfl, bc⟩; have BC := below_trans BB bc; have cC0 := below_cell bc cB0; have cC1 := below_cell bc cB1; have cC2 := below_cell bc cB2)
    refine (m3 _ (r0.below BC)).mono ?_
    rintro e wd ⟨rfl, bd⟩
    go_wp2_with fail
    go_ret
    exact ⟨rfl, below_trans BC bd⟩
  · go_enter Try.func6, Try.ntmps6
    go_wp2_with (go_at_call 9; refine (w_alive _).mono ?_; rintro e wa ⟨rfl, ba⟩; have BA := below_trans BZ ba; have cA0 := below_cell ba cZ0; have cA1 := below_cell ba cZ1; have cA2 := below_cell ba cZ2)
    refine (m1 _ (r0.below BA)).mono ?_
    rintro e wb ⟨rfl, bb⟩
    have BB := below_trans BA bb
    have cB0 := below_cell bb cA0
    have cB1 := below_cell bb cA1
    have cB2 := below_cell bb cA2
    go_wp2_with (go_at_call 25; refine (m2 _ (r0.below BB)).mono ?_; rintro e wc ⟨rfl, bc⟩; have BC := below_trans BB bc; have cC0 := below_cell bc cB0; have cC1 := below_cell bc cB1; have cC2 := below_cell bc cB2)
    refine (m3 _ (r0.below BC)).mono ?_
    rintro e wd ⟨rfl, bd⟩
    go_wp2_with fail
    go_ret
    exact ⟨rfl, below_trans BC bd⟩

set_option maxRecDepth 100000 in
theorem lifted (os : Os) (started : os.Started) (H : Type) (enc : TypeId × Value → H) :
    ReturnsInHanded {} Try.checked os 6 .any (Rows.memComparesSpec.pre6 enc Try.prog Try.f6 Rows.memComparesRow.domain false) (Rows.memComparesSpec.post enc Try.prog Try.f6 false true false false) := by
  refine returnsInHanded_of_change_sized (C := Try.checked) own started (by kernel_rfl) Try.func6
    (ChangeSpec.witness6 (enc := enc) (C := Try.checked) false ⟨#[], #[.slice none 0 0, .agg #[.int .u32 0, .int .u32 0, .int .u32 0]], []⟩ 8 (by kernel_rfl) (by kernel_rfl) (by kernel_rfl) (by kernel_rfl)) ?_
  intro W base args ds gs before hval0 hW hcnd hsz0 _
  have hval : ∀ (j : Nat) t v, Try.f6.params[j]? = some t → args[j]? = some v → Value.okWide Try.prog W .any base t v := hval0
  have hsz : (DataW.weightsEach Try.prog (Try.f6.params.toList ++ Rows.memComparesSpec.plain.varTypes Try.prog) (ds ++ gs)).all (· ≤ reachBytes) = true := hsz0
  have hW' := hW
  obtain ⟨p, q, hA0, hV, rfl, hfz, hnd⟩ := hW
  have hA : DataW.TrodAll enc Try.prog W 0 (fun _ => true) true Try.f6.params.toList args.toList ds p := hA0
  rw [Try.params6] at hA hval hsz
  obtain ⟨v0, vs0, d0, ds0, p0, q0, hargs, rfl, rfl, h0, r0⟩ := trodAll_cons hA
  obtain ⟨v1, vs1, d1, ds1, p1, q1, rfl, rfl, rfl, h1, r1⟩ := trodAll_cons r0
  obtain ⟨rfl, rfl, rfl⟩ := trodAll_nil r1
  obtain rfl : args = #[v0, v1] := by cases args; simp_all
  obtain ⟨rfl, rfl⟩ := trodVars_none hV
  obtain ⟨s0, l0, c0, rfl⟩ := okWide_slice Try.underlying22 (hval 0 22 v0 rfl rfl)
  have k0 := h0
  have lt0 : ∀ x ∈ p0, x.block < W.heap.size := by obtain ⟨m, hm⟩ := k0; exact DataW.trod_lt m _ _ _ hm
  obtain ⟨x0, r100, f0, hd0⟩ := rd_open (k := .u8) Try.underlying22 Try.underlying5 (by kernel_rfl) h0
  have z0 : x0.length * 1 ≤ 140737488351232 := by
    rcases hd0 with rfl | ⟨ys, zs, rfl, hle⟩
    · simp
    · have := sized_slice hsz (j := 0) (t := 22) (e := 5) rfl rfl Try.underlying22
      rw [bytes5] at this
      unfold reachBytes at this
      omega
  obtain ⟨a1_0, a1_1, a1_2, rfl, rfl, rfl, w1_0, w1_1, w1_2⟩ := open_arr3 Try.underlying38 Try.underlying23 cells23 cells38 (hval 1 38 v1 rfl rfl) h1
  clear hA0 hval0 hsz0
  refine (walk (.slice s0 l0 c0) x0 a1_0 a1_1 a1_2 W r100 f0 z0 w1_0 w1_1 w1_2).mono fun e W' ⟨he, bel⟩ => ?_
  subst he
  exact ⟨_, rfl, _, _, _, [], _, [], hW', trodAll_mk1 (shut_bool Try.underlying4 _), (trodAll_cons_mk (Below.trod laidOut (by kernel_rfl) (of_decide_eq_true (by kernel_rfl)) k0 bel lt0) (trodAll_cons_mk (shut_arr3 Try.underlying38 Try.underlying23 cells23 cells38 w1_0 w1_1 w1_2) trodAll_mk0)), rfl, bel.frame _, fun h => by cases h⟩

theorem over : Rows.memComparesRow.holds Try.pinned (OpenSpec.ofChange Rows.memComparesSpec) :=
  OpenClaim.holds_of_wide 6 Try.f6 rfl rfl rfl rfl rfl rfl rfl ⟨rfl, rfl, rfl, rfl, rfl⟩ rfl rfl rfl rfl rfl (by kernel_rfl) Try.func6 (by kernel_rfl)
    (of_decide_eq_true (by kernel_rfl)) (by unfold Func.isWrapper; first | (rw [if_pos (by decide +kernel)]; kernel_rfl) | (rw [if_neg (by decide +kernel)]; exact ⟨rfl, rfl⟩))
    (fun os started H enc _ => lifted os started H enc)
end Go.Proofs.Ytdhhmldcablbgaa.memCompares
namespace Go.Proofs.Ytdhhmldcablbgaa
theorem memCompares_holds : Rows.MemComparesSaid := memCompares.over
#print axioms memCompares_holds
end Go.Proofs.Ytdhhmldcablbgaa
