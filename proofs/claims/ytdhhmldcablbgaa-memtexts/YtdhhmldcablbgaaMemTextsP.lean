/-
  MemTexts: for every memory, stretch and text, Text and Put of the program answer as the document says and leave what they are handed: the law returns true. No conditions.
-/
import Derived.Test.YtdhhmldcablbgaaRows
import Derived.WalkKit
import Derived.ProofKit
import Derived.OpenShut
import Derived.ShutString
import Derived.ChangeOld
import Derived.Below
import Derived.Carry
import Derived.SizedLaws
import Derived.Test.YtdhhmldcablbgaaSl
import Derived.Test.YtdhhmldcablbgaaArr
import Derived.Test.YtdhhmldcablbgaaMal
import Derived.Test.YtdhhmldcablbgaaPmn
namespace Go.Proofs.Ytdhhmldcablbgaa.memTexts
open Go.ChangeShapes Go.WideShapes Go.ChangeAt Go.RowKit
open Go.ChangeMaps (open_string shut_string)
set_option linter.unusedVariables false

theorem own : ownKnob Try.prog.godebug = none := by kernel_rfl
theorem laidOut : laidOutB Try.prog = true := by kernel_rfl
theorem cells23 : Try.prog.cellsOf 23 = 1 := by kernel_rfl
theorem cells24 : Try.prog.cellsOf 24 = 2 := by kernel_rfl
theorem bytes5 : Try.prog.bytesOf 5 = 1 := by kernel_rfl

set_option maxHeartbeats 4000000 in
set_option maxRecDepth 100000 in
theorem walk (v0 : Value) (x0 : List Int) (a1_0 a1_1 : Int) (a2 : ByteArray) (w : World) (r0 : Rd .u8 w v0 x0) (f0 : ∀ n ∈ x0, (Lit.int .u8 n).wf = true) (z0 : x0.length * 1 ≤ 140737488351232) (w1_0 : (Lit.int .u32 a1_0).wf = true) (w1_1 : (Lit.int .u32 a1_1).wf = true) (w2 : a2.size ≤ maxLen) :
    Calls Try.prog 4 #[v0, .agg #[.int .u32 a1_0, .int .u32 a1_1], .string a2] w fun e w' => e = .returned (.bool true) ∧ Below w.heap.size w w' := by
  have hB := wf_u8 f0
  obtain ⟨p0, p1⟩ := wf_c w1_0
  obtain ⟨q0, q1⟩ := wf_c w1_1
  have hz : x0.length ≤ 140737488355328 := by omega
  have hS := put_bytes hB (LB_bytes a2) a1_0
  obtain ⟨T, hT⟩ : ∃ T, strOfNums (texF x0 a1_0 a1_1).1 = T := ⟨_, rfl⟩
  have ct1 : ∀ w v, Rd .u8 w v x0 → Calls Try.prog 16 #[v, .int .u32 a1_0, .int .u32 a1_1] w fun e w' => e = .returned (.tuple #[.string T, .int .i64 (texF x0 a1_0 a1_1).2]) ∧ Below w.heap.size w w' := fun w v h => by
    have := w_mtext v x0 a1_0 a1_1 w h hB hz p0 p1 q0 q1
    rw [hT] at this
    exact this
  have ct2 : ∀ w v, Rd .u8 w v x0 → Calls Try.prog 17 #[v, .int .u32 a1_0, .int .u32 a1_1] w fun e w' => e = .returned (.tuple #[.string T, .int .i64 (texF x0 a1_0 a1_1).2]) ∧ Below w.heap.size w w' := fun w v h => by
    have := w_rtext v x0 a1_0 a1_1 w h hB hz p0 p1 q0 q1
    rw [hT] at this
    exact this
  clear hT
  have BZ := box_below w (.cells #[.int .u32 a1_0, .int .u32 a1_1] 24)
  have cZ0 := box_cell w #[.int .u32 a1_0, .int .u32 a1_1] 24 0 (.int .u32 a1_0) rfl
  have cZ1 := box_cell w #[.int .u32 a1_0, .int .u32 a1_1] 24 1 (.int .u32 a1_1) rfl
  go_enter Try.func4, Try.ntmps4
  go_wp2_with (first
    | (go_at_call 9; refine (w_alive _).mono ?_; rintro e wa ⟨rfl, ba⟩; have BA := below_trans BZ ba; have cA0 := below_cell ba cZ0; have cA1 := below_cell ba cZ1)
    | (go_at_call 10; refine (w_rcopy v0 x0 _ (r0.below BA) hz).mono ?_; rintro e wb ⟨u1, rfl, o1, bb⟩; have BB := below_trans BA bb; have cB0 := below_cell bb cA0; have cB1 := below_cell bb cA1; have ro := (Rd_own o1).1)
    | (go_at_call 16; refine (ct1 _ u1 ro).mono ?_; rintro e wc ⟨rfl, bc⟩; have BC := below_trans BB bc; have cC0 := below_cell bc cB0; have cC1 := below_cell bc cB1)
    | (go_at_call 17; refine (ct2 _ v0 (r0.below BC)).mono ?_; rintro e wd ⟨rfl, bd⟩; have BD := below_trans BC bd; have cD0 := below_cell bd cC0; have cD1 := below_cell bd cC1)
    | (go_at_call 18; refine (w_mput u1 x0 a1_0 a2 _ (ro.below (below_trans bc bd)) hB hz p0 p1 w2).mono ?_; rintro e we ⟨u2, rfl, ru2, be⟩; have BE := below_trans BD be; have cE0 := below_cell be cD0; have cE1 := below_cell be cD1)
    | (go_at_call 19; refine (w_rput v0 x0 a1_0 a2 _ (r0.below BE) hz p0 p1 w2).mono ?_; rintro e wf ⟨u3, rfl, ru3, bf⟩; have BF := below_trans BE bf; have cF0 := below_cell bf cE0; have cF1 := below_cell bf cE1))
  refine (w_rsame _ _ _ _ _ (ru2.below bf) ru3 hS hS).mono ?_
  rintro e wg ⟨rfl, rfl⟩
  go_wp2_with fail
  refine (w_rsame _ _ _ _ _ (ro.below (below_trans (below_trans (below_trans bc bd) be) bf)) (r0.below BF) hB hB).mono ?_
  rintro e wh ⟨rfl, rfl⟩
  go_wp2_with fail
  go_ret
  exact ⟨ret_b (by simp), BF⟩

set_option maxRecDepth 100000 in
theorem lifted (os : Os) (started : os.Started) (H : Type) (enc : TypeId × Value → H) :
    ReturnsInHanded {} Try.checked os 4 .any (Rows.memTextsSpec.pre6 enc Try.prog Try.f4 Rows.memTextsRow.domain false) (Rows.memTextsSpec.post enc Try.prog Try.f4 false true false false) := by
  refine returnsInHanded_of_change_sized (C := Try.checked) own started (by kernel_rfl) Try.func4
    (ChangeSpec.witness6 (enc := enc) (C := Try.checked) false ⟨#[], #[.slice none 0 0, .agg #[.int .u32 0, .int .u32 0], .string ⟨#[]⟩], []⟩ 8 (by kernel_rfl) (by kernel_rfl) (by kernel_rfl) (by kernel_rfl)) ?_
  intro W base args ds gs before hval0 hW hcnd hsz0 _
  have hval : ∀ (j : Nat) t v, Try.f4.params[j]? = some t → args[j]? = some v → Value.okWide Try.prog W .any base t v := hval0
  have hsz : (DataW.weightsEach Try.prog (Try.f4.params.toList ++ Rows.memTextsSpec.plain.varTypes Try.prog) (ds ++ gs)).all (· ≤ reachBytes) = true := hsz0
  have hW' := hW
  obtain ⟨p, q, hA0, hV, rfl, hfz, hnd⟩ := hW
  have hA : DataW.TrodAll enc Try.prog W 0 (fun _ => true) true Try.f4.params.toList args.toList ds p := hA0
  rw [Try.params4] at hA hval hsz
  obtain ⟨v0, vs0, d0, ds0, p0, q0, hargs, rfl, rfl, h0, r0⟩ := trodAll_cons hA
  obtain ⟨v1, vs1, d1, ds1, p1, q1, rfl, rfl, rfl, h1, r1⟩ := trodAll_cons r0
  obtain ⟨v2, vs2, d2, ds2, p2, q2, rfl, rfl, rfl, h2, r2⟩ := trodAll_cons r1
  obtain ⟨rfl, rfl, rfl⟩ := trodAll_nil r2
  obtain rfl : args = #[v0, v1, v2] := by cases args; simp_all
  obtain ⟨rfl, rfl⟩ := trodVars_none hV
  obtain ⟨s0, l0, c0, rfl⟩ := okWide_slice Try.underlying22 (hval 0 22 v0 rfl rfl)
  have k0 := h0
  have lt0 : ∀ x ∈ p0, x.block < W.heap.size := by obtain ⟨m, hm⟩ := k0; exact DataW.trod_lt m _ _ _ hm
  obtain ⟨x0, r100, f0, hd0⟩ := rd_open (k := .u8) Try.underlying22 Try.underlying5 (by kernel_rfl) h0
  have z0 : x0.length * 1 ≤ 140737488351232 := by
    rcases hd0 with rfl | ⟨ys, zs, rfl, hle⟩
    · simp
    · have := sized_slice hsz (j := 0) (t := 22) (e := 5) rfl rfl Try.underlying22
      rw [bytes5] at this
      unfold reachBytes at this
      omega
  obtain ⟨a1_0, a1_1, rfl, rfl, rfl, w1_0, w1_1⟩ := open_arr2 Try.underlying24 Try.underlying23 cells23 cells24 (hval 1 24 v1 rfl rfl) h1
  obtain ⟨a2, rfl, rfl, rfl, w2⟩ := open_string Try.underlying9 (hval 2 9 v2 rfl rfl) h2
  clear hA0 hval0 hsz0
  refine (walk (.slice s0 l0 c0) x0 a1_0 a1_1 a2 W r100 f0 z0 w1_0 w1_1 w2).mono fun e W' ⟨he, bel⟩ => ?_
  subst he
  exact ⟨_, rfl, _, _, _, [], _, [], hW', trodAll_mk1 (shut_bool Try.underlying4 _), (trodAll_cons_mk (Below.trod laidOut (by kernel_rfl) (of_decide_eq_true (by kernel_rfl)) k0 bel lt0) (trodAll_cons_mk (shut_arr2 Try.underlying24 Try.underlying23 cells23 cells24 w1_0 w1_1) (trodAll_cons_mk (shut_string Try.underlying9 w2) trodAll_mk0))), rfl, bel.frame _, fun h => by cases h⟩

theorem over : Rows.memTextsRow.holds Try.pinned (OpenSpec.ofChange Rows.memTextsSpec) :=
  OpenClaim.holds_of_wide 4 Try.f4 rfl rfl rfl rfl rfl rfl rfl ⟨rfl, rfl, rfl, rfl, rfl⟩ rfl rfl rfl rfl rfl (by kernel_rfl) Try.func4 (by kernel_rfl)
    (of_decide_eq_true (by kernel_rfl)) (by unfold Func.isWrapper; first | (rw [if_pos (by decide +kernel)]; kernel_rfl) | (rw [if_neg (by decide +kernel)]; exact ⟨rfl, rfl⟩))
    (fun os started H enc _ => lifted os started H enc)
end Go.Proofs.Ytdhhmldcablbgaa.memTexts
namespace Go.Proofs.Ytdhhmldcablbgaa
theorem memTexts_holds : Rows.MemTextsSaid := memTexts.over
#print axioms memTexts_holds
end Go.Proofs.Ytdhhmldcablbgaa
