/-
  Points come to the same places, and new pictures are the same, by the program and by the document's answer: both come to one plain function.
-/
import Derived.Test.YthihkfimledccaaRows
import Derived.WalkKit
import Derived.ProofKit
import Derived.OpenShut
import Derived.ShutString
import Derived.ChangeOld
import Derived.Below
import Derived.Carry
import Derived.SizedLaws
import Derived.Test.YthihkfimledccaaB10
namespace Go.Proofs.Ythihkfimledccaa.screenPlaces
open Go.ChangeShapes Go.WideShapes Go.ChangeAt Go.RowKit
open Go.ChangeMaps (open_string shut_string)
set_option linter.unusedVariables false
set_option linter.unusedSimpArgs false

theorem own : ownKnob Try.prog.godebug = none := by kernel_rfl
theorem laidOut : laidOutB Try.prog = true := by kernel_rfl
theorem cells3 : Try.prog.cellsOf 3 = 1 := by kernel_rfl
theorem cells22 : Try.prog.cellsOf 22 = 2 := by kernel_rfl

set_option maxHeartbeats 4000000 in
set_option maxRecDepth 100000 in
theorem walk (a0_0 a0_1 : Int) (a1 : Int) (a2_0 a2_1 : Int) (w : World) (w0_0 : (Lit.int .i64 a0_0).wf = true) (w0_1 : (Lit.int .i64 a0_1).wf = true) (w1 : (Lit.int .i64 a1).wf = true) (w2_0 : (Lit.int .i64 a2_0).wf = true) (w2_1 : (Lit.int .i64 a2_1).wf = true) :
    Calls Try.prog 3 #[.agg #[.int .i64 a0_0, .int .i64 a0_1], .int .i64 a1, .agg #[.int .i64 a2_0, .int .i64 a2_1]] w fun e w' => e = .returned (.bool true) ∧ Below w.heap.size w w' := by
  have iw := fun {n : Int} (h : (Lit.int .i64 n).wf = true) => i64_wf22 h
  have c1 := fun w => w_pplace22 a0_0 a0_1 a1 a2_0 a2_1 w (iw w0_0) (iw w0_1) (iw w1) (iw w2_0) (iw w2_1)
  have c2 := fun w => w_rplace22 a0_0 a0_1 a1 a2_0 a2_1 w (iw w1).1 (iw w1).2
  have c3 := fun w => w_pnew22 a0_0 a0_1 w (iw w0_0) (iw w0_1)
  have c4 := fun w => w_rnew22 a0_0 a0_1 w
  have hby := nwI_bytes a0_0 a0_1 1
  obtain ⟨⟨K, L⟩, hL⟩ : ∃ x, plI a0_0 a0_1 a1 a2_0 a2_1 = x := ⟨_, rfl⟩
  obtain ⟨⟨⟨X, Y, P⟩, E⟩, hN⟩ : ∃ x, nwI a0_0 a0_1 1 = x := ⟨_, rfl⟩
  simp only [hL] at c1 c2
  simp only [hN] at c3 c4 hby
  clear hL hN
  have s0 := (stands_new w #[.int .i64 a0_0, .int .i64 a0_1] 22).below (box_below _ (.cells #[.int .i64 a2_0, .int .i64 a2_1] 22))
  have s1 := stands_new (w.alloc (.cells #[.int .i64 a0_0, .int .i64 a0_1] 22)) #[.int .i64 a2_0, .int .i64 a2_1] 22
  rw [size_al] at s1
  have bw : Below w.heap.size w ((w.alloc (.cells #[.int .i64 a0_0, .int .i64 a0_1] 22)).alloc (.cells #[.int .i64 a2_0, .int .i64 a2_1] 22)) := below_trans (box_below w _) (box_below _ _)
  go_enter Try.func3, Try.ntmps3
  go_upto_region 1 with fail
  generalize (w.alloc (.cells #[.int .i64 a0_0, .int .i64 a0_1] 22)).alloc (.cells #[.int .i64 a2_0, .int .i64 a2_1] 22) = W0 at s0 s1 bw ⊢
  go_upto_region 6 with (first
    | (go_at_call 9; refine (w_alive22 _).mono ?_; rintro e q1 ⟨rfl, b1⟩; have z0 := (s0.below b1).cell 0 _ rfl; have z1 := (s0.below b1).cell 1 _ rfl; have y0 := (s1.below b1).cell 0 _ rfl; have y1 := (s1.below b1).cell 1 _ rfl)
    | (go_at_call 10; refine (c1 _).mono ?_; rintro e q2 ⟨rfl, b2⟩; have z0 := below_cell b2 z0; have z1 := below_cell b2 z1; have y0 := below_cell b2 y0; have y1 := below_cell b2 y1; have b12 := below_trans b1 b2)
    | (go_at_call 11; refine (c2 _).mono ?_; rintro e q3 ⟨rfl, hw⟩; obtain rfl := hw.symm)
    | (go_at_call 12; refine (c3 _).mono ?_; rintro e q4 ⟨v4, rfl, ⟨vP, rfl, r4⟩, b4⟩; obtain ⟨pa, pq, rfl⟩ := rd_slice r4; have b14 := below_trans b12 b4)
    | fail)
  have bx4 := box_below q4 (.cells #[.int .i64 X, .int .i64 Y, .slice pa P.length pq] 28)
  have s4 := stands_new q4 #[.int .i64 X, .int .i64 Y, .slice pa P.length pq] 28
  have r4' := r4.below bx4
  have b15 := below_trans b14 bx4
  have z0 := (s0.below b15).cell 0 _ rfl
  have z1 := (s0.below b15).cell 1 _ rfl
  go_upto_region 7 with (first
    | (go_at_call 13; refine (c4 _).mono ?_; rintro e q5 ⟨v5, rfl, ⟨vQ, rfl, o5⟩, b5⟩; obtain ⟨qa, qq, rfl⟩ := own_form o5)
    | fail)
  have bx5 := box_below q5 (.cells #[.int .i64 X, .int .i64 Y, .slice qa P.length qq] 28)
  have s5 := stands_new q5 #[.int .i64 X, .int .i64 Y, .slice qa P.length qq] 28
  have r5 := ((Rd_own o5).1 : Rd .u8 q5 (.slice qa P.length qq) P).below bx5
  have b57 := below_trans b5 bx5
  have b17 := below_trans b15 b57
  have s4' := s4.below b57
  have z40 := s4'.cell 0 _ rfl
  have z41 := s4'.cell 1 _ rfl
  have z42 := s4'.cell 2 _ rfl
  have z50 := s5.cell 0 _ rfl
  have z51 := s5.cell 1 _ rfl
  have z52 := s5.cell 2 _ rfl
  have cS := w_rsame22 _ _ (X, Y, P) (X, Y, P) _ ⟨_, rfl, r4'.below b57⟩ ⟨_, rfl, r5⟩ hby hby
  rw [decide_eq_true rfl] at cS
  go_wp2_with (go_at_call 14; refine cS.mono ?_; rintro e q6 ⟨rfl, b6⟩)
  go_ret
  exact ⟨ret_b (by simp), below_trans (below_trans bw b17) b6⟩

set_option maxRecDepth 100000 in
theorem lifted (os : Os) (started : os.Started) (H : Type) (enc : TypeId × Value → H) :
    ReturnsInHanded {} Try.checked os 3 .any (Rows.screenPlacesSpec.pre6 enc Try.prog Try.f3 Rows.screenPlacesRow.domain false) (Rows.screenPlacesSpec.post enc Try.prog Try.f3 false true false false) := by
  refine returnsInHanded_of_change_sized (C := Try.checked) own started (by kernel_rfl) Try.func3
    (ChangeSpec.witness6 (enc := enc) (C := Try.checked) false ⟨#[], #[.agg #[.int .i64 0, .int .i64 0], .int .i64 0, .agg #[.int .i64 0, .int .i64 0]], []⟩ 8 (by kernel_rfl) (by kernel_rfl) (by kernel_rfl) (by kernel_rfl)) ?_
  intro W base args ds gs before hval0 hW hcnd hsz0 _
  have hval : ∀ (j : Nat) t v, Try.f3.params[j]? = some t → args[j]? = some v → Value.okWide Try.prog W .any base t v := hval0
  have hsz : (DataW.weightsEach Try.prog (Try.f3.params.toList ++ Rows.screenPlacesSpec.plain.varTypes Try.prog) (ds ++ gs)).all (· ≤ reachBytes) = true := hsz0
  have hW' := hW
  obtain ⟨p, q, hA0, hV, rfl, hfz, hnd⟩ := hW
  have hA : DataW.TrodAll enc Try.prog W 0 (fun _ => true) true Try.f3.params.toList args.toList ds p := hA0
  rw [Try.params3] at hA hval hsz
  obtain ⟨v0, vs0, d0, ds0, p0, q0, hargs, rfl, rfl, h0, r0⟩ := trodAll_cons hA
  obtain ⟨v1, vs1, d1, ds1, p1, q1, rfl, rfl, rfl, h1, r1⟩ := trodAll_cons r0
  obtain ⟨v2, vs2, d2, ds2, p2, q2, rfl, rfl, rfl, h2, r2⟩ := trodAll_cons r1
  obtain ⟨rfl, rfl, rfl⟩ := trodAll_nil r2
  obtain rfl : args = #[v0, v1, v2] := by cases args; simp_all
  obtain ⟨rfl, rfl⟩ := trodVars_none hV
  obtain ⟨a0_0, a0_1, rfl, rfl, rfl, w0_0, w0_1⟩ := open_arr2 Try.underlying22 Try.underlying3 cells3 cells22 (hval 0 22 v0 rfl rfl) h0
  obtain ⟨a1, rfl, rfl, rfl, w1⟩ := open_int Try.underlying3 (hval 1 3 v1 rfl rfl) h1
  obtain ⟨a2_0, a2_1, rfl, rfl, rfl, w2_0, w2_1⟩ := open_arr2 Try.underlying22 Try.underlying3 cells3 cells22 (hval 2 22 v2 rfl rfl) h2
  clear hA0 hval0 hsz0
  refine (walk a0_0 a0_1 a1 a2_0 a2_1 W w0_0 w0_1 w1 w2_0 w2_1).mono fun e W' ⟨he, bel⟩ => ?_
  subst he
  exact ⟨_, rfl, _, _, _, [], _, [], hW', trodAll_mk1 (shut_bool Try.underlying4 _), (trodAll_cons_mk (shut_arr2 Try.underlying22 Try.underlying3 cells3 cells22 w0_0 w0_1) (trodAll_cons_mk (shut_int Try.underlying3 w1) (trodAll_cons_mk (shut_arr2 Try.underlying22 Try.underlying3 cells3 cells22 w2_0 w2_1) trodAll_mk0))), rfl, bel.frame _, fun h => by cases h⟩

theorem over : Rows.screenPlacesRow.holds Try.pinned (OpenSpec.ofChange Rows.screenPlacesSpec) :=
  OpenClaim.holds_of_wide 3 Try.f3 rfl rfl rfl rfl rfl rfl rfl ⟨rfl, rfl, rfl, rfl, rfl⟩ rfl rfl rfl rfl rfl (by kernel_rfl) Try.func3 (by kernel_rfl)
    (of_decide_eq_true (by kernel_rfl)) (by unfold Func.isWrapper; first | (rw [if_pos (by decide +kernel)]; kernel_rfl) | (rw [if_neg (by decide +kernel)]; exact ⟨rfl, rfl⟩))
    (fun os started H enc _ => lifted os started H enc)
end Go.Proofs.Ythihkfimledccaa.screenPlaces
namespace Go.Proofs.Ythihkfimledccaa
theorem screenPlaces_holds : Rows.ScreenPlacesSaid := screenPlaces.over
#print axioms screenPlaces_holds
end Go.Proofs.Ythihkfimledccaa
