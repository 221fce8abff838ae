/-
  A machine is formed just where the document's answer says so, and it is copied as it is.
-/
import Derived.Test.YtfljcfpcokimcaaRows
import Derived.WalkKit
import Derived.ProofKit
import Derived.OpenShut
import Derived.ShutString
import Derived.ChangeOld
import Derived.Below
import Derived.Carry
import Derived.SizedLaws
import Derived.Test.YtfljcfpcokimcaaB40
namespace Go.Proofs.Ytfljcfpcokimcaa.dictForms
open Go.ChangeShapes Go.WideShapes Go.ChangeAt Go.RowKit
open Go.ChangeMaps (open_string shut_string)
set_option linter.unusedVariables false

theorem own : ownKnob Try.prog.godebug = none := by kernel_rfl
theorem laidOut : laidOutB Try.prog = true := by kernel_rfl

set_option maxHeartbeats 4000000 in
set_option maxRecDepth 100000 in
theorem walk (mv0 : Mv) (m0 : Mc) (mo0 : ByteArray) (w : World) (r0 : RdM w mv0 m0 mo0) (g0 : gM m0) (ws0 : mo0.size ≤ maxLen) :
    Calls Try.prog 4 #[.agg (mv0.cs m0 mo0)] w fun e w' => e = .returned (.bool true) ∧ Below w.heap.size w w' := by
  have hT : Tab w := trivial
  have bb := box_below w (.cells (mv0.cs m0 mo0) 32)
  have st_0 := stands_new w (mv0.cs m0 mo0) 32
  have t_0 := r0.below bb
  have hT_0 := hT.below bb
  have c1 := fun w hT h => w_p9formed m0 mv0 mo0 w hT h g0
  have c2 := fun w h => w_r9formed m0 mv0 mo0 w h g0.gd
  have c3 := fun w hT h => w_p9copy m0 mv0 mo0 w hT h g0
  have c4 := fun v w h h2 => w_r9eq m0 v mv0 mo0 mo0 w h h2 g0
  obtain ⟨B, hB⟩ : ∃ B, frmM m0 = B := ⟨_, rfl⟩
  simp only [hB] at c1 c2
  clear hB
  have qB : (B == B) = true := beq_self_eq_true B
  go_enter Try.func4, Try.ntmps4
  go_upto_region 1 with fail
  generalize w.alloc (.cells (mv0.cs m0 mo0) 32) = W0 at st_0 t_0 hT_0 bb ⊢
  have HS : Hid (∀ W, Below W0.heap.size W0 W → (W.cell? ⟨w.heap.size, 0, none⟩ = some mv0.vs ∧ W.cell? ⟨w.heap.size, 1, none⟩ = some mv0.vm ∧ W.cell? ⟨w.heap.size, 2, none⟩ = some mv0.vw ∧ W.cell? ⟨w.heap.size, 3, none⟩ = some mv0.vc ∧ W.cell? ⟨w.heap.size, 4, none⟩ = some (.int .u32 m0.base) ∧ W.cell? ⟨w.heap.size, 5, none⟩ = some mv0.vt ∧ W.cell? ⟨w.heap.size, 6, none⟩ = some (.int .i64 m0.node) ∧ W.cell? ⟨w.heap.size, 7, none⟩ = some mv0.vi ∧ W.cell? ⟨w.heap.size, 8, none⟩ = some (.int .i64 m0.self) ∧ W.cell? ⟨w.heap.size, 9, none⟩ = some (.string mo0))) := fun W g => mch_cells (st_0.below g)
  have hrd : Hid (Below W0.heap.size W0 W0.drew) := below_drewN (Below.refl _ _) 1
  have T0 := hid t_0
  have HT0 := hid hT_0
  clear t_0 hT_0
  go_region_held (fun W => (W.cell? ⟨w.heap.size, 0, none⟩ = some mv0.vs ∧ W.cell? ⟨w.heap.size, 1, none⟩ = some mv0.vm ∧ W.cell? ⟨w.heap.size, 2, none⟩ = some mv0.vw ∧ W.cell? ⟨w.heap.size, 3, none⟩ = some mv0.vc ∧ W.cell? ⟨w.heap.size, 4, none⟩ = some (.int .u32 m0.base) ∧ W.cell? ⟨w.heap.size, 5, none⟩ = some mv0.vt ∧ W.cell? ⟨w.heap.size, 6, none⟩ = some (.int .i64 m0.node) ∧ W.cell? ⟨w.heap.size, 7, none⟩ = some mv0.vi ∧ W.cell? ⟨w.heap.size, 8, none⟩ = some (.int .i64 m0.self) ∧ W.cell? ⟨w.heap.size, 9, none⟩ = some (.string mo0))) (exact HS.out _ (by first | with_reducible exact hrd.out | with_reducible exact R5.out | with_reducible exact R4.out | with_reducible exact R3.out | with_reducible exact R2.out | with_reducible exact R1.out))
    (first
      | (go_at_call 9; refine (w_alive9 _ (HT0.out.below hrd.out)).mono ?_; rintro e q1 ⟨rfl, b1⟩; have R1 : Hid (Below W0.heap.size W0 q1) := below_trans hrd.out b1)
      | (go_at_call 18; refine (c1 _ (HT0.out.below R1.out) (T0.out.below R1.out)).mono ?_; rintro e q2 ⟨rfl, b2⟩; have R2 : Hid (Below W0.heap.size W0 q2) := below_trans R1.out b2)
      | (go_at_call 19; refine (c2 _ (T0.out.below R2.out)).mono ?_; rintro e q3 ⟨rfl, b3⟩; have R3 : Hid (Below W0.heap.size W0 q3) := below_trans R2.out b3)
      | (go_at_call 20; refine (c3 _ (HT0.out.below R3.out) (T0.out.below R3.out)).mono ?_; rintro e q4 ⟨v4, rfl, p4, b4⟩; have R4 : Hid (Below W0.heap.size W0 q4) := below_trans R3.out b4; simp only [Mv.cs])
      | (go_at_call 10; refine (c4 v4 _ p4 (T0.out.below R4.out)).mono ?_; rintro e q5 ⟨rfl, b5⟩; have R5 : Hid (Below W0.heap.size W0 q5) := below_trans R4.out b5))
  go_wp2_with fail
  go_ret
  exact ⟨by simp, below_trans bb R5.out⟩

set_option maxRecDepth 100000 in
theorem lifted (os : Os) (started : os.Started) (H : Type) (enc : TypeId × Value → H) :
    ReturnsInHanded {} Try.checked os 4 .any (Rows.dictFormsSpec.pre6 enc Try.prog Try.f4 Rows.dictFormsRow.domain false) (Rows.dictFormsSpec.post enc Try.prog Try.f4 false true false false) := by
  refine returnsInHanded_of_change_sized (C := Try.checked) own started (by kernel_rfl) Try.func4
    (ChangeSpec.witness6 (enc := enc) (C := Try.checked) false ⟨#[], #[.agg #[.slice none 0 0, .slice none 0 0, .slice none 0 0, .slice none 0 0, .int .u32 0, .slice none 0 0, .int .i64 0, .slice none 0 0, .int .i64 0, .string ⟨#[]⟩]], []⟩ 8 (by kernel_rfl) (by kernel_rfl) (by kernel_rfl) (by kernel_rfl)) ?_
  intro W base args ds gs before hval0 hW hcnd hsz0 _
  have hval : ∀ (j : Nat) t v, Try.f4.params[j]? = some t → args[j]? = some v → Value.okWide Try.prog W .any base t v := hval0
  have hsz : (DataW.weightsEach Try.prog (Try.f4.params.toList ++ Rows.dictFormsSpec.plain.varTypes Try.prog) (ds ++ gs)).all (· ≤ reachBytes) = true := hsz0
  have hW' := hW
  obtain ⟨p, q, hA0, hV, rfl, hfz, hnd⟩ := hW
  have hA : DataW.TrodAll enc Try.prog W 0 (fun _ => true) true Try.f4.params.toList args.toList ds p := hA0
  rw [Try.params4] at hA hval hsz
  obtain ⟨v0, vs0, d0, ds0, p0, q0, hargs, rfl, rfl, h0, r0⟩ := trodAll_cons hA
  obtain ⟨rfl, rfl, rfl⟩ := trodAll_nil r0
  obtain rfl : args = #[v0] := by cases args; simp_all
  obtain ⟨rfl, rfl⟩ := trodVars_none hV
  have k0 := h0
  have lt0 : ∀ x ∈ p0, x.block < W.heap.size := by obtain ⟨m, hm⟩ := k0; exact DataW.trod_lt m _ _ _ hm
  obtain ⟨mv0, m0, mo0, rfl, r100, g0, ws0⟩ := mch_open (hval 0 32 v0 rfl rfl) h0 (fun n hn => by simpa using List.all_eq_true.1 hsz n (DataW.weights_mem_each (j := 0) (t := 32) (d := d0) rfl rfl n hn))
  clear hA0 hval0 hsz0
  refine (walk mv0 m0 mo0 W r100 g0 ws0).mono fun e W' ⟨he, bel⟩ => ?_
  subst he
  exact ⟨_, rfl, _, _, _, [], _, [], hW', trodAll_mk1 (shut_bool Try.underlying4 _), (trodAll_cons_mk (Below.trod laidOut (by kernel_rfl) (of_decide_eq_true (by kernel_rfl)) k0 bel lt0) trodAll_mk0), rfl, bel.frame _, fun h => by cases h⟩

theorem over : Rows.dictFormsRow.holds Try.pinned (OpenSpec.ofChange Rows.dictFormsSpec) :=
  OpenClaim.holds_of_wide 4 Try.f4 rfl rfl rfl rfl rfl rfl rfl ⟨rfl, rfl, rfl, rfl, rfl⟩ rfl rfl rfl rfl rfl (by kernel_rfl) Try.func4 (by kernel_rfl)
    (of_decide_eq_true (by kernel_rfl)) (by unfold Func.isWrapper; first | (rw [if_pos (by decide +kernel)]; kernel_rfl) | (rw [if_neg (by decide +kernel)]; exact ⟨rfl, rfl⟩))
    (fun os started H enc _ => lifted os started H enc)
end Go.Proofs.Ytfljcfpcokimcaa.dictForms
namespace Go.Proofs.Ytfljcfpcokimcaa
theorem dictForms_holds : Rows.DictFormsSaid := dictForms.over
#print axioms dictForms_holds
end Go.Proofs.Ytfljcfpcokimcaa
