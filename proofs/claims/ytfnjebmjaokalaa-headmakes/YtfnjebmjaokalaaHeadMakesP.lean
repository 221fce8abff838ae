/-
  A program has the header that the document says: both calls come to one plain function, and so do both sums.
-/
import Derived.Test.YtfnjebmjaokalaaRows
import Derived.WalkKit
import Derived.ProofKit
import Derived.OpenShut
import Derived.ShutString
import Derived.ChangeOld
import Derived.Below
import Derived.Carry
import Derived.SizedLaws
import Derived.Test.YtfnjebmjaokalaaSl
import Derived.Test.YtfnjebmjaokalaaHal
import Derived.Test.YtfnjebmjaokalaaHr1
namespace Go.Proofs.Ytfnjebmjaokalaa.headMakes
open Go.ChangeShapes Go.WideShapes Go.ChangeAt Go.RowKit
open Go.ChangeMaps (open_string shut_string)
set_option linter.unusedVariables false
set_option linter.unusedSimpArgs false

theorem own : ownKnob Try.prog.godebug = none := by kernel_rfl
theorem laidOut : laidOutB Try.prog = true := by kernel_rfl
theorem bytes5 : Try.prog.bytesOf 5 = 1 := by kernel_rfl

set_option maxHeartbeats 4000000 in
set_option maxRecDepth 100000 in
theorem walk (v0 : Value) (x0 : List Int) (a1 : Bool) (w : World) (r0 : Rd .u8 w v0 x0) (f0 : ∀ n ∈ x0, (Lit.int .u8 n).wf = true) (z0 : x0.length * 1 ≤ 140737488351232) :
    Calls Try.prog 3 #[v0, .bool a1] w fun e w' => e = .returned (.bool true) ∧ Below w.heap.size w w' := by
  have hb0 : bytesL x0 := fun n hn => by have := f0 n hn; simp [Lit.wf, IntKind.min, IntKind.max, IntKind.bits, IntKind.signed] at this; omega
  have hz0 : x0.length ≤ 140737488355328 := by omega
  have hbb := mak_bytes x0 a1 hb0
  have c1 := fun w h => w_pmake v0 x0 a1 w h hb0 hz0
  have c2 := fun w h => w_rmake14 v0 x0 a1 w h hb0 hz0
  have c3 := fun w h => w_psum v0 x0 w h hb0 hz0
  have c4 := fun w h => w_rsum14 v0 x0 w h hb0 hz0
  obtain ⟨B, E, hE⟩ : ∃ B E, makF x0 a1 = (B, E) := ⟨_, _, rfl⟩
  obtain ⟨S, hS⟩ : ∃ S, sumF x0 = S := ⟨_, rfl⟩
  simp only [hE] at c1 c2 hbb
  simp only [hS] at c3 c4
  clear hE hS
  go_enter Try.func3, Try.ntmps3
  go_wp2_with (first
    | (go_at_call 7; refine (w_alive14 _).mono ?_; rintro e q1 ⟨rfl, b1⟩)
    | (go_at_call 8; refine (c1 _ (r0.below b1)).mono ?_; rintro e q2 ⟨v2, rfl, o2, b2⟩; have r2 := (Rd_own o2).1)
    | (go_at_call 9; refine (c2 _ (r0.below (below_trans b1 b2))).mono ?_; rintro e q3 ⟨v3, rfl, o3, b3⟩; have r3 := (Rd_own o3).1)
    | (go_at_call 10; refine (w_rsame v2 v3 B B q3 (r2.below b3) r3 hbb hbb).mono ?_; rintro e q4 ⟨rfl, hw⟩; obtain rfl := hw.symm)
    | (go_at_call 11; refine (c3 _ (r0.below (below_trans b1 (below_trans b2 b3)))).mono ?_; rintro e q5 ⟨rfl, hw⟩; obtain rfl := hw.symm)
    | (go_at_call 12; refine (c4 _ (r0.below (below_trans b1 (below_trans b2 b3)))).mono ?_; rintro e q6 ⟨rfl, hw⟩; obtain rfl := hw.symm))
  go_ret
  exact ⟨rfl, below_trans b1 (below_trans b2 b3)⟩

set_option maxRecDepth 100000 in
theorem lifted (os : Os) (started : os.Started) (H : Type) (enc : TypeId × Value → H) :
    ReturnsInHanded {} Try.checked os 3 .any (Rows.headMakesSpec.pre6 enc Try.prog Try.f3 Rows.headMakesRow.domain false) (Rows.headMakesSpec.post enc Try.prog Try.f3 false true false false) := by
  refine returnsInHanded_of_change_sized (C := Try.checked) own started (by kernel_rfl) Try.func3
    (ChangeSpec.witness6 (enc := enc) (C := Try.checked) false ⟨#[], #[.slice none 0 0, .bool false], []⟩ 8 (by kernel_rfl) (by kernel_rfl) (by kernel_rfl) (by kernel_rfl)) ?_
  intro W base args ds gs before hval0 hW hcnd hsz0 _
  have hval : ∀ (j : Nat) t v, Try.f3.params[j]? = some t → args[j]? = some v → Value.okWide Try.prog W .any base t v := hval0
  have hsz : (DataW.weightsEach Try.prog (Try.f3.params.toList ++ Rows.headMakesSpec.plain.varTypes Try.prog) (ds ++ gs)).all (· ≤ reachBytes) = true := hsz0
  have hW' := hW
  obtain ⟨p, q, hA0, hV, rfl, hfz, hnd⟩ := hW
  have hA : DataW.TrodAll enc Try.prog W 0 (fun _ => true) true Try.f3.params.toList args.toList ds p := hA0
  rw [Try.params3] at hA hval hsz
  obtain ⟨v0, vs0, d0, ds0, p0, q0, hargs, rfl, rfl, h0, r0⟩ := trodAll_cons hA
  obtain ⟨v1, vs1, d1, ds1, p1, q1, rfl, rfl, rfl, h1, r1⟩ := trodAll_cons r0
  obtain ⟨rfl, rfl, rfl⟩ := trodAll_nil r1
  obtain rfl : args = #[v0, v1] := by cases args; simp_all
  obtain ⟨rfl, rfl⟩ := trodVars_none hV
  obtain ⟨s0, l0, c0, rfl⟩ := okWide_slice Try.underlying22 (hval 0 22 v0 rfl rfl)
  have k0 := h0
  have lt0 : ∀ x ∈ p0, x.block < W.heap.size := by obtain ⟨m, hm⟩ := k0; exact DataW.trod_lt m _ _ _ hm
  obtain ⟨x0, r100, f0, hd0⟩ := rd_open (k := .u8) Try.underlying22 Try.underlying5 (by kernel_rfl) h0
  have z0 : x0.length * 1 ≤ 140737488351232 := by
    rcases hd0 with rfl | ⟨ys, zs, rfl, hle⟩
    · simp
    · have := sized_slice hsz (j := 0) (t := 22) (e := 5) rfl rfl Try.underlying22
      rw [bytes5] at this
      unfold reachBytes at this
      omega
  obtain ⟨a1, rfl, rfl, rfl⟩ := open_bool Try.underlying4 (hval 1 4 v1 rfl rfl) h1
  clear hA0 hval0 hsz0
  refine (walk (.slice s0 l0 c0) x0 a1 W r100 f0 z0).mono fun e W' ⟨he, bel⟩ => ?_
  subst he
  exact ⟨_, rfl, _, _, _, [], _, [], hW', trodAll_mk1 (shut_bool Try.underlying4 _), (trodAll_cons_mk (Below.trod laidOut (by kernel_rfl) (of_decide_eq_true (by kernel_rfl)) k0 bel lt0) (trodAll_cons_mk (shut_bool Try.underlying4 a1) trodAll_mk0)), rfl, bel.frame _, fun h => by cases h⟩

theorem over : Rows.headMakesRow.holds Try.pinned (OpenSpec.ofChange Rows.headMakesSpec) :=
  OpenClaim.holds_of_wide 3 Try.f3 rfl rfl rfl rfl rfl rfl rfl ⟨rfl, rfl, rfl, rfl, rfl⟩ rfl rfl rfl rfl rfl (by kernel_rfl) Try.func3 (by kernel_rfl)
    (of_decide_eq_true (by kernel_rfl)) (by unfold Func.isWrapper; first | (rw [if_pos (by decide +kernel)]; kernel_rfl) | (rw [if_neg (by decide +kernel)]; exact ⟨rfl, rfl⟩))
    (fun os started H enc _ => lifted os started H enc)
end Go.Proofs.Ytfnjebmjaokalaa.headMakes
namespace Go.Proofs.Ytfnjebmjaokalaa
theorem headMakes_holds : Rows.HeadMakesSaid := headMakes.over
#print axioms headMakes_holds
end Go.Proofs.Ytfnjebmjaokalaa
