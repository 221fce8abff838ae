/-
  What is found in an NVRAM, of any bytes, is what the document says, and what is handed in is left as it was.
-/
import Derived.Test.YtlnlifijnijgmaaRows
import Derived.WalkKit
import Derived.ProofKit
import Derived.OpenShut
import Derived.ShutString
import Derived.ChangeOld
import Derived.Below
import Derived.Carry
import Derived.SizedLaws
import Derived.Test.YtlnlifijnijgmaaSl
import Derived.Test.YtlnlifijnijgmaaNal
import Derived.Test.YtlnlifijnijgmaaNbp
import Derived.Test.YtlnlifijnijgmaaNr4
namespace Go.Proofs.Ytlnlifijnijgmaa.nvramRecovers
open Go.ChangeShapes Go.WideShapes Go.ChangeAt Go.RowKit
open Go.ChangeMaps (open_string shut_string)
set_option linter.unusedVariables false
set_option linter.unusedSimpArgs false

theorem own : ownKnob Try.prog.godebug = none := by kernel_rfl
theorem laidOut : laidOutB Try.prog = true := by kernel_rfl
theorem bytes5 : Try.prog.bytesOf 5 = 1 := by kernel_rfl

set_option maxHeartbeats 4000000 in
set_option maxRecDepth 100000 in
theorem walk (v0 : Value) (x0 : List Int) (w : World) (r0 : Rd .u8 w v0 x0) (f0 : ∀ n ∈ x0, (Lit.int .u8 n).wf = true) (z0 : x0.length * 1 ≤ 140737488351232) :
    Calls Try.prog 4 #[v0] w fun e w' => e = .returned (.bool true) ∧ Below w.heap.size w w' := by
  have hb0 : bytesL x0 := fun n hn => by have := f0 n hn; simp [Lit.wf, IntKind.min, IntKind.max, IntKind.bits, IntKind.signed] at this; omega
  have c1 := fun v w h => w_precover18 v x0 w h hb0 (by omega)
  have c2 := fun w h => w_rrecover18 v0 x0 w h hb0
  have hbb := rcv_bytes hb0
  obtain ⟨⟨B, K, O⟩, hE⟩ : ∃ x, rcvF x0 = x := ⟨_, rfl⟩
  simp only [hE] at c1 c2 hbb
  clear hE
  go_enter Try.func4, Try.ntmps4
  go_wp2_with (first
    | (go_at_call 9; refine (w_alive18 _).mono ?_; rintro e q1 ⟨rfl, b1⟩)
    | (go_at_call 12; refine (w_rcopy v0 x0 _ (r0.below b1) (by omega)).mono ?_; rintro e q2 ⟨v2, rfl, o2, b2⟩; have r2 := (Rd_own o2).1; have b12 := below_trans b1 b2)
    | (go_at_call 13; refine (c1 _ _ r2).mono ?_; rintro e q3 ⟨v3, rfl, r3, b3⟩; have b13 := below_trans b12 b3)
    | (go_at_call 14; refine (c2 _ (r0.below b13)).mono ?_; rintro e q4 ⟨v4, rfl, r4, b4⟩)
    | (go_at_call_of 15 v3; refine (w_rsame v3 v4 B B q4 (r3.below b4) r4 hbb hbb).mono ?_; rintro e q5 ⟨rfl, hw⟩; obtain rfl := hw.symm)
    | (go_at_call_of 15 v2; refine (w_rsame v2 v0 x0 x0 q4 (r2.below (below_trans b3 b4)) (r0.below (below_trans b13 b4)) hb0 hb0).mono ?_; rintro e q6 ⟨rfl, hw⟩; obtain rfl := hw.symm))
  go_ret
  exact ⟨ret_b (by simp), below_trans b13 b4⟩

set_option maxRecDepth 100000 in
theorem lifted (os : Os) (started : os.Started) (H : Type) (enc : TypeId × Value → H) :
    ReturnsInHanded {} Try.checked os 4 .any (Rows.nvramRecoversSpec.pre6 enc Try.prog Try.f4 Rows.nvramRecoversRow.domain false) (Rows.nvramRecoversSpec.post enc Try.prog Try.f4 false true false false) := by
  refine returnsInHanded_of_change_sized (C := Try.checked) own started (by kernel_rfl) Try.func4
    (ChangeSpec.witness6 (enc := enc) (C := Try.checked) false ⟨#[], #[.slice none 0 0], []⟩ 8 (by kernel_rfl) (by kernel_rfl) (by kernel_rfl) (by kernel_rfl)) ?_
  intro W base args ds gs before hval0 hW hcnd hsz0 _
  have hval : ∀ (j : Nat) t v, Try.f4.params[j]? = some t → args[j]? = some v → Value.okWide Try.prog W .any base t v := hval0
  have hsz : (DataW.weightsEach Try.prog (Try.f4.params.toList ++ Rows.nvramRecoversSpec.plain.varTypes Try.prog) (ds ++ gs)).all (· ≤ reachBytes) = true := hsz0
  have hW' := hW
  obtain ⟨p, q, hA0, hV, rfl, hfz, hnd⟩ := hW
  have hA : DataW.TrodAll enc Try.prog W 0 (fun _ => true) true Try.f4.params.toList args.toList ds p := hA0
  rw [Try.params4] at hA hval hsz
  obtain ⟨v0, vs0, d0, ds0, p0, q0, hargs, rfl, rfl, h0, r0⟩ := trodAll_cons hA
  obtain ⟨rfl, rfl, rfl⟩ := trodAll_nil r0
  obtain rfl : args = #[v0] := by cases args; simp_all
  obtain ⟨rfl, rfl⟩ := trodVars_none hV
  obtain ⟨s0, l0, c0, rfl⟩ := okWide_slice Try.underlying22 (hval 0 22 v0 rfl rfl)
  have k0 := h0
  have lt0 : ∀ x ∈ p0, x.block < W.heap.size := by obtain ⟨m, hm⟩ := k0; exact DataW.trod_lt m _ _ _ hm
  obtain ⟨x0, r100, f0, hd0⟩ := rd_open (k := .u8) Try.underlying22 Try.underlying5 (by kernel_rfl) h0
  have z0 : x0.length * 1 ≤ 140737488351232 := by
    rcases hd0 with rfl | ⟨ys, zs, rfl, hle⟩
    · simp
    · have := sized_slice hsz (j := 0) (t := 22) (e := 5) rfl rfl Try.underlying22
      rw [bytes5] at this
      unfold reachBytes at this
      omega
  clear hA0 hval0 hsz0
  refine (walk (.slice s0 l0 c0) x0 W r100 f0 z0).mono fun e W' ⟨he, bel⟩ => ?_
  subst he
  exact ⟨_, rfl, _, _, _, [], _, [], hW', trodAll_mk1 (shut_bool Try.underlying4 _), (trodAll_cons_mk (Below.trod laidOut (by kernel_rfl) (of_decide_eq_true (by kernel_rfl)) k0 bel lt0) trodAll_mk0), rfl, bel.frame _, fun h => by cases h⟩

theorem over : Rows.nvramRecoversRow.holds Try.pinned (OpenSpec.ofChange Rows.nvramRecoversSpec) :=
  OpenClaim.holds_of_wide 4 Try.f4 rfl rfl rfl rfl rfl rfl rfl ⟨rfl, rfl, rfl, rfl, rfl⟩ rfl rfl rfl rfl rfl (by kernel_rfl) Try.func4 (by kernel_rfl)
    (of_decide_eq_true (by kernel_rfl)) (by unfold Func.isWrapper; first | (rw [if_pos (by decide +kernel)]; kernel_rfl) | (rw [if_neg (by decide +kernel)]; exact ⟨rfl, rfl⟩))
    (fun os started H enc _ => lifted os started H enc)
end Go.Proofs.Ytlnlifijnijgmaa.nvramRecovers
namespace Go.Proofs.Ytlnlifijnijgmaa
theorem nvramRecovers_holds : Rows.NvramRecoversSaid := nvramRecovers.over
#print axioms nvramRecovers_holds
end Go.Proofs.Ytlnlifijnijgmaa
