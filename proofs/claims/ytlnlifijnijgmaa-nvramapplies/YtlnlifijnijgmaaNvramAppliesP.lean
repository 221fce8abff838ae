/-
  Of a row of bytes as many are written as the document says: both calls come to one plain function.
-/
import Derived.Test.YtlnlifijnijgmaaRows
import Derived.WalkKit
import Derived.ProofKit
import Derived.OpenShut
import Derived.ShutString
import Derived.ChangeOld
import Derived.Below
import Derived.Carry
import Derived.SizedLaws
import Derived.Test.YtlnlifijnijgmaaSl
import Derived.Test.YtlnlifijnijgmaaNal
import Derived.Test.YtlnlifijnijgmaaNbp
import Derived.Test.YtlnlifijnijgmaaNr4
namespace Go.Proofs.Ytlnlifijnijgmaa.nvramApplies
open Go.ChangeShapes Go.WideShapes Go.ChangeAt Go.RowKit
open Go.ChangeMaps (open_string shut_string)
set_option linter.unusedVariables false
set_option linter.unusedSimpArgs false

theorem own : ownKnob Try.prog.godebug = none := by kernel_rfl
theorem laidOut : laidOutB Try.prog = true := by kernel_rfl
theorem bytes5 : Try.prog.bytesOf 5 = 1 := by kernel_rfl

set_option maxHeartbeats 4000000 in
set_option maxRecDepth 100000 in
theorem walk (v0 : Value) (x0 : List Int) (v1 : Value) (x1 : List (Int × Int)) (a2 : Int) (w : World) (r0 : Rd .u8 w v0 x0) (f0 : ∀ n ∈ x0, (Lit.int .u8 n).wf = true) (z0 : x0.length * 1 ≤ 140737488351232) (r1 : SlR 2 pbR w v1 x1) (g1 : ∀ x ∈ x1, 0 ≤ x.2 ∧ x.2 < 256) (w2 : (Lit.int .i64 a2).wf = true) :
    Calls Try.prog 6 #[v0, v1, .int .i64 a2] w fun e w' => e = .returned (.bool true) ∧ Below w.heap.size w w' := by
  have hb0 : bytesL x0 := fun n hn => by have := f0 n hn; simp [Lit.wf, IntKind.min, IntKind.max, IntKind.bits, IntKind.signed] at this; omega
  have n0 : -9223372036854775808 ≤ a2 ∧ a2 < 9223372036854775808 := by have := w2; simp [Lit.wf, IntKind.min, IntKind.max, IntKind.bits, IntKind.signed] at this; omega
  have c1 := fun w h rl => w_papply18 v0 v1 x0 x1 a2 w h rl (by omega) n0.1 n0.2
  have c2 := fun w h rl => w_rapply18 v0 v1 x0 x1 a2 w h rl (by omega) n0.1 n0.2
  have hbb : bytesL (aplF x0 x1 a2) := apl_bytes _ _ hb0 (fun p hp => g1 p (List.mem_of_mem_take hp))
  obtain ⟨M, hM⟩ : ∃ M, aplF x0 x1 a2 = M := ⟨_, rfl⟩
  simp only [hM] at c1 c2 hbb
  clear hM
  go_enter Try.func6, Try.ntmps6
  go_wp2_with (first
    | (go_at_call 9; refine (w_alive18 _).mono ?_; rintro e q1 ⟨rfl, b1⟩)
    | (go_at_call 19; refine (c1 _ (r0.below b1) (r1.below b1 pbR_below)).mono ?_; rintro e q2 ⟨v2, rfl, o2, b2⟩; have r2 := (Rd_own o2).1; have b12 := below_trans b1 b2)
    | (go_at_call 20; refine (c2 _ (r0.below b12) (r1.below b12 pbR_below)).mono ?_; rintro e q3 ⟨v3, rfl, o3, b3⟩; have r3 := (Rd_own o3).1)
    | (go_at_call 15; refine (w_rsame v2 v3 M M q3 (r2.below b3) r3 hbb hbb).mono ?_; rintro e q4 ⟨rfl, hw⟩; obtain rfl := hw.symm))
  go_ret
  exact ⟨ret_b (by simp), below_trans b12 b3⟩

set_option maxRecDepth 100000 in
theorem lifted (os : Os) (started : os.Started) (H : Type) (enc : TypeId × Value → H) :
    ReturnsInHanded {} Try.checked os 6 .any (Rows.nvramAppliesSpec.pre6 enc Try.prog Try.f6 Rows.nvramAppliesRow.domain false) (Rows.nvramAppliesSpec.post enc Try.prog Try.f6 false true false false) := by
  refine returnsInHanded_of_change_sized (C := Try.checked) own started (by kernel_rfl) Try.func6
    (ChangeSpec.witness6 (enc := enc) (C := Try.checked) false ⟨#[], #[.slice none 0 0, .slice none 0 0, .int .i64 0], []⟩ 8 (by kernel_rfl) (by kernel_rfl) (by kernel_rfl) (by kernel_rfl)) ?_
  intro W base args ds gs before hval0 hW hcnd hsz0 _
  have hval : ∀ (j : Nat) t v, Try.f6.params[j]? = some t → args[j]? = some v → Value.okWide Try.prog W .any base t v := hval0
  have hsz : (DataW.weightsEach Try.prog (Try.f6.params.toList ++ Rows.nvramAppliesSpec.plain.varTypes Try.prog) (ds ++ gs)).all (· ≤ reachBytes) = true := hsz0
  have hW' := hW
  obtain ⟨p, q, hA0, hV, rfl, hfz, hnd⟩ := hW
  have hA : DataW.TrodAll enc Try.prog W 0 (fun _ => true) true Try.f6.params.toList args.toList ds p := hA0
  rw [Try.params6] at hA hval hsz
  obtain ⟨v0, vs0, d0, ds0, p0, q0, hargs, rfl, rfl, h0, r0⟩ := trodAll_cons hA
  obtain ⟨v1, vs1, d1, ds1, p1, q1, rfl, rfl, rfl, h1, r1⟩ := trodAll_cons r0
  obtain ⟨v2, vs2, d2, ds2, p2, q2, rfl, rfl, rfl, h2, r2⟩ := trodAll_cons r1
  obtain ⟨rfl, rfl, rfl⟩ := trodAll_nil r2
  obtain rfl : args = #[v0, v1, v2] := by cases args; simp_all
  obtain ⟨rfl, rfl⟩ := trodVars_none hV
  obtain ⟨s0, l0, c0, rfl⟩ := okWide_slice Try.underlying22 (hval 0 22 v0 rfl rfl)
  have k0 := h0
  have lt0 : ∀ x ∈ p0, x.block < W.heap.size := by obtain ⟨m, hm⟩ := k0; exact DataW.trod_lt m _ _ _ hm
  obtain ⟨x0, r100, f0, hd0⟩ := rd_open (k := .u8) Try.underlying22 Try.underlying5 (by kernel_rfl) h0
  have z0 : x0.length * 1 ≤ 140737488351232 := by
    rcases hd0 with rfl | ⟨ys, zs, rfl, hle⟩
    · simp
    · have := sized_slice hsz (j := 0) (t := 22) (e := 5) rfl rfl Try.underlying22
      rw [bytes5] at this
      unfold reachBytes at this
      omega
  obtain ⟨s1, l1, c1, rfl⟩ := okWide_slice Try.underlying32 (hval 1 32 v1 rfl rfl)
  have k1 := h1
  have lt1 : ∀ x ∈ p1, x.block < W.heap.size := by obtain ⟨m, hm⟩ := k1; exact DataW.trod_lt m _ _ _ hm
  obtain ⟨x1, r101, g1⟩ := pbs_open h1
  obtain ⟨a2, rfl, rfl, rfl, w2⟩ := open_int Try.underlying3 (hval 2 3 v2 rfl rfl) h2
  clear hA0 hval0 hsz0
  refine (walk (.slice s0 l0 c0) x0 (.slice s1 l1 c1) x1 a2 W r100 f0 z0 r101 g1 w2).mono fun e W' ⟨he, bel⟩ => ?_
  subst he
  exact ⟨_, rfl, _, _, _, [], _, [], hW', trodAll_mk1 (shut_bool Try.underlying4 _), (trodAll_cons_mk (Below.trod laidOut (by kernel_rfl) (of_decide_eq_true (by kernel_rfl)) k0 bel lt0) (trodAll_cons_mk (Below.trod laidOut (by kernel_rfl) (of_decide_eq_true (by kernel_rfl)) k1 bel lt1) (trodAll_cons_mk (shut_int Try.underlying3 w2) trodAll_mk0))), rfl, bel.frame _, fun h => by cases h⟩

theorem over : Rows.nvramAppliesRow.holds Try.pinned (OpenSpec.ofChange Rows.nvramAppliesSpec) :=
  OpenClaim.holds_of_wide 6 Try.f6 rfl rfl rfl rfl rfl rfl rfl ⟨rfl, rfl, rfl, rfl, rfl⟩ rfl rfl rfl rfl rfl (by kernel_rfl) Try.func6 (by kernel_rfl)
    (of_decide_eq_true (by kernel_rfl)) (by unfold Func.isWrapper; first | (rw [if_pos (by decide +kernel)]; kernel_rfl) | (rw [if_neg (by decide +kernel)]; exact ⟨rfl, rfl⟩))
    (fun os started H enc _ => lifted os started H enc)
end Go.Proofs.Ytlnlifijnijgmaa.nvramApplies
namespace Go.Proofs.Ytlnlifijnijgmaa
theorem nvramApplies_holds : Rows.NvramAppliesSaid := nvramApplies.over
#print axioms nvramApplies_holds
end Go.Proofs.Ytlnlifijnijgmaa
