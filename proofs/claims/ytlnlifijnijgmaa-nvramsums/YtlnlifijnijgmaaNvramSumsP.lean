/-
  The sum of a generation and data is the document's: both calls come to one plain function.
-/
import Derived.Test.YtlnlifijnijgmaaRows
import Derived.WalkKit
import Derived.ProofKit
import Derived.OpenShut
import Derived.ShutString
import Derived.ChangeOld
import Derived.Below
import Derived.Carry
import Derived.SizedLaws
import Derived.Test.YtlnlifijnijgmaaSl
import Derived.Test.YtlnlifijnijgmaaNal
import Derived.Test.YtlnlifijnijgmaaNbp
import Derived.Test.YtlnlifijnijgmaaNr4
namespace Go.Proofs.Ytlnlifijnijgmaa.nvramSums
open Go.ChangeShapes Go.WideShapes Go.ChangeAt Go.RowKit
open Go.ChangeMaps (open_string shut_string)
set_option linter.unusedVariables false
set_option linter.unusedSimpArgs false

theorem own : ownKnob Try.prog.godebug = none := by kernel_rfl
theorem laidOut : laidOutB Try.prog = true := by kernel_rfl
theorem bytes5 : Try.prog.bytesOf 5 = 1 := by kernel_rfl

set_option maxHeartbeats 4000000 in
set_option maxRecDepth 100000 in
theorem walk (a0 : Int) (v1 : Value) (x1 : List Int) (w : World) (w0 : (Lit.int .u8 a0).wf = true) (r1 : Rd .u8 w v1 x1) (f1 : ∀ n ∈ x1, (Lit.int .u8 n).wf = true) (z1 : x1.length * 1 ≤ 140737488351232) :
    Calls Try.prog 3 #[.int .u8 a0, v1] w fun e w' => e = .returned (.bool true) ∧ Below w.heap.size w w' := by
  have hb1 : bytesL x1 := fun n hn => by have := f1 n hn; simp [Lit.wf, IntKind.min, IntKind.max, IntKind.bits, IntKind.signed] at this; omega
  have g0 : 0 ≤ a0 ∧ a0 < 256 := by have := w0; simp [Lit.wf, IntKind.min, IntKind.max, IntKind.bits, IntKind.signed] at this; omega
  have c1 := fun w h => w_psum18 a0 v1 x1 w g0.1 g0.2 h hb1 (by omega)
  have c2 := fun w h => w_rsum18 a0 v1 x1 w g0.1 g0.2 h hb1 (by omega)
  obtain ⟨S, hS⟩ : ∃ S, nsF a0 x1 = S := ⟨_, rfl⟩
  simp only [hS] at c1 c2
  clear hS
  go_enter Try.func3, Try.ntmps3
  go_wp2_with (first
    | (go_at_call 9; refine (w_alive18 _).mono ?_; rintro e q1 ⟨rfl, b1⟩)
    | (go_at_call 10; refine (c1 _ (r1.below b1)).mono ?_; rintro e q2 ⟨rfl, b2⟩)
    | (go_at_call 11; refine (c2 _ (r1.below (below_trans b1 b2))).mono ?_; rintro e q3 ⟨rfl, b3⟩))
  go_ret
  exact ⟨ret_b (by simp), below_trans b1 (below_trans b2 b3)⟩

set_option maxRecDepth 100000 in
theorem lifted (os : Os) (started : os.Started) (H : Type) (enc : TypeId × Value → H) :
    ReturnsInHanded {} Try.checked os 3 .any (Rows.nvramSumsSpec.pre6 enc Try.prog Try.f3 Rows.nvramSumsRow.domain false) (Rows.nvramSumsSpec.post enc Try.prog Try.f3 false true false false) := by
  refine returnsInHanded_of_change_sized (C := Try.checked) own started (by kernel_rfl) Try.func3
    (ChangeSpec.witness6 (enc := enc) (C := Try.checked) false ⟨#[], #[.int .u8 0, .slice none 0 0], []⟩ 8 (by kernel_rfl) (by kernel_rfl) (by kernel_rfl) (by kernel_rfl)) ?_
  intro W base args ds gs before hval0 hW hcnd hsz0 _
  have hval : ∀ (j : Nat) t v, Try.f3.params[j]? = some t → args[j]? = some v → Value.okWide Try.prog W .any base t v := hval0
  have hsz : (DataW.weightsEach Try.prog (Try.f3.params.toList ++ Rows.nvramSumsSpec.plain.varTypes Try.prog) (ds ++ gs)).all (· ≤ reachBytes) = true := hsz0
  have hW' := hW
  obtain ⟨p, q, hA0, hV, rfl, hfz, hnd⟩ := hW
  have hA : DataW.TrodAll enc Try.prog W 0 (fun _ => true) true Try.f3.params.toList args.toList ds p := hA0
  rw [Try.params3] at hA hval hsz
  obtain ⟨v0, vs0, d0, ds0, p0, q0, hargs, rfl, rfl, h0, r0⟩ := trodAll_cons hA
  obtain ⟨v1, vs1, d1, ds1, p1, q1, rfl, rfl, rfl, h1, r1⟩ := trodAll_cons r0
  obtain ⟨rfl, rfl, rfl⟩ := trodAll_nil r1
  obtain rfl : args = #[v0, v1] := by cases args; simp_all
  obtain ⟨rfl, rfl⟩ := trodVars_none hV
  obtain ⟨a0, rfl, rfl, rfl, w0⟩ := open_int Try.underlying5 (hval 0 5 v0 rfl rfl) h0
  obtain ⟨s1, l1, c1, rfl⟩ := okWide_slice Try.underlying22 (hval 1 22 v1 rfl rfl)
  have k1 := h1
  have lt1 : ∀ x ∈ p1, x.block < W.heap.size := by obtain ⟨m, hm⟩ := k1; exact DataW.trod_lt m _ _ _ hm
  obtain ⟨x1, r101, f1, hd1⟩ := rd_open (k := .u8) Try.underlying22 Try.underlying5 (by kernel_rfl) h1
  have z1 : x1.length * 1 ≤ 140737488351232 := by
    rcases hd1 with rfl | ⟨ys, zs, rfl, hle⟩
    · simp
    · have := sized_slice hsz (j := 1) (t := 22) (e := 5) rfl rfl Try.underlying22
      rw [bytes5] at this
      unfold reachBytes at this
      omega
  clear hA0 hval0 hsz0
  refine (walk a0 (.slice s1 l1 c1) x1 W w0 r101 f1 z1).mono fun e W' ⟨he, bel⟩ => ?_
  subst he
  exact ⟨_, rfl, _, _, _, [], _, [], hW', trodAll_mk1 (shut_bool Try.underlying4 _), (trodAll_cons_mk (shut_int Try.underlying5 w0) (trodAll_cons_mk (Below.trod laidOut (by kernel_rfl) (of_decide_eq_true (by kernel_rfl)) k1 bel lt1) trodAll_mk0)), rfl, bel.frame _, fun h => by cases h⟩

theorem over : Rows.nvramSumsRow.holds Try.pinned (OpenSpec.ofChange Rows.nvramSumsSpec) :=
  OpenClaim.holds_of_wide 3 Try.f3 rfl rfl rfl rfl rfl rfl rfl ⟨rfl, rfl, rfl, rfl, rfl⟩ rfl rfl rfl rfl rfl (by kernel_rfl) Try.func3 (by kernel_rfl)
    (of_decide_eq_true (by kernel_rfl)) (by unfold Func.isWrapper; first | (rw [if_pos (by decide +kernel)]; kernel_rfl) | (rw [if_neg (by decide +kernel)]; exact ⟨rfl, rfl⟩))
    (fun os started H enc _ => lifted os started H enc)
end Go.Proofs.Ytlnlifijnijgmaa.nvramSums
namespace Go.Proofs.Ytlnlifijnijgmaa
theorem nvramSums_holds : Rows.NvramSumsSaid := nvramSums.over
#print axioms nvramSums_holds
end Go.Proofs.Ytlnlifijnijgmaa
