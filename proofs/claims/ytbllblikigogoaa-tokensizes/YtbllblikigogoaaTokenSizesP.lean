/-
  A token's size is the document's, and the number of its bytes.
-/
import Derived.Test.YtbllblikigogoaaRows
import Derived.WalkKit
import Derived.ProofKit
import Derived.OpenShut
import Derived.ShutString
import Derived.ChangeOld
import Derived.Below
import Derived.Carry
import Derived.SizedLaws
import Derived.Test.YtbllblikigogoaaSl
import Derived.Test.YtbllblikigogoaaTla
import Derived.Test.YtbllblikigogoaaTqp
import Derived.Test.YtbllblikigogoaaTr4
namespace Go.Proofs.Ytbllblikigogoaa.tokenSizes
open Go.ChangeShapes Go.WideShapes Go.ChangeAt Go.RowKit
open Go.ChangeMaps (open_string shut_string)
set_option linter.unusedVariables false
set_option linter.unusedSimpArgs false

theorem own : ownKnob Try.prog.godebug = none := by kernel_rfl
theorem laidOut : laidOutB Try.prog = true := by kernel_rfl

set_option maxHeartbeats 4000000 in
set_option maxRecDepth 100000 in
theorem walk (tc0 tn0 to0 : Int) (ts0 : ByteArray) (a1 : Bool) (w : World) (g0 : aQ ⟨tc0, tn0, LB ts0, to0⟩) :
    Calls Try.prog 5 #[.agg #[.int .i64 tc0, .int .u32 tn0, .string ts0, .int .i64 to0], .bool a1] w fun e w' => e = .returned (.bool true) ∧ Below w.heap.size w w' := by
  obtain ⟨⟨n0, n1, tb⟩, tl, ⟨o0, o1⟩, ⟨c0, c1⟩⟩ := g0
  simp only at n0 n1 tb tl o0 o1 c0 c1
  have hs : ts0.size ≤ maxLen := by rw [LB_len] at tl; exact tl
  have cP := fun w => w_psize tc0 tn0 to0 ts0 a1 w n0 n1 hs
  have cR := fun w => w_rsize tc0 tn0 to0 ts0 a1 w n0 n1 o0 o1 hs
  have e0 : strOfNums (LB ts0) = ts0 := nums_LB ts0
  have cE := fun v w h => w_penc v [⟨tc0, tn0, LB ts0, to0⟩] a1 w h (fun t ht => by rw [List.mem_singleton] at ht; subst ht; exact ⟨n0, n1, tb⟩) (fun t ht => by rw [List.mem_singleton] at ht; subst ht; exact tl)
  have rl := fun w : World => tq_lit1 w ⟨tc0, tn0, LB ts0, to0⟩
  simp only [tqC, e0] at rl
  have hsz := siz_enc ⟨tc0, tn0, LB ts0, to0⟩ a1
  obtain ⟨B, E, hE⟩ : ∃ B E, encF [⟨tc0, tn0, LB ts0, to0⟩] a1 = (B, E) := ⟨_, _, rfl⟩
  obtain ⟨n, hn⟩ : ∃ n, sizF ⟨tc0, tn0, LB ts0, to0⟩ a1 = n := ⟨_, rfl⟩
  simp only [hE, hn] at cE hsz
  simp only [hn] at cP cR
  have hB : B.length = n := hsz.1
  have bw := box_below w (.cells #[.int .i64 tc0, .int .u32 tn0, .string ts0, .int .i64 to0] 37)
  have sw := stands_new w #[.int .i64 tc0, .int .u32 tn0, .string ts0, .int .i64 to0] 37
  have hs2 := hsz.2
  rw [← hB] at cP cR hs2
  clear hE hn hsz hB
  by_cases he : E = 0
  · subst he
    have hp : (0 : Int) < B.length := by have := hs2.2 rfl; omega
    clear hs2
    go_enter Try.func5, Try.ntmps5
    go_wp2_with (first
      | (go_at_call 9; refine (w_alive13 _).mono ?_; rintro e q1 ⟨rfl, b1⟩; have s1 := sw.below b1; have f10 := s1.cell 0 _ rfl; have f11 := s1.cell 1 _ rfl; have f12 := s1.cell 2 _ rfl; have f13 := s1.cell 3 _ rfl)
      | (go_at_call 17; refine (cP _).mono ?_; rintro e q2 ⟨rfl, b2⟩; have s2 := s1.below b2; have f20 := s2.cell 0 _ rfl; have f21 := s2.cell 1 _ rfl; have f22 := s2.cell 2 _ rfl; have f23 := s2.cell 3 _ rfl)
      | (go_at_call 10; refine (cE _ _ (rl q2)).mono ?_; rintro e q3 ⟨v3, rfl, r3, b3⟩; have hl3 := rd_len r3 uB (P := Try.prog); have b23 := below_trans (box_below q2 _) b3; have s3 := s2.below b23; have f30 := s3.cell 0 _ rfl; have f31 := s3.cell 1 _ rfl; have f32 := s3.cell 2 _ rfl; have f33 := s3.cell 3 _ rfl)
      | (go_at_call 18; refine (cR _).mono ?_; rintro e q4 ⟨rfl, b4⟩))
    go_ret
    exact ⟨rfl, below_trans bw (below_trans b1 (below_trans b2 (below_trans b23 b4)))⟩
  · have hb : B = [] := List.eq_nil_of_length_eq_zero (by have := fun h => he (hs2.1 h); omega)
    subst hb
    have hq : (E == 0) = false := by simpa using he
    clear hs2 he
    go_enter Try.func5, Try.ntmps5
    go_wp2_with (first
      | (go_at_call 9; refine (w_alive13 _).mono ?_; rintro e q1 ⟨rfl, b1⟩; have s1 := sw.below b1; have f10 := s1.cell 0 _ rfl; have f11 := s1.cell 1 _ rfl; have f12 := s1.cell 2 _ rfl; have f13 := s1.cell 3 _ rfl)
      | (go_at_call 17; refine (cP _).mono ?_; rintro e q2 ⟨rfl, b2⟩; have s2 := s1.below b2; have f20 := s2.cell 0 _ rfl; have f21 := s2.cell 1 _ rfl; have f22 := s2.cell 2 _ rfl; have f23 := s2.cell 3 _ rfl)
      | (go_at_call 10; refine (cE _ _ (rl q2)).mono ?_; rintro e q3 ⟨v3, rfl, r3, b3⟩; have hl3 := rd_len r3 uB (P := Try.prog); have b23 := below_trans (box_below q2 _) b3; have s3 := s2.below b23; have f30 := s3.cell 0 _ rfl; have f31 := s3.cell 1 _ rfl; have f32 := s3.cell 2 _ rfl; have f33 := s3.cell 3 _ rfl)
      | (go_at_call 18; refine (cR _).mono ?_; rintro e q4 ⟨rfl, b4⟩))
    go_ret
    exact ⟨rfl, below_trans bw (below_trans b1 (below_trans b2 (below_trans b23 b4)))⟩

set_option maxRecDepth 100000 in
theorem lifted (os : Os) (started : os.Started) (H : Type) (enc : TypeId × Value → H) :
    ReturnsInHanded {} Try.checked os 5 .any (Rows.tokenSizesSpec.pre6 enc Try.prog Try.f5 Rows.tokenSizesRow.domain false) (Rows.tokenSizesSpec.post enc Try.prog Try.f5 false true false false) := by
  refine returnsInHanded_of_change_sized (C := Try.checked) own started (by kernel_rfl) Try.func5
    (ChangeSpec.witness6 (enc := enc) (C := Try.checked) false ⟨#[], #[.agg #[.int .i64 0, .int .u32 0, .string ⟨#[]⟩, .int .i64 0], .bool false], []⟩ 8 (by kernel_rfl) (by kernel_rfl) (by kernel_rfl) (by kernel_rfl)) ?_
  intro W base args ds gs before hval0 hW hcnd hsz0 _
  have hval : ∀ (j : Nat) t v, Try.f5.params[j]? = some t → args[j]? = some v → Value.okWide Try.prog W .any base t v := hval0
  have hsz : (DataW.weightsEach Try.prog (Try.f5.params.toList ++ Rows.tokenSizesSpec.plain.varTypes Try.prog) (ds ++ gs)).all (· ≤ reachBytes) = true := hsz0
  have hW' := hW
  obtain ⟨p, q, hA0, hV, rfl, hfz, hnd⟩ := hW
  have hA : DataW.TrodAll enc Try.prog W 0 (fun _ => true) true Try.f5.params.toList args.toList ds p := hA0
  rw [Try.params5] at hA hval hsz
  obtain ⟨v0, vs0, d0, ds0, p0, q0, hargs, rfl, rfl, h0, r0⟩ := trodAll_cons hA
  obtain ⟨v1, vs1, d1, ds1, p1, q1, rfl, rfl, rfl, h1, r1⟩ := trodAll_cons r0
  obtain ⟨rfl, rfl, rfl⟩ := trodAll_nil r1
  obtain rfl : args = #[v0, v1] := by cases args; simp_all
  obtain ⟨rfl, rfl⟩ := trodVars_none hV
  have k0 := h0
  have lt0 : ∀ x ∈ p0, x.block < W.heap.size := by obtain ⟨m, hm⟩ := k0; exact DataW.trod_lt m _ _ _ hm
  obtain ⟨tc0, tn0, to0, ts0, rfl, g0⟩ := tqp_open (hval 0 37 v0 rfl rfl) h0
  obtain ⟨a1, rfl, rfl, rfl⟩ := open_bool Try.underlying4 (hval 1 4 v1 rfl rfl) h1
  clear hA0 hval0 hsz0
  refine (walk tc0 tn0 to0 ts0 a1 W g0).mono fun e W' ⟨he, bel⟩ => ?_
  subst he
  exact ⟨_, rfl, _, _, _, [], _, [], hW', trodAll_mk1 (shut_bool Try.underlying4 _), (trodAll_cons_mk (Below.trod laidOut (by kernel_rfl) (of_decide_eq_true (by kernel_rfl)) k0 bel lt0) (trodAll_cons_mk (shut_bool Try.underlying4 a1) trodAll_mk0)), rfl, bel.frame _, fun h => by cases h⟩

theorem over : Rows.tokenSizesRow.holds Try.pinned (OpenSpec.ofChange Rows.tokenSizesSpec) :=
  OpenClaim.holds_of_wide 5 Try.f5 rfl rfl rfl rfl rfl rfl rfl ⟨rfl, rfl, rfl, rfl, rfl⟩ rfl rfl rfl rfl rfl (by kernel_rfl) Try.func5 (by kernel_rfl)
    (of_decide_eq_true (by kernel_rfl)) (by unfold Func.isWrapper; first | (rw [if_pos (by decide +kernel)]; kernel_rfl) | (rw [if_neg (by decide +kernel)]; exact ⟨rfl, rfl⟩))
    (fun os started H enc _ => lifted os started H enc)
end Go.Proofs.Ytbllblikigogoaa.tokenSizes
namespace Go.Proofs.Ytbllblikigogoaa
theorem tokenSizes_holds : Rows.TokenSizesSaid := tokenSizes.over
#print axioms tokenSizes_holds
end Go.Proofs.Ytbllblikigogoaa
