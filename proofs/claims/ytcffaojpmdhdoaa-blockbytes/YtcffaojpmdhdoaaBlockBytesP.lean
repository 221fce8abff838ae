/-
  Bytes are got and put at any place, or refused, as the document says: both packages come to one plain function, and what is handed in is left.
-/
import Derived.Test.YtcffaojpmdhdoaaRows
import Derived.WalkKit
import Derived.ProofKit
import Derived.OpenShut
import Derived.ShutString
import Derived.ChangeOld
import Derived.Below
import Derived.Carry
import Derived.SizedLaws
import Derived.Test.YtcffaojpmdhdoaaB5
namespace Go.Proofs.Ytcffaojpmdhdoaa.blockBytes
open Go.ChangeShapes Go.WideShapes Go.ChangeAt Go.RowKit
open Go.ChangeMaps (open_string shut_string)
set_option linter.unusedVariables false
set_option linter.unusedSimpArgs false

theorem own : ownKnob Try.prog.godebug = none := by kernel_rfl
theorem laidOut : laidOutB Try.prog = true := by kernel_rfl
theorem cells3 : Try.prog.cellsOf 3 = 1 := by kernel_rfl
theorem cells38 : Try.prog.cellsOf 38 = 2 := by kernel_rfl
theorem bytes5 : Try.prog.bytesOf 5 = 1 := by kernel_rfl

set_option maxHeartbeats 4000000 in
set_option maxRecDepth 100000 in
theorem walk (v0 : Value) (x0 : List Int) (a1_0 a1_1 : Int) (v2 : Value) (x2 : List Int) (w : World) (r0 : Rd .u8 w v0 x0) (f0 : ∀ n ∈ x0, (Lit.int .u8 n).wf = true) (z0 : x0.length * 1 ≤ 140737488351232) (w1_0 : (Lit.int .i64 a1_0).wf = true) (w1_1 : (Lit.int .i64 a1_1).wf = true) (r2 : Rd .u8 w v2 x2) (f2 : ∀ n ∈ x2, (Lit.int .u8 n).wf = true) (z2 : x2.length * 1 ≤ 140737488351232) :
    Calls Try.prog 5 #[v0, .agg #[.int .i64 a1_0, .int .i64 a1_1], v2] w fun e w' => e = .returned (.bool true) ∧ Below w.heap.size w w' := by
  have hb0 : bytesL x0 := fun n hn => by have := f0 n hn; simp [Lit.wf, IntKind.min, IntKind.max, IntKind.bits, IntKind.signed] at this; omega
  have hb2 : bytesL x2 := fun n hn => by have := f2 n hn; simp [Lit.wf, IntKind.min, IntKind.max, IntKind.bits, IntKind.signed] at this; omega
  have n0 : -9223372036854775808 ≤ a1_0 ∧ a1_0 < 9223372036854775808 := by have := w1_0; simp [Lit.wf, IntKind.min, IntKind.max, IntKind.bits, IntKind.signed] at this; omega
  have m0 : -9223372036854775808 ≤ a1_1 ∧ a1_1 < 9223372036854775808 := by have := w1_1; simp [Lit.wf, IntKind.min, IntKind.max, IntKind.bits, IntKind.signed] at this; omega
  have zz : x0.length ≤ 140737488351232 := by omega
  have c1 := fun v w h => w_pget20 v x0 a1_0 a1_1 w h zz n0.1 n0.2 m0.1 m0.2
  have c2 := fun w h => w_rget20 v0 x0 a1_0 a1_1 w h zz
  have c3 := fun v w h hb => w_pput20 v v2 x0 x2 a1_0 w h hb zz n0.1 n0.2
  have c4 := fun w h hb => w_rput20 v0 v2 x0 x2 a1_0 w h hb zz
  have bR := dkGt_bytes hb0 a1_0 a1_1
  have bW := dkPt_bytes hb0 hb2 a1_0
  obtain ⟨⟨R, E⟩, hR⟩ : ∃ x, dkGt x0 a1_0 a1_1 = x := ⟨_, rfl⟩
  obtain ⟨⟨W, G⟩, hW⟩ : ∃ x, dkPt x0 a1_0 x2 = x := ⟨_, rfl⟩
  rw [hR] at bR
  rw [hW] at bW
  simp only [hR] at c1 c2
  simp only [hW] at c3 c4
  simp only at bR bW
  clear hR hW n0 m0
  have BZ := box_below w (.cells #[.int .i64 a1_0, .int .i64 a1_1] 38)
  have cZ0 := box_cell w #[.int .i64 a1_0, .int .i64 a1_1] 38 0 (.int .i64 a1_0) rfl
  have cZ1 := box_cell w #[.int .i64 a1_0, .int .i64 a1_1] 38 1 (.int .i64 a1_1) rfl
  go_enter Try.func5, Try.ntmps5
  go_wp2_with (first
    | (go_at_call 8; refine (w_alive20 _).mono ?_; rintro e q1 ⟨rfl, ba⟩; have b1 := below_trans BZ ba; have cA0 := below_cell ba cZ0; have cA1 := below_cell ba cZ1)
    | (go_at_call 9; refine (w_rcopy v0 x0 _ (r0.below b1) (by omega)).mono ?_; rintro e q2 ⟨v3, rfl, o3, b2⟩; have r3 := (Rd_own o3).1; have b12 := below_trans b1 b2; have cB0 := below_cell b2 cA0; have cB1 := below_cell b2 cA1)
    | (go_at_call 19; refine (c1 _ _ r3).mono ?_; rintro e q3 ⟨v4, rfl, o4, b3⟩; have b13 := below_trans b12 b3; have cC0 := below_cell b3 cB0; have cC1 := below_cell b3 cB1)
    | (go_at_call 20; refine (c2 _ (r0.below b13)).mono ?_; rintro e q4 ⟨v5, rfl, o5, b4⟩; have b14 := below_trans b13 b4; have b34 := below_trans b3 b4; have cD0 := below_cell b4 cC0; have cD1 := below_cell b4 cC1)
    | (go_at_call 21; refine (c3 _ _ (r3.below b34) (r2.below b14)).mono ?_; rintro e q5 ⟨v6, rfl, o6, b5⟩; have b15 := below_trans b14 b5; have b35 := below_trans b34 b5; have cE0 := below_cell b5 cD0; have cE1 := below_cell b5 cD1)
    | (go_at_call 22; refine (c4 _ (r0.below b15) (r2.below b15)).mono ?_; rintro e q6 ⟨v7, rfl, o7, b6⟩; have b16 := below_trans b15 b6; have b36 := below_trans b35 b6; have s4 := ((Rd_own o4).1.below b4).below (below_trans b5 b6); have s5 := ((Rd_own o5).1.below b5).below b6; have s6 := (Rd_own o6).1.below b6; have s7 := (Rd_own o7).1)
    | (go_at_call_of 14 v4; refine (w_rsame v4 v5 R R q6 s4 s5 bR bR).mono ?_; rintro e q7 ⟨rfl, hw⟩; obtain rfl := hw.symm)
    | (go_at_call_of 14 v6; refine (w_rsame v6 v7 W W q6 s6 s7 bW bW).mono ?_; rintro e q7 ⟨rfl, hw⟩; obtain rfl := hw.symm)
    | (go_at_call_of 14 v3; refine (w_rsame v3 v0 x0 x0 q6 (r3.below b36) (r0.below b16) hb0 hb0).mono ?_; rintro e q8 ⟨rfl, hw⟩; obtain rfl := hw.symm))
  go_ret
  exact ⟨ret_b (by simp), b16⟩

set_option maxRecDepth 100000 in
theorem lifted (os : Os) (started : os.Started) (H : Type) (enc : TypeId × Value → H) :
    ReturnsInHanded {} Try.checked os 5 .any (Rows.blockBytesSpec.pre6 enc Try.prog Try.f5 Rows.blockBytesRow.domain false) (Rows.blockBytesSpec.post enc Try.prog Try.f5 false true false false) := by
  refine returnsInHanded_of_change_sized (C := Try.checked) own started (by kernel_rfl) Try.func5
    (ChangeSpec.witness6 (enc := enc) (C := Try.checked) false ⟨#[], #[.slice none 0 0, .agg #[.int .i64 0, .int .i64 0], .slice none 0 0], []⟩ 8 (by kernel_rfl) (by kernel_rfl) (by kernel_rfl) (by kernel_rfl)) ?_
  intro W base args ds gs before hval0 hW hcnd hsz0 _
  have hval : ∀ (j : Nat) t v, Try.f5.params[j]? = some t → args[j]? = some v → Value.okWide Try.prog W .any base t v := hval0
  have hsz : (DataW.weightsEach Try.prog (Try.f5.params.toList ++ Rows.blockBytesSpec.plain.varTypes Try.prog) (ds ++ gs)).all (· ≤ reachBytes) = true := hsz0
  have hW' := hW
  obtain ⟨p, q, hA0, hV, rfl, hfz, hnd⟩ := hW
  have hA : DataW.TrodAll enc Try.prog W 0 (fun _ => true) true Try.f5.params.toList args.toList ds p := hA0
  rw [Try.params5] at hA hval hsz
  obtain ⟨v0, vs0, d0, ds0, p0, q0, hargs, rfl, rfl, h0, r0⟩ := trodAll_cons hA
  obtain ⟨v1, vs1, d1, ds1, p1, q1, rfl, rfl, rfl, h1, r1⟩ := trodAll_cons r0
  obtain ⟨v2, vs2, d2, ds2, p2, q2, rfl, rfl, rfl, h2, r2⟩ := trodAll_cons r1
  obtain ⟨rfl, rfl, rfl⟩ := trodAll_nil r2
  obtain rfl : args = #[v0, v1, v2] := by cases args; simp_all
  obtain ⟨rfl, rfl⟩ := trodVars_none hV
  obtain ⟨s0, l0, c0, rfl⟩ := okWide_slice Try.underlying22 (hval 0 22 v0 rfl rfl)
  have k0 := h0
  have lt0 : ∀ x ∈ p0, x.block < W.heap.size := by obtain ⟨m, hm⟩ := k0; exact DataW.trod_lt m _ _ _ hm
  obtain ⟨x0, r100, f0, hd0⟩ := rd_open (k := .u8) Try.underlying22 Try.underlying5 (by kernel_rfl) h0
  have z0 : x0.length * 1 ≤ 140737488351232 := by
    rcases hd0 with rfl | ⟨ys, zs, rfl, hle⟩
    · simp
    · have := sized_slice hsz (j := 0) (t := 22) (e := 5) rfl rfl Try.underlying22
      rw [bytes5] at this
      unfold reachBytes at this
      omega
  obtain ⟨a1_0, a1_1, rfl, rfl, rfl, w1_0, w1_1⟩ := open_arr2 Try.underlying38 Try.underlying3 cells3 cells38 (hval 1 38 v1 rfl rfl) h1
  obtain ⟨s2, l2, c2, rfl⟩ := okWide_slice Try.underlying22 (hval 2 22 v2 rfl rfl)
  have k2 := h2
  have lt2 : ∀ x ∈ p2, x.block < W.heap.size := by obtain ⟨m, hm⟩ := k2; exact DataW.trod_lt m _ _ _ hm
  obtain ⟨x2, r102, f2, hd2⟩ := rd_open (k := .u8) Try.underlying22 Try.underlying5 (by kernel_rfl) h2
  have z2 : x2.length * 1 ≤ 140737488351232 := by
    rcases hd2 with rfl | ⟨ys, zs, rfl, hle⟩
    · simp
    · have := sized_slice hsz (j := 2) (t := 22) (e := 5) rfl rfl Try.underlying22
      rw [bytes5] at this
      unfold reachBytes at this
      omega
  clear hA0 hval0 hsz0
  refine (walk (.slice s0 l0 c0) x0 a1_0 a1_1 (.slice s2 l2 c2) x2 W r100 f0 z0 w1_0 w1_1 r102 f2 z2).mono fun e W' ⟨he, bel⟩ => ?_
  subst he
  exact ⟨_, rfl, _, _, _, [], _, [], hW', trodAll_mk1 (shut_bool Try.underlying4 _), (trodAll_cons_mk (Below.trod laidOut (by kernel_rfl) (of_decide_eq_true (by kernel_rfl)) k0 bel lt0) (trodAll_cons_mk (shut_arr2 Try.underlying38 Try.underlying3 cells3 cells38 w1_0 w1_1) (trodAll_cons_mk (Below.trod laidOut (by kernel_rfl) (of_decide_eq_true (by kernel_rfl)) k2 bel lt2) trodAll_mk0))), rfl, bel.frame _, fun h => by cases h⟩

theorem over : Rows.blockBytesRow.holds Try.pinned (OpenSpec.ofChange Rows.blockBytesSpec) :=
  OpenClaim.holds_of_wide 5 Try.f5 rfl rfl rfl rfl rfl rfl rfl ⟨rfl, rfl, rfl, rfl, rfl⟩ rfl rfl rfl rfl rfl (by kernel_rfl) Try.func5 (by kernel_rfl)
    (of_decide_eq_true (by kernel_rfl)) (by unfold Func.isWrapper; first | (rw [if_pos (by decide +kernel)]; kernel_rfl) | (rw [if_neg (by decide +kernel)]; exact ⟨rfl, rfl⟩))
    (fun os started H enc _ => lifted os started H enc)
end Go.Proofs.Ytcffaojpmdhdoaa.blockBytes
namespace Go.Proofs.Ytcffaojpmdhdoaa
theorem blockBytes_holds : Rows.BlockBytesSaid := blockBytes.over
#print axioms blockBytes_holds
end Go.Proofs.Ytcffaojpmdhdoaa
