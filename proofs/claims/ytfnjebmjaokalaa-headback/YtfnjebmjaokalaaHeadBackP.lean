/-
  The body of a program that was made is had again, whatever stands behind.
-/
import Derived.Test.YtfnjebmjaokalaaRows
import Derived.WalkKit
import Derived.ProofKit
import Derived.OpenShut
import Derived.ShutString
import Derived.ChangeOld
import Derived.Below
import Derived.Carry
import Derived.SizedLaws
import Derived.Test.YtfnjebmjaokalaaSl
import Derived.Test.YtfnjebmjaokalaaHal
import Derived.Test.YtfnjebmjaokalaaHr1
namespace Go.Proofs.Ytfnjebmjaokalaa.headBack
open Go.ChangeShapes Go.WideShapes Go.ChangeAt Go.RowKit
open Go.ChangeMaps (open_string shut_string)
set_option linter.unusedVariables false
set_option linter.unusedSimpArgs false

theorem own : ownKnob Try.prog.godebug = none := by kernel_rfl
theorem laidOut : laidOutB Try.prog = true := by kernel_rfl
theorem bytes5 : Try.prog.bytesOf 5 = 1 := by kernel_rfl

set_option maxHeartbeats 4000000 in
set_option maxRecDepth 100000 in
theorem walk (v0 : Value) (x0 : List Int) (v1 : Value) (x1 : List Int) (a2 : Bool) (w : World) (r0 : Rd .u8 w v0 x0) (f0 : ∀ n ∈ x0, (Lit.int .u8 n).wf = true) (z0 : x0.length * 1 ≤ 140737488351232) (r1 : Rd .u8 w v1 x1) (f1 : ∀ n ∈ x1, (Lit.int .u8 n).wf = true) (z1 : x1.length * 1 ≤ 140737488351232) :
    Calls Try.prog 5 #[v0, v1, .bool a2] w fun e w' => e = .returned (.bool true) ∧ Below w.heap.size w w' := by
  have hb0 : bytesL x0 := fun n hn => by have := f0 n hn; simp [Lit.wf, IntKind.min, IntKind.max, IntKind.bits, IntKind.signed] at this; omega
  have hb1 : bytesL x1 := fun n hn => by have := f1 n hn; simp [Lit.wf, IntKind.min, IntKind.max, IntKind.bits, IntKind.signed] at this; omega
  have hz0 : x0.length ≤ 140737488355328 := by omega
  have hl0 := rd_len r0 uB (P := Try.prog)
  have hl1 := rd_len r1 uB (P := Try.prog)
  have c1 := fun w h => w_pmake v0 x0 a2 w h hb0 hz0
  by_cases hbig : (8184 : Int) < x0.length
  · have e : makF x0 a2 = ([], 3) := by unfold makF; rw [if_pos (by omega)]
    simp only [e] at c1
    clear e
    go_enter Try.func5, Try.ntmps5
    go_wp2_with (first
      | (go_at_call 7; refine (w_alive14 _).mono ?_; rintro e q1 ⟨rfl, b1⟩)
      | (go_at_call 8; refine (c1 _ (r0.below b1)).mono ?_; rintro e q2 ⟨v2, rfl, o2, b2⟩; have hl2 : ∀ ty w', (Builtin.len_ #[22] ty #[v2]).run Try.prog w' = .ok (.int .i64 0) w' := rd_len (Rd_own o2).1 uB (P := Try.prog)))
    go_ret
    exact ⟨ret_b (by simp), below_trans b1 b2⟩
  have e : makF x0 a2 = (hdF x0 a2 ++ x0, 0) := by unfold makF; rw [if_neg (by omega)]
  simp only [e] at c1
  have hML : (hdF x0 a2 ++ x0).length = 8 + x0.length := by rw [List.length_append, hd_len]
  have hMb : bytesL (hdF x0 a2 ++ x0) := bytes_app (hd_bytes _ _) hb0
  have hbk := fun h => back_law x0 x1 a2 hb0 (by omega) h
  obtain ⟨M, hM⟩ : ∃ M, hdF x0 a2 ++ x0 = M := ⟨_, rfl⟩
  rw [hM] at c1 hML hMb hbk
  have hMi : (M.length : Int) = 8 + x0.length := by omega
  clear e hM
  by_cases hfit : 8192 - (M.length : Int) < x1.length
  · have HMi := hid hMi
    have hm8 : (M.length : Int) ≤ 8192 := by omega
    clear hML hMi hbk
    go_enter Try.func5, Try.ntmps5
    go_wp2_with (first
      | (go_at_call 7; refine (w_alive14 _).mono ?_; rintro e q1 ⟨rfl, b1⟩)
      | (go_at_call 8; refine (c1 _ (r0.below b1)).mono ?_; rintro e q2 ⟨v2, rfl, o2, b2⟩; have hl2 := rd_len (Rd_own o2).1 uB (P := Try.prog)))
    go_ret
    exact ⟨rfl, below_trans b1 b2⟩
  have hxx : x1.length + x0.length ≤ 8184 := by omega
  have c3 := fun v w h => w_pcheck v (M ++ x1) w h (bytes_app hMb hb1) (by rw [List.length_append]; omega)
  rw [hbk hxx] at c3
  simp only at c3
  have HMi := hid hMi
  have hm8 : (M.length : Int) ≤ 8192 := by omega
  have hmx : M.length + x1.length ≤ 8192 := by omega
  obtain ⟨i0, hi, hy0, hy1, hy2⟩ := info_parts infoU8
  clear hML hMi hbk
  go_enter Try.func5, Try.ntmps5
  go_wp2_with (first
    | (go_at_call 7; refine (w_alive14 _).mono ?_; rintro e q1 ⟨rfl, b1⟩)
    | (go_at_call 8; refine (c1 _ (r0.below b1)).mono ?_; rintro e q2 ⟨v2, rfl, o2, b2⟩; have hl2 := rd_len (Rd_own o2).1 uB (P := Try.prog); have b12 := below_trans b1 b2)
    | (at_builtin; refine wpList_append_rd (k := .u8) rfl _ _ 22 rfl q1.heap.size 5 i0 1 Try.underlying22 hi hy0 hy1 hy2 v2 M rfl o2 v1 x1 rfl (r1.below b12) (by unfold maxLen; omega) (by omega) b2.size ?_; intro v3 w3 o3 g3; have b23 := below_grown b2 g3 (fun k hk => (o2.lt k hk).1); have b13 := below_trans b1 b23)
    | (go_at_call 14; refine (c3 _ _ (Rd_own o3).1).mono ?_; rintro e q4 ⟨v4, rfl, r4, b4⟩)
    | (go_at_call 10; refine (w_rsame v4 v0 x0 x0 q4 r4 (r0.below (below_trans b13 b4)) hb0 hb0).mono ?_; rintro e q5 ⟨rfl, hw⟩; obtain rfl := hw.symm))
  go_ret
  exact ⟨ret_b (by simp), below_trans b13 b4⟩

set_option maxRecDepth 100000 in
theorem lifted (os : Os) (started : os.Started) (H : Type) (enc : TypeId × Value → H) :
    ReturnsInHanded {} Try.checked os 5 .any (Rows.headBackSpec.pre6 enc Try.prog Try.f5 Rows.headBackRow.domain false) (Rows.headBackSpec.post enc Try.prog Try.f5 false true false false) := by
  refine returnsInHanded_of_change_sized (C := Try.checked) own started (by kernel_rfl) Try.func5
    (ChangeSpec.witness6 (enc := enc) (C := Try.checked) false ⟨#[], #[.slice none 0 0, .slice none 0 0, .bool false], []⟩ 8 (by kernel_rfl) (by kernel_rfl) (by kernel_rfl) (by kernel_rfl)) ?_
  intro W base args ds gs before hval0 hW hcnd hsz0 _
  have hval : ∀ (j : Nat) t v, Try.f5.params[j]? = some t → args[j]? = some v → Value.okWide Try.prog W .any base t v := hval0
  have hsz : (DataW.weightsEach Try.prog (Try.f5.params.toList ++ Rows.headBackSpec.plain.varTypes Try.prog) (ds ++ gs)).all (· ≤ reachBytes) = true := hsz0
  have hW' := hW
  obtain ⟨p, q, hA0, hV, rfl, hfz, hnd⟩ := hW
  have hA : DataW.TrodAll enc Try.prog W 0 (fun _ => true) true Try.f5.params.toList args.toList ds p := hA0
  rw [Try.params5] at hA hval hsz
  obtain ⟨v0, vs0, d0, ds0, p0, q0, hargs, rfl, rfl, h0, r0⟩ := trodAll_cons hA
  obtain ⟨v1, vs1, d1, ds1, p1, q1, rfl, rfl, rfl, h1, r1⟩ := trodAll_cons r0
  obtain ⟨v2, vs2, d2, ds2, p2, q2, rfl, rfl, rfl, h2, r2⟩ := trodAll_cons r1
  obtain ⟨rfl, rfl, rfl⟩ := trodAll_nil r2
  obtain rfl : args = #[v0, v1, v2] := by cases args; simp_all
  obtain ⟨rfl, rfl⟩ := trodVars_none hV
  obtain ⟨s0, l0, c0, rfl⟩ := okWide_slice Try.underlying22 (hval 0 22 v0 rfl rfl)
  have k0 := h0
  have lt0 : ∀ x ∈ p0, x.block < W.heap.size := by obtain ⟨m, hm⟩ := k0; exact DataW.trod_lt m _ _ _ hm
  obtain ⟨x0, r100, f0, hd0⟩ := rd_open (k := .u8) Try.underlying22 Try.underlying5 (by kernel_rfl) h0
  have z0 : x0.length * 1 ≤ 140737488351232 := by
    rcases hd0 with rfl | ⟨ys, zs, rfl, hle⟩
    · simp
    · have := sized_slice hsz (j := 0) (t := 22) (e := 5) rfl rfl Try.underlying22
      rw [bytes5] at this
      unfold reachBytes at this
      omega
  obtain ⟨s1, l1, c1, rfl⟩ := okWide_slice Try.underlying22 (hval 1 22 v1 rfl rfl)
  have k1 := h1
  have lt1 : ∀ x ∈ p1, x.block < W.heap.size := by obtain ⟨m, hm⟩ := k1; exact DataW.trod_lt m _ _ _ hm
  obtain ⟨x1, r101, f1, hd1⟩ := rd_open (k := .u8) Try.underlying22 Try.underlying5 (by kernel_rfl) h1
  have z1 : x1.length * 1 ≤ 140737488351232 := by
    rcases hd1 with rfl | ⟨ys, zs, rfl, hle⟩
    · simp
    · have := sized_slice hsz (j := 1) (t := 22) (e := 5) rfl rfl Try.underlying22
      rw [bytes5] at this
      unfold reachBytes at this
      omega
  obtain ⟨a2, rfl, rfl, rfl⟩ := open_bool Try.underlying4 (hval 2 4 v2 rfl rfl) h2
  clear hA0 hval0 hsz0
  refine (walk (.slice s0 l0 c0) x0 (.slice s1 l1 c1) x1 a2 W r100 f0 z0 r101 f1 z1).mono fun e W' ⟨he, bel⟩ => ?_
  subst he
  exact ⟨_, rfl, _, _, _, [], _, [], hW', trodAll_mk1 (shut_bool Try.underlying4 _), (trodAll_cons_mk (Below.trod laidOut (by kernel_rfl) (of_decide_eq_true (by kernel_rfl)) k0 bel lt0) (trodAll_cons_mk (Below.trod laidOut (by kernel_rfl) (of_decide_eq_true (by kernel_rfl)) k1 bel lt1) (trodAll_cons_mk (shut_bool Try.underlying4 a2) trodAll_mk0))), rfl, bel.frame _, fun h => by cases h⟩

theorem over : Rows.headBackRow.holds Try.pinned (OpenSpec.ofChange Rows.headBackSpec) :=
  OpenClaim.holds_of_wide 5 Try.f5 rfl rfl rfl rfl rfl rfl rfl ⟨rfl, rfl, rfl, rfl, rfl⟩ rfl rfl rfl rfl rfl (by kernel_rfl) Try.func5 (by kernel_rfl)
    (of_decide_eq_true (by kernel_rfl)) (by unfold Func.isWrapper; first | (rw [if_pos (by decide +kernel)]; kernel_rfl) | (rw [if_neg (by decide +kernel)]; exact ⟨rfl, rfl⟩))
    (fun os started H enc _ => lifted os started H enc)
end Go.Proofs.Ytfnjebmjaokalaa.headBack
namespace Go.Proofs.Ytfnjebmjaokalaa
theorem headBack_holds : Rows.HeadBackSaid := headBack.over
#print axioms headBack_holds
end Go.Proofs.Ytfnjebmjaokalaa
