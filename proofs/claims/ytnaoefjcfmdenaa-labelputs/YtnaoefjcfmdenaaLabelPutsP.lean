/-
  Bytes are put into windows, or refused, as the document says: both packages come to one plain function, and what is handed in is left.
-/
import Derived.Test.YtnaoefjcfmdenaaRows
import Derived.WalkKit
import Derived.ProofKit
import Derived.OpenShut
import Derived.ShutString
import Derived.ChangeOld
import Derived.Below
import Derived.Carry
import Derived.SizedLaws
import Derived.Test.YtnaoefjcfmdenaaB7
namespace Go.Proofs.Ytnaoefjcfmdenaa.labelPuts
open Go.ChangeShapes Go.WideShapes Go.ChangeAt Go.RowKit
open Go.ChangeMaps (open_string shut_string)
set_option linter.unusedVariables false
set_option linter.unusedSimpArgs false

theorem own : ownKnob Try.prog.godebug = none := by kernel_rfl
theorem laidOut : laidOutB Try.prog = true := by kernel_rfl
theorem bytes5 : Try.prog.bytesOf 5 = 1 := by kernel_rfl

set_option maxHeartbeats 4000000 in
set_option maxRecDepth 100000 in
theorem walk (v0 : Value) (x0 : List Int) (qs1 : ByteArray) (qa1 qn1 : Int) (v2 : Value) (x2 : List Int) (w : World) (r0 : Rd .u8 w v0 x0) (f0 : ∀ n ∈ x0, (Lit.int .u8 n).wf = true) (z0 : x0.length * 1 ≤ 140737488351232) (wq1 : qs1.size ≤ 140737488351232 ∧ (-9223372036854775808 ≤ qa1 ∧ qa1 < 9223372036854775808) ∧ (-9223372036854775808 ≤ qn1 ∧ qn1 < 9223372036854775808)) (r2 : Rd .u8 w v2 x2) (f2 : ∀ n ∈ x2, (Lit.int .u8 n).wf = true) (z2 : x2.length * 1 ≤ 140737488351232) :
    Calls Try.prog 6 #[v0, .agg #[.string qs1, .int .i64 qa1, .int .i64 qn1], v2] w fun e w' => e = .returned (.bool true) ∧ Below w.heap.size w w' := by
  have hb0 : bytesL x0 := fun n hn => by have := f0 n hn; simp [Lit.wf, IntKind.min, IntKind.max, IntKind.bits, IntKind.signed] at this; omega
  have hb2 : bytesL x2 := fun n hn => by have := f2 n hn; simp [Lit.wf, IntKind.min, IntKind.max, IntKind.bits, IntKind.signed] at this; omega
  obtain ⟨ws, n0, -⟩ := wq1
  have wm : qs1.size ≤ maxLen := Nat.le_trans ws (by unfold maxLen; omega)
  have zz : x0.length ≤ 140737488351232 := by omega
  have c3 := fun v W r rb => w_plput21 v v2 x0 x2 qs1 qa1 W r rb hb0 zz ws n0.1 n0.2
  have c4 := fun W r rb => w_rlput21 v0 v2 x0 x2 qs1 qa1 W r rb hb0 zz wm n0.1 n0.2
  have bR := lp_bytes (a := LB qs1) (at_ := qa1) hb0 hb2
  obtain ⟨⟨R, G⟩, hR⟩ : ∃ x, lpF x0 (LB qs1) qa1 x2 = x := ⟨_, rfl⟩
  rw [hR] at bR
  simp only [hR] at c3 c4
  simp only at bR c3 c4
  clear hR n0
  have BZ := box_below w (.cells #[.string qs1, .int .i64 qa1, .int .i64 qn1] 39)
  have cZ0 := box_cell w #[.string qs1, .int .i64 qa1, .int .i64 qn1] 39 0 (.string qs1) rfl
  have cZ1 := box_cell w #[.string qs1, .int .i64 qa1, .int .i64 qn1] 39 1 (.int .i64 qa1) rfl
  have CZ := hid (fun (W : World) (g : Below (w.alloc (.cells #[.string qs1, .int .i64 qa1, .int .i64 qn1] 39)).heap.size (w.alloc (.cells #[.string qs1, .int .i64 qa1, .int .i64 qn1] 39)) W) => (⟨below_cell g cZ0, below_cell g cZ1⟩ : W.cell? ⟨w.heap.size, 0, none⟩ = some (.string qs1) ∧ W.cell? ⟨w.heap.size, 1, none⟩ = some (.int .i64 qa1)))
  go_enter Try.func6, Try.ntmps6
  go_wp2_with (first
    | (go_at_call 9; refine (w_alive21 _).mono ?_; rintro e q1 ⟨rfl, k1⟩; have b1 := below_trans BZ k1)
    | (go_at_call 17; refine (w_rcopy v0 x0 _ (r0.below b1) (by omega)).mono ?_; rintro e q2 ⟨v3, rfl, o3, b2⟩; have r3 := (Rd_own o3).1; have b12 := below_trans b1 b2; have k2 := below_trans k1 b2; obtain ⟨f20, f21⟩ := CZ.out q2 k2)
    | (go_at_call 22; refine (c3 _ _ r3 (r2.below b12)).mono ?_; rintro e q5 ⟨v6, rfl, o6, b5⟩; have b15 := below_trans b12 b5; have k5 := below_trans k2 b5; obtain ⟨f50, f51⟩ := CZ.out q5 k5)
    | (go_at_call 23; refine (c4 _ (r0.below b15) (r2.below b15)).mono ?_; rintro e q6 ⟨v7, rfl, o7, b6⟩; have b16 := below_trans b15 b6; have b36 := below_trans b5 b6; have s6 := (Rd_own o6).1.below b6; have s7 := (Rd_own o7).1)
    | (go_at_call_of 12 v6; refine (w_rsame v6 v7 R R q6 s6 s7 bR bR).mono ?_; rintro e q7 ⟨rfl, hw⟩; obtain rfl := hw.symm)
    | (go_at_call_of 12 v3; refine (w_rsame v3 v0 x0 x0 q6 (r3.below b36) (r0.below b16) hb0 hb0).mono ?_; rintro e q8 ⟨rfl, hw⟩; obtain rfl := hw.symm))
  go_ret
  exact ⟨ret_b (by simp), b16⟩

set_option maxRecDepth 100000 in
theorem lifted (os : Os) (started : os.Started) (H : Type) (enc : TypeId × Value → H) :
    ReturnsInHanded {} Try.checked os 6 .any (Rows.labelPutsSpec.pre6 enc Try.prog Try.f6 Rows.labelPutsRow.domain false) (Rows.labelPutsSpec.post enc Try.prog Try.f6 false true false false) := by
  refine returnsInHanded_of_change_sized (C := Try.checked) own started (by kernel_rfl) Try.func6
    (ChangeSpec.witness6 (enc := enc) (C := Try.checked) false ⟨#[], #[.slice none 0 0, .agg #[.string ⟨#[]⟩, .int .i64 0, .int .i64 0], .slice none 0 0], []⟩ 8 (by kernel_rfl) (by kernel_rfl) (by kernel_rfl) (by kernel_rfl)) ?_
  intro W base args ds gs before hval0 hW hcnd hsz0 _
  have hval : ∀ (j : Nat) t v, Try.f6.params[j]? = some t → args[j]? = some v → Value.okWide Try.prog W .any base t v := hval0
  have hsz : (DataW.weightsEach Try.prog (Try.f6.params.toList ++ Rows.labelPutsSpec.plain.varTypes Try.prog) (ds ++ gs)).all (· ≤ reachBytes) = true := hsz0
  have hW' := hW
  obtain ⟨p, q, hA0, hV, rfl, hfz, hnd⟩ := hW
  have hA : DataW.TrodAll enc Try.prog W 0 (fun _ => true) true Try.f6.params.toList args.toList ds p := hA0
  rw [Try.params6] at hA hval hsz
  obtain ⟨v0, vs0, d0, ds0, p0, q0, hargs, rfl, rfl, h0, r0⟩ := trodAll_cons hA
  obtain ⟨v1, vs1, d1, ds1, p1, q1, rfl, rfl, rfl, h1, r1⟩ := trodAll_cons r0
  obtain ⟨v2, vs2, d2, ds2, p2, q2, rfl, rfl, rfl, h2, r2⟩ := trodAll_cons r1
  obtain ⟨rfl, rfl, rfl⟩ := trodAll_nil r2
  obtain rfl : args = #[v0, v1, v2] := by cases args; simp_all
  obtain ⟨rfl, rfl⟩ := trodVars_none hV
  obtain ⟨s0, l0, c0, rfl⟩ := okWide_slice Try.underlying27 (hval 0 27 v0 rfl rfl)
  have k0 := h0
  have lt0 : ∀ x ∈ p0, x.block < W.heap.size := by obtain ⟨m, hm⟩ := k0; exact DataW.trod_lt m _ _ _ hm
  obtain ⟨x0, r100, f0, hd0⟩ := rd_open (k := .u8) Try.underlying27 Try.underlying5 (by kernel_rfl) h0
  have z0 : x0.length * 1 ≤ 140737488351232 := by
    rcases hd0 with rfl | ⟨ys, zs, rfl, hle⟩
    · simp
    · have := sized_slice hsz (j := 0) (t := 27) (e := 5) rfl rfl Try.underlying27
      rw [bytes5] at this
      unfold reachBytes at this
      omega
  have k1 := h1
  have lt1 : ∀ x ∈ p1, x.block < W.heap.size := by obtain ⟨m, hm⟩ := k1; exact DataW.trod_lt m _ _ _ hm
  obtain ⟨qs1, qa1, qn1, rfl, wq1⟩ := ask_open (hval 1 39 v1 rfl rfl) h1 (fun n hn => by simpa using List.all_eq_true.1 hsz n (DataW.weights_mem_each (j := 1) (t := 39) (d := d1) rfl rfl n hn))
  obtain ⟨s2, l2, c2, rfl⟩ := okWide_slice Try.underlying27 (hval 2 27 v2 rfl rfl)
  have k2 := h2
  have lt2 : ∀ x ∈ p2, x.block < W.heap.size := by obtain ⟨m, hm⟩ := k2; exact DataW.trod_lt m _ _ _ hm
  obtain ⟨x2, r102, f2, hd2⟩ := rd_open (k := .u8) Try.underlying27 Try.underlying5 (by kernel_rfl) h2
  have z2 : x2.length * 1 ≤ 140737488351232 := by
    rcases hd2 with rfl | ⟨ys, zs, rfl, hle⟩
    · simp
    · have := sized_slice hsz (j := 2) (t := 27) (e := 5) rfl rfl Try.underlying27
      rw [bytes5] at this
      unfold reachBytes at this
      omega
  clear hA0 hval0 hsz0
  refine (walk (.slice s0 l0 c0) x0 qs1 qa1 qn1 (.slice s2 l2 c2) x2 W r100 f0 z0 wq1 r102 f2 z2).mono fun e W' ⟨he, bel⟩ => ?_
  subst he
  exact ⟨_, rfl, _, _, _, [], _, [], hW', trodAll_mk1 (shut_bool Try.underlying4 _), (trodAll_cons_mk (Below.trod laidOut (by kernel_rfl) (of_decide_eq_true (by kernel_rfl)) k0 bel lt0) (trodAll_cons_mk (Below.trod laidOut (by kernel_rfl) (of_decide_eq_true (by kernel_rfl)) k1 bel lt1) (trodAll_cons_mk (Below.trod laidOut (by kernel_rfl) (of_decide_eq_true (by kernel_rfl)) k2 bel lt2) trodAll_mk0))), rfl, bel.frame _, fun h => by cases h⟩

theorem over : Rows.labelPutsRow.holds Try.pinned (OpenSpec.ofChange Rows.labelPutsSpec) :=
  OpenClaim.holds_of_wide 6 Try.f6 rfl rfl rfl rfl rfl rfl rfl ⟨rfl, rfl, rfl, rfl, rfl⟩ rfl rfl rfl rfl rfl (by kernel_rfl) Try.func6 (by kernel_rfl)
    (of_decide_eq_true (by kernel_rfl)) (by unfold Func.isWrapper; first | (rw [if_pos (by decide +kernel)]; kernel_rfl) | (rw [if_neg (by decide +kernel)]; exact ⟨rfl, rfl⟩))
    (fun os started H enc _ => lifted os started H enc)
end Go.Proofs.Ytnaoefjcfmdenaa.labelPuts
namespace Go.Proofs.Ytnaoefjcfmdenaa
theorem labelPuts_holds : Rows.LabelPutsSaid := labelPuts.over
#print axioms labelPuts_holds
end Go.Proofs.Ytnaoefjcfmdenaa
