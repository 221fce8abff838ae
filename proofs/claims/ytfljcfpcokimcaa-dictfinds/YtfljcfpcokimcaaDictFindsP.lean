/-
  Words are found by name, as a device's method, and by number as the document's answer says.
-/
import Derived.Test.YtfljcfpcokimcaaRows
import Derived.WalkKit
import Derived.ProofKit
import Derived.OpenShut
import Derived.ShutString
import Derived.ChangeOld
import Derived.Below
import Derived.Carry
import Derived.SizedLaws
import Derived.Test.YtfljcfpcokimcaaB40
namespace Go.Proofs.Ytfljcfpcokimcaa.dictFinds
open Go.ChangeShapes Go.WideShapes Go.ChangeAt Go.RowKit
open Go.ChangeMaps (open_string shut_string)
set_option linter.unusedVariables false

theorem own : ownKnob Try.prog.godebug = none := by kernel_rfl
theorem laidOut : laidOutB Try.prog = true := by kernel_rfl

set_option maxHeartbeats 4000000 in
set_option maxRecDepth 100000 in
theorem walk (mv0 : Mv) (m0 : Mc) (mo0 : ByteArray) (a1 : ByteArray) (a2 : Int) (w : World) (r0 : RdM w mv0 m0 mo0) (g0 : gM m0) (ws0 : mo0.size ≤ maxLen) (w1 : a1.size ≤ maxLen) (w2 : (Lit.int .i64 a2).wf = true) :
    Calls Try.prog 6 #[.agg (mv0.cs m0 mo0), .string a1, .int .i64 a2] w fun e w' => e = .returned (.bool true) ∧ Below w.heap.size w w' := by
  have hT : Tab w := trivial
  have bb := box_below w (.cells (mv0.cs m0 mo0) 32)
  have st_0 := stands_new w (mv0.cs m0 mo0) 32
  obtain ⟨st0_0, st1_0, st2_0, st3_0, st4_0, st5_0, st6_0, st7_0, st8_0, st9_0⟩ := mch_cells st_0
  have t_0 := r0.below bb
  have hT_0 := hT.below bb
  have c0 := fun w hT (h : RdM w mv0 m0 mo0) => w_p9find mv0 m0 mo0 a1 w hT h g0 w1
  have d0 := fun w (h : RdM w mv0 m0 mo0) => w_r9find mv0 m0 mo0 a1 w h.words g0.by'.words
  obtain ⟨I0, hI0⟩ : ∃ I, fnI (fndF m0.words (L a1)) = I := ⟨_, rfl⟩
  obtain ⟨B0, hB0⟩ : ∃ B, (fndF m0.words (L a1)).isSome = B := ⟨_, rfl⟩
  simp only [hI0, hB0] at c0 d0
  clear hI0 hB0
  have qI0 : (I0 == I0) = true := beq_self_eq_true _
  have qB0 : (B0 == B0) = true := beq_self_eq_true _
  have c1 := fun w hT (h : RdM w mv0 m0 mo0) => w_p9method mv0 m0 mo0 a1 a2 w hT h g0 w1 w2
  have d1 := fun w (h : RdM w mv0 m0 mo0) => w_r9method mv0 m0 mo0 a1 a2 w h.words g0.by'.words
  obtain ⟨I1, hI1⟩ : ∃ I, fnI (mthF m0.words a2 (L a1)) = I := ⟨_, rfl⟩
  obtain ⟨B1, hB1⟩ : ∃ B, (mthF m0.words a2 (L a1)).isSome = B := ⟨_, rfl⟩
  simp only [hI1, hB1] at c1 d1
  clear hI1 hB1
  have qI1 : (I1 == I1) = true := beq_self_eq_true _
  have qB1 : (B1 == B1) = true := beq_self_eq_true _
  have c2 := fun w hT (h : RdM w mv0 m0 mo0) => w_p9code mv0 m0 mo0 a2 w hT h g0 w2
  have d2 := fun w (h : RdM w mv0 m0 mo0) => w_r9code mv0 m0 mo0 a2 w h.codes w2
  obtain ⟨I2, hI2⟩ : ∃ I, cdI (codF m0.codes a2) = I := ⟨_, rfl⟩
  obtain ⟨B2, hB2⟩ : ∃ B, (codF m0.codes a2).isSome = B := ⟨_, rfl⟩
  simp only [hI2, hB2] at c2 d2
  clear hI2 hB2
  have qI2 : (I2 == I2) = true := beq_self_eq_true _
  have qB2 : (B2 == B2) = true := beq_self_eq_true _
  go_enter Try.func6, Try.ntmps6
  go_wp2_with (go_at_call 9; refine (w_alive9 _ hT_0).mono ?_; rintro e q1 ⟨rfl, b_1⟩; have hT_1 := hT_0.below b_1; have t_1 := t_0.below b_1; have st_1 := st_0.below b_1; obtain ⟨st0_1, st1_1, st2_1, st3_1, st4_1, st5_1, st6_1, st7_1, st8_1, st9_1⟩ := mch_cells st_1)
  go_wp2_with (go_at_call 15; refine (c0 _ hT_1 t_1).mono ?_; rintro e q2 ⟨rfl, b_2⟩; have hT_2 := hT_1.below b_2; have t_2 := t_1.below b_2; have st_2 := st_1.below b_2; obtain ⟨st0_2, st1_2, st2_2, st3_2, st4_2, st5_2, st6_2, st7_2, st8_2, st9_2⟩ := mch_cells st_2)
  go_wp2_with (go_at_call 24; refine (d0 _ t_2).mono ?_; rintro e q3 ⟨rfl, b_3⟩; have hT_3 := hT_2.below b_3; have t_3 := t_2.below b_3; have st_3 := st_2.below b_3; obtain ⟨st0_3, st1_3, st2_3, st3_3, st4_3, st5_3, st6_3, st7_3, st8_3, st9_3⟩ := mch_cells st_3)
  go_wp2_with (go_at_call 25; refine (c1 _ hT_3 t_3).mono ?_; rintro e q4 ⟨rfl, b_4⟩; have hT_4 := hT_3.below b_4; have t_4 := t_3.below b_4; have st_4 := st_3.below b_4; obtain ⟨st0_4, st1_4, st2_4, st3_4, st4_4, st5_4, st6_4, st7_4, st8_4, st9_4⟩ := mch_cells st_4)
  go_wp2_with (go_at_call 26; refine (d1 _ t_4).mono ?_; rintro e q5 ⟨rfl, b_5⟩; have hT_5 := hT_4.below b_5; have t_5 := t_4.below b_5; have st_5 := st_4.below b_5; obtain ⟨st0_5, st1_5, st2_5, st3_5, st4_5, st5_5, st6_5, st7_5, st8_5, st9_5⟩ := mch_cells st_5)
  go_wp2_with (go_at_call 16; refine (c2 _ hT_5 t_5).mono ?_; rintro e q6 ⟨rfl, b_6⟩; have hT_6 := hT_5.below b_6; have t_6 := t_5.below b_6; have st_6 := st_5.below b_6; obtain ⟨st0_6, st1_6, st2_6, st3_6, st4_6, st5_6, st6_6, st7_6, st8_6, st9_6⟩ := mch_cells st_6)
  go_wp2_with (go_at_call 27; refine (d2 _ t_6).mono ?_; rintro e q7 ⟨rfl, b_7⟩; have hT_7 := hT_6.below b_7; have t_7 := t_6.below b_7; have st_7 := st_6.below b_7; obtain ⟨st0_7, st1_7, st2_7, st3_7, st4_7, st5_7, st6_7, st7_7, st8_7, st9_7⟩ := mch_cells st_7)
  go_ret
  exact ⟨by simp, below_trans (below_trans (below_trans (below_trans (below_trans (below_trans (below_trans (bb) b_1) b_2) b_3) b_4) b_5) b_6) b_7⟩

set_option maxRecDepth 100000 in
theorem lifted (os : Os) (started : os.Started) (H : Type) (enc : TypeId × Value → H) :
    ReturnsInHanded {} Try.checked os 6 .any (Rows.dictFindsSpec.pre6 enc Try.prog Try.f6 Rows.dictFindsRow.domain false) (Rows.dictFindsSpec.post enc Try.prog Try.f6 false true false false) := by
  refine returnsInHanded_of_change_sized (C := Try.checked) own started (by kernel_rfl) Try.func6
    (ChangeSpec.witness6 (enc := enc) (C := Try.checked) false ⟨#[], #[.agg #[.slice none 0 0, .slice none 0 0, .slice none 0 0, .slice none 0 0, .int .u32 0, .slice none 0 0, .int .i64 0, .slice none 0 0, .int .i64 0, .string ⟨#[]⟩], .string ⟨#[]⟩, .int .i64 0], []⟩ 8 (by kernel_rfl) (by kernel_rfl) (by kernel_rfl) (by kernel_rfl)) ?_
  intro W base args ds gs before hval0 hW hcnd hsz0 _
  have hval : ∀ (j : Nat) t v, Try.f6.params[j]? = some t → args[j]? = some v → Value.okWide Try.prog W .any base t v := hval0
  have hsz : (DataW.weightsEach Try.prog (Try.f6.params.toList ++ Rows.dictFindsSpec.plain.varTypes Try.prog) (ds ++ gs)).all (· ≤ reachBytes) = true := hsz0
  have hW' := hW
  obtain ⟨p, q, hA0, hV, rfl, hfz, hnd⟩ := hW
  have hA : DataW.TrodAll enc Try.prog W 0 (fun _ => true) true Try.f6.params.toList args.toList ds p := hA0
  rw [Try.params6] at hA hval hsz
  obtain ⟨v0, vs0, d0, ds0, p0, q0, hargs, rfl, rfl, h0, r0⟩ := trodAll_cons hA
  obtain ⟨v1, vs1, d1, ds1, p1, q1, rfl, rfl, rfl, h1, r1⟩ := trodAll_cons r0
  obtain ⟨v2, vs2, d2, ds2, p2, q2, rfl, rfl, rfl, h2, r2⟩ := trodAll_cons r1
  obtain ⟨rfl, rfl, rfl⟩ := trodAll_nil r2
  obtain rfl : args = #[v0, v1, v2] := by cases args; simp_all
  obtain ⟨rfl, rfl⟩ := trodVars_none hV
  have k0 := h0
  have lt0 : ∀ x ∈ p0, x.block < W.heap.size := by obtain ⟨m, hm⟩ := k0; exact DataW.trod_lt m _ _ _ hm
  obtain ⟨mv0, m0, mo0, rfl, r100, g0, ws0⟩ := mch_open (hval 0 32 v0 rfl rfl) h0 (fun n hn => by simpa using List.all_eq_true.1 hsz n (DataW.weights_mem_each (j := 0) (t := 32) (d := d0) rfl rfl n hn))
  obtain ⟨a1, rfl, rfl, rfl, w1⟩ := open_string Try.underlying9 (hval 1 9 v1 rfl rfl) h1
  obtain ⟨a2, rfl, rfl, rfl, w2⟩ := open_int Try.underlying3 (hval 2 3 v2 rfl rfl) h2
  clear hA0 hval0 hsz0
  refine (walk mv0 m0 mo0 a1 a2 W r100 g0 ws0 w1 w2).mono fun e W' ⟨he, bel⟩ => ?_
  subst he
  exact ⟨_, rfl, _, _, _, [], _, [], hW', trodAll_mk1 (shut_bool Try.underlying4 _), (trodAll_cons_mk (Below.trod laidOut (by kernel_rfl) (of_decide_eq_true (by kernel_rfl)) k0 bel lt0) (trodAll_cons_mk (shut_string Try.underlying9 w1) (trodAll_cons_mk (shut_int Try.underlying3 w2) trodAll_mk0))), rfl, bel.frame _, fun h => by cases h⟩

theorem over : Rows.dictFindsRow.holds Try.pinned (OpenSpec.ofChange Rows.dictFindsSpec) :=
  OpenClaim.holds_of_wide 6 Try.f6 rfl rfl rfl rfl rfl rfl rfl ⟨rfl, rfl, rfl, rfl, rfl⟩ rfl rfl rfl rfl rfl (by kernel_rfl) Try.func6 (by kernel_rfl)
    (of_decide_eq_true (by kernel_rfl)) (by unfold Func.isWrapper; first | (rw [if_pos (by decide +kernel)]; kernel_rfl) | (rw [if_neg (by decide +kernel)]; exact ⟨rfl, rfl⟩))
    (fun os started H enc _ => lifted os started H enc)
end Go.Proofs.Ytfljcfpcokimcaa.dictFinds
namespace Go.Proofs.Ytfljcfpcokimcaa
theorem dictFinds_holds : Rows.DictFindsSaid := dictFinds.over
#print axioms dictFinds_holds
end Go.Proofs.Ytfljcfpcokimcaa
