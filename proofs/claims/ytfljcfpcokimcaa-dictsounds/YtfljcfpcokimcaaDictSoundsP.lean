/-
  Instructions are sound just where the document's answer says so, and so a text is a name.
-/
import Derived.Test.YtfljcfpcokimcaaRows
import Derived.WalkKit
import Derived.ProofKit
import Derived.OpenShut
import Derived.ShutString
import Derived.ChangeOld
import Derived.Below
import Derived.Carry
import Derived.SizedLaws
import Derived.Test.YtfljcfpcokimcaaB40
namespace Go.Proofs.Ytfljcfpcokimcaa.dictSounds
open Go.ChangeShapes Go.WideShapes Go.ChangeAt Go.RowKit
open Go.ChangeMaps (open_string shut_string)
set_option linter.unusedVariables false

theorem own : ownKnob Try.prog.godebug = none := by kernel_rfl
theorem laidOut : laidOutB Try.prog = true := by kernel_rfl

set_option maxHeartbeats 4000000 in
set_option maxRecDepth 100000 in
theorem walk (v0 : Value) (x0 : List Opd) (a1 : Int) (a2 : ByteArray) (w : World) (r0 : RdO w v0 x0) (g0 : ∀ x ∈ x0, gO x) (z0 : x0.length * 16 ≤ 140737488351232) (w1 : (Lit.int .i64 a1).wf = true) (w2 : a2.size ≤ maxLen) :
    Calls Try.prog 5 #[v0, .int .i64 a1, .string a2] w fun e w' => e = .returned (.bool true) ∧ Below w.heap.size w w' := by
  have hT : Tab w := trivial
  have c1 := fun w hT h => w_p9sound v0 x0 a1 w hT h g0 z0 w1
  have c2 := fun w h => w_r9sound v0 x0 a1 w h (fun x hx => (g0 x hx).2)
  have c3 := fun w hT => w_p9named a2 w hT w2
  have c4 := fun w => w_r9named a2 w w2
  obtain ⟨B, hB⟩ : ∃ B, sndF x0 a1 = B := ⟨_, rfl⟩
  obtain ⟨E, hE⟩ : ∃ E, namF (L a2) = E := ⟨_, rfl⟩
  simp only [hB] at c1 c2
  simp only [hE] at c3 c4
  clear hB hE
  go_enter Try.func5, Try.ntmps5
  go_wp2_with (first
    | (go_at_call 9; refine (w_alive9 _ hT).mono ?_; rintro e q1 ⟨rfl, b1⟩; have hT1 := hT.below b1; have t1 := r0.below b1)
    | (go_at_call 21; refine (c1 _ hT1 t1).mono ?_; rintro e q2 ⟨rfl, b2⟩; have hT2 := hT1.below b2; have t2 := t1.below b2)
    | (go_at_call 22; refine (c2 _ t2).mono ?_; rintro e q3 ⟨rfl, b3⟩; have hT3 := hT2.below b3; have qB : (B == B) = true := beq_self_eq_true B)
    | (go_at_call 17; refine (c3 _ hT3).mono ?_; rintro e q4 ⟨rfl, b4⟩)
    | (go_at_call 23; refine (c4 _).mono ?_; rintro e q5 ⟨rfl, b5⟩; have qE : (E == E) = true := beq_self_eq_true E))
  go_ret
  exact ⟨by simp, below_trans (below_trans (below_trans (below_trans b1 b2) b3) b4) b5⟩

set_option maxRecDepth 100000 in
theorem lifted (os : Os) (started : os.Started) (H : Type) (enc : TypeId × Value → H) :
    ReturnsInHanded {} Try.checked os 5 .any (Rows.dictSoundsSpec.pre6 enc Try.prog Try.f5 Rows.dictSoundsRow.domain false) (Rows.dictSoundsSpec.post enc Try.prog Try.f5 false true false false) := by
  refine returnsInHanded_of_change_sized (C := Try.checked) own started (by kernel_rfl) Try.func5
    (ChangeSpec.witness6 (enc := enc) (C := Try.checked) false ⟨#[], #[.slice none 0 0, .int .i64 0, .string ⟨#[]⟩], []⟩ 8 (by kernel_rfl) (by kernel_rfl) (by kernel_rfl) (by kernel_rfl)) ?_
  intro W base args ds gs before hval0 hW hcnd hsz0 _
  have hval : ∀ (j : Nat) t v, Try.f5.params[j]? = some t → args[j]? = some v → Value.okWide Try.prog W .any base t v := hval0
  have hsz : (DataW.weightsEach Try.prog (Try.f5.params.toList ++ Rows.dictSoundsSpec.plain.varTypes Try.prog) (ds ++ gs)).all (· ≤ reachBytes) = true := hsz0
  have hW' := hW
  obtain ⟨p, q, hA0, hV, rfl, hfz, hnd⟩ := hW
  have hA : DataW.TrodAll enc Try.prog W 0 (fun _ => true) true Try.f5.params.toList args.toList ds p := hA0
  rw [Try.params5] at hA hval hsz
  obtain ⟨v0, vs0, d0, ds0, p0, q0, hargs, rfl, rfl, h0, r0⟩ := trodAll_cons hA
  obtain ⟨v1, vs1, d1, ds1, p1, q1, rfl, rfl, rfl, h1, r1⟩ := trodAll_cons r0
  obtain ⟨v2, vs2, d2, ds2, p2, q2, rfl, rfl, rfl, h2, r2⟩ := trodAll_cons r1
  obtain ⟨rfl, rfl, rfl⟩ := trodAll_nil r2
  obtain rfl : args = #[v0, v1, v2] := by cases args; simp_all
  obtain ⟨rfl, rfl⟩ := trodVars_none hV
  obtain ⟨s0, l0, c0, rfl⟩ := okWide_slice Try.underlying45 (hval 0 45 v0 rfl rfl)
  have k0 := h0
  have lt0 : ∀ x ∈ p0, x.block < W.heap.size := by obtain ⟨m, hm⟩ := k0; exact DataW.trod_lt m _ _ _ hm
  obtain ⟨x0, r100, g0, z0⟩ := ops_open h0 (fun n hn => by simpa using List.all_eq_true.1 hsz n (DataW.weights_mem_each (j := 0) (t := 45) (d := d0) rfl rfl n hn))
  obtain ⟨a1, rfl, rfl, rfl, w1⟩ := open_int Try.underlying3 (hval 1 3 v1 rfl rfl) h1
  obtain ⟨a2, rfl, rfl, rfl, w2⟩ := open_string Try.underlying9 (hval 2 9 v2 rfl rfl) h2
  clear hA0 hval0 hsz0
  refine (walk (.slice s0 l0 c0) x0 a1 a2 W r100 g0 z0 w1 w2).mono fun e W' ⟨he, bel⟩ => ?_
  subst he
  exact ⟨_, rfl, _, _, _, [], _, [], hW', trodAll_mk1 (shut_bool Try.underlying4 _), (trodAll_cons_mk (Below.trod laidOut (by kernel_rfl) (of_decide_eq_true (by kernel_rfl)) k0 bel lt0) (trodAll_cons_mk (shut_int Try.underlying3 w1) (trodAll_cons_mk (shut_string Try.underlying9 w2) trodAll_mk0))), rfl, bel.frame _, fun h => by cases h⟩

theorem over : Rows.dictSoundsRow.holds Try.pinned (OpenSpec.ofChange Rows.dictSoundsSpec) :=
  OpenClaim.holds_of_wide 5 Try.f5 rfl rfl rfl rfl rfl rfl rfl ⟨rfl, rfl, rfl, rfl, rfl⟩ rfl rfl rfl rfl rfl (by kernel_rfl) Try.func5 (by kernel_rfl)
    (of_decide_eq_true (by kernel_rfl)) (by unfold Func.isWrapper; first | (rw [if_pos (by decide +kernel)]; kernel_rfl) | (rw [if_neg (by decide +kernel)]; exact ⟨rfl, rfl⟩))
    (fun os started H enc _ => lifted os started H enc)
end Go.Proofs.Ytfljcfpcokimcaa.dictSounds
namespace Go.Proofs.Ytfljcfpcokimcaa
theorem dictSounds_holds : Rows.DictSoundsSaid := dictSounds.over
#print axioms dictSounds_holds
end Go.Proofs.Ytfljcfpcokimcaa
