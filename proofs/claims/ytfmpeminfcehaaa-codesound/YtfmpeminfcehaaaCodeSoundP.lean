/-
  Of code that was built from nothing and finished each branch leads into it, or to its end.
-/
import Derived.Test.YtfmpeminfcehaaaRows
import Derived.WalkKit
import Derived.ProofKit
import Derived.OpenShut
import Derived.ShutString
import Derived.ChangeOld
import Derived.Below
import Derived.Carry
import Derived.SizedLaws
import Derived.Test.YtfmpeminfcehaaaSl
import Derived.Test.YtfmpeminfcehaaaCal
import Derived.Test.YtfmpeminfcehaaaPk4
import Derived.Test.YtfmpeminfcehaaaDfp
namespace Go.Proofs.Ytfmpeminfcehaaa.codeSound
open Go.ChangeShapes Go.WideShapes Go.ChangeAt Go.RowKit
open Go.ChangeMaps (open_string shut_string)
set_option linter.unusedVariables false

theorem own : ownKnob Try.prog.godebug = none := by kernel_rfl
theorem laidOut : laidOutB Try.prog = true := by kernel_rfl

set_option maxHeartbeats 4000000 in
set_option maxRecDepth 100000 in
theorem walk (v0 : Value) (x0 : List (Int × Opd)) (w : World) (r0 : RdE w v0 x0) (g0 : ∀ x ∈ x0, gE x) (z0 : x0.length * 24 ≤ 140737488351232) :
    Calls Try.prog 5 #[v0] w fun e w' => e = .returned (.bool true) ∧ Below w.heap.size w w' := by
  have hzz := bld_sz lng_nil x0 (by omega) (by omega)
  have cb := fun W (b : Below w.heap.size w W) => w_build ⟨.slice none 0 0, .slice none 0 0, .slice none 0 0, .slice none 0 0, .slice none 0 0⟩ nilD v0 x0 W (OwQ.nil W).read (r0.below b) hzz
  have he := bld_err x0 nilD
  have hfm := bld_formed x0 nilD frm_nil
  have hsd := bld_sound x0 nilD nil_sound
  have hln : Lng x0.length x0.length (bldD nilD x0).1 := by have := bld_lng x0 lng_nil; simpa using this
  have cf := fun W u (r : RdD W u (bldD nilD x0).1) => w_p10finishA u (bldD nilD x0).1 W r (hln.sz (by omega) (by omega)).1
  obtain ⟨D, hD⟩ : ∃ D, (bldD nilD x0).1 = D := ⟨_, rfl⟩
  obtain ⟨M, hM⟩ : ∃ D, (bldD nilD x0).2.1 = D := ⟨_, rfl⟩
  obtain ⟨E, hE⟩ : ∃ D, (bldD nilD x0).2.2 = D := ⟨_, rfl⟩
  rw [hD] at hfm hsd hln
  simp only [hD, hM, hE] at cb
  simp only [hD] at cf
  rw [hE] at he
  simp only [Dv.cs] at cb
  have CB := hid cb
  have CF := hid cf
  have HS := hid hsd
  have HF := hid hfm
  clear hzz hD hM hE cb cf hsd hfm hln g0 z0
  go_enter Try.func5, Try.ntmps5
  go_upto_region 4 with (first | (go_at_call 8; refine (w_alive10 _).mono ?_; rintro e q1 ⟨rfl, b1⟩) | (go_at_call 20; refine (CB.out _ b1).mono ?_; rintro e q2 ⟨u2, rfl, r2, b2⟩; obtain ⟨da0, dc0, da1, dc1, da2, dc2, da3, dc3, da4, dc4, rfl⟩ := rdD_forms r2))
  have bx := box_below q2 (.cells #[.slice da0 D.code.length dc0, .slice da1 D.origs.length dc1, .slice da2 D.dests.length dc2, .slice da3 D.loops.length dc3, .slice da4 D.cases.length dc4] 26)
  have sx := stands_new q2 #[.slice da0 D.code.length dc0, .slice da1 D.origs.length dc1, .slice da2 D.dests.length dc2, .slice da3 D.loops.length dc3, .slice da4 D.cases.length dc4] 26
  have r3 := r2.below bx
  have b3 := below_trans (below_trans b1 b2) bx
  generalize q2.alloc (.cells #[.slice da0 D.code.length dc0, .slice da1 D.origs.length dc1, .slice da2 D.dests.length dc2, .slice da3 D.loops.length dc3, .slice da4 D.cases.length dc4] 26) = q3 at sx r3 b3 ⊢
  clear r2 bx CB
  by_cases hE : E = 0
  · have hne : (E != 0) = false := by simp [hE]
    clear he hE
    have f0 := sx.cell 0 _ rfl
    have f1 := sx.cell 1 _ rfl
    have f2 := sx.cell 2 _ rfl
    have f3 := sx.cell 3 _ rfl
    have f4 := sx.cell 4 _ rfl
    have cf := CF.out q3 ⟨.slice da0 D.code.length dc0, .slice da1 D.origs.length dc1, .slice da2 D.dests.length dc2, .slice da3 D.loops.length dc3, .slice da4 D.cases.length dc4⟩ r3
    simp only [Dv.cs] at cf
    have hfe : (finD D).2 = 0 ∨ (finD D).2 = 13 ∧ (finD D).1 = [] := by
      unfold finD
      rw [if_neg (by rw [HF.out]; simp)]
      split
      · exact Or.inr ⟨rfl, rfl⟩
      · exact Or.inl rfl
    have hfs : (finD D).2 = 0 → (finD D).1 = D.code := by
      unfold finD
      rw [if_neg (by rw [HF.out]; simp)]
      split
      · intro h; simp at h
      · intro _; rfl
    obtain ⟨C, hC⟩ : ∃ D1, (finD D).1 = D1 := ⟨_, rfl⟩
    obtain ⟨G, hG⟩ : ∃ D1, (finD D).2 = D1 := ⟨_, rfl⟩
    rw [hC, hG] at cf hfe hfs
    clear hC hG
    have FC := hid cf
    clear cf
    by_cases hG : G = 0
    · have hng : (G != 0) = false := by simp [hG]
      have hCD := hfs hG
      subst hCD
      clear hG hfe hfs
      have hlen : (D.code.length : Int) ≤ 256 := by have := ((frm_iff D).1 HF.out).len; omega
      go_upto_region 9 with (go_at_call 17; refine FC.out.mono ?_; rintro e q4 ⟨v4, rfl, r4, b4⟩)
      have hla := slr_len r4 uO (P := Try.prog)
      have B4 := below_trans b3 b4
      clear FC sx r3 f0 f1 f2 f3 f4 b3 b4
      have qlen : decide ((D.code.length : Int) ≤ 256) = true := decide_eq_true hlen
      go_wp2_with fail
      go_loopw [8] (fun I wx => ∃ k : Nat, (k : Int) ≤ D.code.length ∧ I = .int .i64 k ∧ Hid (wx = q4)) (fun I _ => (D.code.length - intOf I).toNat)
      case atStart => exact ⟨0, by omega, rfl, hid rfl⟩
      case round =>
        obtain ⟨k, hk, rfl, hw⟩ := hrel
        have hw := hw.out
        subst hw
        by_cases hlt : (k : Int) < D.code.length
        · have hkl : k < D.code.length := by omega
          obtain ⟨p5, i5, ix, k0, k1⟩ := op_at r4 k hkl
          have hs := HS.out _ (List.getElem_mem hkl)
          unfold BrO at hs
          obtain ⟨A, hA⟩ : ∃ A, D.code[k].1 = A := ⟨_, rfl⟩
          obtain ⟨B, hB⟩ : ∃ A, D.code[k].2 = A := ⟨_, rfl⟩
          rw [hA] at k0 hs
          rw [hB] at k1 hs
          clear hA hB
          by_cases a3 : 3 ≤ A
          · have j3 : decide (3 ≤ A) = true := decide_eq_true a3
            by_cases a10 : A ≤ 10
            · have j10 : decide (A ≤ 10) = true := decide_eq_true a10
              obtain ⟨hs1, hs2⟩ := hs ⟨a3, a10⟩
              have jw : IntKind.i64.wrap B = B := by simp [IntKind.wrap, IntKind.bits, IntKind.signed]; omega
              have jg : decide ((D.code.length : Int) < B) = false := decide_eq_false (by omega)
              clear hs a3 a10
              go_wp2_with fail
              go_roundw
              case rel => exact ⟨k + 1, by omega, by go_num, hid trivial⟩
              case measure => simp [intOf]; omega
            · have j10 : decide (A ≤ 10) = false := decide_eq_false a10
              clear hs a3 a10
              go_wp2_with fail
              go_roundw
              case rel => exact ⟨k + 1, by omega, by go_num, hid trivial⟩
              case measure => simp [intOf]; omega
          · have j3 : decide (3 ≤ A) = false := decide_eq_false a3
            clear hs a3
            go_wp2_with fail
            go_roundw
            case rel => exact ⟨k + 1, by omega, by go_num, hid trivial⟩
            case measure => simp [intOf]; omega
        · go_wp2_with fail
          go_ret
          exact ⟨rfl, B4⟩
    · have hng : (G != 0) = true := by simp [hG]
      obtain ⟨rfl, rfl⟩ := hfe.resolve_left hG
      clear hG hfs hng hfe
      go_upto_region 8 with (go_at_call 17; refine FC.out.mono ?_; rintro e q4 ⟨v4, rfl, r4, b4⟩)
      have hla : ∀ ty w', (Builtin.len_ #[22] ty #[v4]).run Try.prog w' = .ok (.int .i64 0) w' := slr_len r4 uO (P := Try.prog)
      go_wp2_with fail
      go_ret
      exact ⟨rfl, below_trans b3 b4⟩
  · have hne : (E != 0) = true := by simp [hE]
    have he2 := he.resolve_left hE
    clear he hE
    rcases he2 with rfl | rfl | rfl
    all_goals (
      go_wp2_with fail
      go_ret
      exact ⟨rfl, b3⟩)

set_option maxRecDepth 100000 in
theorem lifted (os : Os) (started : os.Started) (H : Type) (enc : TypeId × Value → H) :
    ReturnsInHanded {} Try.checked os 5 .any (Rows.codeSoundSpec.pre6 enc Try.prog Try.f5 Rows.codeSoundRow.domain false) (Rows.codeSoundSpec.post enc Try.prog Try.f5 false true false false) := by
  refine returnsInHanded_of_change_sized (C := Try.checked) own started (by kernel_rfl) Try.func5
    (ChangeSpec.witness6 (enc := enc) (C := Try.checked) false ⟨#[], #[.slice none 0 0], []⟩ 8 (by kernel_rfl) (by kernel_rfl) (by kernel_rfl) (by kernel_rfl)) ?_
  intro W base args ds gs before hval0 hW hcnd hsz0 _
  have hval : ∀ (j : Nat) t v, Try.f5.params[j]? = some t → args[j]? = some v → Value.okWide Try.prog W .any base t v := hval0
  have hsz : (DataW.weightsEach Try.prog (Try.f5.params.toList ++ Rows.codeSoundSpec.plain.varTypes Try.prog) (ds ++ gs)).all (· ≤ reachBytes) = true := hsz0
  have hW' := hW
  obtain ⟨p, q, hA0, hV, rfl, hfz, hnd⟩ := hW
  have hA : DataW.TrodAll enc Try.prog W 0 (fun _ => true) true Try.f5.params.toList args.toList ds p := hA0
  rw [Try.params5] at hA hval hsz
  obtain ⟨v0, vs0, d0, ds0, p0, q0, hargs, rfl, rfl, h0, r0⟩ := trodAll_cons hA
  obtain ⟨rfl, rfl, rfl⟩ := trodAll_nil r0
  obtain rfl : args = #[v0] := by cases args; simp_all
  obtain ⟨rfl, rfl⟩ := trodVars_none hV
  obtain ⟨s0, l0, c0, rfl⟩ := okWide_slice Try.underlying43 (hval 0 43 v0 rfl rfl)
  have k0 := h0
  have lt0 : ∀ x ∈ p0, x.block < W.heap.size := by obtain ⟨m, hm⟩ := k0; exact DataW.trod_lt m _ _ _ hm
  obtain ⟨x0, r100, g0, z0⟩ := ded_open h0 (fun n hn => by simpa using List.all_eq_true.1 hsz n (DataW.weights_mem_each (j := 0) (t := 43) (d := d0) rfl rfl n hn))
  clear hA0 hval0 hsz0
  refine (walk (.slice s0 l0 c0) x0 W r100 g0 z0).mono fun e W' ⟨he, bel⟩ => ?_
  subst he
  exact ⟨_, rfl, _, _, _, [], _, [], hW', trodAll_mk1 (shut_bool Try.underlying4 _), (trodAll_cons_mk (Below.trod laidOut (by kernel_rfl) (of_decide_eq_true (by kernel_rfl)) k0 bel lt0) trodAll_mk0), rfl, bel.frame _, fun h => by cases h⟩

theorem over : Rows.codeSoundRow.holds Try.pinned (OpenSpec.ofChange Rows.codeSoundSpec) :=
  OpenClaim.holds_of_wide 5 Try.f5 rfl rfl rfl rfl rfl rfl rfl ⟨rfl, rfl, rfl, rfl, rfl⟩ rfl rfl rfl rfl rfl (by kernel_rfl) Try.func5 (by kernel_rfl)
    (of_decide_eq_true (by kernel_rfl)) (by unfold Func.isWrapper; first | (rw [if_pos (by decide +kernel)]; kernel_rfl) | (rw [if_neg (by decide +kernel)]; exact ⟨rfl, rfl⟩))
    (fun os started H enc _ => lifted os started H enc)
end Go.Proofs.Ytfmpeminfcehaaa.codeSound
namespace Go.Proofs.Ytfmpeminfcehaaa
theorem codeSound_holds : Rows.CodeSoundSaid := codeSound.over
#print axioms codeSound_holds
end Go.Proofs.Ytfmpeminfcehaaa
