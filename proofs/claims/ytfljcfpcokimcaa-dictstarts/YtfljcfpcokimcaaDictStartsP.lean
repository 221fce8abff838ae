/-
  Every machine begins with the document's words, each found by its name and by its number.
-/
import Derived.Test.YtfljcfpcokimcaaRows
import Derived.WalkKit
import Derived.ProofKit
import Derived.OpenShut
import Derived.ShutString
import Derived.ChangeOld
import Derived.Below
import Derived.Carry
import Derived.SizedLaws
import Derived.Test.YtfljcfpcokimcaaB40
namespace Go.Proofs.Ytfljcfpcokimcaa.dictStarts
open Go.ChangeShapes Go.WideShapes Go.ChangeAt Go.RowKit
open Go.ChangeMaps (open_string shut_string)
set_option linter.unusedVariables false

theorem own : ownKnob Try.prog.godebug = none := by kernel_rfl
theorem laidOut : laidOutB Try.prog = true := by kernel_rfl

set_option maxHeartbeats 4000000 in
set_option maxRecDepth 100000 in
theorem walk (a0 : Int) (w : World) (w0 : (Lit.int .i64 a0).wf = true) :
    Calls Try.prog 3 #[.int .i64 a0] w fun e w' => e = .returned (.bool true) ∧ Below w.heap.size w w' := by
  have hT : Tab w := trivial
  have c1 := fun w hT => w_p9new w hT
  have c2 := fun w => w_r9new w
  have c3 := fun va vb w h h2 => w_r9eq newM va vb ⟨#[]⟩ ⟨#[]⟩ w h h2 new_gM
  have c4 := fun w hT => w_p9prims w hT
  have c5 := fun w => w_r9prims w
  go_enter Try.func3, Try.ntmps3
  go_upto_region 3 with (first
    | (go_at_call 9; refine (w_alive9 _ hT).mono ?_; rintro e q1 ⟨rfl, b_1⟩; have hT_1 := hT.below b_1)
    | (go_at_call 11; refine (c1 _ hT_1).mono ?_; rintro e q2 ⟨v2, rfl, p2, b_2⟩; have g_2 := below_trans b_1 b_2)
    | (go_at_call 12; refine (c2 _).mono ?_; rintro e q3 ⟨v3, rfl, p3, b_3⟩; have g_3 := below_trans g_2 b_3)
    | (go_at_call 10; refine (c3 v2 v3 _ (p2.below b_3) p3.read).mono ?_; rintro e q4 ⟨rfl, b_4⟩; have g_4 := below_trans g_3 b_4))
  go_upto_region 4 with (first
    | (go_at_call 13; refine (c4 _ (hT.below g_4)).mono ?_; rintro e q5 ⟨u5, rfl, p5, b_5⟩; obtain ⟨x5, k5, rfl⟩ := slr_prm p5; have g_5 := below_trans g_4 b_5)
    | (go_at_call 14; refine (c5 _).mono ?_; rintro e q6 ⟨u6, rfl, p6, b_6⟩; obtain ⟨x6, k6, rfl⟩ := slr_prm p6; have g_6 := below_trans g_5 b_6; have p5b := SlR.below p5 b_6 (prmR_below b_6)))
  clear c1 c2 c3 c4 c5 p2 p3 p5
  go_wp2_with fail
  go_loopw [5] (fun I wx => ∃ k : Nat, (k : Int) ≤ 111 ∧ I = .int .i64 k ∧ Below q6.heap.size q6 wx) (fun I _ => (111 - intOf I).toNat)
  case atStart => exact ⟨0, by omega, rfl, Below.refl _ _⟩
  case round =>
    obtain ⟨k, hk, rfl, hg⟩ := hrel
    have ps := SlR.below p5b hg (prmR_below hg)
    have pt := SlR.below p6 hg (prmR_below hg)
    by_cases hlt : (k : Int) < 111
    · have hka : k < prmL.length := by rw [prm_len]; omega
      obtain ⟨b1, o1, n1, i1, j0, j1, e1⟩ := prm_cell ps k hka
      obtain ⟨b2, o2, n2, i2, l0, l1, e2⟩ := prm_cell pt k hka
      obtain rfl : n1 = n2 := e1.symm.trans e2
      obtain ⟨B, hB⟩ : ∃ B, prmL[k].2 = B := ⟨_, rfl⟩
      rw [hB] at j1 l1
      have hq := fun w => neq_prm w n1 B
      have hgd := grd_prm
      clear hB e1 e2 ps pt
      go_wp2_with fail
      go_quiet (fail)
      go_wp2_with fail
      go_roundw
      case rel => exact ⟨k + 1, by omega, by go_num, below_drewN hg _⟩
      case measure => simp [intOf]; omega
    · have hgw := below_trans g_6 hg
      by_cases h0 : a0 < 0
      · go_wp2_with fail
        go_ret
        exact ⟨rfl, hgw⟩
      · by_cases h1 : 111 ≤ a0
        · go_wp2_with fail
          go_ret
          exact ⟨rfl, hgw⟩
        · obtain ⟨K, rfl⟩ : ∃ K : Nat, a0 = K := ⟨a0.toNat, by omega⟩
          have hKa : K < prmL.length := by rw [prm_len]; omega
          obtain ⟨hF, hC, hN⟩ := prm_at hKa
          obtain ⟨b1, o1, S, i1, j0, j1, e1⟩ := prm_cell ps K hKa
          have hx := List.all_eq_true.1 prm_good _ (List.getElem_mem hKa)
          simp only [Bool.and_eq_true, decide_eq_true_eq, List.all_eq_true] at hx
          have hbl : bytesL prmL[K].1 := hx.2.2
          have hLS : L S = prmL[K].1 := str_back e1 hbl
          have hS : S.size ≤ maxLen := str_le e1 hbl (by have := hx.2.1; unfold maxLen; omega)
          have hCw : (Lit.int .i64 prmL[K].2).wf = true := by
            have := hx.1
            simp only [Lit.wf, IntKind.min, IntKind.max, IntKind.bits, IntKind.signed, decide_eq_true_eq, Bool.and_eq_true]
            simp
            omega
          have f1 := fun w hT => w_p9new w hT
          have f2 := fun v w hT h => w_p9find v newM ⟨#[]⟩ S w hT h new_gM hS
          have f3 := fun v w hT h => w_p9code v newM ⟨#[]⟩ prmL[K].2 w hT h new_gM hCw
          have f4 := fun w hT => w_p9named S w hT hS
          simp only [hLS, hF, fnI, Option.isSome_some] at f2
          simp only [hC, cdI, Option.isSome_some] at f3
          simp only [hLS, hN] at f4
          obtain ⟨C, hCC⟩ : ∃ C, prmL[K].2 = C := ⟨_, rfl⟩
          simp only [hCC] at f3 j1
          have hTw := hid (hT.below hgw)
          have hgh := hid hgw
          have HS : Hid (∀ W, Below wr.heap.size wr W → (W.cell? ⟨b1, o1, none⟩ = some (.string S) ∧ W.cell? ⟨b1, o1 + 1, none⟩ = some (.int .i64 C))) := fun W g => ⟨below_cell g j0, below_cell g j1⟩
          have hrd : Hid (Below wr.heap.size wr wr.drew) := below_drewN (Below.refl _ _) 1
          have qK : ((K : Int) == (K : Int)) = true := beq_self_eq_true _
          clear hCC hCw hx hbl hLS hF hC hN e1 ps pt j0 j1 p5b p6
          go_upto_region 13 with fail
          go_region_held (fun W => (W.cell? ⟨b1, o1, none⟩ = some (.string S) ∧ W.cell? ⟨b1, o1 + 1, none⟩ = some (.int .i64 C))) (exact HS.out _ (by first | with_reducible exact hrd.out | with_reducible exact R8.out | with_reducible exact R7.out))
            (first
              | (go_at_call 11; refine (f1 _ (hTw.out.below hrd.out)).mono ?_; rintro e q7 ⟨v7, rfl, p7, b7⟩; simp only [Mv.cs]; have R7 : Hid (Below wr.heap.size wr q7) := below_trans hrd.out b7)
              | (go_at_call 15; refine (f2 v7 _ (hTw.out.below R7.out) p7).mono ?_; rintro e q8 ⟨rfl, b8⟩; have R8 : Hid (Below wr.heap.size wr q8) := below_trans R7.out b8))
          have hrd2 : Hid (Below wr.heap.size wr q8.drew) := below_trans R8.out (below_drewN (Below.refl _ _) 1)
          go_wp2_with fail
          go_region_held (fun W => (W.cell? ⟨b1, o1, none⟩ = some (.string S) ∧ W.cell? ⟨b1, o1 + 1, none⟩ = some (.int .i64 C))) (exact HS.out _ (by first | with_reducible exact hrd2.out | with_reducible exact R10.out | with_reducible exact R9.out))
            (first
              | (go_at_call 11; refine (f1 _ (hTw.out.below hrd2.out)).mono ?_; rintro e q9 ⟨v9, rfl, p9, b9⟩; simp only [Mv.cs]; have R9 : Hid (Below wr.heap.size wr q9) := below_trans hrd2.out b9)
              | (go_at_call 16; refine (f3 v9 _ (hTw.out.below R9.out) p9).mono ?_; rintro e q10 ⟨rfl, b10⟩; have R10 : Hid (Below wr.heap.size wr q10) := below_trans R9.out b10))
          obtain ⟨j0, j1⟩ := HS.out _ R10.out
          go_wp2_with (go_at_call 17; refine (f4 _ (hTw.out.below R10.out)).mono ?_; rintro e q11 ⟨rfl, b11⟩)
          go_ret
          exact ⟨by simp, below_trans (below_trans hgh.out R10.out) b11⟩

set_option maxRecDepth 100000 in
theorem lifted (os : Os) (started : os.Started) (H : Type) (enc : TypeId × Value → H) :
    ReturnsInHanded {} Try.checked os 3 .any (Rows.dictStartsSpec.pre6 enc Try.prog Try.f3 Rows.dictStartsRow.domain false) (Rows.dictStartsSpec.post enc Try.prog Try.f3 false true false false) := by
  refine returnsInHanded_of_change_sized (C := Try.checked) own started (by kernel_rfl) Try.func3
    (ChangeSpec.witness6 (enc := enc) (C := Try.checked) false ⟨#[], #[.int .i64 0], []⟩ 8 (by kernel_rfl) (by kernel_rfl) (by kernel_rfl) (by kernel_rfl)) ?_
  intro W base args ds gs before hval0 hW hcnd hsz0 _
  have hval : ∀ (j : Nat) t v, Try.f3.params[j]? = some t → args[j]? = some v → Value.okWide Try.prog W .any base t v := hval0
  have hsz : (DataW.weightsEach Try.prog (Try.f3.params.toList ++ Rows.dictStartsSpec.plain.varTypes Try.prog) (ds ++ gs)).all (· ≤ reachBytes) = true := hsz0
  have hW' := hW
  obtain ⟨p, q, hA0, hV, rfl, hfz, hnd⟩ := hW
  have hA : DataW.TrodAll enc Try.prog W 0 (fun _ => true) true Try.f3.params.toList args.toList ds p := hA0
  rw [Try.params3] at hA hval hsz
  obtain ⟨v0, vs0, d0, ds0, p0, q0, hargs, rfl, rfl, h0, r0⟩ := trodAll_cons hA
  obtain ⟨rfl, rfl, rfl⟩ := trodAll_nil r0
  obtain rfl : args = #[v0] := by cases args; simp_all
  obtain ⟨rfl, rfl⟩ := trodVars_none hV
  obtain ⟨a0, rfl, rfl, rfl, w0⟩ := open_int Try.underlying3 (hval 0 3 v0 rfl rfl) h0
  clear hA0 hval0 hsz0
  refine (walk a0 W w0).mono fun e W' ⟨he, bel⟩ => ?_
  subst he
  exact ⟨_, rfl, _, _, _, [], _, [], hW', trodAll_mk1 (shut_bool Try.underlying4 _), (trodAll_cons_mk (shut_int Try.underlying3 w0) trodAll_mk0), rfl, bel.frame _, fun h => by cases h⟩

theorem over : Rows.dictStartsRow.holds Try.pinned (OpenSpec.ofChange Rows.dictStartsSpec) :=
  OpenClaim.holds_of_wide 3 Try.f3 rfl rfl rfl rfl rfl rfl rfl ⟨rfl, rfl, rfl, rfl, rfl⟩ rfl rfl rfl rfl rfl (by kernel_rfl) Try.func3 (by kernel_rfl)
    (of_decide_eq_true (by kernel_rfl)) (by unfold Func.isWrapper; first | (rw [if_pos (by decide +kernel)]; kernel_rfl) | (rw [if_neg (by decide +kernel)]; exact ⟨rfl, rfl⟩))
    (fun os started H enc _ => lifted os started H enc)
end Go.Proofs.Ytfljcfpcokimcaa.dictStarts
namespace Go.Proofs.Ytfljcfpcokimcaa
theorem dictStarts_holds : Rows.DictStartsSaid := dictStarts.over
#print axioms dictStarts_holds
end Go.Proofs.Ytfljcfpcokimcaa
