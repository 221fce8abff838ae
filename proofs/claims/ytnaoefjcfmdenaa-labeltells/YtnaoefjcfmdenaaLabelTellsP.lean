/-
  A label of which one byte is another one is none: the exclusive or of its numbers of two bytes tells it.
-/
import Derived.Test.YtnaoefjcfmdenaaRows
import Derived.WalkKit
import Derived.ProofKit
import Derived.OpenShut
import Derived.ShutString
import Derived.ChangeOld
import Derived.Below
import Derived.Carry
import Derived.SizedLaws
import Derived.Test.YtnaoefjcfmdenaaB7
namespace Go.Proofs.Ytnaoefjcfmdenaa.labelTells
open Go.ChangeShapes Go.WideShapes Go.ChangeAt Go.RowKit
open Go.ChangeMaps (open_string shut_string)
set_option linter.unusedVariables false
set_option linter.unusedSimpArgs false

theorem own : ownKnob Try.prog.godebug = none := by kernel_rfl
theorem laidOut : laidOutB Try.prog = true := by kernel_rfl

set_option maxHeartbeats 4000000 in
set_option maxRecDepth 100000 in
theorem walk (l0 : List Int) (a1 : Int) (a2 : Int) (w : World) (ll0 : l0.length = 16) (lu0 : u32L l0) (w1 : (Lit.int .u16 a1).wf = true) (w2 : (Lit.int .u8 a2).wf = true) :
    Calls Try.prog 7 #[.agg (ArA .u32 l0), .int .u16 a1, .int .u8 a2] w fun e w' => e = .returned (.bool true) ∧ Below w.heap.size w w' := by
  have BX := box_below w (.cells (ArA .u32 l0) 25)
  have BA := hid (arat_box .u32 w l0 25)
  have cm := fun W => w_pmake21 l0 W ll0 lu0
  have SZ := hid (show (Try.prog.info? 25).map (·.size) = some l0.length by rw [ll0]; exact szL)
  have t1 : 0 ≤ a1 ∧ a1 < 65536 := by have := w1; simp [Lit.wf, IntKind.min, IntKind.max, IntKind.bits, IntKind.signed] at this; omega
  have t2 : 0 ≤ a2 ∧ a2 < 256 := by have := w2; simp [Lit.wf, IntKind.min, IntKind.max, IntKind.bits, IntKind.signed] at this; omega
  obtain ⟨t10, t11⟩ := t1
  obtain ⟨t20, t21⟩ := t2
  by_cases hk : lb64 l0 = true
  · have hm : mkF l0 = (lbF l0, 0) := by unfold mkF; rw [if_pos hk]
    have hb := lbF_bytes ll0 lu0
    have hfl := lbF_len ll0
    rw [hm] at cm
    simp only at cm
    by_cases ht : a2 = 0
    · subst ht
      clear hm hb hfl
      obtain ⟨F, hF⟩ : ∃ F, lbF l0 = F := ⟨_, rfl⟩
      simp only [hF] at cm
      clear hk hF
      go_enter Try.func7, Try.ntmps7
      go_upto_region 3 with (go_at_call 9; refine (w_alive21 _).mono ?_; rintro e q1 ⟨rfl, b1⟩)
      refine wp_region_lit ?_
      refine wpList_load_ar rfl 25 (.tmp 3) rfl w.heap.size 0 rfl l0 (BA.out.below b1) _ arrL rfl SZ.out ?_
      go_wp2_with (go_at_call 10; refine (cm _).mono ?_; rintro e q2 ⟨v2, rfl, o2, b2⟩)
      go_ret
      exact ⟨rfl, below_trans BX (below_trans b1 b2)⟩
    · have htq : (a2 == 0) = false := by rw [beq_eq_false_iff_ne]; exact ht
      have hI : IntKind.i64.wrap a1 = a1 := by rw [IntKind.wrap_i64]; omega
      have hR : a1.tmod 512 = a1 % 512 := Int.tmod_eq_emod_of_nonneg t10
      obtain ⟨I, hIe⟩ : ∃ I, a1 % 512 = I := ⟨_, rfl⟩
      have i0 : 0 ≤ I := by omega
      have i1 : I < 512 := by omega
      have bo := byt_get hb I.toNat
      have hx : ¬ xorI ((lbF l0).getD I.toNat 0) a2 = (lbF l0).getD I.toNat 0 := by
        intro e
        have : xorI ((lbF l0).getD I.toNat 0) 0 = (lbF l0).getD I.toNat 0 := by
          have h0 := bo.1
          generalize (lbF l0).getD I.toNat 0 = q at h0 ⊢
          simp [xorI]
          omega
        exact ht (xorI_left t20 (Int.le_refl 0) (e.trans this.symm))
      have hxb := xorI_byte bo.2 t21
      have htl := ps_tells ll0 lu0 I.toNat _ (by omega) hxb.1 hxb.2 hx
      have hbs : bytesL ((lbF l0).set I.toNat (xorI ((lbF l0).getD I.toNat 0) a2)) := by
        intro y hy
        rcases List.mem_or_eq_of_mem_set hy with hy | rfl
        · exact hb y hy
        · exact hxb
      have cp := fun v W r => w_pparse21 v ((lbF l0).set I.toNat (xorI ((lbF l0).getD I.toNat 0) a2)) W r hbs (by rw [List.length_set]; omega)
      rw [htl] at cp
      simp only at cp
      have hxr : bits .xor .u8 ((lbF l0).getD I.toNat 0) a2 = xorI ((lbF l0).getD I.toNat 0) a2 := u8_xor _ _ bo.1 bo.2 t20 t21
      have z := zeroL.1
      obtain ⟨Z, hZ⟩ : ∃ Z, ArA .u32 (List.replicate 16 0) = Z := ⟨_, rfl⟩
      rw [hZ] at z
      simp only [hZ] at cp
      have zs : Z.size = 16 := by rw [← hZ, ara_size, List.length_replicate]
      have hrun := fun W : World => run_storeCells_new (P := Try.prog) W 25 Z Z (by rw [zs]; exact szL) rfl (by rw [← hZ]; exact ara_one _ _)
      have hlI : I < (lbF l0).length := by omega
      obtain ⟨F, hF⟩ : ∃ F, lbF l0 = F := ⟨_, rfl⟩
      simp only [hF] at cm cp hxr hlI bo hxb
      obtain ⟨b0, b1'⟩ := bo
      obtain ⟨X, hX⟩ : ∃ X, F.getD I.toNat 0 = X := ⟨_, rfl⟩
      have hXH := hid hX
      rw [hX] at hxr b0 b1' hxb
      simp only [hX] at cp
      obtain ⟨Y, hY⟩ : ∃ Y, xorI X a2 = Y := ⟨_, rfl⟩
      rw [hY] at hxr hxb
      simp only [hY] at cp
      have CP := hid cp
      have HR := hid hrun
      rw [hIe] at hR
      clear hk hF hb hfl hm htl hbs hx ht hX hY cp hrun hZ hIe
      go_enter Try.func7, Try.ntmps7
      go_upto_region 3 with (go_at_call 9; refine (w_alive21 _).mono ?_; rintro e q1 ⟨rfl, b1⟩)
      refine wp_region_lit ?_
      refine wpList_load_ar rfl 25 (.tmp 3) rfl w.heap.size 0 rfl l0 (BA.out.below b1) _ arrL rfl SZ.out ?_
      go_upto_region 6 with (go_at_call 10; refine (cm _).mono ?_; rintro e q2 ⟨v2, rfl, o2, b2⟩)
      obtain ⟨ad, e1, e2, e3, e4, e5⟩ := own_set o2 uB zB I i0 hlI
      have e6 := e5 Y
      rw [hXH.out] at e2
      have bs := b2.setCell e4 (.int .u8 Y)
      have O6 := hid e6
      clear e5 e6
      go_upto_region 7 with fail
      generalize q2.setCell ad (.int .u8 Y) = q3 at O6 bs ⊢
      have r6 : Rd .u8 q3 v2 (F.set I.toNat Y) := (Rd_own O6.out).1
      clear e1 e2 e3 e4
      go_wp2_with (go_at_call 13; refine (CP.out _ _ r6).mono ?_; rintro e q5 ⟨rfl, b5⟩; have hs5 := HR.out q5)
      go_ret
      exact ⟨rfl, below_trans BX (below_trans b1 (below_trans bs (below_trans b5 (box_below _ _))))⟩
  · have hm : mkF l0 = ([], 1) := by unfold mkF; rw [if_neg hk]
    rw [hm] at cm
    simp only at cm
    clear hk hm
    go_enter Try.func7, Try.ntmps7
    go_upto_region 3 with (go_at_call 9; refine (w_alive21 _).mono ?_; rintro e q1 ⟨rfl, b1⟩)
    refine wp_region_lit ?_
    refine wpList_load_ar rfl 25 (.tmp 3) rfl w.heap.size 0 rfl l0 (BA.out.below b1) _ arrL rfl SZ.out ?_
    go_wp2_with (go_at_call 10; refine (cm _).mono ?_; rintro e q2 ⟨v2, rfl, o2, b2⟩)
    go_ret
    exact ⟨rfl, below_trans BX (below_trans b1 b2)⟩

set_option maxRecDepth 100000 in
theorem lifted (os : Os) (started : os.Started) (H : Type) (enc : TypeId × Value → H) :
    ReturnsInHanded {} Try.checked os 7 .any (Rows.labelTellsSpec.pre6 enc Try.prog Try.f7 Rows.labelTellsRow.domain false) (Rows.labelTellsSpec.post enc Try.prog Try.f7 false true false false) := by
  refine returnsInHanded_of_change_sized (C := Try.checked) own started (by kernel_rfl) Try.func7
    (ChangeSpec.witness6 (enc := enc) (C := Try.checked) false ⟨#[], #[.agg #[.int .u32 0, .int .u32 0, .int .u32 0, .int .u32 0, .int .u32 0, .int .u32 0, .int .u32 0, .int .u32 0, .int .u32 0, .int .u32 0, .int .u32 0, .int .u32 0, .int .u32 0, .int .u32 0, .int .u32 0, .int .u32 0], .int .u16 0, .int .u8 0], []⟩ 8 (by kernel_rfl) (by kernel_rfl) (by kernel_rfl) (by kernel_rfl)) ?_
  intro W base args ds gs before hval0 hW hcnd hsz0 _
  have hval : ∀ (j : Nat) t v, Try.f7.params[j]? = some t → args[j]? = some v → Value.okWide Try.prog W .any base t v := hval0
  have hsz : (DataW.weightsEach Try.prog (Try.f7.params.toList ++ Rows.labelTellsSpec.plain.varTypes Try.prog) (ds ++ gs)).all (· ≤ reachBytes) = true := hsz0
  have hW' := hW
  obtain ⟨p, q, hA0, hV, rfl, hfz, hnd⟩ := hW
  have hA : DataW.TrodAll enc Try.prog W 0 (fun _ => true) true Try.f7.params.toList args.toList ds p := hA0
  rw [Try.params7] at hA hval hsz
  obtain ⟨v0, vs0, d0, ds0, p0, q0, hargs, rfl, rfl, h0, r0⟩ := trodAll_cons hA
  obtain ⟨v1, vs1, d1, ds1, p1, q1, rfl, rfl, rfl, h1, r1⟩ := trodAll_cons r0
  obtain ⟨v2, vs2, d2, ds2, p2, q2, rfl, rfl, rfl, h2, r2⟩ := trodAll_cons r1
  obtain ⟨rfl, rfl, rfl⟩ := trodAll_nil r2
  obtain rfl : args = #[v0, v1, v2] := by cases args; simp_all
  obtain ⟨rfl, rfl⟩ := trodVars_none hV
  have k0 := h0
  have lt0 : ∀ x ∈ p0, x.block < W.heap.size := by obtain ⟨m, hm⟩ := k0; exact DataW.trod_lt m _ _ _ hm
  obtain ⟨l0, rfl, ll0, lu0⟩ := pts_open (hval 0 25 v0 rfl rfl) h0
  obtain ⟨a1, rfl, rfl, rfl, w1⟩ := open_int Try.underlying47 (hval 1 47 v1 rfl rfl) h1
  obtain ⟨a2, rfl, rfl, rfl, w2⟩ := open_int Try.underlying5 (hval 2 5 v2 rfl rfl) h2
  clear hA0 hval0 hsz0
  refine (walk l0 a1 a2 W ll0 lu0 w1 w2).mono fun e W' ⟨he, bel⟩ => ?_
  subst he
  exact ⟨_, rfl, _, _, _, [], _, [], hW', trodAll_mk1 (shut_bool Try.underlying4 _), (trodAll_cons_mk (Below.trod laidOut (by kernel_rfl) (of_decide_eq_true (by kernel_rfl)) k0 bel lt0) (trodAll_cons_mk (shut_int Try.underlying47 w1) (trodAll_cons_mk (shut_int Try.underlying5 w2) trodAll_mk0))), rfl, bel.frame _, fun h => by cases h⟩

theorem over : Rows.labelTellsRow.holds Try.pinned (OpenSpec.ofChange Rows.labelTellsSpec) :=
  OpenClaim.holds_of_wide 7 Try.f7 rfl rfl rfl rfl rfl rfl rfl ⟨rfl, rfl, rfl, rfl, rfl⟩ rfl rfl rfl rfl rfl (by kernel_rfl) Try.func7 (by kernel_rfl)
    (of_decide_eq_true (by kernel_rfl)) (by unfold Func.isWrapper; first | (rw [if_pos (by decide +kernel)]; kernel_rfl) | (rw [if_neg (by decide +kernel)]; exact ⟨rfl, rfl⟩))
    (fun os started H enc _ => lifted os started H enc)
end Go.Proofs.Ytnaoefjcfmdenaa.labelTells
namespace Go.Proofs.Ytnaoefjcfmdenaa
theorem labelTells_holds : Rows.LabelTellsSaid := labelTells.over
#print axioms labelTells_holds
end Go.Proofs.Ytnaoefjcfmdenaa
