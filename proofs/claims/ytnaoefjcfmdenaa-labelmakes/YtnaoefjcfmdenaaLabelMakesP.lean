/-
  Partitions become the label that the document says, or are refused, and what was made is parsed again as the same partitions.
-/
import Derived.Test.YtnaoefjcfmdenaaRows
import Derived.WalkKit
import Derived.ProofKit
import Derived.OpenShut
import Derived.ShutString
import Derived.ChangeOld
import Derived.Below
import Derived.Carry
import Derived.SizedLaws
import Derived.Test.YtnaoefjcfmdenaaB7
namespace Go.Proofs.Ytnaoefjcfmdenaa.labelMakes
open Go.ChangeShapes Go.WideShapes Go.ChangeAt Go.RowKit
open Go.ChangeMaps (open_string shut_string)
set_option linter.unusedVariables false
set_option linter.unusedSimpArgs false

theorem own : ownKnob Try.prog.godebug = none := by kernel_rfl
theorem laidOut : laidOutB Try.prog = true := by kernel_rfl

set_option maxHeartbeats 4000000 in
set_option maxRecDepth 100000 in
theorem walk (l0 : List Int) (w : World) (ll0 : l0.length = 16) (lu0 : u32L l0) :
    Calls Try.prog 3 #[.agg (ArA .u32 l0)] w fun e w' => e = .returned (.bool true) ∧ Below w.heap.size w w' := by
  have BX := box_below w (.cells (ArA .u32 l0) 25)
  have BA := hid (arat_box .u32 w l0 25)
  have BS := hid (stands_new w (ArA .u32 l0) 25)
  have cm := fun W => w_pmake21 l0 W ll0 lu0
  have cr := fun W => w_rmake21 l0 W ll0 lu0
  have SZ := hid (show (Try.prog.info? 25).map (·.size) = some l0.length by rw [ll0]; exact szL)
  have z := zeroL.1
  obtain ⟨Z, hZ⟩ : ∃ Z, ArA .u32 (List.replicate 16 0) = Z := ⟨_, rfl⟩
  rw [hZ] at z
  have zs : Z.size = 16 := by rw [← hZ, ara_size, List.length_replicate]
  by_cases hk : lb64 l0 = true
  · have hm : mkF l0 = (lbF l0, 0) := by unfold mkF; rw [if_pos hk]
    have hb := lbF_bytes ll0 lu0
    have hfl := lbF_len ll0
    have cp := fun v W r => w_pparse21 v (lbF l0) W r hb (by omega)
    rw [ps_back ll0 lu0] at cp
    rw [hm] at cm cr
    simp only at cm cr cp
    obtain ⟨F, hF⟩ : ∃ F, lbF l0 = F := ⟨_, rfl⟩
    rw [hF] at hb hfl
    simp only [hF] at cm cr cp
    have HS := hid (fun W (q : Unit) v v' r r' => w_rsame v v' F F W r r' hb hb)
    have hsz : (ArA .u32 l0).size = 16 := by rw [ara_size, ll0]
    have hrun := fun W : World => run_storeCells_new (P := Try.prog) W 25 Z (ArA .u32 l0) (by rw [hsz]; exact szL) (by rw [hsz, zs]) (ara_one _ _)
    have HQ := hid (fun W => pts_eql l0 l0 ll0 ll0 W)
    have HG := hid (fun W x y => run_eqGuard_agg (P := Try.prog) W .eql 25 x y (ArA .u32 l0) (ArA .u32 l0) pts_guard)
    clear hk hm hF hb hZ
    go_enter Try.func3, Try.ntmps3
    go_upto_region 3 with (go_at_call 9; refine (w_alive21 _).mono ?_; rintro e q1 ⟨rfl, b1⟩)
    refine wp_region_lit ?_
    refine wpList_load_ar rfl 25 (.tmp 1) rfl w.heap.size 0 rfl l0 (BA.out.below b1) _ arrL rfl SZ.out ?_
    go_upto_region 4 with (go_at_call 10; refine (cm _).mono ?_; rintro e q2 ⟨v2, rfl, o2, b2⟩; have b12 := below_trans b1 b2)
    refine wp_region_lit ?_
    refine wpList_load_ar rfl 25 (.tmp 1) rfl w.heap.size 0 rfl l0 (BA.out.below b12) _ arrL rfl SZ.out ?_
    go_upto_region 8 with (first
      | (go_at_call 11; refine (cr _).mono ?_; rintro e q3 ⟨v3, rfl, o3, b3⟩; have b13 := below_trans b12 b3; have r2 := ((Rd_own o2).1).below b3)
      | (go_at_call 12; refine (HS.out q3 () v2 v3 r2 (Rd_own o3).1).mono ?_; rintro e q4 ⟨rfl, rfl⟩)
      | (go_at_call 13; refine (cp _ _ r2).mono ?_; rintro e q5 ⟨rfl, b5⟩; have hs5 := hrun q5))
    have b15 := below_trans (below_trans b13 b5) (box_below q5 (.cells (ArA .u32 l0) 25))
    have A1 := hid (BA.out.below b15)
    have A7 := hid (arat_box .u32 q5 l0 25)
    have BB := hid (below_trans BX b15)
    have he := HQ.out
    have hgd := HG.out
    refine wp_region_lit ?_
    repeat (first
      | (refine wpList_load_arG (k := .u32) (by kernel_rfl) 25 (.tmp 7) rfl q5.heap.size 0 rfl l0 A7.out _ arrL rfl SZ.out ?_)
      | (refine wpList_load_arG (k := .u32) (by kernel_rfl) 25 (.tmp 1) rfl w.heap.size 0 rfl l0 A1.out _ arrL rfl SZ.out ?_)
      | go_step)
    go_ret
    exact ⟨rfl, BB.out⟩
  · have hm : mkF l0 = ([], 1) := by unfold mkF; rw [if_neg hk]
    have cp := fun v W r => w_pparse21 v [] W r (fun x hx => by simp at hx) (by simp)
    rw [show psF [] = (List.replicate 16 0, 24) by unfold psF; rw [if_neg (fun x => by simp at x)]] at cp
    rw [hm] at cm cr
    simp only at cm cr cp
    simp only [hZ] at cp
    have HS := hid (fun W (q : Unit) v v' r r' => w_rsame v v' [] [] W r r' (fun x hx => by simp at hx) (fun x hx => by simp at hx))
    have hrun := fun W : World => run_storeCells_new (P := Try.prog) W 25 Z Z (by rw [zs]; exact szL) rfl (by rw [← hZ]; exact ara_one _ _)
    clear hk hm hZ
    go_enter Try.func3, Try.ntmps3
    go_upto_region 3 with (go_at_call 9; refine (w_alive21 _).mono ?_; rintro e q1 ⟨rfl, b1⟩)
    refine wp_region_lit ?_
    refine wpList_load_ar rfl 25 (.tmp 1) rfl w.heap.size 0 rfl l0 (BA.out.below b1) _ arrL rfl SZ.out ?_
    go_upto_region 4 with (go_at_call 10; refine (cm _).mono ?_; rintro e q2 ⟨v2, rfl, o2, b2⟩; have b12 := below_trans b1 b2)
    refine wp_region_lit ?_
    refine wpList_load_ar rfl 25 (.tmp 1) rfl w.heap.size 0 rfl l0 (BA.out.below b12) _ arrL rfl SZ.out ?_
    go_upto_region 8 with (first
      | (go_at_call 11; refine (cr _).mono ?_; rintro e q3 ⟨v3, rfl, o3, b3⟩; have b13 := below_trans b12 b3; have r2 := ((Rd_own o2).1).below b3)
      | (go_at_call 12; refine (HS.out q3 () v2 v3 r2 (Rd_own o3).1).mono ?_; rintro e q4 ⟨rfl, rfl⟩)
      | (go_at_call 13; refine (cp _ _ r2).mono ?_; rintro e q5 ⟨rfl, b5⟩; have hs5 := hrun q5))
    have BB := hid (below_trans BX (below_trans (below_trans b13 b5) (box_below q5 (.cells Z 25))))
    clear hs5 hrun
    go_wp2_with fail
    go_ret
    exact ⟨rfl, BB.out⟩

set_option maxRecDepth 100000 in
theorem lifted (os : Os) (started : os.Started) (H : Type) (enc : TypeId × Value → H) :
    ReturnsInHanded {} Try.checked os 3 .any (Rows.labelMakesSpec.pre6 enc Try.prog Try.f3 Rows.labelMakesRow.domain false) (Rows.labelMakesSpec.post enc Try.prog Try.f3 false true false false) := by
  refine returnsInHanded_of_change_sized (C := Try.checked) own started (by kernel_rfl) Try.func3
    (ChangeSpec.witness6 (enc := enc) (C := Try.checked) false ⟨#[], #[.agg #[.int .u32 0, .int .u32 0, .int .u32 0, .int .u32 0, .int .u32 0, .int .u32 0, .int .u32 0, .int .u32 0, .int .u32 0, .int .u32 0, .int .u32 0, .int .u32 0, .int .u32 0, .int .u32 0, .int .u32 0, .int .u32 0]], []⟩ 8 (by kernel_rfl) (by kernel_rfl) (by kernel_rfl) (by kernel_rfl)) ?_
  intro W base args ds gs before hval0 hW hcnd hsz0 _
  have hval : ∀ (j : Nat) t v, Try.f3.params[j]? = some t → args[j]? = some v → Value.okWide Try.prog W .any base t v := hval0
  have hsz : (DataW.weightsEach Try.prog (Try.f3.params.toList ++ Rows.labelMakesSpec.plain.varTypes Try.prog) (ds ++ gs)).all (· ≤ reachBytes) = true := hsz0
  have hW' := hW
  obtain ⟨p, q, hA0, hV, rfl, hfz, hnd⟩ := hW
  have hA : DataW.TrodAll enc Try.prog W 0 (fun _ => true) true Try.f3.params.toList args.toList ds p := hA0
  rw [Try.params3] at hA hval hsz
  obtain ⟨v0, vs0, d0, ds0, p0, q0, hargs, rfl, rfl, h0, r0⟩ := trodAll_cons hA
  obtain ⟨rfl, rfl, rfl⟩ := trodAll_nil r0
  obtain rfl : args = #[v0] := by cases args; simp_all
  obtain ⟨rfl, rfl⟩ := trodVars_none hV
  have k0 := h0
  have lt0 : ∀ x ∈ p0, x.block < W.heap.size := by obtain ⟨m, hm⟩ := k0; exact DataW.trod_lt m _ _ _ hm
  obtain ⟨l0, rfl, ll0, lu0⟩ := pts_open (hval 0 25 v0 rfl rfl) h0
  clear hA0 hval0 hsz0
  refine (walk l0 W ll0 lu0).mono fun e W' ⟨he, bel⟩ => ?_
  subst he
  exact ⟨_, rfl, _, _, _, [], _, [], hW', trodAll_mk1 (shut_bool Try.underlying4 _), (trodAll_cons_mk (Below.trod laidOut (by kernel_rfl) (of_decide_eq_true (by kernel_rfl)) k0 bel lt0) trodAll_mk0), rfl, bel.frame _, fun h => by cases h⟩

theorem over : Rows.labelMakesRow.holds Try.pinned (OpenSpec.ofChange Rows.labelMakesSpec) :=
  OpenClaim.holds_of_wide 3 Try.f3 rfl rfl rfl rfl rfl rfl rfl ⟨rfl, rfl, rfl, rfl, rfl⟩ rfl rfl rfl rfl rfl (by kernel_rfl) Try.func3 (by kernel_rfl)
    (of_decide_eq_true (by kernel_rfl)) (by unfold Func.isWrapper; first | (rw [if_pos (by decide +kernel)]; kernel_rfl) | (rw [if_neg (by decide +kernel)]; exact ⟨rfl, rfl⟩))
    (fun os started H enc _ => lifted os started H enc)
end Go.Proofs.Ytnaoefjcfmdenaa.labelMakes
namespace Go.Proofs.Ytnaoefjcfmdenaa
theorem labelMakes_holds : Rows.LabelMakesSaid := labelMakes.over
#print axioms labelMakes_holds
end Go.Proofs.Ytnaoefjcfmdenaa
