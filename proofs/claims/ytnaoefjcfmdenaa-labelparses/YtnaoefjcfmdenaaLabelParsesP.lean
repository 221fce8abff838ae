/-
  Bytes are a label, and a text an argument, just where the document says: both packages come to one plain function.
-/
import Derived.Test.YtnaoefjcfmdenaaRows
import Derived.WalkKit
import Derived.ProofKit
import Derived.OpenShut
import Derived.ShutString
import Derived.ChangeOld
import Derived.Below
import Derived.Carry
import Derived.SizedLaws
import Derived.Test.YtnaoefjcfmdenaaB7
namespace Go.Proofs.Ytnaoefjcfmdenaa.labelParses
open Go.ChangeShapes Go.WideShapes Go.ChangeAt Go.RowKit
open Go.ChangeMaps (open_string shut_string)
set_option linter.unusedVariables false
set_option linter.unusedSimpArgs false

theorem own : ownKnob Try.prog.godebug = none := by kernel_rfl
theorem laidOut : laidOutB Try.prog = true := by kernel_rfl
theorem bytes5 : Try.prog.bytesOf 5 = 1 := by kernel_rfl

set_option maxHeartbeats 4000000 in
set_option maxRecDepth 100000 in
theorem walk (v0 : Value) (x0 : List Int) (a1 : ByteArray) (w : World) (r0 : Rd .u8 w v0 x0) (f0 : ∀ n ∈ x0, (Lit.int .u8 n).wf = true) (z0 : x0.length * 1 ≤ 140737488351232) (w1 : a1.size ≤ maxLen) (zs1 : a1.size ≤ 140737488351232) :
    Calls Try.prog 4 #[v0, .string a1] w fun e w' => e = .returned (.bool true) ∧ Below w.heap.size w w' := by
  have hb0 : bytesL x0 := fun n hn => by have := f0 n hn; simp [Lit.wf, IntKind.min, IntKind.max, IntKind.bits, IntKind.signed] at this; omega
  have zz : x0.length ≤ 140737488351232 := by omega
  have c1 := fun W r => w_pparse21 v0 x0 W r hb0 zz
  have c2 := fun W r => w_rparse21 v0 x0 W r hb0 zz
  have c3 := fun W => w_pselect21 a1 W zs1
  have c4 := fun W => w_rselect21 a1 W w1
  obtain ⟨-, hl⟩ := ps_rg x0
  obtain ⟨ps, E, hP⟩ : ∃ ps E, psF x0 = (ps, E) := ⟨_, _, rfl⟩
  obtain ⟨K, T, G, hS⟩ : ∃ K T G, slF (LB a1) = (K, T, G) := ⟨_, _, _, rfl⟩
  rw [hP] at hl
  simp only [hP] at c1 c2
  simp only [hS] at c3 c4
  simp only at hl c1 c2 c3 c4
  have z := zeroL.1
  obtain ⟨Z, hZ⟩ : ∃ Z, ArA .u32 (List.replicate 16 0) = Z := ⟨_, rfl⟩
  rw [hZ] at z
  have zs : Z.size = 16 := by rw [← hZ, ara_size, List.length_replicate]
  have SZ := hid (show (Try.prog.info? 25).map (·.size) = some ps.length by rw [hl]; exact szL)
  have hsz : (ArA .u32 ps).size = 16 := by rw [ara_size, hl]
  have hrun := fun W : World => run_storeCells_new (P := Try.prog) W 25 Z (ArA .u32 ps) (by rw [hsz]; exact szL) (by rw [hsz, zs]) (ara_one _ _)
  have HQ := hid (fun W => pts_eql ps ps hl hl W)
  have HG := hid (fun W x y => run_eqGuard_agg (P := Try.prog) W .eql 25 x y (ArA .u32 ps) (ArA .u32 ps) pts_guard)
  clear hP hS hZ hl
  go_enter Try.func4, Try.ntmps4
  go_upto_region 7 with (first
    | (go_at_call 9; refine (w_alive21 _).mono ?_; rintro e q1 ⟨rfl, b1⟩)
    | (go_at_call 13; refine (c1 _ (r0.below b1)).mono ?_; rintro e q2 ⟨rfl, b2⟩; have hs2 := hrun q2; have b12 := below_trans (below_trans b1 b2) (box_below q2 (.cells (ArA .u32 ps) 25)); have A5 := hid (arat_box .u32 q2 ps 25))
    | (go_at_call 14; refine (c2 _ (r0.below b12)).mono ?_; rintro e q3 ⟨rfl, b3⟩; have hs3 := hrun q3; have b13 := below_trans (below_trans b12 b3) (box_below q3 (.cells (ArA .u32 ps) 25)); have A7 := hid (arat_box .u32 q3 ps 25))
    | (go_at_call 15; refine (c3 _).mono ?_; rintro e q4 ⟨t4, rfl, e4, b4⟩)
    | (go_at_call 16; refine (c4 _).mono ?_; rintro e q5 ⟨t5, rfl, e5, b5⟩))
  have B5 := hid (A5.out.below (below_trans b3 (below_trans (box_below q3 (.cells (ArA .u32 ps) 25)) (below_trans b4 b5))))
  have B7 := hid (A7.out.below (below_trans b4 b5))
  have BB := hid (below_trans b13 (below_trans b4 b5))
  obtain rfl : t4 = t5 := by rw [← nums_LB t4, ← nums_LB t5, e4, e5]
  have he := HQ.out
  have hgd := HG.out
  clear e4 e5 hs2 hs3 hrun
  refine wp_region_lit ?_
  repeat (first
    | (refine wpList_load_arG (k := .u32) (by kernel_rfl) 25 (.tmp 5) rfl q2.heap.size 0 rfl ps B5.out _ arrL rfl SZ.out ?_)
    | (refine wpList_load_arG (k := .u32) (by kernel_rfl) 25 (.tmp 7) rfl q3.heap.size 0 rfl ps B7.out _ arrL rfl SZ.out ?_)
    | go_step)
  go_ret
  exact ⟨ret_b (by simp), BB.out⟩

set_option maxRecDepth 100000 in
theorem lifted (os : Os) (started : os.Started) (H : Type) (enc : TypeId × Value → H) :
    ReturnsInHanded {} Try.checked os 4 .any (Rows.labelParsesSpec.pre6 enc Try.prog Try.f4 Rows.labelParsesRow.domain false) (Rows.labelParsesSpec.post enc Try.prog Try.f4 false true false false) := by
  refine returnsInHanded_of_change_sized (C := Try.checked) own started (by kernel_rfl) Try.func4
    (ChangeSpec.witness6 (enc := enc) (C := Try.checked) false ⟨#[], #[.slice none 0 0, .string ⟨#[]⟩], []⟩ 8 (by kernel_rfl) (by kernel_rfl) (by kernel_rfl) (by kernel_rfl)) ?_
  intro W base args ds gs before hval0 hW hcnd hsz0 _
  have hval : ∀ (j : Nat) t v, Try.f4.params[j]? = some t → args[j]? = some v → Value.okWide Try.prog W .any base t v := hval0
  have hsz : (DataW.weightsEach Try.prog (Try.f4.params.toList ++ Rows.labelParsesSpec.plain.varTypes Try.prog) (ds ++ gs)).all (· ≤ reachBytes) = true := hsz0
  have hW' := hW
  obtain ⟨p, q, hA0, hV, rfl, hfz, hnd⟩ := hW
  have hA : DataW.TrodAll enc Try.prog W 0 (fun _ => true) true Try.f4.params.toList args.toList ds p := hA0
  rw [Try.params4] at hA hval hsz
  obtain ⟨v0, vs0, d0, ds0, p0, q0, hargs, rfl, rfl, h0, r0⟩ := trodAll_cons hA
  obtain ⟨v1, vs1, d1, ds1, p1, q1, rfl, rfl, rfl, h1, r1⟩ := trodAll_cons r0
  obtain ⟨rfl, rfl, rfl⟩ := trodAll_nil r1
  obtain rfl : args = #[v0, v1] := by cases args; simp_all
  obtain ⟨rfl, rfl⟩ := trodVars_none hV
  obtain ⟨s0, l0, c0, rfl⟩ := okWide_slice Try.underlying27 (hval 0 27 v0 rfl rfl)
  have k0 := h0
  have lt0 : ∀ x ∈ p0, x.block < W.heap.size := by obtain ⟨m, hm⟩ := k0; exact DataW.trod_lt m _ _ _ hm
  obtain ⟨x0, r100, f0, hd0⟩ := rd_open (k := .u8) Try.underlying27 Try.underlying5 (by kernel_rfl) h0
  have z0 : x0.length * 1 ≤ 140737488351232 := by
    rcases hd0 with rfl | ⟨ys, zs, rfl, hle⟩
    · simp
    · have := sized_slice hsz (j := 0) (t := 27) (e := 5) rfl rfl Try.underlying27
      rw [bytes5] at this
      unfold reachBytes at this
      omega
  obtain ⟨a1, rfl, rfl, rfl, w1⟩ := open_string Try.underlying9 (hval 1 9 v1 rfl rfl) h1
  have zs1 : a1.size ≤ 140737488351232 := by have h1 := sized_string hsz (j := 1) (t := 9) (bytes := a1.data.toList) rfl rfl; have h2 : a1.data.toList.length = a1.size := (by simp); unfold reachBytes at h1; omega
  clear hA0 hval0 hsz0
  refine (walk (.slice s0 l0 c0) x0 a1 W r100 f0 z0 w1 zs1).mono fun e W' ⟨he, bel⟩ => ?_
  subst he
  exact ⟨_, rfl, _, _, _, [], _, [], hW', trodAll_mk1 (shut_bool Try.underlying4 _), (trodAll_cons_mk (Below.trod laidOut (by kernel_rfl) (of_decide_eq_true (by kernel_rfl)) k0 bel lt0) (trodAll_cons_mk (shut_string Try.underlying9 w1) trodAll_mk0)), rfl, bel.frame _, fun h => by cases h⟩

theorem over : Rows.labelParsesRow.holds Try.pinned (OpenSpec.ofChange Rows.labelParsesSpec) :=
  OpenClaim.holds_of_wide 4 Try.f4 rfl rfl rfl rfl rfl rfl rfl ⟨rfl, rfl, rfl, rfl, rfl⟩ rfl rfl rfl rfl rfl (by kernel_rfl) Try.func4 (by kernel_rfl)
    (of_decide_eq_true (by kernel_rfl)) (by unfold Func.isWrapper; first | (rw [if_pos (by decide +kernel)]; kernel_rfl) | (rw [if_neg (by decide +kernel)]; exact ⟨rfl, rfl⟩))
    (fun os started H enc _ => lifted os started H enc)
end Go.Proofs.Ytnaoefjcfmdenaa.labelParses
namespace Go.Proofs.Ytnaoefjcfmdenaa
theorem labelParses_holds : Rows.LabelParsesSaid := labelParses.over
#print axioms labelParses_holds
end Go.Proofs.Ytnaoefjcfmdenaa
