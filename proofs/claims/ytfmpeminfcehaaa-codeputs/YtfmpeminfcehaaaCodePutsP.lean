/-
  An instruction is put, and code finished, as the document says.
-/
import Derived.Test.YtfmpeminfcehaaaRows
import Derived.WalkKit
import Derived.ProofKit
import Derived.OpenShut
import Derived.ShutString
import Derived.ChangeOld
import Derived.Below
import Derived.Carry
import Derived.SizedLaws
import Derived.Test.YtfmpeminfcehaaaSl
import Derived.Test.YtfmpeminfcehaaaCal
import Derived.Test.YtfmpeminfcehaaaPk4
import Derived.Test.YtfmpeminfcehaaaDfp
import Derived.Test.YtfmpeminfcehaaaRk7
import Derived.Test.YtfmpeminfcehaaaRk9
import Derived.Test.YtfmpeminfcehaaaRk1
namespace Go.Proofs.Ytfmpeminfcehaaa.codePuts
open Go.ChangeShapes Go.WideShapes Go.ChangeAt Go.RowKit
open Go.ChangeMaps (open_string shut_string)
set_option linter.unusedVariables false

theorem own : ownKnob Try.prog.godebug = none := by kernel_rfl
theorem laidOut : laidOutB Try.prog = true := by kernel_rfl

set_option maxHeartbeats 4000000 in
set_option maxRecDepth 100000 in
theorem walk (dv0 : Dv) (dd0 : Dft) (ok1 on1 : Int) (w : World) (r0 : RdD w dv0 dd0) (g0 : gDf dd0) (g1 : gO (ok1, on1)) :
    Calls Try.prog 4 #[.agg dv0.cs, .agg #[.int .i64 ok1, .int .u32 on1]] w fun e w' => e = .returned (.bool true) ∧ Below w.heap.size w w' := by
  have zz : szD dd0 ∧ szE dd0 := ⟨⟨by have := g0.codeZ; omega, by have := g0.origsZ; omega, by have := g0.destsZ; omega, by have := g0.loopsZ; omega, fun x hx => by have := (g0.loops x hx).siz; omega, by have := g0.casesZ; omega, fun x hx => by have := (g0.cases x hx).siz; omega⟩, ⟨by have := g0.origsZ; omega, by have := g0.destsZ; omega, by have := g0.loopsZ; omega, by have := g0.casesZ; omega, fun x hx => (g0.loops x hx).siz, fun x hx => (g0.cases x hx).siz⟩⟩
  have zF : dd0.origs.length * 8 ≤ 140737488355328 ∧ dd0.dests.length * 8 ≤ 140737488355328 ∧ dd0.loops.length * 32 ≤ 140737488355328 ∧ dd0.cases.length * 32 ≤ 140737488355328 := by have a1 := g0.origsZ; have a2 := g0.destsZ; have a3 := g0.loopsZ; have a4 := g0.casesZ; omega
  obtain ⟨da0, dc0, da1, dc1, da2, dc2, da3, dc3, da4, dc4, rfl⟩ := rdD_forms r0
  simp only [Dv.cs]
  have rD := hid r0
  clear r0 g0
  go_enter Try.func4, Try.ntmps4
  go_upto_region 1 with fail
  have s0 := (stands_new w #[.slice da0 dd0.code.length dc0, .slice da1 dd0.origs.length dc1, .slice da2 dd0.dests.length dc2, .slice da3 dd0.loops.length dc3, .slice da4 dd0.cases.length dc4] 26).below (box_below _ (.cells #[.int .i64 ok1, .int .u32 on1] 37))
  have s1 := stands_new (w.alloc (.cells #[.slice da0 dd0.code.length dc0, .slice da1 dd0.origs.length dc1, .slice da2 dd0.dests.length dc2, .slice da3 dd0.loops.length dc3, .slice da4 dd0.cases.length dc4] 26)) #[.int .i64 ok1, .int .u32 on1] 37
  rw [size_al] at s1
  have bw := below_trans (box_below w (.cells #[.slice da0 dd0.code.length dc0, .slice da1 dd0.origs.length dc1, .slice da2 dd0.dests.length dc2, .slice da3 dd0.loops.length dc3, .slice da4 dd0.cases.length dc4] 26)) (box_below _ (.cells #[.int .i64 ok1, .int .u32 on1] 37))
  generalize (w.alloc (.cells #[.slice da0 dd0.code.length dc0, .slice da1 dd0.origs.length dc1, .slice da2 dd0.dests.length dc2, .slice da3 dd0.loops.length dc3, .slice da4 dd0.cases.length dc4] 26)).alloc (.cells #[.int .i64 ok1, .int .u32 on1] 37) = W0 at s0 s1 bw ⊢
  have cC := fun W (b : Below w.heap.size w W) => w_r10copy ⟨.slice da0 dd0.code.length dc0, .slice da1 dd0.origs.length dc1, .slice da2 dd0.dests.length dc2, .slice da3 dd0.loops.length dc3, .slice da4 dd0.cases.length dc4⟩ dd0 W (rD.out.below b) zz.1
  simp only [Dv.cs] at cC
  go_upto_region 4 with (first | (go_at_call 8; refine (w_alive10 _).mono ?_; rintro e q1 ⟨rfl, b1⟩; have p0 := (s0.below b1).cell 0 _ rfl; have p1 := (s0.below b1).cell 1 _ rfl; have p2 := (s0.below b1).cell 2 _ rfl; have p3 := (s0.below b1).cell 3 _ rfl; have p4 := (s0.below b1).cell 4 _ rfl) | (go_at_call 9; refine (cC _ (below_trans bw b1)).mono ?_; rintro e q2 ⟨u2, y1, y2, y3, rfl, o2, b2⟩; obtain ⟨oa0, oc0, oa1, oc1, oa2, oc2, oa3, oc3, oa4, oc4, rfl⟩ := rdD_forms o2.read))
  have oq : OwQ q2 ⟨.slice oa0 dd0.code.length oc0, .slice oa1 dd0.origs.length oc1, .slice oa2 dd0.dests.length oc2, .slice oa3 dd0.loops.length oc3, .slice oa4 dd0.cases.length oc4⟩ dd0 := ⟨_, o2.owe⟩
  have bx3 := box_below q2 (.cells #[.slice oa0 dd0.code.length oc0, .slice oa1 dd0.origs.length oc1, .slice oa2 dd0.dests.length oc2, .slice oa3 dd0.loops.length oc3, .slice oa4 dd0.cases.length oc4] 26)
  have sx3 := stands_new q2 #[.slice oa0 dd0.code.length oc0, .slice oa1 dd0.origs.length oc1, .slice oa2 dd0.dests.length oc2, .slice oa3 dd0.loops.length oc3, .slice oa4 dd0.cases.length oc4] 26
  have ow3 : OwQ _ ⟨.slice oa0 dd0.code.length oc0, .slice oa1 dd0.origs.length oc1, .slice oa2 dd0.dests.length oc2, .slice oa3 dd0.loops.length oc3, .slice oa4 dd0.cases.length oc4⟩ dd0 := oq.below bx3
  obtain ⟨X3, hX3⟩ : ∃ X, q2.heap.size = X := ⟨_, rfl⟩
  rw [hX3] at sx3
  (try simp only [hX3])
  generalize q2.alloc (.cells #[.slice oa0 dd0.code.length oc0, .slice oa1 dd0.origs.length oc1, .slice oa2 dd0.dests.length oc2, .slice oa3 dd0.loops.length oc3, .slice oa4 dd0.cases.length oc4] 26) = w3 at bx3 sx3 ow3 ⊢
  clear hX3
  have B3 := below_trans (below_trans b1 b2) bx3
  have s0 := s0.below B3
  have s1 := s1.below B3
  have BW := below_trans bw B3
  clear oq bx3 o2 cC b1 b2 B3 bw p0 p1 p2 p3 p4
  have c4 := w_p10putA ⟨.slice oa0 dd0.code.length oc0, .slice oa1 dd0.origs.length oc1, .slice oa2 dd0.dests.length oc2, .slice oa3 dd0.loops.length oc3, .slice oa4 dd0.cases.length oc4⟩ dd0 ok1 on1 w3 ow3.read zz.1
  have c5 := fun W (b : Below w.heap.size w W) => w_r10put ⟨.slice da0 dd0.code.length dc0, .slice da1 dd0.origs.length dc1, .slice da2 dd0.dests.length dc2, .slice da3 dd0.loops.length dc3, .slice da4 dd0.cases.length dc4⟩ dd0 ok1 on1 W (rD.out.below b) zz.1
  obtain ⟨PD, hPD⟩ : ∃ x, (putD dd0 (ok1, on1)).1 = x := ⟨_, rfl⟩
  obtain ⟨PE, hPE⟩ : ∃ x, (putD dd0 (ok1, on1)).2 = x := ⟨_, rfl⟩
  rw [hPD, hPE] at c4
  simp only [hPD, hPE] at c5
  simp only [Dv.cs] at c4 c5
  clear hPD hPE
  have f0 := sx3.cell 0 _ rfl
  have f1 := sx3.cell 1 _ rfl
  have f2 := sx3.cell 2 _ rfl
  have f3 := sx3.cell 3 _ rfl
  have f4 := sx3.cell 4 _ rfl
  have k0 := s1.cell 0 _ rfl
  have k1 := s1.cell 1 _ rfl
  go_upto_region 5 with (go_at_call 15; refine c4.mono ?_; rintro e q4 ⟨u4, rfl, o4, b4⟩; obtain ⟨ma0, mc0, ma1, mc1, ma2, mc2, ma3, mc3, ma4, mc4, rfl⟩ := rdD_forms o4.read)
  have bx5 := box_below q4 (.cells #[.slice ma0 PD.code.length mc0, .slice ma1 PD.origs.length mc1, .slice ma2 PD.dests.length mc2, .slice ma3 PD.loops.length mc3, .slice ma4 PD.cases.length mc4] 26)
  have sx5 := stands_new q4 #[.slice ma0 PD.code.length mc0, .slice ma1 PD.origs.length mc1, .slice ma2 PD.dests.length mc2, .slice ma3 PD.loops.length mc3, .slice ma4 PD.cases.length mc4] 26
  have ow5 : OwQ _ ⟨.slice ma0 PD.code.length mc0, .slice ma1 PD.origs.length mc1, .slice ma2 PD.dests.length mc2, .slice ma3 PD.loops.length mc3, .slice ma4 PD.cases.length mc4⟩ PD := o4.below bx5
  obtain ⟨X5, hX5⟩ : ∃ X, q4.heap.size = X := ⟨_, rfl⟩
  rw [hX5] at sx5
  (try simp only [hX5])
  generalize q4.alloc (.cells #[.slice ma0 PD.code.length mc0, .slice ma1 PD.origs.length mc1, .slice ma2 PD.dests.length mc2, .slice ma3 PD.loops.length mc3, .slice ma4 PD.cases.length mc4] 26) = w5 at bx5 sx5 ow5 ⊢
  clear hX5
  have B5 := below_trans b4 bx5
  have s0 := s0.below B5
  have s1 := s1.below B5
  have sx3 := sx3.below B5
  have ow3 := ow3.below B5
  have BW := below_trans BW B5
  clear b4 bx5 B5 o4 c4 f0 f1 f2 f3 f4 k0 k1
  have f0 := s0.cell 0 _ rfl
  have f1 := s0.cell 1 _ rfl
  have f2 := s0.cell 2 _ rfl
  have f3 := s0.cell 3 _ rfl
  have f4 := s0.cell 4 _ rfl
  have k0 := s1.cell 0 _ rfl
  have k1 := s1.cell 1 _ rfl
  go_upto_region 6 with (go_at_call 16; refine (c5 _ BW).mono ?_; rintro e q6 ⟨u6, rfl, o6, b6⟩; obtain ⟨na0, nc0, na1, nc1, na2, nc2, na3, nc3, na4, nc4, rfl⟩ := rdD_forms o6.read)
  have bx7 := box_below q6 (.cells #[.slice na0 PD.code.length nc0, .slice na1 PD.origs.length nc1, .slice na2 PD.dests.length nc2, .slice na3 PD.loops.length nc3, .slice na4 PD.cases.length nc4] 26)
  have sx7 := stands_new q6 #[.slice na0 PD.code.length nc0, .slice na1 PD.origs.length nc1, .slice na2 PD.dests.length nc2, .slice na3 PD.loops.length nc3, .slice na4 PD.cases.length nc4] 26
  have ow7 : OwQ _ ⟨.slice na0 PD.code.length nc0, .slice na1 PD.origs.length nc1, .slice na2 PD.dests.length nc2, .slice na3 PD.loops.length nc3, .slice na4 PD.cases.length nc4⟩ PD := o6.below bx7
  obtain ⟨X7, hX7⟩ : ∃ X, q6.heap.size = X := ⟨_, rfl⟩
  rw [hX7] at sx7
  (try simp only [hX7])
  generalize q6.alloc (.cells #[.slice na0 PD.code.length nc0, .slice na1 PD.origs.length nc1, .slice na2 PD.dests.length nc2, .slice na3 PD.loops.length nc3, .slice na4 PD.cases.length nc4] 26) = w7 at bx7 sx7 ow7 ⊢
  clear hX7
  have B7 := below_trans b6 bx7
  have s0 := s0.below B7
  have s1 := s1.below B7
  have sx3 := sx3.below B7
  have ow3 := ow3.below B7
  have sx5 := sx5.below B7
  have ow5 := ow5.below B7
  have BW := below_trans BW B7
  clear b6 bx7 B7 o6 c5 f0 f1 f2 f3 f4 k0 k1
  have f0 := sx3.cell 0 _ rfl
  have f1 := sx3.cell 1 _ rfl
  have f2 := sx3.cell 2 _ rfl
  have f3 := sx3.cell 3 _ rfl
  have f4 := sx3.cell 4 _ rfl
  have c8 := w_p10finishA ⟨.slice oa0 dd0.code.length oc0, .slice oa1 dd0.origs.length oc1, .slice oa2 dd0.dests.length oc2, .slice oa3 dd0.loops.length oc3, .slice oa4 dd0.cases.length oc4⟩ dd0 w7 ow3.read zz.1
  have c9 := fun W (b : Below w.heap.size w W) => w_r10finish ⟨.slice da0 dd0.code.length dc0, .slice da1 dd0.origs.length dc1, .slice da2 dd0.dests.length dc2, .slice da3 dd0.loops.length dc3, .slice da4 dd0.cases.length dc4⟩ dd0 W (rD.out.below b) zz.1 zF
  obtain ⟨FC, hFC⟩ : ∃ x, (finD dd0).1 = x := ⟨_, rfl⟩
  obtain ⟨FE, hFE⟩ : ∃ x, (finD dd0).2 = x := ⟨_, rfl⟩
  simp only [hFC, hFE, Dv.cs] at c8 c9
  clear hFC hFE
  go_upto_region 7 with (go_at_call 17; refine c8.mono ?_; rintro e q8 ⟨v8, rfl, r8, b8⟩)
  have s0 := s0.below b8
  have s1 := s1.below b8
  have sx3 := sx3.below b8
  have ow3 := ow3.below b8
  have sx5 := sx5.below b8
  have ow5 := ow5.below b8
  have sx7 := sx7.below b8
  have ow7 := ow7.below b8
  have BW := below_trans BW b8
  clear b8 c8 f0 f1 f2 f3 f4
  have f0 := s0.cell 0 _ rfl
  have f1 := s0.cell 1 _ rfl
  have f2 := s0.cell 2 _ rfl
  have f3 := s0.cell 3 _ rfl
  have f4 := s0.cell 4 _ rfl
  go_upto_region 8 with (go_at_call 18; refine (c9 _ BW).mono ?_; rintro e q9 ⟨v9, rfl, r9, b9⟩)
  have s0 := s0.below b9
  have s1 := s1.below b9
  have sx3 := sx3.below b9
  have ow3 := ow3.below b9
  have sx5 := sx5.below b9
  have ow5 := ow5.below b9
  have sx7 := sx7.below b9
  have ow7 := ow7.below b9
  have r8 := RdO.below r8 b9
  have BW := below_trans BW b9
  clear b9 c9 f0 f1 f2 f3 f4
  have cs1 := fun W (b : Below q9.heap.size q9 W) => w_r10same PD PD ⟨.slice ma0 PD.code.length mc0, .slice ma1 PD.origs.length mc1, .slice ma2 PD.dests.length mc2, .slice ma3 PD.loops.length mc3, .slice ma4 PD.cases.length mc4⟩ ⟨.slice na0 PD.code.length nc0, .slice na1 PD.origs.length nc1, .slice na2 PD.dests.length nc2, .slice na3 PD.loops.length nc3, .slice na4 PD.cases.length nc4⟩ W ((ow5.below b).read) ((ow7.below b).read)
  simp only [Dv.cs] at cs1
  have cs2 := fun W (b : Below q9.heap.size q9 W) => w_r10same dd0 dd0 ⟨.slice oa0 dd0.code.length oc0, .slice oa1 dd0.origs.length oc1, .slice oa2 dd0.dests.length oc2, .slice oa3 dd0.loops.length oc3, .slice oa4 dd0.cases.length oc4⟩ ⟨.slice da0 dd0.code.length dc0, .slice da1 dd0.origs.length dc1, .slice da2 dd0.dests.length dc2, .slice da3 dd0.loops.length dc3, .slice da4 dd0.cases.length dc4⟩ W ((ow3.below b).read) (rD.out.below (below_trans BW b))
  simp only [Dv.cs] at cs2
  have f0 := sx5.cell 0 _ rfl
  have f1 := sx5.cell 1 _ rfl
  have f2 := sx5.cell 2 _ rfl
  have f3 := sx5.cell 3 _ rfl
  have f4 := sx5.cell 4 _ rfl
  have g0 := sx7.cell 0 _ rfl
  have g1 := sx7.cell 1 _ rfl
  have g2 := sx7.cell 2 _ rfl
  have g3 := sx7.cell 3 _ rfl
  have g4 := sx7.cell 4 _ rfl
  have h0 := sx3.cell 0 _ rfl
  have h1 := sx3.cell 1 _ rfl
  have h2 := sx3.cell 2 _ rfl
  have h3 := sx3.cell 3 _ rfl
  have h4 := sx3.cell 4 _ rfl
  have i0 := s0.cell 0 _ rfl
  have i1 := s0.cell 1 _ rfl
  have i2 := s0.cell 2 _ rfl
  have i3 := s0.cell 3 _ rfl
  have i4 := s0.cell 4 _ rfl
  have co := fun W (b : Below q9.heap.size q9 W) => w_r10ops v8 v9 FC FC W (RdO.below r8 b) (RdO.below r9 b)
  simp only at co
  have qE := beq_self_eq_true PE
  have qF := beq_self_eq_true FE
  go_wp2_with (first | (go_at_call 14; refine (cs2 _ e2).mono ?_; rintro e q12 ⟨rfl, e3⟩) | (go_at_call 19; refine (co _ e1).mono ?_; rintro e q11 ⟨rfl, dr⟩; have e2 := below_trans e1 (dr_below dr); have hk0 := (sx3.below e2).cell 0 _ rfl; have hk1 := (sx3.below e2).cell 1 _ rfl; have hk2 := (sx3.below e2).cell 2 _ rfl; have hk3 := (sx3.below e2).cell 3 _ rfl; have hk4 := (sx3.below e2).cell 4 _ rfl; have ik0 := (s0.below e2).cell 0 _ rfl; have ik1 := (s0.below e2).cell 1 _ rfl; have ik2 := (s0.below e2).cell 2 _ rfl; have ik3 := (s0.below e2).cell 3 _ rfl; have ik4 := (s0.below e2).cell 4 _ rfl) | (go_at_call 14; refine (cs1 _ (Below.refl _ _)).mono ?_; rintro e q10 ⟨rfl, e1⟩; have hh0 := (sx3.below e1).cell 0 _ rfl; have hh1 := (sx3.below e1).cell 1 _ rfl; have hh2 := (sx3.below e1).cell 2 _ rfl; have hh3 := (sx3.below e1).cell 3 _ rfl; have hh4 := (sx3.below e1).cell 4 _ rfl; have ii0 := (s0.below e1).cell 0 _ rfl; have ii1 := (s0.below e1).cell 1 _ rfl; have ii2 := (s0.below e1).cell 2 _ rfl; have ii3 := (s0.below e1).cell 3 _ rfl; have ii4 := (s0.below e1).cell 4 _ rfl))
  go_ret
  exact ⟨by simp, below_trans BW (below_trans e2 e3)⟩

set_option maxRecDepth 100000 in
theorem lifted (os : Os) (started : os.Started) (H : Type) (enc : TypeId × Value → H) :
    ReturnsInHanded {} Try.checked os 4 .any (Rows.codePutsSpec.pre6 enc Try.prog Try.f4 Rows.codePutsRow.domain false) (Rows.codePutsSpec.post enc Try.prog Try.f4 false true false false) := by
  refine returnsInHanded_of_change_sized (C := Try.checked) own started (by kernel_rfl) Try.func4
    (ChangeSpec.witness6 (enc := enc) (C := Try.checked) false ⟨#[], #[.agg #[.slice none 0 0, .slice none 0 0, .slice none 0 0, .slice none 0 0, .slice none 0 0], .agg #[.int .i64 0, .int .u32 0]], []⟩ 8 (by kernel_rfl) (by kernel_rfl) (by kernel_rfl) (by kernel_rfl)) ?_
  intro W base args ds gs before hval0 hW hcnd hsz0 _
  have hval : ∀ (j : Nat) t v, Try.f4.params[j]? = some t → args[j]? = some v → Value.okWide Try.prog W .any base t v := hval0
  have hsz : (DataW.weightsEach Try.prog (Try.f4.params.toList ++ Rows.codePutsSpec.plain.varTypes Try.prog) (ds ++ gs)).all (· ≤ reachBytes) = true := hsz0
  have hW' := hW
  obtain ⟨p, q, hA0, hV, rfl, hfz, hnd⟩ := hW
  have hA : DataW.TrodAll enc Try.prog W 0 (fun _ => true) true Try.f4.params.toList args.toList ds p := hA0
  rw [Try.params4] at hA hval hsz
  obtain ⟨v0, vs0, d0, ds0, p0, q0, hargs, rfl, rfl, h0, r0⟩ := trodAll_cons hA
  obtain ⟨v1, vs1, d1, ds1, p1, q1, rfl, rfl, rfl, h1, r1⟩ := trodAll_cons r0
  obtain ⟨rfl, rfl, rfl⟩ := trodAll_nil r1
  obtain rfl : args = #[v0, v1] := by cases args; simp_all
  obtain ⟨rfl, rfl⟩ := trodVars_none hV
  have k0 := h0
  have lt0 : ∀ x ∈ p0, x.block < W.heap.size := by obtain ⟨m, hm⟩ := k0; exact DataW.trod_lt m _ _ _ hm
  obtain ⟨dv0, dd0, rfl, r100, g0⟩ := dft_open (hval 0 26 v0 rfl rfl) h0 (fun n hn => by simpa using List.all_eq_true.1 hsz n (DataW.weights_mem_each (j := 0) (t := 26) (d := d0) rfl rfl n hn))
  have k1 := h1
  have lt1 : ∀ x ∈ p1, x.block < W.heap.size := by obtain ⟨m, hm⟩ := k1; exact DataW.trod_lt m _ _ _ hm
  obtain ⟨ok1, on1, rfl, g1⟩ := op_open (hval 1 37 v1 rfl rfl) h1 (fun n hn => by simpa using List.all_eq_true.1 hsz n (DataW.weights_mem_each (j := 1) (t := 37) (d := d1) rfl rfl n hn))
  clear hA0 hval0 hsz0
  refine (walk dv0 dd0 ok1 on1 W r100 g0 g1).mono fun e W' ⟨he, bel⟩ => ?_
  subst he
  exact ⟨_, rfl, _, _, _, [], _, [], hW', trodAll_mk1 (shut_bool Try.underlying4 _), (trodAll_cons_mk (Below.trod laidOut (by kernel_rfl) (of_decide_eq_true (by kernel_rfl)) k0 bel lt0) (trodAll_cons_mk (Below.trod laidOut (by kernel_rfl) (of_decide_eq_true (by kernel_rfl)) k1 bel lt1) trodAll_mk0)), rfl, bel.frame _, fun h => by cases h⟩

theorem over : Rows.codePutsRow.holds Try.pinned (OpenSpec.ofChange Rows.codePutsSpec) :=
  OpenClaim.holds_of_wide 4 Try.f4 rfl rfl rfl rfl rfl rfl rfl ⟨rfl, rfl, rfl, rfl, rfl⟩ rfl rfl rfl rfl rfl (by kernel_rfl) Try.func4 (by kernel_rfl)
    (of_decide_eq_true (by kernel_rfl)) (by unfold Func.isWrapper; first | (rw [if_pos (by decide +kernel)]; kernel_rfl) | (rw [if_neg (by decide +kernel)]; exact ⟨rfl, rfl⟩))
    (fun os started H enc _ => lifted os started H enc)
end Go.Proofs.Ytfmpeminfcehaaa.codePuts
namespace Go.Proofs.Ytfmpeminfcehaaa
theorem codePuts_holds : Rows.CodePutsSaid := codePuts.over
#print axioms codePuts_holds
end Go.Proofs.Ytfmpeminfcehaaa
