/-
  Each act on any draft builds on it, or is refused, as the document says, and the draft stays formed.
-/
import Derived.Test.YtfmpeminfcehaaaRows
import Derived.WalkKit
import Derived.ProofKit
import Derived.OpenShut
import Derived.ShutString
import Derived.ChangeOld
import Derived.Below
import Derived.Carry
import Derived.SizedLaws
import Derived.Test.YtfmpeminfcehaaaSl
import Derived.Test.YtfmpeminfcehaaaCal
import Derived.Test.YtfmpeminfcehaaaPk4
import Derived.Test.YtfmpeminfcehaaaDfp
import Derived.Test.YtfmpeminfcehaaaRka
import Derived.Test.YtfmpeminfcehaaaRkb
import Derived.Test.YtfmpeminfcehaaaRkc
import Derived.Test.YtfmpeminfcehaaaRkd
import Derived.Test.YtfmpeminfcehaaaRke
import Derived.Test.YtfmpeminfcehaaaRkf
import Derived.Test.YtfmpeminfcehaaaRk1
namespace Go.Proofs.Ytfmpeminfcehaaa
open Go.ChangeShapes Go.WideShapes Go.ChangeAt Go.RowKit
set_option linter.unusedVariables false
set_option linter.unusedSimpArgs false

set_option maxHeartbeats 8000000 in
set_option maxRecDepth 100000 in
theorem w_r10act0 (v : Dv) (d : Dft) (a : Int) (w : World) (h : RdD w v d) (ha : a < 1 ∨ 15 < a) :
    Calls Try.prog 11 #[.agg v.cs, .int .i64 a] w fun e w' => ∃ v1, e = .returned (.tuple #[.agg (Dv.cs v1), .int .i64 (actD d a).2]) ∧ OwQ w' v1 (actD d a).1 ∧ Below w.heap.size w w' := by
  have cf := fun W (b : Below w.heap.size w W) => w_r10formed v d W (h.below b)
  have hD : actD d a = (nilD, 1) := by unfold actD; rw [if_pos (Or.inr (by omega))]
  rw [hD]
  have s0 := (stands_new w v.cs 26).below (box_below _ (.cells #[.slice none 0 0, .slice none 0 0, .slice none 0 0, .slice none 0 0, .slice none 0 0] 26))
  have s2 := stands_new (w.alloc (.cells v.cs 26)) #[.slice none 0 0, .slice none 0 0, .slice none 0 0, .slice none 0 0, .slice none 0 0] 26
  rw [size_al] at s2
  have bw := below_trans (box_below w (.cells v.cs 26)) (box_below _ (.cells #[.slice none 0 0, .slice none 0 0, .slice none 0 0, .slice none 0 0, .slice none 0 0] 26))
  clear h hD
  obtain ⟨x0, x1, x2, x3, x4⟩ := v
  simp only [Dv.cs] at cf s0 s2 bw ⊢
  cases c1 : frmD d with
  | false =>
    simp only [c1] at cf
    clear ha
    go_enter Try.func11, Try.ntmps11
    go_upto_region 1 with fail
    generalize (w.alloc (.cells #[x0, x1, x2, x3, x4] 26)).alloc (.cells #[.slice none 0 0, .slice none 0 0, .slice none 0 0, .slice none 0 0, .slice none 0 0] 26) = W0 at s0 s2 bw ⊢
    have f0 := s0.cell 0 _ rfl
    have f1 := s0.cell 1 _ rfl
    have f2 := s0.cell 2 _ rfl
    have f3 := s0.cell 3 _ rfl
    have f4 := s0.cell 4 _ rfl
    go_wp2_with (first | (go_at_call 13; refine (cf _ bw).mono ?_; rintro e q1 ⟨rfl, b1⟩; have p0 := (s0.below b1).cell 0 _ rfl; have p1 := (s0.below b1).cell 1 _ rfl; have p2 := (s0.below b1).cell 2 _ rfl; have p3 := (s0.below b1).cell 3 _ rfl; have p4 := (s0.below b1).cell 4 _ rfl; have zz0 := (s2.below b1).cell 0 _ rfl; have zz1 := (s2.below b1).cell 1 _ rfl; have zz2 := (s2.below b1).cell 2 _ rfl; have zz3 := (s2.below b1).cell 3 _ rfl; have zz4 := (s2.below b1).cell 4 _ rfl; have zf := (s2.below b1).free))
    obtain ⟨g1, g2⟩ := set5q (s2.below b1) (.slice none 0 0) (.slice none 0 0) (.slice none 0 0) (.slice none 0 0) (.slice none 0 0)
    have J7 := below_set (below_set (below_set (below_set (below_set (below_trans bw b1) (w.heap.size + 1) 0 (.slice none 0 0) (by omega)) (w.heap.size + 1) 1 (.slice none 0 0) (by omega)) (w.heap.size + 1) 2 (.slice none 0 0) (by omega)) (w.heap.size + 1) 3 (.slice none 0 0) (by omega)) (w.heap.size + 1) 4 (.slice none 0 0) (by omega)
    (try simp only [Exit.inBlock, Exit.then])
    refine bodyPost_ret (res_row2 rfl _ _ (w.heap.size + 1) 26 _ (0, 0) _ rfl g1 Try.underlying26 rfl (show _ = some 5 by kernel_rfl)) rfl ?_
    exact ⟨nilDv, rfl, OwQ.nil _, J7⟩
  | true =>
    simp only [c1] at cf
    by_cases c3 : a < 1
    · clear ha
      go_enter Try.func11, Try.ntmps11
      go_upto_region 1 with fail
      generalize (w.alloc (.cells #[x0, x1, x2, x3, x4] 26)).alloc (.cells #[.slice none 0 0, .slice none 0 0, .slice none 0 0, .slice none 0 0, .slice none 0 0] 26) = W0 at s0 s2 bw ⊢
      have f0 := s0.cell 0 _ rfl
      have f1 := s0.cell 1 _ rfl
      have f2 := s0.cell 2 _ rfl
      have f3 := s0.cell 3 _ rfl
      have f4 := s0.cell 4 _ rfl
      go_wp2_with (first | (go_at_call 13; refine (cf _ bw).mono ?_; rintro e q1 ⟨rfl, b1⟩; have p0 := (s0.below b1).cell 0 _ rfl; have p1 := (s0.below b1).cell 1 _ rfl; have p2 := (s0.below b1).cell 2 _ rfl; have p3 := (s0.below b1).cell 3 _ rfl; have p4 := (s0.below b1).cell 4 _ rfl; have zz0 := (s2.below b1).cell 0 _ rfl; have zz1 := (s2.below b1).cell 1 _ rfl; have zz2 := (s2.below b1).cell 2 _ rfl; have zz3 := (s2.below b1).cell 3 _ rfl; have zz4 := (s2.below b1).cell 4 _ rfl; have zf := (s2.below b1).free))
      obtain ⟨g1, g2⟩ := set5q (s2.below b1) (.slice none 0 0) (.slice none 0 0) (.slice none 0 0) (.slice none 0 0) (.slice none 0 0)
      have J7 := below_set (below_set (below_set (below_set (below_set (below_trans bw b1) (w.heap.size + 1) 0 (.slice none 0 0) (by omega)) (w.heap.size + 1) 1 (.slice none 0 0) (by omega)) (w.heap.size + 1) 2 (.slice none 0 0) (by omega)) (w.heap.size + 1) 3 (.slice none 0 0) (by omega)) (w.heap.size + 1) 4 (.slice none 0 0) (by omega)
      (try simp only [Exit.inBlock, Exit.then])
      refine bodyPost_ret (res_row2 rfl _ _ (w.heap.size + 1) 26 _ (0, 0) _ rfl g1 Try.underlying26 rfl (show _ = some 5 by kernel_rfl)) rfl ?_
      exact ⟨nilDv, rfl, OwQ.nil _, J7⟩
    · have c4 : 15 < a := by omega
      clear ha
      go_enter Try.func11, Try.ntmps11
      go_upto_region 1 with fail
      generalize (w.alloc (.cells #[x0, x1, x2, x3, x4] 26)).alloc (.cells #[.slice none 0 0, .slice none 0 0, .slice none 0 0, .slice none 0 0, .slice none 0 0] 26) = W0 at s0 s2 bw ⊢
      have f0 := s0.cell 0 _ rfl
      have f1 := s0.cell 1 _ rfl
      have f2 := s0.cell 2 _ rfl
      have f3 := s0.cell 3 _ rfl
      have f4 := s0.cell 4 _ rfl
      go_wp2_with (first | (go_at_call 13; refine (cf _ bw).mono ?_; rintro e q1 ⟨rfl, b1⟩; have p0 := (s0.below b1).cell 0 _ rfl; have p1 := (s0.below b1).cell 1 _ rfl; have p2 := (s0.below b1).cell 2 _ rfl; have p3 := (s0.below b1).cell 3 _ rfl; have p4 := (s0.below b1).cell 4 _ rfl; have zz0 := (s2.below b1).cell 0 _ rfl; have zz1 := (s2.below b1).cell 1 _ rfl; have zz2 := (s2.below b1).cell 2 _ rfl; have zz3 := (s2.below b1).cell 3 _ rfl; have zz4 := (s2.below b1).cell 4 _ rfl; have zf := (s2.below b1).free))
      obtain ⟨g1, g2⟩ := set5q (s2.below b1) (.slice none 0 0) (.slice none 0 0) (.slice none 0 0) (.slice none 0 0) (.slice none 0 0)
      have J7 := below_set (below_set (below_set (below_set (below_set (below_trans bw b1) (w.heap.size + 1) 0 (.slice none 0 0) (by omega)) (w.heap.size + 1) 1 (.slice none 0 0) (by omega)) (w.heap.size + 1) 2 (.slice none 0 0) (by omega)) (w.heap.size + 1) 3 (.slice none 0 0) (by omega)) (w.heap.size + 1) 4 (.slice none 0 0) (by omega)
      (try simp only [Exit.inBlock, Exit.then])
      refine bodyPost_ret (res_row2 rfl _ _ (w.heap.size + 1) 26 _ (0, 0) _ rfl g1 Try.underlying26 rfl (show _ = some 5 by kernel_rfl)) rfl ?_
      exact ⟨nilDv, rfl, OwQ.nil _, J7⟩

theorem w_r10act (v : Dv) (d : Dft) (a : Int) (w : World) (h : RdD w v d) (z : szD d) (ze : szE d) :
    Calls Try.prog 11 #[.agg v.cs, .int .i64 a] w fun e w' => ∃ v1, e = .returned (.tuple #[.agg (Dv.cs v1), .int .i64 (actD d a).2]) ∧ OwQ w' v1 (actD d a).1 ∧ Below w.heap.size w w' := by
  by_cases ha : a < 1 ∨ 15 < a
  · exact w_r10act0 v d a w h ha
  · have hcs : a = 1 ∨ a = 2 ∨ a = 3 ∨ a = 4 ∨ a = 5 ∨ a = 6 ∨ a = 7 ∨ a = 8 ∨ a = 9 ∨ a = 10 ∨ a = 11 ∨ a = 12 ∨ a = 13 ∨ a = 14 ∨ a = 15 := by omega
    rcases hcs with rfl | rfl | rfl | rfl | rfl | rfl | rfl | rfl | rfl | rfl | rfl | rfl | rfl | rfl | rfl
    · exact w_r10act1 v d w h z ze
    · exact w_r10act2 v d w h z ze
    · exact w_r10act3 v d w h z ze
    · exact w_r10act4 v d w h z ze
    · exact w_r10act5 v d w h z ze
    · exact w_r10act6 v d w h z ze
    · exact w_r10act7 v d w h z ze
    · exact w_r10act8 v d w h z ze
    · exact w_r10act9 v d w h z ze
    · exact w_r10act10 v d w h z ze
    · exact w_r10act11 v d w h z ze
    · exact w_r10act12 v d w h z ze
    · exact w_r10act13 v d w h z ze
    · exact w_r10act14 v d w h z ze
    · exact w_r10act15 v d w h z ze
end Go.Proofs.Ytfmpeminfcehaaa
namespace Go.Proofs.Ytfmpeminfcehaaa.codeActs
open Go.ChangeShapes Go.WideShapes Go.ChangeAt Go.RowKit
open Go.ChangeMaps (open_string shut_string)
set_option linter.unusedVariables false
set_option linter.unusedSimpArgs false

theorem own : ownKnob Try.prog.godebug = none := by kernel_rfl
theorem laidOut : laidOutB Try.prog = true := by kernel_rfl

set_option maxHeartbeats 4000000 in
set_option maxRecDepth 100000 in
theorem walk (dv0 : Dv) (dd0 : Dft) (a1 : Int) (w : World) (r0 : RdD w dv0 dd0) (g0 : gDf dd0) (w1 : (Lit.int .i64 a1).wf = true) :
    Calls Try.prog 3 #[.agg dv0.cs, .int .i64 a1] w fun e w' => e = .returned (.bool true) ∧ Below w.heap.size w w' := by
  have zz : szD dd0 ∧ szE dd0 := ⟨⟨by have := g0.codeZ; omega, by have := g0.origsZ; omega, by have := g0.destsZ; omega, by have := g0.loopsZ; omega, fun x hx => by have := (g0.loops x hx).siz; omega, by have := g0.casesZ; omega, fun x hx => by have := (g0.cases x hx).siz; omega⟩, ⟨by have := g0.origsZ; omega, by have := g0.destsZ; omega, by have := g0.loopsZ; omega, by have := g0.casesZ; omega, fun x hx => (g0.loops x hx).siz, fun x hx => (g0.cases x hx).siz⟩⟩
  have zF : dd0.origs.length * 8 ≤ 140737488355328 ∧ dd0.dests.length * 8 ≤ 140737488355328 ∧ dd0.loops.length * 32 ≤ 140737488355328 ∧ dd0.cases.length * 32 ≤ 140737488355328 := by have a1 := g0.origsZ; have a2 := g0.destsZ; have a3 := g0.loopsZ; have a4 := g0.casesZ; omega
  obtain ⟨da0, dc0, da1, dc1, da2, dc2, da3, dc3, da4, dc4, rfl⟩ := rdD_forms r0
  simp only [Dv.cs]
  have rD := hid r0
  clear r0 g0
  go_enter Try.func3, Try.ntmps3
  go_upto_region 1 with fail
  have s0 := stands_new w #[.slice da0 dd0.code.length dc0, .slice da1 dd0.origs.length dc1, .slice da2 dd0.dests.length dc2, .slice da3 dd0.loops.length dc3, .slice da4 dd0.cases.length dc4] 26
  have bw := box_below w (.cells #[.slice da0 dd0.code.length dc0, .slice da1 dd0.origs.length dc1, .slice da2 dd0.dests.length dc2, .slice da3 dd0.loops.length dc3, .slice da4 dd0.cases.length dc4] 26)
  generalize w.alloc (.cells #[.slice da0 dd0.code.length dc0, .slice da1 dd0.origs.length dc1, .slice da2 dd0.dests.length dc2, .slice da3 dd0.loops.length dc3, .slice da4 dd0.cases.length dc4] 26) = W0 at s0 bw ⊢
  have cC := fun W (b : Below w.heap.size w W) => w_r10copy ⟨.slice da0 dd0.code.length dc0, .slice da1 dd0.origs.length dc1, .slice da2 dd0.dests.length dc2, .slice da3 dd0.loops.length dc3, .slice da4 dd0.cases.length dc4⟩ dd0 W (rD.out.below b) zz.1
  simp only [Dv.cs] at cC
  go_upto_region 4 with (first | (go_at_call 8; refine (w_alive10 _).mono ?_; rintro e q1 ⟨rfl, b1⟩; have p0 := (s0.below b1).cell 0 _ rfl; have p1 := (s0.below b1).cell 1 _ rfl; have p2 := (s0.below b1).cell 2 _ rfl; have p3 := (s0.below b1).cell 3 _ rfl; have p4 := (s0.below b1).cell 4 _ rfl) | (go_at_call 9; refine (cC _ (below_trans bw b1)).mono ?_; rintro e q2 ⟨u2, y1, y2, y3, rfl, o2, b2⟩; obtain ⟨oa0, oc0, oa1, oc1, oa2, oc2, oa3, oc3, oa4, oc4, rfl⟩ := rdD_forms o2.read))
  have oq : OwQ q2 ⟨.slice oa0 dd0.code.length oc0, .slice oa1 dd0.origs.length oc1, .slice oa2 dd0.dests.length oc2, .slice oa3 dd0.loops.length oc3, .slice oa4 dd0.cases.length oc4⟩ dd0 := ⟨_, o2.owe⟩
  have bx3 := box_below q2 (.cells #[.slice oa0 dd0.code.length oc0, .slice oa1 dd0.origs.length oc1, .slice oa2 dd0.dests.length oc2, .slice oa3 dd0.loops.length oc3, .slice oa4 dd0.cases.length oc4] 26)
  have sx3 := stands_new q2 #[.slice oa0 dd0.code.length oc0, .slice oa1 dd0.origs.length oc1, .slice oa2 dd0.dests.length oc2, .slice oa3 dd0.loops.length oc3, .slice oa4 dd0.cases.length oc4] 26
  have ow3 : OwQ _ ⟨.slice oa0 dd0.code.length oc0, .slice oa1 dd0.origs.length oc1, .slice oa2 dd0.dests.length oc2, .slice oa3 dd0.loops.length oc3, .slice oa4 dd0.cases.length oc4⟩ dd0 := oq.below bx3
  obtain ⟨X3, hX3⟩ : ∃ X, q2.heap.size = X := ⟨_, rfl⟩
  rw [hX3] at sx3
  (try simp only [hX3])
  generalize q2.alloc (.cells #[.slice oa0 dd0.code.length oc0, .slice oa1 dd0.origs.length oc1, .slice oa2 dd0.dests.length oc2, .slice oa3 dd0.loops.length oc3, .slice oa4 dd0.cases.length oc4] 26) = w3 at bx3 sx3 ow3 ⊢
  clear hX3
  have B3 := below_trans (below_trans b1 b2) bx3
  have s0 := s0.below B3
  have BW := below_trans bw B3
  clear oq bx3 o2 cC b1 b2 B3 bw p0 p1 p2 p3 p4
  have c4 := w_p10actA ⟨.slice oa0 dd0.code.length oc0, .slice oa1 dd0.origs.length oc1, .slice oa2 dd0.dests.length oc2, .slice oa3 dd0.loops.length oc3, .slice oa4 dd0.cases.length oc4⟩ dd0 a1 w3 ow3.read zz.1 zz.2
  have c5 := fun W (b : Below w.heap.size w W) => w_r10act ⟨.slice da0 dd0.code.length dc0, .slice da1 dd0.origs.length dc1, .slice da2 dd0.dests.length dc2, .slice da3 dd0.loops.length dc3, .slice da4 dd0.cases.length dc4⟩ dd0 a1 W (rD.out.below b) zz.1 zz.2
  have hfd : (actD dd0 a1).2 = 0 → frmD (actD dd0 a1).1 = true := fun h => act_formed h
  obtain ⟨PD, hPD⟩ : ∃ x, (actD dd0 a1).1 = x := ⟨_, rfl⟩
  obtain ⟨PE, hPE⟩ : ∃ x, (actD dd0 a1).2 = x := ⟨_, rfl⟩
  rw [hPD, hPE] at c4 hfd
  simp only [hPD, hPE] at c5
  simp only [Dv.cs] at c4 c5
  clear hPD hPE
  have f0 := sx3.cell 0 _ rfl
  have f1 := sx3.cell 1 _ rfl
  have f2 := sx3.cell 2 _ rfl
  have f3 := sx3.cell 3 _ rfl
  have f4 := sx3.cell 4 _ rfl
  go_upto_region 5 with (go_at_call 10; refine c4.mono ?_; rintro e q4 ⟨u4, rfl, o4, b4⟩; obtain ⟨ma0, mc0, ma1, mc1, ma2, mc2, ma3, mc3, ma4, mc4, rfl⟩ := rdD_forms o4.read)
  have bx5 := box_below q4 (.cells #[.slice ma0 PD.code.length mc0, .slice ma1 PD.origs.length mc1, .slice ma2 PD.dests.length mc2, .slice ma3 PD.loops.length mc3, .slice ma4 PD.cases.length mc4] 26)
  have sx5 := stands_new q4 #[.slice ma0 PD.code.length mc0, .slice ma1 PD.origs.length mc1, .slice ma2 PD.dests.length mc2, .slice ma3 PD.loops.length mc3, .slice ma4 PD.cases.length mc4] 26
  have ow5 : OwQ _ ⟨.slice ma0 PD.code.length mc0, .slice ma1 PD.origs.length mc1, .slice ma2 PD.dests.length mc2, .slice ma3 PD.loops.length mc3, .slice ma4 PD.cases.length mc4⟩ PD := o4.below bx5
  obtain ⟨X5, hX5⟩ : ∃ X, q4.heap.size = X := ⟨_, rfl⟩
  rw [hX5] at sx5
  (try simp only [hX5])
  generalize q4.alloc (.cells #[.slice ma0 PD.code.length mc0, .slice ma1 PD.origs.length mc1, .slice ma2 PD.dests.length mc2, .slice ma3 PD.loops.length mc3, .slice ma4 PD.cases.length mc4] 26) = w5 at bx5 sx5 ow5 ⊢
  clear hX5
  have B5 := below_trans b4 bx5
  have s0 := s0.below B5
  have sx3 := sx3.below B5
  have ow3 := ow3.below B5
  have BW := below_trans BW B5
  clear b4 bx5 B5 o4 c4 f0 f1 f2 f3 f4
  have f0 := s0.cell 0 _ rfl
  have f1 := s0.cell 1 _ rfl
  have f2 := s0.cell 2 _ rfl
  have f3 := s0.cell 3 _ rfl
  have f4 := s0.cell 4 _ rfl
  go_upto_region 6 with (go_at_call 11; refine (c5 _ BW).mono ?_; rintro e q6 ⟨u6, rfl, o6, b6⟩; obtain ⟨na0, nc0, na1, nc1, na2, nc2, na3, nc3, na4, nc4, rfl⟩ := rdD_forms o6.read)
  have bx7 := box_below q6 (.cells #[.slice na0 PD.code.length nc0, .slice na1 PD.origs.length nc1, .slice na2 PD.dests.length nc2, .slice na3 PD.loops.length nc3, .slice na4 PD.cases.length nc4] 26)
  have sx7 := stands_new q6 #[.slice na0 PD.code.length nc0, .slice na1 PD.origs.length nc1, .slice na2 PD.dests.length nc2, .slice na3 PD.loops.length nc3, .slice na4 PD.cases.length nc4] 26
  have ow7 : OwQ _ ⟨.slice na0 PD.code.length nc0, .slice na1 PD.origs.length nc1, .slice na2 PD.dests.length nc2, .slice na3 PD.loops.length nc3, .slice na4 PD.cases.length nc4⟩ PD := o6.below bx7
  obtain ⟨X7, hX7⟩ : ∃ X, q6.heap.size = X := ⟨_, rfl⟩
  rw [hX7] at sx7
  (try simp only [hX7])
  generalize q6.alloc (.cells #[.slice na0 PD.code.length nc0, .slice na1 PD.origs.length nc1, .slice na2 PD.dests.length nc2, .slice na3 PD.loops.length nc3, .slice na4 PD.cases.length nc4] 26) = w7 at bx7 sx7 ow7 ⊢
  clear hX7
  have B7 := below_trans b6 bx7
  have s0 := s0.below B7
  have sx3 := sx3.below B7
  have ow3 := ow3.below B7
  have sx5 := sx5.below B7
  have ow5 := ow5.below B7
  have BW := below_trans BW B7
  clear b6 bx7 B7 o6 c5 f0 f1 f2 f3 f4
  have cs1 := fun W (b : Below w7.heap.size w7 W) => w_r10same PD PD ⟨.slice ma0 PD.code.length mc0, .slice ma1 PD.origs.length mc1, .slice ma2 PD.dests.length mc2, .slice ma3 PD.loops.length mc3, .slice ma4 PD.cases.length mc4⟩ ⟨.slice na0 PD.code.length nc0, .slice na1 PD.origs.length nc1, .slice na2 PD.dests.length nc2, .slice na3 PD.loops.length nc3, .slice na4 PD.cases.length nc4⟩ W ((ow5.below b).read) ((ow7.below b).read)
  simp only [Dv.cs] at cs1
  have cs2 := fun W (b : Below w7.heap.size w7 W) => w_r10same dd0 dd0 ⟨.slice oa0 dd0.code.length oc0, .slice oa1 dd0.origs.length oc1, .slice oa2 dd0.dests.length oc2, .slice oa3 dd0.loops.length oc3, .slice oa4 dd0.cases.length oc4⟩ ⟨.slice da0 dd0.code.length dc0, .slice da1 dd0.origs.length dc1, .slice da2 dd0.dests.length dc2, .slice da3 dd0.loops.length dc3, .slice da4 dd0.cases.length dc4⟩ W ((ow3.below b).read) (rD.out.below (below_trans BW b))
  simp only [Dv.cs] at cs2
  have f0 := sx5.cell 0 _ rfl
  have f1 := sx5.cell 1 _ rfl
  have f2 := sx5.cell 2 _ rfl
  have f3 := sx5.cell 3 _ rfl
  have f4 := sx5.cell 4 _ rfl
  have g0 := sx7.cell 0 _ rfl
  have g1 := sx7.cell 1 _ rfl
  have g2 := sx7.cell 2 _ rfl
  have g3 := sx7.cell 3 _ rfl
  have g4 := sx7.cell 4 _ rfl
  have h0 := sx3.cell 0 _ rfl
  have h1 := sx3.cell 1 _ rfl
  have h2 := sx3.cell 2 _ rfl
  have h3 := sx3.cell 3 _ rfl
  have h4 := sx3.cell 4 _ rfl
  have i0 := s0.cell 0 _ rfl
  have i1 := s0.cell 1 _ rfl
  have i2 := s0.cell 2 _ rfl
  have i3 := s0.cell 3 _ rfl
  have i4 := s0.cell 4 _ rfl
  have cf1 := fun W (b : Below w7.heap.size w7 W) => w_p10formed ⟨.slice da0 dd0.code.length dc0, .slice da1 dd0.origs.length dc1, .slice da2 dd0.dests.length dc2, .slice da3 dd0.loops.length dc3, .slice da4 dd0.cases.length dc4⟩ dd0 W (rD.out.below (below_trans BW b))
  have cf2 := fun W (b : Below w7.heap.size w7 W) => w_r10formed ⟨.slice da0 dd0.code.length dc0, .slice da1 dd0.origs.length dc1, .slice da2 dd0.dests.length dc2, .slice da3 dd0.loops.length dc3, .slice da4 dd0.cases.length dc4⟩ dd0 W (rD.out.below (below_trans BW b))
  have cf3 := fun W (b : Below w7.heap.size w7 W) => w_p10formed ⟨.slice ma0 PD.code.length mc0, .slice ma1 PD.origs.length mc1, .slice ma2 PD.dests.length mc2, .slice ma3 PD.loops.length mc3, .slice ma4 PD.cases.length mc4⟩ PD W (ow5.below b).read
  obtain ⟨FB, hFB⟩ : ∃ x, frmD dd0 = x := ⟨_, rfl⟩
  simp only [hFB, Dv.cs] at cf1 cf2
  simp only [Dv.cs] at cf3
  have qB := beq_self_eq_true FB
  have qE := beq_self_eq_true PE
  have Z : Hid (∀ W, Below w7.heap.size w7 W → (W.cell? ⟨w.heap.size, 0, none⟩ = some (.slice da0 dd0.code.length dc0) ∧ W.cell? ⟨w.heap.size, 1, none⟩ = some (.slice da1 dd0.origs.length dc1) ∧ W.cell? ⟨w.heap.size, 2, none⟩ = some (.slice da2 dd0.dests.length dc2) ∧ W.cell? ⟨w.heap.size, 3, none⟩ = some (.slice da3 dd0.loops.length dc3) ∧ W.cell? ⟨w.heap.size, 4, none⟩ = some (.slice da4 dd0.cases.length dc4)) ∧ (W.cell? ⟨X5, 0, none⟩ = some (.slice ma0 PD.code.length mc0) ∧ W.cell? ⟨X5, 1, none⟩ = some (.slice ma1 PD.origs.length mc1) ∧ W.cell? ⟨X5, 2, none⟩ = some (.slice ma2 PD.dests.length mc2) ∧ W.cell? ⟨X5, 3, none⟩ = some (.slice ma3 PD.loops.length mc3) ∧ W.cell? ⟨X5, 4, none⟩ = some (.slice ma4 PD.cases.length mc4)) ∧ (W.cell? ⟨X7, 0, none⟩ = some (.slice na0 PD.code.length nc0) ∧ W.cell? ⟨X7, 1, none⟩ = some (.slice na1 PD.origs.length nc1) ∧ W.cell? ⟨X7, 2, none⟩ = some (.slice na2 PD.dests.length nc2) ∧ W.cell? ⟨X7, 3, none⟩ = some (.slice na3 PD.loops.length nc3) ∧ W.cell? ⟨X7, 4, none⟩ = some (.slice na4 PD.cases.length nc4)) ∧ (W.cell? ⟨X3, 0, none⟩ = some (.slice oa0 dd0.code.length oc0) ∧ W.cell? ⟨X3, 1, none⟩ = some (.slice oa1 dd0.origs.length oc1) ∧ W.cell? ⟨X3, 2, none⟩ = some (.slice oa2 dd0.dests.length oc2) ∧ W.cell? ⟨X3, 3, none⟩ = some (.slice oa3 dd0.loops.length oc3) ∧ W.cell? ⟨X3, 4, none⟩ = some (.slice oa4 dd0.cases.length oc4))) := by
    show ∀ W, _
    intro W q
    have z0 := s0.below q
    have z1 := sx5.below q
    have z2 := sx7.below q
    have z3 := sx3.below q
    exact ⟨⟨z0.cell 0 _ rfl, z0.cell 1 _ rfl, z0.cell 2 _ rfl, z0.cell 3 _ rfl, z0.cell 4 _ rfl⟩, ⟨z1.cell 0 _ rfl, z1.cell 1 _ rfl, z1.cell 2 _ rfl, z1.cell 3 _ rfl, z1.cell 4 _ rfl⟩, ⟨z2.cell 0 _ rfl, z2.cell 1 _ rfl, z2.cell 2 _ rfl, z2.cell 3 _ rfl, z2.cell 4 _ rfl⟩, ⟨z3.cell 0 _ rfl, z3.cell 1 _ rfl, z3.cell 2 _ rfl, z3.cell 3 _ rfl, z3.cell 4 _ rfl⟩⟩
  have Hcf1 := hid cf1
  have Hcf2 := hid cf2
  have Hcf3 := hid cf3
  have Hcs1 := hid cs1
  have Hcs2 := hid cs2
  have hrd : Hid (Below w7.heap.size w7 w7.drew) := below_drewN (Below.refl _ _) 1
  have BWH := hid BW
  clear cf1 cf2 cf3 cs1 cs2 s0 sx3 sx5 sx7 ow3 ow5 ow7 hFB BW
  clear f0 f1 f2 f3 f4 g0 g1 g2 g3 g4 h0 h1 h2 h3 h4 i0 i1 i2 i3 i4
  by_cases hE : PE = 0
  · have hne : (PE != 0) = false := by simp [hE]
    have hfp := hfd hE
    have cf3 := Hcf3.out
    simp only [hfp] at cf3
    have Hcf3 := hid cf3
    clear cf3 hfp
    clear hfd hE
    refine wp_region_held_drew (S := fun W => (W.cell? ⟨w.heap.size, 0, none⟩ = some (.slice da0 dd0.code.length dc0) ∧ W.cell? ⟨w.heap.size, 1, none⟩ = some (.slice da1 dd0.origs.length dc1) ∧ W.cell? ⟨w.heap.size, 2, none⟩ = some (.slice da2 dd0.dests.length dc2) ∧ W.cell? ⟨w.heap.size, 3, none⟩ = some (.slice da3 dd0.loops.length dc3) ∧ W.cell? ⟨w.heap.size, 4, none⟩ = some (.slice da4 dd0.cases.length dc4)) ∧ (W.cell? ⟨X5, 0, none⟩ = some (.slice ma0 PD.code.length mc0) ∧ W.cell? ⟨X5, 1, none⟩ = some (.slice ma1 PD.origs.length mc1) ∧ W.cell? ⟨X5, 2, none⟩ = some (.slice ma2 PD.dests.length mc2) ∧ W.cell? ⟨X5, 3, none⟩ = some (.slice ma3 PD.loops.length mc3) ∧ W.cell? ⟨X5, 4, none⟩ = some (.slice ma4 PD.cases.length mc4)) ∧ (W.cell? ⟨X7, 0, none⟩ = some (.slice na0 PD.code.length nc0) ∧ W.cell? ⟨X7, 1, none⟩ = some (.slice na1 PD.origs.length nc1) ∧ W.cell? ⟨X7, 2, none⟩ = some (.slice na2 PD.dests.length nc2) ∧ W.cell? ⟨X7, 3, none⟩ = some (.slice na3 PD.loops.length nc3) ∧ W.cell? ⟨X7, 4, none⟩ = some (.slice na4 PD.cases.length nc4)) ∧ (W.cell? ⟨X3, 0, none⟩ = some (.slice oa0 dd0.code.length oc0) ∧ W.cell? ⟨X3, 1, none⟩ = some (.slice oa1 dd0.origs.length oc1) ∧ W.cell? ⟨X3, 2, none⟩ = some (.slice oa2 dd0.dests.length oc2) ∧ W.cell? ⟨X3, 3, none⟩ = some (.slice oa3 dd0.loops.length oc3) ∧ W.cell? ⟨X3, 4, none⟩ = some (.slice oa4 dd0.cases.length oc4))) (by kernel_rfl) (Z.out _ hrd.out) (fun hHeld => ?_)
    refine wpAnyH_take (i := 0) (v := ?v1) rfl (by kernel_rfl) (by kernel_rfl) (by kernel_rfl) (fun _ _ _ h => h) (Or.inl ⟨by kernel_rfl, ?h1⟩) hHeld ?r1
    case h1 => intro W hSw; (try dsimp only at hSw); obtain ⟨⟨y00, y01, y02, y03, y04⟩, ⟨y10, y11, y12, y13, y14⟩, ⟨y20, y21, y22, y23, y24⟩, ⟨y30, y31, y32, y33, y34⟩⟩ := hSw; go_simp; try with_reducible rfl
    simp only [Act.put, List.setIfInBounds_toArray, List.set_cons_zero, List.set_cons_succ]
    refine wpAnyH_take (i := 2) (v := ?v2) rfl (by kernel_rfl) (by kernel_rfl) (by kernel_rfl) (fun _ _ _ h => h) (Or.inl ⟨by kernel_rfl, ?h2⟩) hHeld ?r2
    case h2 => intro W hSw; (try dsimp only at hSw); obtain ⟨⟨y00, y01, y02, y03, y04⟩, ⟨y10, y11, y12, y13, y14⟩, ⟨y20, y21, y22, y23, y24⟩, ⟨y30, y31, y32, y33, y34⟩⟩ := hSw; go_simp; try with_reducible rfl
    simp only [Act.put, List.setIfInBounds_toArray, List.set_cons_zero, List.set_cons_succ]
    refine wpAnyH_ready (rs := [1]) (by kernel_rfl) (by simp) ?_
    refine AllReadyH.cons rfl (fun K hK => ?_) AllReadyH.nil
    go_simp
    go_wp2_with (first | (go_at_call 12; refine (Hcf1.out _ hrd.out).mono ?_; rintro e r1 ⟨rfl, d1⟩; have R1 : Hid (Below w7.heap.size w7 r1) := below_trans hrd.out d1; clear d1))
    refine hK.out _ _ (Z.out _ R1.out) (fun hHeld => ?_)
    clear hK K
    refine wpAnyH_ready (rs := [3]) (by kernel_rfl) (by simp) ?_
    refine AllReadyH.cons rfl (fun K hK => ?_) AllReadyH.nil
    go_simp
    go_wp2_with (first | (go_at_call 13; refine (Hcf2.out _ R1.out).mono ?_; rintro e r2 ⟨rfl, d2⟩; have R2 : Hid (Below w7.heap.size w7 r2) := below_trans R1.out d2; clear d2))
    refine hK.out _ _ (Z.out _ R2.out) (fun hHeld => ?_)
    clear hK K
    refine wpAnyH_take (i := 4) (v := ?v3) rfl (by kernel_rfl) (by kernel_rfl) (by kernel_rfl) (fun _ _ _ h => h) (Or.inl ⟨by kernel_rfl, ?h3⟩) hHeld ?r3
    case h3 => intro W hSw; (try dsimp only at hSw); obtain ⟨⟨y00, y01, y02, y03, y04⟩, ⟨y10, y11, y12, y13, y14⟩, ⟨y20, y21, y22, y23, y24⟩, ⟨y30, y31, y32, y33, y34⟩⟩ := hSw; go_simp; try with_reducible rfl
    simp only [Act.put, List.setIfInBounds_toArray, List.set_cons_zero, List.set_cons_succ]
    refine wpAnyH_take (i := 5) (v := ?v4) rfl (by kernel_rfl) (by kernel_rfl) (by kernel_rfl) (fun _ _ _ h => h) (Or.inl ⟨by kernel_rfl, ?h4⟩) hHeld ?r4
    case h4 => intro W hSw; (try dsimp only at hSw); obtain ⟨⟨y00, y01, y02, y03, y04⟩, ⟨y10, y11, y12, y13, y14⟩, ⟨y20, y21, y22, y23, y24⟩, ⟨y30, y31, y32, y33, y34⟩⟩ := hSw; go_simp; try with_reducible rfl
    simp only [Act.put, List.setIfInBounds_toArray, List.set_cons_zero, List.set_cons_succ]
    refine wpAnyH_take (i := 6) (v := ?v5) rfl (by kernel_rfl) (by kernel_rfl) (by kernel_rfl) (fun _ _ _ h => h) (Or.inl ⟨by kernel_rfl, ?h5⟩) hHeld ?r5
    case h5 => intro W hSw; (try dsimp only at hSw); obtain ⟨⟨y00, y01, y02, y03, y04⟩, ⟨y10, y11, y12, y13, y14⟩, ⟨y20, y21, y22, y23, y24⟩, ⟨y30, y31, y32, y33, y34⟩⟩ := hSw; go_simp; try with_reducible rfl
    simp only [Act.put, List.setIfInBounds_toArray, List.set_cons_zero, List.set_cons_succ]
    refine wpAnyH_take (i := 7) (v := ?v6) rfl (by kernel_rfl) (by kernel_rfl) (by kernel_rfl) (fun _ _ _ h => h) (Or.inl ⟨by kernel_rfl, ?h6⟩) hHeld ?r6
    case h6 => intro W hSw; (try dsimp only at hSw); obtain ⟨⟨y00, y01, y02, y03, y04⟩, ⟨y10, y11, y12, y13, y14⟩, ⟨y20, y21, y22, y23, y24⟩, ⟨y30, y31, y32, y33, y34⟩⟩ := hSw; go_simp; try with_reducible rfl
    simp only [Act.put, List.setIfInBounds_toArray, List.set_cons_zero, List.set_cons_succ]
    refine wpAnyH_ready (rs := [8]) (by kernel_rfl) (by simp) ?_
    refine AllReadyH.cons rfl (fun K hK => ?_) AllReadyH.nil
    go_simp
    go_wp2_with (first | (go_at_call 14; refine (Hcs1.out _ R2.out).mono ?_; rintro e r3 ⟨rfl, d3⟩; have R3 : Hid (Below w7.heap.size w7 r3) := below_trans R2.out d3; clear d3))
    refine hK.out _ _ (Z.out _ R3.out) (fun hHeld => ?_)
    clear hK K
    refine wpAnyH_take (i := 9) (v := ?v7) rfl (by kernel_rfl) (by kernel_rfl) (by kernel_rfl) (fun _ _ _ h => h) (Or.inl ⟨by kernel_rfl, ?h7⟩) hHeld ?r7
    case h7 => intro W hSw; (try dsimp only at hSw); obtain ⟨⟨y00, y01, y02, y03, y04⟩, ⟨y10, y11, y12, y13, y14⟩, ⟨y20, y21, y22, y23, y24⟩, ⟨y30, y31, y32, y33, y34⟩⟩ := hSw; go_simp; try with_reducible rfl
    simp only [Act.put, List.setIfInBounds_toArray, List.set_cons_zero, List.set_cons_succ]
    refine wpAnyH_take (i := 10) (v := ?v8) rfl (by kernel_rfl) (by kernel_rfl) (by kernel_rfl) (fun _ _ _ h => h) (Or.inl ⟨by kernel_rfl, ?h8⟩) hHeld ?r8
    case h8 => intro W hSw; (try dsimp only at hSw); obtain ⟨⟨y00, y01, y02, y03, y04⟩, ⟨y10, y11, y12, y13, y14⟩, ⟨y20, y21, y22, y23, y24⟩, ⟨y30, y31, y32, y33, y34⟩⟩ := hSw; go_simp; try with_reducible rfl
    simp only [Act.put, List.setIfInBounds_toArray, List.set_cons_zero, List.set_cons_succ]
    refine wpAnyH_take (i := 11) (v := ?v9) rfl (by kernel_rfl) (by kernel_rfl) (by kernel_rfl) (fun _ _ _ h => h) (Or.inl ⟨by kernel_rfl, ?h9⟩) hHeld ?r9
    case h9 => intro W hSw; (try dsimp only at hSw); obtain ⟨⟨y00, y01, y02, y03, y04⟩, ⟨y10, y11, y12, y13, y14⟩, ⟨y20, y21, y22, y23, y24⟩, ⟨y30, y31, y32, y33, y34⟩⟩ := hSw; go_simp; try with_reducible rfl
    simp only [Act.put, List.setIfInBounds_toArray, List.set_cons_zero, List.set_cons_succ]
    refine wpAnyH_take (i := 12) (v := ?v10) rfl (by kernel_rfl) (by kernel_rfl) (by kernel_rfl) (fun _ _ _ h => h) (Or.inl ⟨by kernel_rfl, ?h10⟩) hHeld ?r10
    case h10 => intro W hSw; (try dsimp only at hSw); obtain ⟨⟨y00, y01, y02, y03, y04⟩, ⟨y10, y11, y12, y13, y14⟩, ⟨y20, y21, y22, y23, y24⟩, ⟨y30, y31, y32, y33, y34⟩⟩ := hSw; go_simp; try with_reducible rfl
    simp only [Act.put, List.setIfInBounds_toArray, List.set_cons_zero, List.set_cons_succ]
    refine wpAnyH_take (i := 13) (v := ?v11) rfl (by kernel_rfl) (by kernel_rfl) (by kernel_rfl) (fun _ _ _ h => h) (Or.inl ⟨by kernel_rfl, ?h11⟩) hHeld ?r11
    case h11 => intro W hSw; (try dsimp only at hSw); obtain ⟨⟨y00, y01, y02, y03, y04⟩, ⟨y10, y11, y12, y13, y14⟩, ⟨y20, y21, y22, y23, y24⟩, ⟨y30, y31, y32, y33, y34⟩⟩ := hSw; go_simp; try with_reducible rfl
    simp only [Act.put, List.setIfInBounds_toArray, List.set_cons_zero, List.set_cons_succ]
    refine wpAnyH_take (i := 14) (v := ?v12) rfl (by kernel_rfl) (by kernel_rfl) (by kernel_rfl) (fun _ _ _ h => h) (Or.inl ⟨by kernel_rfl, ?h12⟩) hHeld ?r12
    case h12 => intro W hSw; (try dsimp only at hSw); obtain ⟨⟨y00, y01, y02, y03, y04⟩, ⟨y10, y11, y12, y13, y14⟩, ⟨y20, y21, y22, y23, y24⟩, ⟨y30, y31, y32, y33, y34⟩⟩ := hSw; go_simp; try with_reducible rfl
    simp only [Act.put, List.setIfInBounds_toArray, List.set_cons_zero, List.set_cons_succ]
    refine wpAnyH_take (i := 15) (v := ?v13) rfl (by kernel_rfl) (by kernel_rfl) (by kernel_rfl) (fun _ _ _ h => h) (Or.inl ⟨by kernel_rfl, ?h13⟩) hHeld ?r13
    case h13 => intro W hSw; (try dsimp only at hSw); obtain ⟨⟨y00, y01, y02, y03, y04⟩, ⟨y10, y11, y12, y13, y14⟩, ⟨y20, y21, y22, y23, y24⟩, ⟨y30, y31, y32, y33, y34⟩⟩ := hSw; go_simp; try with_reducible rfl
    simp only [Act.put, List.setIfInBounds_toArray, List.set_cons_zero, List.set_cons_succ]
    refine wpAnyH_take (i := 16) (v := ?v14) rfl (by kernel_rfl) (by kernel_rfl) (by kernel_rfl) (fun _ _ _ h => h) (Or.inl ⟨by kernel_rfl, ?h14⟩) hHeld ?r14
    case h14 => intro W hSw; (try dsimp only at hSw); obtain ⟨⟨y00, y01, y02, y03, y04⟩, ⟨y10, y11, y12, y13, y14⟩, ⟨y20, y21, y22, y23, y24⟩, ⟨y30, y31, y32, y33, y34⟩⟩ := hSw; go_simp; try with_reducible rfl
    simp only [Act.put, List.setIfInBounds_toArray, List.set_cons_zero, List.set_cons_succ]
    refine wpAnyH_take (i := 17) (v := ?v15) rfl (by kernel_rfl) (by kernel_rfl) (by kernel_rfl) (fun _ _ _ h => h) (Or.inl ⟨by kernel_rfl, ?h15⟩) hHeld ?r15
    case h15 => intro W hSw; (try dsimp only at hSw); obtain ⟨⟨y00, y01, y02, y03, y04⟩, ⟨y10, y11, y12, y13, y14⟩, ⟨y20, y21, y22, y23, y24⟩, ⟨y30, y31, y32, y33, y34⟩⟩ := hSw; go_simp; try with_reducible rfl
    simp only [Act.put, List.setIfInBounds_toArray, List.set_cons_zero, List.set_cons_succ]
    refine wpAnyH_ready (rs := [18]) (by kernel_rfl) (by simp) ?_
    refine AllReadyH.cons rfl (fun K hK => ?_) AllReadyH.nil
    go_simp
    go_wp2_with (first | (go_at_call 14; refine (Hcs2.out _ R3.out).mono ?_; rintro e r4 ⟨rfl, d4⟩; have R4 : Hid (Below w7.heap.size w7 r4) := below_trans R3.out d4; clear d4))
    refine hK.out _ _ (Z.out _ R4.out) (fun hHeld => ?_)
    clear hK K
    refine wpAnyH_take (i := 19) (v := ?v16) rfl (by kernel_rfl) (by kernel_rfl) (by kernel_rfl) (fun _ _ _ h => h) (Or.inl ⟨by kernel_rfl, ?h16⟩) hHeld ?r16
    case h16 => intro W hSw; (try dsimp only at hSw); obtain ⟨⟨y00, y01, y02, y03, y04⟩, ⟨y10, y11, y12, y13, y14⟩, ⟨y20, y21, y22, y23, y24⟩, ⟨y30, y31, y32, y33, y34⟩⟩ := hSw; go_simp; try with_reducible rfl
    simp only [Act.put, List.setIfInBounds_toArray, List.set_cons_zero, List.set_cons_succ]
    refine wpAnyH_take (i := 20) (v := ?v17) rfl (by kernel_rfl) (by kernel_rfl) (by kernel_rfl) (fun _ _ _ h => h) (Or.inl ⟨by kernel_rfl, ?h17⟩) hHeld ?r17
    case h17 => intro W hSw; (try dsimp only at hSw); obtain ⟨⟨y00, y01, y02, y03, y04⟩, ⟨y10, y11, y12, y13, y14⟩, ⟨y20, y21, y22, y23, y24⟩, ⟨y30, y31, y32, y33, y34⟩⟩ := hSw; go_simp; try with_reducible rfl
    simp only [Act.put, List.setIfInBounds_toArray, List.set_cons_zero, List.set_cons_succ]
    refine wpAnyH_take (i := 21) (v := ?v18) rfl (by kernel_rfl) (by kernel_rfl) (by kernel_rfl) (fun _ _ _ h => h) (Or.inl ⟨by kernel_rfl, ?h18⟩) hHeld ?r18
    case h18 => intro W hSw; (try dsimp only at hSw); obtain ⟨⟨y00, y01, y02, y03, y04⟩, ⟨y10, y11, y12, y13, y14⟩, ⟨y20, y21, y22, y23, y24⟩, ⟨y30, y31, y32, y33, y34⟩⟩ := hSw; go_simp; try with_reducible rfl
    simp only [Act.put, List.setIfInBounds_toArray, List.set_cons_zero, List.set_cons_succ]
    refine wpAnyH_take (i := 22) (v := ?v19) rfl (by kernel_rfl) (by kernel_rfl) (by kernel_rfl) (fun _ _ _ h => h) (Or.inl ⟨by kernel_rfl, ?h19⟩) hHeld ?r19
    case h19 => intro W hSw; (try dsimp only at hSw); obtain ⟨⟨y00, y01, y02, y03, y04⟩, ⟨y10, y11, y12, y13, y14⟩, ⟨y20, y21, y22, y23, y24⟩, ⟨y30, y31, y32, y33, y34⟩⟩ := hSw; go_simp; try with_reducible rfl
    simp only [Act.put, List.setIfInBounds_toArray, List.set_cons_zero, List.set_cons_succ]
    refine wpAnyH_take (i := 23) (v := ?v20) rfl (by kernel_rfl) (by kernel_rfl) (by kernel_rfl) (fun _ _ _ h => h) (Or.inl ⟨by kernel_rfl, ?h20⟩) hHeld ?r20
    case h20 => intro W hSw; (try dsimp only at hSw); obtain ⟨⟨y00, y01, y02, y03, y04⟩, ⟨y10, y11, y12, y13, y14⟩, ⟨y20, y21, y22, y23, y24⟩, ⟨y30, y31, y32, y33, y34⟩⟩ := hSw; go_simp; try with_reducible rfl
    simp only [Act.put, List.setIfInBounds_toArray, List.set_cons_zero, List.set_cons_succ]
    refine wpAnyH_take (i := 24) (v := ?v21) rfl (by kernel_rfl) (by kernel_rfl) (by kernel_rfl) (fun _ _ _ h => h) (Or.inl ⟨by kernel_rfl, ?h21⟩) hHeld ?r21
    case h21 => intro W hSw; (try dsimp only at hSw); obtain ⟨⟨y00, y01, y02, y03, y04⟩, ⟨y10, y11, y12, y13, y14⟩, ⟨y20, y21, y22, y23, y24⟩, ⟨y30, y31, y32, y33, y34⟩⟩ := hSw; go_simp; try with_reducible rfl
    simp only [Act.put, List.setIfInBounds_toArray, List.set_cons_zero, List.set_cons_succ]
    refine wpAnyH_ready (rs := [25]) (by kernel_rfl) (by simp) ?_
    refine AllReadyH.cons rfl (fun K hK => ?_) AllReadyH.nil
    go_simp
    go_wp2_with (first | (go_at_call 12; refine (Hcf3.out _ R4.out).mono ?_; rintro e r5 ⟨rfl, d5⟩; have R5 : Hid (Below w7.heap.size w7 r5) := below_trans R4.out d5; clear d5))
    refine hK.out _ _ (Z.out _ R5.out) (fun hHeld => ?_)
    clear hK K
    refine wpAnyH_take (i := 26) (v := ?v22) rfl (by kernel_rfl) (by kernel_rfl) (by kernel_rfl) (fun _ _ _ h => h) (Or.inl ⟨by kernel_rfl, ?h22⟩) hHeld ?r22
    case h22 => intro W hSw; (try dsimp only at hSw); obtain ⟨⟨y00, y01, y02, y03, y04⟩, ⟨y10, y11, y12, y13, y14⟩, ⟨y20, y21, y22, y23, y24⟩, ⟨y30, y31, y32, y33, y34⟩⟩ := hSw; go_simp; try with_reducible rfl
    simp only [Act.put, List.setIfInBounds_toArray, List.set_cons_zero, List.set_cons_succ]
    refine wpAnyH_take (i := 27) (v := ?v23) rfl (by kernel_rfl) (by kernel_rfl) (by kernel_rfl) (fun _ _ _ h => h) (Or.inl ⟨by kernel_rfl, ?h23⟩) hHeld ?r23
    case h23 => intro W hSw; (try dsimp only at hSw); obtain ⟨⟨y00, y01, y02, y03, y04⟩, ⟨y10, y11, y12, y13, y14⟩, ⟨y20, y21, y22, y23, y24⟩, ⟨y30, y31, y32, y33, y34⟩⟩ := hSw; go_simp; try with_reducible rfl
    simp only [Act.put, List.setIfInBounds_toArray, List.set_cons_zero, List.set_cons_succ]
    refine wpAnyH_ready (rs := [28]) (by kernel_rfl) (by simp) ?_
    refine AllReadyH.cons rfl (fun K hK => ?_) AllReadyH.nil
    go_simp
    refine hK.out _ _ (Z.out _ R5.out) (fun hHeld => ?_)
    clear hK K
    refine wpAnyH_done (by kernel_rfl) ?_ _
    go_wp2_with fail
    go_ret
    exact ⟨by simp, below_trans BWH.out R5.out⟩
  · have hne : (PE != 0) = true := by simp [hE]
    clear hfd hE
    refine wp_region_held_drew (S := fun W => (W.cell? ⟨w.heap.size, 0, none⟩ = some (.slice da0 dd0.code.length dc0) ∧ W.cell? ⟨w.heap.size, 1, none⟩ = some (.slice da1 dd0.origs.length dc1) ∧ W.cell? ⟨w.heap.size, 2, none⟩ = some (.slice da2 dd0.dests.length dc2) ∧ W.cell? ⟨w.heap.size, 3, none⟩ = some (.slice da3 dd0.loops.length dc3) ∧ W.cell? ⟨w.heap.size, 4, none⟩ = some (.slice da4 dd0.cases.length dc4)) ∧ (W.cell? ⟨X5, 0, none⟩ = some (.slice ma0 PD.code.length mc0) ∧ W.cell? ⟨X5, 1, none⟩ = some (.slice ma1 PD.origs.length mc1) ∧ W.cell? ⟨X5, 2, none⟩ = some (.slice ma2 PD.dests.length mc2) ∧ W.cell? ⟨X5, 3, none⟩ = some (.slice ma3 PD.loops.length mc3) ∧ W.cell? ⟨X5, 4, none⟩ = some (.slice ma4 PD.cases.length mc4)) ∧ (W.cell? ⟨X7, 0, none⟩ = some (.slice na0 PD.code.length nc0) ∧ W.cell? ⟨X7, 1, none⟩ = some (.slice na1 PD.origs.length nc1) ∧ W.cell? ⟨X7, 2, none⟩ = some (.slice na2 PD.dests.length nc2) ∧ W.cell? ⟨X7, 3, none⟩ = some (.slice na3 PD.loops.length nc3) ∧ W.cell? ⟨X7, 4, none⟩ = some (.slice na4 PD.cases.length nc4)) ∧ (W.cell? ⟨X3, 0, none⟩ = some (.slice oa0 dd0.code.length oc0) ∧ W.cell? ⟨X3, 1, none⟩ = some (.slice oa1 dd0.origs.length oc1) ∧ W.cell? ⟨X3, 2, none⟩ = some (.slice oa2 dd0.dests.length oc2) ∧ W.cell? ⟨X3, 3, none⟩ = some (.slice oa3 dd0.loops.length oc3) ∧ W.cell? ⟨X3, 4, none⟩ = some (.slice oa4 dd0.cases.length oc4))) (by kernel_rfl) (Z.out _ hrd.out) (fun hHeld => ?_)
    refine wpAnyH_take (i := 0) (v := ?v24) rfl (by kernel_rfl) (by kernel_rfl) (by kernel_rfl) (fun _ _ _ h => h) (Or.inl ⟨by kernel_rfl, ?h24⟩) hHeld ?r24
    case h24 => intro W hSw; (try dsimp only at hSw); obtain ⟨⟨y00, y01, y02, y03, y04⟩, ⟨y10, y11, y12, y13, y14⟩, ⟨y20, y21, y22, y23, y24⟩, ⟨y30, y31, y32, y33, y34⟩⟩ := hSw; go_simp; try with_reducible rfl
    simp only [Act.put, List.setIfInBounds_toArray, List.set_cons_zero, List.set_cons_succ]
    refine wpAnyH_take (i := 2) (v := ?v25) rfl (by kernel_rfl) (by kernel_rfl) (by kernel_rfl) (fun _ _ _ h => h) (Or.inl ⟨by kernel_rfl, ?h25⟩) hHeld ?r25
    case h25 => intro W hSw; (try dsimp only at hSw); obtain ⟨⟨y00, y01, y02, y03, y04⟩, ⟨y10, y11, y12, y13, y14⟩, ⟨y20, y21, y22, y23, y24⟩, ⟨y30, y31, y32, y33, y34⟩⟩ := hSw; go_simp; try with_reducible rfl
    simp only [Act.put, List.setIfInBounds_toArray, List.set_cons_zero, List.set_cons_succ]
    refine wpAnyH_ready (rs := [1]) (by kernel_rfl) (by simp) ?_
    refine AllReadyH.cons rfl (fun K hK => ?_) AllReadyH.nil
    go_simp
    go_wp2_with (first | (go_at_call 12; refine (Hcf1.out _ hrd.out).mono ?_; rintro e r1 ⟨rfl, d1⟩; have R1 : Hid (Below w7.heap.size w7 r1) := below_trans hrd.out d1; clear d1))
    refine hK.out _ _ (Z.out _ R1.out) (fun hHeld => ?_)
    clear hK K
    refine wpAnyH_ready (rs := [3]) (by kernel_rfl) (by simp) ?_
    refine AllReadyH.cons rfl (fun K hK => ?_) AllReadyH.nil
    go_simp
    go_wp2_with (first | (go_at_call 13; refine (Hcf2.out _ R1.out).mono ?_; rintro e r2 ⟨rfl, d2⟩; have R2 : Hid (Below w7.heap.size w7 r2) := below_trans R1.out d2; clear d2))
    refine hK.out _ _ (Z.out _ R2.out) (fun hHeld => ?_)
    clear hK K
    refine wpAnyH_take (i := 4) (v := ?v26) rfl (by kernel_rfl) (by kernel_rfl) (by kernel_rfl) (fun _ _ _ h => h) (Or.inl ⟨by kernel_rfl, ?h26⟩) hHeld ?r26
    case h26 => intro W hSw; (try dsimp only at hSw); obtain ⟨⟨y00, y01, y02, y03, y04⟩, ⟨y10, y11, y12, y13, y14⟩, ⟨y20, y21, y22, y23, y24⟩, ⟨y30, y31, y32, y33, y34⟩⟩ := hSw; go_simp; try with_reducible rfl
    simp only [Act.put, List.setIfInBounds_toArray, List.set_cons_zero, List.set_cons_succ]
    refine wpAnyH_take (i := 5) (v := ?v27) rfl (by kernel_rfl) (by kernel_rfl) (by kernel_rfl) (fun _ _ _ h => h) (Or.inl ⟨by kernel_rfl, ?h27⟩) hHeld ?r27
    case h27 => intro W hSw; (try dsimp only at hSw); obtain ⟨⟨y00, y01, y02, y03, y04⟩, ⟨y10, y11, y12, y13, y14⟩, ⟨y20, y21, y22, y23, y24⟩, ⟨y30, y31, y32, y33, y34⟩⟩ := hSw; go_simp; try with_reducible rfl
    simp only [Act.put, List.setIfInBounds_toArray, List.set_cons_zero, List.set_cons_succ]
    refine wpAnyH_take (i := 6) (v := ?v28) rfl (by kernel_rfl) (by kernel_rfl) (by kernel_rfl) (fun _ _ _ h => h) (Or.inl ⟨by kernel_rfl, ?h28⟩) hHeld ?r28
    case h28 => intro W hSw; (try dsimp only at hSw); obtain ⟨⟨y00, y01, y02, y03, y04⟩, ⟨y10, y11, y12, y13, y14⟩, ⟨y20, y21, y22, y23, y24⟩, ⟨y30, y31, y32, y33, y34⟩⟩ := hSw; go_simp; try with_reducible rfl
    simp only [Act.put, List.setIfInBounds_toArray, List.set_cons_zero, List.set_cons_succ]
    refine wpAnyH_take (i := 7) (v := ?v29) rfl (by kernel_rfl) (by kernel_rfl) (by kernel_rfl) (fun _ _ _ h => h) (Or.inl ⟨by kernel_rfl, ?h29⟩) hHeld ?r29
    case h29 => intro W hSw; (try dsimp only at hSw); obtain ⟨⟨y00, y01, y02, y03, y04⟩, ⟨y10, y11, y12, y13, y14⟩, ⟨y20, y21, y22, y23, y24⟩, ⟨y30, y31, y32, y33, y34⟩⟩ := hSw; go_simp; try with_reducible rfl
    simp only [Act.put, List.setIfInBounds_toArray, List.set_cons_zero, List.set_cons_succ]
    refine wpAnyH_ready (rs := [8]) (by kernel_rfl) (by simp) ?_
    refine AllReadyH.cons rfl (fun K hK => ?_) AllReadyH.nil
    go_simp
    go_wp2_with (first | (go_at_call 14; refine (Hcs1.out _ R2.out).mono ?_; rintro e r3 ⟨rfl, d3⟩; have R3 : Hid (Below w7.heap.size w7 r3) := below_trans R2.out d3; clear d3))
    refine hK.out _ _ (Z.out _ R3.out) (fun hHeld => ?_)
    clear hK K
    refine wpAnyH_take (i := 9) (v := ?v30) rfl (by kernel_rfl) (by kernel_rfl) (by kernel_rfl) (fun _ _ _ h => h) (Or.inl ⟨by kernel_rfl, ?h30⟩) hHeld ?r30
    case h30 => intro W hSw; (try dsimp only at hSw); obtain ⟨⟨y00, y01, y02, y03, y04⟩, ⟨y10, y11, y12, y13, y14⟩, ⟨y20, y21, y22, y23, y24⟩, ⟨y30, y31, y32, y33, y34⟩⟩ := hSw; go_simp; try with_reducible rfl
    simp only [Act.put, List.setIfInBounds_toArray, List.set_cons_zero, List.set_cons_succ]
    refine wpAnyH_take (i := 10) (v := ?v31) rfl (by kernel_rfl) (by kernel_rfl) (by kernel_rfl) (fun _ _ _ h => h) (Or.inl ⟨by kernel_rfl, ?h31⟩) hHeld ?r31
    case h31 => intro W hSw; (try dsimp only at hSw); obtain ⟨⟨y00, y01, y02, y03, y04⟩, ⟨y10, y11, y12, y13, y14⟩, ⟨y20, y21, y22, y23, y24⟩, ⟨y30, y31, y32, y33, y34⟩⟩ := hSw; go_simp; try with_reducible rfl
    simp only [Act.put, List.setIfInBounds_toArray, List.set_cons_zero, List.set_cons_succ]
    refine wpAnyH_take (i := 11) (v := ?v32) rfl (by kernel_rfl) (by kernel_rfl) (by kernel_rfl) (fun _ _ _ h => h) (Or.inl ⟨by kernel_rfl, ?h32⟩) hHeld ?r32
    case h32 => intro W hSw; (try dsimp only at hSw); obtain ⟨⟨y00, y01, y02, y03, y04⟩, ⟨y10, y11, y12, y13, y14⟩, ⟨y20, y21, y22, y23, y24⟩, ⟨y30, y31, y32, y33, y34⟩⟩ := hSw; go_simp; try with_reducible rfl
    simp only [Act.put, List.setIfInBounds_toArray, List.set_cons_zero, List.set_cons_succ]
    refine wpAnyH_take (i := 12) (v := ?v33) rfl (by kernel_rfl) (by kernel_rfl) (by kernel_rfl) (fun _ _ _ h => h) (Or.inl ⟨by kernel_rfl, ?h33⟩) hHeld ?r33
    case h33 => intro W hSw; (try dsimp only at hSw); obtain ⟨⟨y00, y01, y02, y03, y04⟩, ⟨y10, y11, y12, y13, y14⟩, ⟨y20, y21, y22, y23, y24⟩, ⟨y30, y31, y32, y33, y34⟩⟩ := hSw; go_simp; try with_reducible rfl
    simp only [Act.put, List.setIfInBounds_toArray, List.set_cons_zero, List.set_cons_succ]
    refine wpAnyH_take (i := 13) (v := ?v34) rfl (by kernel_rfl) (by kernel_rfl) (by kernel_rfl) (fun _ _ _ h => h) (Or.inl ⟨by kernel_rfl, ?h34⟩) hHeld ?r34
    case h34 => intro W hSw; (try dsimp only at hSw); obtain ⟨⟨y00, y01, y02, y03, y04⟩, ⟨y10, y11, y12, y13, y14⟩, ⟨y20, y21, y22, y23, y24⟩, ⟨y30, y31, y32, y33, y34⟩⟩ := hSw; go_simp; try with_reducible rfl
    simp only [Act.put, List.setIfInBounds_toArray, List.set_cons_zero, List.set_cons_succ]
    refine wpAnyH_take (i := 14) (v := ?v35) rfl (by kernel_rfl) (by kernel_rfl) (by kernel_rfl) (fun _ _ _ h => h) (Or.inl ⟨by kernel_rfl, ?h35⟩) hHeld ?r35
    case h35 => intro W hSw; (try dsimp only at hSw); obtain ⟨⟨y00, y01, y02, y03, y04⟩, ⟨y10, y11, y12, y13, y14⟩, ⟨y20, y21, y22, y23, y24⟩, ⟨y30, y31, y32, y33, y34⟩⟩ := hSw; go_simp; try with_reducible rfl
    simp only [Act.put, List.setIfInBounds_toArray, List.set_cons_zero, List.set_cons_succ]
    refine wpAnyH_take (i := 15) (v := ?v36) rfl (by kernel_rfl) (by kernel_rfl) (by kernel_rfl) (fun _ _ _ h => h) (Or.inl ⟨by kernel_rfl, ?h36⟩) hHeld ?r36
    case h36 => intro W hSw; (try dsimp only at hSw); obtain ⟨⟨y00, y01, y02, y03, y04⟩, ⟨y10, y11, y12, y13, y14⟩, ⟨y20, y21, y22, y23, y24⟩, ⟨y30, y31, y32, y33, y34⟩⟩ := hSw; go_simp; try with_reducible rfl
    simp only [Act.put, List.setIfInBounds_toArray, List.set_cons_zero, List.set_cons_succ]
    refine wpAnyH_take (i := 16) (v := ?v37) rfl (by kernel_rfl) (by kernel_rfl) (by kernel_rfl) (fun _ _ _ h => h) (Or.inl ⟨by kernel_rfl, ?h37⟩) hHeld ?r37
    case h37 => intro W hSw; (try dsimp only at hSw); obtain ⟨⟨y00, y01, y02, y03, y04⟩, ⟨y10, y11, y12, y13, y14⟩, ⟨y20, y21, y22, y23, y24⟩, ⟨y30, y31, y32, y33, y34⟩⟩ := hSw; go_simp; try with_reducible rfl
    simp only [Act.put, List.setIfInBounds_toArray, List.set_cons_zero, List.set_cons_succ]
    refine wpAnyH_take (i := 17) (v := ?v38) rfl (by kernel_rfl) (by kernel_rfl) (by kernel_rfl) (fun _ _ _ h => h) (Or.inl ⟨by kernel_rfl, ?h38⟩) hHeld ?r38
    case h38 => intro W hSw; (try dsimp only at hSw); obtain ⟨⟨y00, y01, y02, y03, y04⟩, ⟨y10, y11, y12, y13, y14⟩, ⟨y20, y21, y22, y23, y24⟩, ⟨y30, y31, y32, y33, y34⟩⟩ := hSw; go_simp; try with_reducible rfl
    simp only [Act.put, List.setIfInBounds_toArray, List.set_cons_zero, List.set_cons_succ]
    refine wpAnyH_ready (rs := [18]) (by kernel_rfl) (by simp) ?_
    refine AllReadyH.cons rfl (fun K hK => ?_) AllReadyH.nil
    go_simp
    go_wp2_with (first | (go_at_call 14; refine (Hcs2.out _ R3.out).mono ?_; rintro e r4 ⟨rfl, d4⟩; have R4 : Hid (Below w7.heap.size w7 r4) := below_trans R3.out d4; clear d4))
    refine hK.out _ _ (Z.out _ R4.out) (fun hHeld => ?_)
    clear hK K
    refine wpAnyH_take (i := 19) (v := ?v39) rfl (by kernel_rfl) (by kernel_rfl) (by kernel_rfl) (fun _ _ _ h => h) (Or.inl ⟨by kernel_rfl, ?h39⟩) hHeld ?r39
    case h39 => intro W hSw; (try dsimp only at hSw); obtain ⟨⟨y00, y01, y02, y03, y04⟩, ⟨y10, y11, y12, y13, y14⟩, ⟨y20, y21, y22, y23, y24⟩, ⟨y30, y31, y32, y33, y34⟩⟩ := hSw; go_simp; try with_reducible rfl
    simp only [Act.put, List.setIfInBounds_toArray, List.set_cons_zero, List.set_cons_succ]
    refine wpAnyH_take (i := 20) (v := ?v40) rfl (by kernel_rfl) (by kernel_rfl) (by kernel_rfl) (fun _ _ _ h => h) (Or.inl ⟨by kernel_rfl, ?h40⟩) hHeld ?r40
    case h40 => intro W hSw; (try dsimp only at hSw); obtain ⟨⟨y00, y01, y02, y03, y04⟩, ⟨y10, y11, y12, y13, y14⟩, ⟨y20, y21, y22, y23, y24⟩, ⟨y30, y31, y32, y33, y34⟩⟩ := hSw; go_simp; try with_reducible rfl
    simp only [Act.put, List.setIfInBounds_toArray, List.set_cons_zero, List.set_cons_succ]
    refine wpAnyH_take (i := 21) (v := ?v41) rfl (by kernel_rfl) (by kernel_rfl) (by kernel_rfl) (fun _ _ _ h => h) (Or.inl ⟨by kernel_rfl, ?h41⟩) hHeld ?r41
    case h41 => intro W hSw; (try dsimp only at hSw); obtain ⟨⟨y00, y01, y02, y03, y04⟩, ⟨y10, y11, y12, y13, y14⟩, ⟨y20, y21, y22, y23, y24⟩, ⟨y30, y31, y32, y33, y34⟩⟩ := hSw; go_simp; try with_reducible rfl
    simp only [Act.put, List.setIfInBounds_toArray, List.set_cons_zero, List.set_cons_succ]
    refine wpAnyH_take (i := 22) (v := ?v42) rfl (by kernel_rfl) (by kernel_rfl) (by kernel_rfl) (fun _ _ _ h => h) (Or.inl ⟨by kernel_rfl, ?h42⟩) hHeld ?r42
    case h42 => intro W hSw; (try dsimp only at hSw); obtain ⟨⟨y00, y01, y02, y03, y04⟩, ⟨y10, y11, y12, y13, y14⟩, ⟨y20, y21, y22, y23, y24⟩, ⟨y30, y31, y32, y33, y34⟩⟩ := hSw; go_simp; try with_reducible rfl
    simp only [Act.put, List.setIfInBounds_toArray, List.set_cons_zero, List.set_cons_succ]
    refine wpAnyH_take (i := 23) (v := ?v43) rfl (by kernel_rfl) (by kernel_rfl) (by kernel_rfl) (fun _ _ _ h => h) (Or.inl ⟨by kernel_rfl, ?h43⟩) hHeld ?r43
    case h43 => intro W hSw; (try dsimp only at hSw); obtain ⟨⟨y00, y01, y02, y03, y04⟩, ⟨y10, y11, y12, y13, y14⟩, ⟨y20, y21, y22, y23, y24⟩, ⟨y30, y31, y32, y33, y34⟩⟩ := hSw; go_simp; try with_reducible rfl
    simp only [Act.put, List.setIfInBounds_toArray, List.set_cons_zero, List.set_cons_succ]
    refine wpAnyH_take (i := 24) (v := undef) rfl (by kernel_rfl) (by kernel_rfl) (by kernel_rfl) (fun _ _ _ h => h) (Or.inr ⟨by kernel_rfl, rfl⟩) hHeld ?_
    simp only [Act.put, List.setIfInBounds_toArray, List.set_cons_zero, List.set_cons_succ]
    refine wpAnyH_ready (rs := [25]) (by kernel_rfl) (by simp) ?_
    refine AllReadyH.cons rfl (fun K hK => ?_) AllReadyH.nil
    go_simp
    refine hK.out _ _ (Z.out _ R4.out) (fun hHeld => ?_)
    clear hK K
    refine wpAnyH_take (i := 26) (v := ?v44) rfl (by kernel_rfl) (by kernel_rfl) (by kernel_rfl) (fun _ _ _ h => h) (Or.inl ⟨by kernel_rfl, ?h44⟩) hHeld ?r44
    case h44 => intro W hSw; (try dsimp only at hSw); obtain ⟨⟨y00, y01, y02, y03, y04⟩, ⟨y10, y11, y12, y13, y14⟩, ⟨y20, y21, y22, y23, y24⟩, ⟨y30, y31, y32, y33, y34⟩⟩ := hSw; go_simp; try with_reducible rfl
    simp only [Act.put, List.setIfInBounds_toArray, List.set_cons_zero, List.set_cons_succ]
    refine wpAnyH_take (i := 27) (v := ?v45) rfl (by kernel_rfl) (by kernel_rfl) (by kernel_rfl) (fun _ _ _ h => h) (Or.inl ⟨by kernel_rfl, ?h45⟩) hHeld ?r45
    case h45 => intro W hSw; (try dsimp only at hSw); obtain ⟨⟨y00, y01, y02, y03, y04⟩, ⟨y10, y11, y12, y13, y14⟩, ⟨y20, y21, y22, y23, y24⟩, ⟨y30, y31, y32, y33, y34⟩⟩ := hSw; go_simp; try with_reducible rfl
    simp only [Act.put, List.setIfInBounds_toArray, List.set_cons_zero, List.set_cons_succ]
    refine wpAnyH_ready (rs := [28]) (by kernel_rfl) (by simp) ?_
    refine AllReadyH.cons rfl (fun K hK => ?_) AllReadyH.nil
    go_simp
    refine hK.out _ _ (Z.out _ R4.out) (fun hHeld => ?_)
    clear hK K
    refine wpAnyH_done (by kernel_rfl) ?_ _
    go_wp2_with fail
    go_ret
    exact ⟨by simp, below_trans BWH.out R4.out⟩

set_option maxRecDepth 100000 in
theorem lifted (os : Os) (started : os.Started) (H : Type) (enc : TypeId × Value → H) :
    ReturnsInHanded {} Try.checked os 3 .any (Rows.codeActsSpec.pre6 enc Try.prog Try.f3 Rows.codeActsRow.domain false) (Rows.codeActsSpec.post enc Try.prog Try.f3 false true false false) := by
  refine returnsInHanded_of_change_sized (C := Try.checked) own started (by kernel_rfl) Try.func3
    (ChangeSpec.witness6 (enc := enc) (C := Try.checked) false ⟨#[], #[.agg #[.slice none 0 0, .slice none 0 0, .slice none 0 0, .slice none 0 0, .slice none 0 0], .int .i64 0], []⟩ 8 (by kernel_rfl) (by kernel_rfl) (by kernel_rfl) (by kernel_rfl)) ?_
  intro W base args ds gs before hval0 hW hcnd hsz0 _
  have hval : ∀ (j : Nat) t v, Try.f3.params[j]? = some t → args[j]? = some v → Value.okWide Try.prog W .any base t v := hval0
  have hsz : (DataW.weightsEach Try.prog (Try.f3.params.toList ++ Rows.codeActsSpec.plain.varTypes Try.prog) (ds ++ gs)).all (· ≤ reachBytes) = true := hsz0
  have hW' := hW
  obtain ⟨p, q, hA0, hV, rfl, hfz, hnd⟩ := hW
  have hA : DataW.TrodAll enc Try.prog W 0 (fun _ => true) true Try.f3.params.toList args.toList ds p := hA0
  rw [Try.params3] at hA hval hsz
  obtain ⟨v0, vs0, d0, ds0, p0, q0, hargs, rfl, rfl, h0, r0⟩ := trodAll_cons hA
  obtain ⟨v1, vs1, d1, ds1, p1, q1, rfl, rfl, rfl, h1, r1⟩ := trodAll_cons r0
  obtain ⟨rfl, rfl, rfl⟩ := trodAll_nil r1
  obtain rfl : args = #[v0, v1] := by cases args; simp_all
  obtain ⟨rfl, rfl⟩ := trodVars_none hV
  have k0 := h0
  have lt0 : ∀ x ∈ p0, x.block < W.heap.size := by obtain ⟨m, hm⟩ := k0; exact DataW.trod_lt m _ _ _ hm
  obtain ⟨dv0, dd0, rfl, r100, g0⟩ := dft_open (hval 0 26 v0 rfl rfl) h0 (fun n hn => by simpa using List.all_eq_true.1 hsz n (DataW.weights_mem_each (j := 0) (t := 26) (d := d0) rfl rfl n hn))
  obtain ⟨a1, rfl, rfl, rfl, w1⟩ := open_int Try.underlying3 (hval 1 3 v1 rfl rfl) h1
  clear hA0 hval0 hsz0
  refine (walk dv0 dd0 a1 W r100 g0 w1).mono fun e W' ⟨he, bel⟩ => ?_
  subst he
  exact ⟨_, rfl, _, _, _, [], _, [], hW', trodAll_mk1 (shut_bool Try.underlying4 _), (trodAll_cons_mk (Below.trod laidOut (by kernel_rfl) (of_decide_eq_true (by kernel_rfl)) k0 bel lt0) (trodAll_cons_mk (shut_int Try.underlying3 w1) trodAll_mk0)), rfl, bel.frame _, fun h => by cases h⟩

theorem over : Rows.codeActsRow.holds Try.pinned (OpenSpec.ofChange Rows.codeActsSpec) :=
  OpenClaim.holds_of_wide 3 Try.f3 rfl rfl rfl rfl rfl rfl rfl ⟨rfl, rfl, rfl, rfl, rfl⟩ rfl rfl rfl rfl rfl (by kernel_rfl) Try.func3 (by kernel_rfl)
    (of_decide_eq_true (by kernel_rfl)) (by unfold Func.isWrapper; first | (rw [if_pos (by decide +kernel)]; kernel_rfl) | (rw [if_neg (by decide +kernel)]; exact ⟨rfl, rfl⟩))
    (fun os started H enc _ => lifted os started H enc)
end Go.Proofs.Ytfmpeminfcehaaa.codeActs
namespace Go.Proofs.Ytfmpeminfcehaaa
theorem codeActs_holds : Rows.CodeActsSaid := codeActs.over
#print axioms codeActs_holds
end Go.Proofs.Ytfmpeminfcehaaa
