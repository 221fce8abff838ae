/-
  twin of the landed package code.
-/
import Derived.Test.YtfmpeminfcehaaaCk3
import Derived.Deep.RegionHeld2
namespace Go.Proofs.Ytfmpeminfcehaaa
open Go.ChangeShapes Go.WideShapes Go.ChangeAt Go.RowKit
set_option linter.unusedVariables false
set_option linter.unusedSimpArgs false

theorem res_row1 {P : Program} {fn : Func} {p : Tmp} {ty : TypeId} (h : fn.results = #[.cell p ty]) (tmps : Array Value) (w : World) (g : Nat) (t : TypeId) (cs : Array Value) (fr : Nat × Nat) (d : TypeDesc)
    (hp : tmps.getD p undef = .pointer (some ⟨g, 0, none⟩)) (hg : w.heap[g]? = some (.cells cs t fr))
    (hu : P.underlying ty = some d) (hd : (match d with | .struct _ | .array _ _ => true | _ => false) = true) (hi : (P.info? ty).map (·.size) = some cs.size) :
    (results fn tmps).run P w = .ok (.agg cs) w := by
  have hp' : tmps[p]?.getD undef = .pointer (some ⟨g, 0, none⟩) := by simpa using hp
  simp [results, h, hp', asAddr, run_loadVar_row w g t ty cs fr d hg hu hd hi]
theorem set5b {w w' : World} (h : Below w.heap.size w w') (g : Nat) (hg : w.heap.size ≤ g) (a0 a1 a2 a3 a4 : Value) : Below w.heap.size w (((((w'.setCell ⟨g, 0, none⟩ a0).setCell ⟨g, 1, none⟩ a1).setCell ⟨g, 2, none⟩ a2).setCell ⟨g, 3, none⟩ a3).setCell ⟨g, 4, none⟩ a4) :=
  below_set (below_set (below_set (below_set (below_set h _ _ _ hg) _ _ _ hg) _ _ _ hg) _ _ _ hg) _ _ _ hg

set_option maxHeartbeats 8000000 in
set_option maxRecDepth 100000 in
theorem w_p10twin (v : Dv) (d : Dft) (w : World) (h : RdD w v d) (z : szD d) :
    Calls Try.prog 22 #[.agg v.cs] w fun e w' => ∃ v1 b1 b2 b3, e = .returned (.agg v1.cs) ∧ OwD w.heap.size w' v1 d b1 b2 b3 ∧ Below w.heap.size w w' := by
  have cO := fun W (b : Below w.heap.size w W) => w_p10cloneOps v.vc d.code W (h.code.below b) z.code
  have cA := fun W (b : Below w.heap.size w W) => w_p10cloneJ v.vo d.origs W (h.origs.below b) z.origs
  have cD := fun W (b : Below w.heap.size w W) => w_p10cloneJ v.vd d.dests W (h.dests.below b) z.dests
  have cL := fun W (b : Below w.heap.size w W) => w_p10twins v.vl d.loops W (h.loops.below b) z.loops z.loopO
  have cK := fun W (b : Below w.heap.size w W) => w_p10twins v.vk d.cases W (h.cases.below b) z.cases z.caseO
  have s0 := (stands_new w v.cs 26).below (box_below _ (.cells #[.slice none 0 0, .slice none 0 0, .slice none 0 0, .slice none 0 0, .slice none 0 0] 26))
  have s2 := stands_new (w.alloc (.cells v.cs 26)) #[.slice none 0 0, .slice none 0 0, .slice none 0 0, .slice none 0 0, .slice none 0 0] 26
  rw [size_al] at s2
  have bw := below_trans (box_below w (.cells v.cs 26)) (box_below _ (.cells #[.slice none 0 0, .slice none 0 0, .slice none 0 0, .slice none 0 0, .slice none 0 0] 26))
  clear h z
  obtain ⟨x0, x1, x2, x3, x4⟩ := v
  simp only [Dv.cs] at cO cA cD cL cK s0 s2 bw ⊢
  go_enter Try.func22, Try.ntmps22
  go_upto_region 1 with fail
  generalize (w.alloc (.cells #[x0, x1, x2, x3, x4] 26)).alloc (.cells #[.slice none 0 0, .slice none 0 0, .slice none 0 0, .slice none 0 0, .slice none 0 0] 26) = W0 at s0 s2 bw ⊢
  have Z : Hid (∀ W, Below W0.heap.size W0 W → W.cell? ⟨w.heap.size, 0, none⟩ = some x0 ∧ W.cell? ⟨w.heap.size, 1, none⟩ = some x1 ∧ W.cell? ⟨w.heap.size, 2, none⟩ = some x2 ∧ W.cell? ⟨w.heap.size, 3, none⟩ = some x3 ∧ W.cell? ⟨w.heap.size, 4, none⟩ = some x4) := by
    show ∀ W, _
    intro W q
    have s := s0.below q
    exact ⟨s.cell 0 _ rfl, s.cell 1 _ rfl, s.cell 2 _ rfl, s.cell 3 _ rfl, s.cell 4 _ rfl⟩
  have ZS : Hid (∀ W a0 a1 a2 a3 a4, Below W0.heap.size W0 W → (fun W => W.cell? ⟨w.heap.size, 0, none⟩ = some x0 ∧ W.cell? ⟨w.heap.size, 1, none⟩ = some x1 ∧ W.cell? ⟨w.heap.size, 2, none⟩ = some x2 ∧ W.cell? ⟨w.heap.size, 3, none⟩ = some x3 ∧ W.cell? ⟨w.heap.size, 4, none⟩ = some x4) (((((W.setCell ⟨w.heap.size + 1, 0, none⟩ a0).setCell ⟨w.heap.size + 1, 1, none⟩ a1).setCell ⟨w.heap.size + 1, 2, none⟩ a2).setCell ⟨w.heap.size + 1, 3, none⟩ a3).setCell ⟨w.heap.size + 1, 4, none⟩ a4)) := by
    show ∀ W, _
    intro W a0 a1 a2 a3 a4 q
    have s := (((((s0.below q).other (b' := w.heap.size + 1) 0 a0 (by omega)).other (b' := w.heap.size + 1) 1 a1 (by omega)).other (b' := w.heap.size + 1) 2 a2 (by omega)).other (b' := w.heap.size + 1) 3 a3 (by omega)).other (b' := w.heap.size + 1) 4 a4 (by omega)
    exact ⟨s.cell 0 _ rfl, s.cell 1 _ rfl, s.cell 2 _ rfl, s.cell 3 _ rfl, s.cell 4 _ rfl⟩
  have hrd : Hid (Below W0.heap.size W0 W0.drew) := below_drewN (Below.refl _ _) 1
  have BW : Hid (Below w.heap.size w W0) := bw
  have S2 := hid s2
  clear bw s0 s2
  have zf := fun W (q : Below W0.heap.size W0 W) => (S2.out.below q).free
  have zz := fun W (q : Below W0.heap.size W0 W) j u hj => (S2.out.below q).cell j u hj
  go_region_held2 (fun W => W.cell? ⟨w.heap.size, 0, none⟩ = some x0 ∧ W.cell? ⟨w.heap.size, 1, none⟩ = some x1 ∧ W.cell? ⟨w.heap.size, 2, none⟩ = some x2 ∧ W.cell? ⟨w.heap.size, 3, none⟩ = some x3 ∧ W.cell? ⟨w.heap.size, 4, none⟩ = some x4) (first | with_reducible exact Z.out _ hrd.out | with_reducible exact Z.out _ R2.out | with_reducible exact Z.out _ R3.out | with_reducible exact Z.out _ R4.out | with_reducible exact Z.out _ R5.out | with_reducible exact Z.out _ R6.out | with_reducible exact ZS.out _ _ _ _ _ _ R6.out)
    (first | (go_at_call 37; refine (cK _ (below_trans BW.out R5.out)).mono ?_; rintro e q6 ⟨v5, rfl, o5, d5⟩; have R6 : Hid (Below W0.heap.size W0 q6) := below_trans R5.out d5; obtain ⟨cs5, r5⟩ := o5.own.row; obtain ⟨a5, c5, e5⟩ := own_form r5; subst e5; have z0 := zz _ R6.out 0 _ rfl; have z1 := zz _ R6.out 1 _ rfl; have z2 := zz _ R6.out 2 _ rfl; have z3 := zz _ R6.out 3 _ rfl; have z4 := zz _ R6.out 4 _ rfl; have zq := zf _ R6.out) | (go_at_call 37; refine (cL _ (below_trans BW.out R4.out)).mono ?_; rintro e q5 ⟨v4, rfl, o4, d4⟩; have R5 : Hid (Below W0.heap.size W0 q5) := below_trans R4.out d4; obtain ⟨cs4, r4⟩ := o4.own.row; obtain ⟨a4, c4, e4⟩ := own_form r4; subst e4) | (go_at_call 36; refine (cD _ (below_trans BW.out R3.out)).mono ?_; rintro e q4 ⟨v3, rfl, o3, d3⟩; have R4 : Hid (Below W0.heap.size W0 q4) := below_trans R3.out d3; obtain ⟨a3, c3, e3⟩ := own_form o3; subst e3) | (go_at_call 36; refine (cA _ (below_trans BW.out R2.out)).mono ?_; rintro e q3 ⟨v2, rfl, o2, d2⟩; have R3 : Hid (Below W0.heap.size W0 q3) := below_trans R2.out d2; obtain ⟨a2, c2, e2⟩ := own_form o2; subst e2) | (go_at_call 35; refine (cO _ (below_trans BW.out hrd.out)).mono ?_; rintro e q2 ⟨v1, rfl, o1, d1⟩; have R2 : Hid (Below W0.heap.size W0 q2) := below_trans hrd.out d1; obtain ⟨cs1, r1⟩ := o1.row; obtain ⟨a1, c1, e1⟩ := own_form r1; subst e1))
  obtain ⟨g1, g2⟩ := set5q (S2.out.below R6.out) (.slice a1 d.code.length c1) (.slice a2 d.origs.length c2) (.slice a3 d.dests.length c3) (.slice a4 d.loops.length c4) (.slice a5 d.cases.length c5)
  have hW0 : w.heap.size + 1 < W0.heap.size := (Array.getElem?_eq_some_iff.1 S2.out).1
  have hrs := hrd.out.size
  have oDD : OwD w.heap.size q6 ⟨.slice a1 d.code.length c1, .slice a2 d.origs.length c2, .slice a3 d.dests.length c3, .slice a4 d.loops.length c4, .slice a5 d.cases.length c5⟩ d q3.heap.size q4.heap.size q5.heap.size := by
    refine ⟨OwnR.le (by omega) (OwnR.below o1 (below_trans (below_trans (below_trans d2 d3) d4) d5) (fun _ _ q => q)) (fun _ _ q => q), own_le (Nat.le_trans (by omega) R2.out.size) (own_below o2 (below_trans (below_trans d3 d4) d5)), own_ltB o2, own_below o3 (below_trans d4 d5), own_ltB o3, o4.below d5, o5, ?_, d3.size, d4.size, d5.size⟩
    exact Nat.le_trans (by omega) R3.out.size
  have GM := g2 (fun u => OwD w.heap.size u ⟨.slice a1 d.code.length c1, .slice a2 d.origs.length c2, .slice a3 d.dests.length c3, .slice a4 d.loops.length c4, .slice a5 d.cases.length c5⟩ d q3.heap.size q4.heap.size q5.heap.size) (fun u u' kk q => q.kept kk (by decide) (by decide) (by decide)) oDD
  have J7 := set5b (below_trans BW.out R6.out) (w.heap.size + 1) (by omega) (.slice a1 d.code.length c1) (.slice a2 d.origs.length c2) (.slice a3 d.dests.length c3) (.slice a4 d.loops.length c4) (.slice a5 d.cases.length c5)
  go_wp2_with fail
  (try simp only [Exit.inBlock, Exit.then])
  refine bodyPost_ret (res_row1 rfl _ _ (w.heap.size + 1) 26 _ (0, 0) _ rfl g1 Try.underlying26 rfl (show _ = some 5 by kernel_rfl)) rfl ?_
  exact ⟨⟨.slice a1 d.code.length c1, .slice a2 d.origs.length c2, .slice a3 d.dests.length c3, .slice a4 d.loops.length c4, .slice a5 d.cases.length c5⟩, _, _, _, rfl, GM, J7⟩
end Go.Proofs.Ytfmpeminfcehaaa
