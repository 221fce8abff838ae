/-
  CellDoubles: for every number and all doubles, Double of the program answers sums and differences as the document says, and a sum is undone by a difference: the law returns true. No conditions.
-/
import Derived.Test.YtfmlkclacbceeaaRows
import Derived.WalkKit
import Derived.ProofKit
import Derived.OpenShut
import Derived.Test.YtfmlkclacbceeaaArr
import Derived.Test.YtfmlkclacbceeaaRdo
import Derived.Test.YtfmlkclacbceeaaArq
namespace Go.Proofs.Ytfmlkclacbceeaa.cellDoubles
open Go.ChangeShapes Go.WideShapes Go.ChangeAt Go.RowKit
set_option linter.unusedVariables false

theorem own : ownKnob Try.prog.godebug = none := by kernel_rfl
theorem cells22 : Try.prog.cellsOf 22 = 1 := by kernel_rfl
theorem cells33 : Try.prog.cellsOf 33 = 2 := by kernel_rfl

set_option maxHeartbeats 4000000 in
theorem walk (a0 : Int) (a1_0 a1_1 : Int) (a2_0 a2_1 : Int) (w0 : (Lit.int .i64 a0).wf = true) (w1_0 : (Lit.int .u32 a1_0).wf = true) (w1_1 : (Lit.int .u32 a1_1).wf = true) (w2_0 : (Lit.int .u32 a2_0).wf = true) (w2_1 : (Lit.int .u32 a2_1).wf = true) (w : World) :
    Calls Try.prog 7 #[.int .i64 a0, .agg #[.int .u32 a1_0, .int .u32 a1_1], .agg #[.int .u32 a2_0, .int .u32 a2_1]] w fun e w' => e = .returned (.bool true) ∧ Grown w w' := by
  obtain ⟨h0, h1⟩ := u32_bounds w1_0
  obtain ⟨g0, g1⟩ := u32_bounds w1_1
  obtain ⟨k0, k1⟩ := u32_bounds w2_0
  obtain ⟨l0, l1⟩ := u32_bounds w2_1
  have u0 : 0 ≤ dbL 216 a1_0 a1_1 a2_0 a2_1 ∧ dbL 216 a1_0 a1_1 a2_0 a2_1 < 4294967296 := by unfold dbL; omega
  have u1 : 0 ≤ dbH 216 a1_0 a1_1 a2_0 a2_1 ∧ dbH 216 a1_0 a1_1 a2_0 a2_1 < 4294967296 := by simp only [dbH, dbN]; simp [IntKind.wrap_u64]; omega
  have u2 : dbL 217 (dbL 216 a1_0 a1_1 a2_0 a2_1) (dbH 216 a1_0 a1_1 a2_0 a2_1) a2_0 a2_1 = a1_0 := by simp only [dbL, dbH, dbN]; simp [IntKind.wrap_u64]; omega
  have u3 : dbH 217 (dbL 216 a1_0 a1_1 a2_0 a2_1) (dbH 216 a1_0 a1_1 a2_0 a2_1) a2_0 a2_1 = a1_1 := by simp only [dbL, dbH, dbN]; simp [IntKind.wrap_u64]; omega
  have u4 : dbE 217 = 0 := by simp [dbE]
  obtain ⟨u01, u02⟩ := u0
  obtain ⟨u11, u12⟩ := u1
  have qe := fun (w : World) (x0 x1 y0 y1 : Int) => run_eql_arr2 (P := Try.prog) w Try.underlying33 Try.underlying22 szU32 ptU32 x0 x1 y0 y1
  go_enter Try.func7, Try.ntmps7
  go_wp2_with (first | (go_at_call 9; refine (w_alive _).mono ?_; rintro e w' ⟨rfl, rfl⟩))
  refine (w_double _ _ _ _ _ _ h0 h1 g0 g1 k0 k1 l0 l1).mono ?_
  rintro e w1 ⟨rfl, hg1⟩
  obtain ⟨c1, f1⟩ := grown_cells hg1
  have z1 := hg1.2.2
  simp at z1
  have i1_n1a0 : w1.cell? ⟨w.heap.size, 0, none⟩ = some (.int .u32 (a1_0)) := by rw [c1 _ _ (by simp <;> omega)]; simp
  have i1_n1a1 : w1.cell? ⟨w.heap.size, 1, none⟩ = some (.int .u32 (a1_1)) := by rw [c1 _ _ (by simp <;> omega)]; simp
  have i1_n1b0 : w1.cell? ⟨w.heap.size + 1, 0, none⟩ = some (.int .u32 (a2_0)) := by rw [c1 _ _ (by simp <;> omega)]; simp
  have i1_n1b1 : w1.cell? ⟨w.heap.size + 1, 1, none⟩ = some (.int .u32 (a2_1)) := by rw [c1 _ _ (by simp <;> omega)]; simp
  have y1_0 : w.heap.size < w1.heap.size := by omega
  have x1_0 : ¬ w.heap.size = w1.heap.size := by omega
  have y1_1 : w.heap.size + 1 < w1.heap.size := by omega
  have x1_1 : ¬ w.heap.size + 1 = w1.heap.size := by omega
  clear c1 f1
  go_wp2_with fail
  refine (w_rdouble _ _ _ _ _ _ h0 h1 g0 g1 k0 k1 l0 l1).mono ?_
  rintro e w2 ⟨rfl, hg2⟩
  obtain ⟨c2, f2⟩ := grown_cells hg2
  have z2 := hg2.2.2
  simp at z2
  have i2_n1a0 : w2.cell? ⟨w.heap.size, 0, none⟩ = some (.int .u32 (a1_0)) := (c2 _ _ (by simp; omega)).trans ((World.cell?_alloc_past _ _ _ y1_0).trans i1_n1a0)
  have i2_n1a1 : w2.cell? ⟨w.heap.size, 1, none⟩ = some (.int .u32 (a1_1)) := (c2 _ _ (by simp; omega)).trans ((World.cell?_alloc_past _ _ _ y1_0).trans i1_n1a1)
  have i2_n1b0 : w2.cell? ⟨w.heap.size + 1, 0, none⟩ = some (.int .u32 (a2_0)) := (c2 _ _ (by simp; omega)).trans ((World.cell?_alloc_past _ _ _ y1_1).trans i1_n1b0)
  have i2_n1b1 : w2.cell? ⟨w.heap.size + 1, 1, none⟩ = some (.int .u32 (a2_1)) := (c2 _ _ (by simp; omega)).trans ((World.cell?_alloc_past _ _ _ y1_1).trans i1_n1b1)
  have i2_n2a0 : w2.cell? ⟨w1.heap.size, 0, none⟩ = some (.int .u32 (dbL a0 a1_0 a1_1 a2_0 a2_1)) := by rw [c2 _ _ (by simp <;> omega)]; simp
  have i2_n2a1 : w2.cell? ⟨w1.heap.size, 1, none⟩ = some (.int .u32 (dbH a0 a1_0 a1_1 a2_0 a2_1)) := by rw [c2 _ _ (by simp <;> omega)]; simp
  have y2_0 : w.heap.size < w2.heap.size := by omega
  have x2_0 : ¬ w.heap.size = w2.heap.size := by omega
  have y2_1 : w.heap.size + 1 < w2.heap.size := by omega
  have x2_1 : ¬ w.heap.size + 1 = w2.heap.size := by omega
  have y2_2 : w1.heap.size < w2.heap.size := by omega
  have x2_2 : ¬ w1.heap.size = w2.heap.size := by omega
  clear c2 f2 i1_n1a0 i1_n1a1 i1_n1b0 i1_n1b1
  go_wp2_with fail
  refine (w_double _ _ _ _ _ _ h0 h1 g0 g1 k0 k1 l0 l1).mono ?_
  rintro e w3 ⟨rfl, hg3⟩
  obtain ⟨c3, f3⟩ := grown_cells hg3
  have z3 := hg3.2.2
  simp at z3
  have i3_n1a0 : w3.cell? ⟨w.heap.size, 0, none⟩ = some (.int .u32 (a1_0)) := (c3 _ _ (by simp; omega)).trans ((World.cell?_alloc_past _ _ _ y2_0).trans i2_n1a0)
  have i3_n1a1 : w3.cell? ⟨w.heap.size, 1, none⟩ = some (.int .u32 (a1_1)) := (c3 _ _ (by simp; omega)).trans ((World.cell?_alloc_past _ _ _ y2_0).trans i2_n1a1)
  have i3_n1b0 : w3.cell? ⟨w.heap.size + 1, 0, none⟩ = some (.int .u32 (a2_0)) := (c3 _ _ (by simp; omega)).trans ((World.cell?_alloc_past _ _ _ y2_1).trans i2_n1b0)
  have i3_n1b1 : w3.cell? ⟨w.heap.size + 1, 1, none⟩ = some (.int .u32 (a2_1)) := (c3 _ _ (by simp; omega)).trans ((World.cell?_alloc_past _ _ _ y2_1).trans i2_n1b1)
  have i3_n2a0 : w3.cell? ⟨w1.heap.size, 0, none⟩ = some (.int .u32 (dbL a0 a1_0 a1_1 a2_0 a2_1)) := (c3 _ _ (by simp; omega)).trans ((World.cell?_alloc_past _ _ _ y2_2).trans i2_n2a0)
  have i3_n2a1 : w3.cell? ⟨w1.heap.size, 1, none⟩ = some (.int .u32 (dbH a0 a1_0 a1_1 a2_0 a2_1)) := (c3 _ _ (by simp; omega)).trans ((World.cell?_alloc_past _ _ _ y2_2).trans i2_n2a1)
  have i3_n3a0 : w3.cell? ⟨w2.heap.size, 0, none⟩ = some (.int .u32 (dbL a0 a1_0 a1_1 a2_0 a2_1)) := by rw [c3 _ _ (by simp <;> omega)]; simp
  have i3_n3a1 : w3.cell? ⟨w2.heap.size, 1, none⟩ = some (.int .u32 (dbH a0 a1_0 a1_1 a2_0 a2_1)) := by rw [c3 _ _ (by simp <;> omega)]; simp
  have y3_0 : w.heap.size < w3.heap.size := by omega
  have x3_0 : ¬ w.heap.size = w3.heap.size := by omega
  have y3_1 : w.heap.size + 1 < w3.heap.size := by omega
  have x3_1 : ¬ w.heap.size + 1 = w3.heap.size := by omega
  have y3_2 : w1.heap.size < w3.heap.size := by omega
  have x3_2 : ¬ w1.heap.size = w3.heap.size := by omega
  have y3_3 : w2.heap.size < w3.heap.size := by omega
  have x3_3 : ¬ w2.heap.size = w3.heap.size := by omega
  clear c3 f3 i2_n1a0 i2_n1a1 i2_n1b0 i2_n1b1 i2_n2a0 i2_n2a1
  go_wp2_with fail
  refine (w_double _ _ _ _ _ _ u01 u02 u11 u12 k0 k1 l0 l1).mono ?_
  rintro e w4 ⟨rfl, hg4⟩
  obtain ⟨c4, f4⟩ := grown_cells hg4
  have z4 := hg4.2.2
  simp at z4
  have i4_n1a0 : w4.cell? ⟨w.heap.size, 0, none⟩ = some (.int .u32 (a1_0)) := (c4 _ _ (by simp; omega)).trans ((World.cell?_alloc_past _ _ _ y3_0).trans i3_n1a0)
  have i4_n1a1 : w4.cell? ⟨w.heap.size, 1, none⟩ = some (.int .u32 (a1_1)) := (c4 _ _ (by simp; omega)).trans ((World.cell?_alloc_past _ _ _ y3_0).trans i3_n1a1)
  have i4_n1b0 : w4.cell? ⟨w.heap.size + 1, 0, none⟩ = some (.int .u32 (a2_0)) := (c4 _ _ (by simp; omega)).trans ((World.cell?_alloc_past _ _ _ y3_1).trans i3_n1b0)
  have i4_n1b1 : w4.cell? ⟨w.heap.size + 1, 1, none⟩ = some (.int .u32 (a2_1)) := (c4 _ _ (by simp; omega)).trans ((World.cell?_alloc_past _ _ _ y3_1).trans i3_n1b1)
  have i4_n2a0 : w4.cell? ⟨w1.heap.size, 0, none⟩ = some (.int .u32 (dbL a0 a1_0 a1_1 a2_0 a2_1)) := (c4 _ _ (by simp; omega)).trans ((World.cell?_alloc_past _ _ _ y3_2).trans i3_n2a0)
  have i4_n2a1 : w4.cell? ⟨w1.heap.size, 1, none⟩ = some (.int .u32 (dbH a0 a1_0 a1_1 a2_0 a2_1)) := (c4 _ _ (by simp; omega)).trans ((World.cell?_alloc_past _ _ _ y3_2).trans i3_n2a1)
  have i4_n3a0 : w4.cell? ⟨w2.heap.size, 0, none⟩ = some (.int .u32 (dbL a0 a1_0 a1_1 a2_0 a2_1)) := (c4 _ _ (by simp; omega)).trans ((World.cell?_alloc_past _ _ _ y3_3).trans i3_n3a0)
  have i4_n3a1 : w4.cell? ⟨w2.heap.size, 1, none⟩ = some (.int .u32 (dbH a0 a1_0 a1_1 a2_0 a2_1)) := (c4 _ _ (by simp; omega)).trans ((World.cell?_alloc_past _ _ _ y3_3).trans i3_n3a1)
  have i4_n4a0 : w4.cell? ⟨w3.heap.size, 0, none⟩ = some (.int .u32 (dbL 216 a1_0 a1_1 a2_0 a2_1)) := by rw [c4 _ _ (by simp <;> omega)]; simp
  have i4_n4a1 : w4.cell? ⟨w3.heap.size, 1, none⟩ = some (.int .u32 (dbH 216 a1_0 a1_1 a2_0 a2_1)) := by rw [c4 _ _ (by simp <;> omega)]; simp
  have y4_0 : w.heap.size < w4.heap.size := by omega
  have x4_0 : ¬ w.heap.size = w4.heap.size := by omega
  have y4_1 : w.heap.size + 1 < w4.heap.size := by omega
  have x4_1 : ¬ w.heap.size + 1 = w4.heap.size := by omega
  have y4_2 : w1.heap.size < w4.heap.size := by omega
  have x4_2 : ¬ w1.heap.size = w4.heap.size := by omega
  have y4_3 : w2.heap.size < w4.heap.size := by omega
  have x4_3 : ¬ w2.heap.size = w4.heap.size := by omega
  have y4_4 : w3.heap.size < w4.heap.size := by omega
  have x4_4 : ¬ w3.heap.size = w4.heap.size := by omega
  clear c4 f4 i3_n1a0 i3_n1a1 i3_n1b0 i3_n1b1 i3_n2a0 i3_n2a1 i3_n3a0 i3_n3a1
  go_wp2_with fail
  go_ret
  exact ⟨rfl, by repeat (first | exact Grown.refl _ | assumption | apply Grown.alloc | refine grown_trans ?_ (by assumption))⟩

set_option maxRecDepth 100000 in
theorem lifted (os : Os) (started : os.Started) (H : Type) (enc : TypeId × Value → H) :
    ReturnsInHanded {} Try.checked os 7 .any (Rows.cellDoublesSpec.pre6 enc Try.prog Try.f7 Rows.cellDoublesRow.domain false) (Rows.cellDoublesSpec.post enc Try.prog Try.f7 false true false false) := by
  refine returnsInHanded_of_change (C := Try.checked) own started (by kernel_rfl) Try.func7
    (ChangeSpec.witness6 (enc := enc) (C := Try.checked) false ⟨#[], #[.int .i64 0, .agg #[.int .u32 0, .int .u32 0], .agg #[.int .u32 0, .int .u32 0]], []⟩ 8 (by kernel_rfl) (by kernel_rfl) (by kernel_rfl) (by kernel_rfl)) ?_
  intro W base args ds gs before hval0 hW hcnd _
  have hval : ∀ (j : Nat) t v, Try.f7.params[j]? = some t → args[j]? = some v → Value.okWide Try.prog W .any base t v := hval0
  have hW' := hW
  obtain ⟨p, q, hA0, hV, rfl, hfz, hnd⟩ := hW
  have hA : DataW.TrodAll enc Try.prog W 0 (fun _ => true) true Try.f7.params.toList args.toList ds p := hA0
  rw [Try.params7] at hA hval
  obtain ⟨v0, vs0, d0, ds0, p0, q0, hargs, rfl, rfl, h0, r0⟩ := trodAll_cons hA
  obtain ⟨v1, vs1, d1, ds1, p1, q1, rfl, rfl, rfl, h1, r1⟩ := trodAll_cons r0
  obtain ⟨v2, vs2, d2, ds2, p2, q2, rfl, rfl, rfl, h2, r2⟩ := trodAll_cons r1
  obtain ⟨rfl, rfl, rfl⟩ := trodAll_nil r2
  obtain rfl : args = #[v0, v1, v2] := by cases args; simp_all
  obtain ⟨rfl, rfl⟩ := trodVars_none hV
  obtain ⟨a0, rfl, rfl, rfl, w0⟩ := open_int Try.underlying3 (hval 0 3 v0 rfl rfl) h0
  obtain ⟨a1_0, a1_1, rfl, rfl, rfl, w1_0, w1_1⟩ := open_arr2 Try.underlying33 Try.underlying22 cells22 cells33 (hval 1 33 v1 rfl rfl) h1
  obtain ⟨a2_0, a2_1, rfl, rfl, rfl, w2_0, w2_1⟩ := open_arr2 Try.underlying33 Try.underlying22 cells22 cells33 (hval 2 33 v2 rfl rfl) h2
  clear hA0 hval0
  simp only [List.append_nil] at hW'
  refine (walk a0 a1_0 a1_1 a2_0 a2_1 w0 w1_0 w1_1 w2_0 w2_1 W).mono fun e W' ⟨he, hg⟩ => ?_
  subst he
  exact ⟨_, rfl, post_of_same (pa := []) (pv := []) hW' (fun _ _ _ => (trodAll_cons_mk (shut_bool Try.underlying4 _) trodAll_mk0)) (fun sp _ => (trodAll_cons_mk (shut_int Try.underlying3 w0) (trodAll_cons_mk (shut_arr2 Try.underlying33 Try.underlying22 cells22 cells33 w1_0 w1_1) (trodAll_cons_mk (shut_arr2 Try.underlying33 Try.underlying22 cells22 cells33 w2_0 w2_1) trodAll_mk0)))) (fun _ _ => rfl) rfl
    (hg.frame _) hg.2.1 (ok_one (by kernel_rfl) rfl (okWide_bool_mk Try.underlying4 _))⟩

theorem over : Rows.cellDoublesRow.holds Try.pinned (OpenSpec.ofChange Rows.cellDoublesSpec) :=
  OpenClaim.holds_of_wide 7 Try.f7 rfl rfl rfl rfl rfl rfl rfl ⟨rfl, rfl, rfl, rfl, rfl⟩ rfl rfl rfl rfl rfl (by kernel_rfl) Try.func7 (by kernel_rfl)
    (of_decide_eq_true (by kernel_rfl)) (by unfold Func.isWrapper; first | (rw [if_pos (by decide +kernel)]; kernel_rfl) | (rw [if_neg (by decide +kernel)]; exact ⟨rfl, rfl⟩))
    (fun os started H enc _ => lifted os started H enc)
end Go.Proofs.Ytfmlkclacbceeaa.cellDoubles
namespace Go.Proofs.Ytfmlkclacbceeaa
theorem cellDoubles_holds : Rows.CellDoublesSaid := cellDoubles.over
#print axioms cellDoubles_holds
end Go.Proofs.Ytfmlkclacbceeaa
