/-
  CellWides: for every number, all doubles and cells, Wide and Times of the program answer as the document says: the law returns true. No conditions.
-/
import Derived.Test.YtfmlkclacbceeaaRows
import Derived.WalkKit
import Derived.ProofKit
import Derived.OpenShut
import Derived.Test.YtfmlkclacbceeaaArr
import Derived.Test.YtfmlkclacbceeaaRwj
import Derived.Test.YtfmlkclacbceeaaGrc
namespace Go.Proofs.Ytfmlkclacbceeaa.cellWides
open Go.ChangeShapes Go.WideShapes Go.ChangeAt Go.RowKit
set_option linter.unusedVariables false

theorem own : ownKnob Try.prog.godebug = none := by kernel_rfl
theorem cells22 : Try.prog.cellsOf 22 = 1 := by kernel_rfl
theorem cells33 : Try.prog.cellsOf 33 = 2 := by kernel_rfl

set_option maxHeartbeats 4000000 in
theorem walk (a0 : Int) (a1_0 a1_1 : Int) (a2 : Int) (w0 : (Lit.int .i64 a0).wf = true) (w1_0 : (Lit.int .u32 a1_0).wf = true) (w1_1 : (Lit.int .u32 a1_1).wf = true) (w2 : (Lit.int .u32 a2).wf = true) (w : World) :
    Calls Try.prog 6 #[.int .i64 a0, .agg #[.int .u32 a1_0, .int .u32 a1_1], .int .u32 a2] w fun e w' => e = .returned (.bool true) ∧ Grown w w' := by
  obtain ⟨h0, h1⟩ := u32_bounds w1_0
  obtain ⟨g0, g1⟩ := u32_bounds w1_1
  obtain ⟨k0, k1⟩ := u32_bounds w2
  obtain ⟨N, hN0⟩ : ∃ N, a1_0 + a1_1 * 4294967296 = N := ⟨_, rfl⟩
  have hN : Hid (a1_0 + a1_1 * 4294967296 = N) := hN0
  clear hN0
  by_cases c213 : a0 = 213
  · subst c213
    by_cases cd : a2 = 0
    · subst cd
      go_enter Try.func6, Try.ntmps6
      go_wp2_with (first | (go_at_call 9; refine (w_alive _).mono ?_; rintro e w' ⟨rfl, rfl⟩))
      refine (w_wide_zero _ _ _ _ (Or.inl rfl)).mono ?_
      rintro e w3 ⟨rfl, hg1⟩
      have z1 := hg1.2.2
      try simp at z1
      have i1_0 : w3.cell? ⟨w.heap.size, 0, none⟩ = some (.int .u32 a1_0) := by rw [(grown_cells hg1).1 _ _ (by simp)]; simp
      have i1_1 : w3.cell? ⟨w.heap.size, 1, none⟩ = some (.int .u32 a1_1) := by rw [(grown_cells hg1).1 _ _ (by simp)]; simp
      go_wp2_with fail
      refine (w_rwide_zero _ _ _ _ (Or.inl rfl)).mono ?_
      rintro e w4 ⟨rfl, hg2⟩
      have z2 := hg2.2.2
      try simp at z2
      have i2_0 : w4.cell? ⟨w.heap.size, 0, none⟩ = some (.int .u32 a1_0) := ((grown_cells hg2).1 _ _ (by omega)).trans i1_0
      have i2_1 : w4.cell? ⟨w.heap.size, 1, none⟩ = some (.int .u32 a1_1) := ((grown_cells hg2).1 _ _ (by omega)).trans i1_1
      clear i1_0 i1_1
      go_wp2_with fail
      refine (w_times _ _ _ h0 h1 g0 g1).mono ?_
      rintro e w5 ⟨rfl, hg3⟩
      have z3 := hg3.2.2
      try simp at z3
      have i3_0 : w5.cell? ⟨w.heap.size, 0, none⟩ = some (.int .u32 a1_0) := ((grown_cells hg3).1 _ _ (by omega)).trans i2_0
      have i3_1 : w5.cell? ⟨w.heap.size, 1, none⟩ = some (.int .u32 a1_1) := ((grown_cells hg3).1 _ _ (by omega)).trans i2_1
      clear i2_0 i2_1
      go_wp2_with fail
      refine (w_rtimes _ _ _ h0 h1 g0 g1).mono ?_
      rintro e w6 ⟨rfl, hg4⟩
      have z4 := hg4.2.2
      try simp at z4
      have i4_0 : w6.cell? ⟨w.heap.size, 0, none⟩ = some (.int .u32 a1_0) := ((grown_cells hg4).1 _ _ (by omega)).trans i3_0
      have i4_1 : w6.cell? ⟨w.heap.size, 1, none⟩ = some (.int .u32 a1_1) := ((grown_cells hg4).1 _ _ (by omega)).trans i3_1
      clear i3_0 i3_1
      go_wp2_with fail
      go_ret
      exact ⟨rfl, by repeat (first | exact Grown.refl _ | assumption | apply Grown.alloc | refine grown_trans ?_ (by assumption))⟩
    · have d0 : 0 < a2 := by omega
      go_enter Try.func6, Try.ntmps6
      go_wp2_with (first | (go_at_call 9; refine (w_alive _).mono ?_; rintro e w' ⟨rfl, rfl⟩))
      refine (w_wide_213 _ _ _ N _ h0 h1 g0 g1 d0 k1 hN).mono ?_
      rintro e w3 ⟨rfl, hg1⟩
      have z1 := hg1.2.2
      try simp at z1
      have i1_0 : w3.cell? ⟨w.heap.size, 0, none⟩ = some (.int .u32 a1_0) := by rw [(grown_cells hg1).1 _ _ (by simp)]; simp
      have i1_1 : w3.cell? ⟨w.heap.size, 1, none⟩ = some (.int .u32 a1_1) := by rw [(grown_cells hg1).1 _ _ (by simp)]; simp
      go_wp2_with fail
      refine (w_rwide_213 _ _ _ N _ h0 h1 g0 g1 d0 k1 hN).mono ?_
      rintro e w4 ⟨rfl, hg2⟩
      have z2 := hg2.2.2
      try simp at z2
      have i2_0 : w4.cell? ⟨w.heap.size, 0, none⟩ = some (.int .u32 a1_0) := ((grown_cells hg2).1 _ _ (by omega)).trans i1_0
      have i2_1 : w4.cell? ⟨w.heap.size, 1, none⟩ = some (.int .u32 a1_1) := ((grown_cells hg2).1 _ _ (by omega)).trans i1_1
      clear i1_0 i1_1
      go_wp2_with fail
      refine (w_times _ _ _ h0 h1 g0 g1).mono ?_
      rintro e w5 ⟨rfl, hg3⟩
      have z3 := hg3.2.2
      try simp at z3
      have i3_0 : w5.cell? ⟨w.heap.size, 0, none⟩ = some (.int .u32 a1_0) := ((grown_cells hg3).1 _ _ (by omega)).trans i2_0
      have i3_1 : w5.cell? ⟨w.heap.size, 1, none⟩ = some (.int .u32 a1_1) := ((grown_cells hg3).1 _ _ (by omega)).trans i2_1
      clear i2_0 i2_1
      go_wp2_with fail
      refine (w_rtimes _ _ _ h0 h1 g0 g1).mono ?_
      rintro e w6 ⟨rfl, hg4⟩
      have z4 := hg4.2.2
      try simp at z4
      have i4_0 : w6.cell? ⟨w.heap.size, 0, none⟩ = some (.int .u32 a1_0) := ((grown_cells hg4).1 _ _ (by omega)).trans i3_0
      have i4_1 : w6.cell? ⟨w.heap.size, 1, none⟩ = some (.int .u32 a1_1) := ((grown_cells hg4).1 _ _ (by omega)).trans i3_1
      clear i3_0 i3_1
      go_wp2_with fail
      go_ret
      exact ⟨rfl, by repeat (first | exact Grown.refl _ | assumption | apply Grown.alloc | refine grown_trans ?_ (by assumption))⟩
  by_cases c469 : a0 = 469
  · subst c469
    by_cases cd : a2 = 0
    · subst cd
      go_enter Try.func6, Try.ntmps6
      go_wp2_with (first | (go_at_call 9; refine (w_alive _).mono ?_; rintro e w' ⟨rfl, rfl⟩))
      refine (w_wide_zero _ _ _ _ (Or.inr (Or.inl rfl))).mono ?_
      rintro e w3 ⟨rfl, hg1⟩
      have z1 := hg1.2.2
      try simp at z1
      have i1_0 : w3.cell? ⟨w.heap.size, 0, none⟩ = some (.int .u32 a1_0) := by rw [(grown_cells hg1).1 _ _ (by simp)]; simp
      have i1_1 : w3.cell? ⟨w.heap.size, 1, none⟩ = some (.int .u32 a1_1) := by rw [(grown_cells hg1).1 _ _ (by simp)]; simp
      go_wp2_with fail
      refine (w_rwide_zero _ _ _ _ (Or.inr (Or.inl rfl))).mono ?_
      rintro e w4 ⟨rfl, hg2⟩
      have z2 := hg2.2.2
      try simp at z2
      have i2_0 : w4.cell? ⟨w.heap.size, 0, none⟩ = some (.int .u32 a1_0) := ((grown_cells hg2).1 _ _ (by omega)).trans i1_0
      have i2_1 : w4.cell? ⟨w.heap.size, 1, none⟩ = some (.int .u32 a1_1) := ((grown_cells hg2).1 _ _ (by omega)).trans i1_1
      clear i1_0 i1_1
      go_wp2_with fail
      refine (w_times _ _ _ h0 h1 g0 g1).mono ?_
      rintro e w5 ⟨rfl, hg3⟩
      have z3 := hg3.2.2
      try simp at z3
      have i3_0 : w5.cell? ⟨w.heap.size, 0, none⟩ = some (.int .u32 a1_0) := ((grown_cells hg3).1 _ _ (by omega)).trans i2_0
      have i3_1 : w5.cell? ⟨w.heap.size, 1, none⟩ = some (.int .u32 a1_1) := ((grown_cells hg3).1 _ _ (by omega)).trans i2_1
      clear i2_0 i2_1
      go_wp2_with fail
      refine (w_rtimes _ _ _ h0 h1 g0 g1).mono ?_
      rintro e w6 ⟨rfl, hg4⟩
      have z4 := hg4.2.2
      try simp at z4
      have i4_0 : w6.cell? ⟨w.heap.size, 0, none⟩ = some (.int .u32 a1_0) := ((grown_cells hg4).1 _ _ (by omega)).trans i3_0
      have i4_1 : w6.cell? ⟨w.heap.size, 1, none⟩ = some (.int .u32 a1_1) := ((grown_cells hg4).1 _ _ (by omega)).trans i3_1
      clear i3_0 i3_1
      go_wp2_with fail
      go_ret
      exact ⟨rfl, by repeat (first | exact Grown.refl _ | assumption | apply Grown.alloc | refine grown_trans ?_ (by assumption))⟩
    · have d0 : 0 < a2 := by omega
      go_enter Try.func6, Try.ntmps6
      go_wp2_with (first | (go_at_call 9; refine (w_alive _).mono ?_; rintro e w' ⟨rfl, rfl⟩))
      refine (w_wide_469 _ _ _ N _ h0 h1 g0 g1 d0 k1 hN).mono ?_
      rintro e w3 ⟨rfl, hg1⟩
      have z1 := hg1.2.2
      try simp at z1
      have i1_0 : w3.cell? ⟨w.heap.size, 0, none⟩ = some (.int .u32 a1_0) := by rw [(grown_cells hg1).1 _ _ (by simp)]; simp
      have i1_1 : w3.cell? ⟨w.heap.size, 1, none⟩ = some (.int .u32 a1_1) := by rw [(grown_cells hg1).1 _ _ (by simp)]; simp
      go_wp2_with fail
      refine (w_rwide_469 _ _ _ N _ h0 h1 g0 g1 d0 k1 hN).mono ?_
      rintro e w4 ⟨rfl, hg2⟩
      have z2 := hg2.2.2
      try simp at z2
      have i2_0 : w4.cell? ⟨w.heap.size, 0, none⟩ = some (.int .u32 a1_0) := ((grown_cells hg2).1 _ _ (by omega)).trans i1_0
      have i2_1 : w4.cell? ⟨w.heap.size, 1, none⟩ = some (.int .u32 a1_1) := ((grown_cells hg2).1 _ _ (by omega)).trans i1_1
      clear i1_0 i1_1
      go_wp2_with fail
      refine (w_times _ _ _ h0 h1 g0 g1).mono ?_
      rintro e w5 ⟨rfl, hg3⟩
      have z3 := hg3.2.2
      try simp at z3
      have i3_0 : w5.cell? ⟨w.heap.size, 0, none⟩ = some (.int .u32 a1_0) := ((grown_cells hg3).1 _ _ (by omega)).trans i2_0
      have i3_1 : w5.cell? ⟨w.heap.size, 1, none⟩ = some (.int .u32 a1_1) := ((grown_cells hg3).1 _ _ (by omega)).trans i2_1
      clear i2_0 i2_1
      go_wp2_with fail
      refine (w_rtimes _ _ _ h0 h1 g0 g1).mono ?_
      rintro e w6 ⟨rfl, hg4⟩
      have z4 := hg4.2.2
      try simp at z4
      have i4_0 : w6.cell? ⟨w.heap.size, 0, none⟩ = some (.int .u32 a1_0) := ((grown_cells hg4).1 _ _ (by omega)).trans i3_0
      have i4_1 : w6.cell? ⟨w.heap.size, 1, none⟩ = some (.int .u32 a1_1) := ((grown_cells hg4).1 _ _ (by omega)).trans i3_1
      clear i3_0 i3_1
      go_wp2_with fail
      go_ret
      exact ⟨rfl, by repeat (first | exact Grown.refl _ | assumption | apply Grown.alloc | refine grown_trans ?_ (by assumption))⟩
  by_cases c725 : a0 = 725
  · subst c725
    by_cases cd : a2 = 0
    · subst cd
      go_enter Try.func6, Try.ntmps6
      go_wp2_with (first | (go_at_call 9; refine (w_alive _).mono ?_; rintro e w' ⟨rfl, rfl⟩))
      refine (w_wide_zero _ _ _ _ (Or.inr (Or.inr rfl))).mono ?_
      rintro e w3 ⟨rfl, hg1⟩
      have z1 := hg1.2.2
      try simp at z1
      have i1_0 : w3.cell? ⟨w.heap.size, 0, none⟩ = some (.int .u32 a1_0) := by rw [(grown_cells hg1).1 _ _ (by simp)]; simp
      have i1_1 : w3.cell? ⟨w.heap.size, 1, none⟩ = some (.int .u32 a1_1) := by rw [(grown_cells hg1).1 _ _ (by simp)]; simp
      go_wp2_with fail
      refine (w_rwide_zero _ _ _ _ (Or.inr (Or.inr rfl))).mono ?_
      rintro e w4 ⟨rfl, hg2⟩
      have z2 := hg2.2.2
      try simp at z2
      have i2_0 : w4.cell? ⟨w.heap.size, 0, none⟩ = some (.int .u32 a1_0) := ((grown_cells hg2).1 _ _ (by omega)).trans i1_0
      have i2_1 : w4.cell? ⟨w.heap.size, 1, none⟩ = some (.int .u32 a1_1) := ((grown_cells hg2).1 _ _ (by omega)).trans i1_1
      clear i1_0 i1_1
      go_wp2_with fail
      refine (w_times _ _ _ h0 h1 g0 g1).mono ?_
      rintro e w5 ⟨rfl, hg3⟩
      have z3 := hg3.2.2
      try simp at z3
      have i3_0 : w5.cell? ⟨w.heap.size, 0, none⟩ = some (.int .u32 a1_0) := ((grown_cells hg3).1 _ _ (by omega)).trans i2_0
      have i3_1 : w5.cell? ⟨w.heap.size, 1, none⟩ = some (.int .u32 a1_1) := ((grown_cells hg3).1 _ _ (by omega)).trans i2_1
      clear i2_0 i2_1
      go_wp2_with fail
      refine (w_rtimes _ _ _ h0 h1 g0 g1).mono ?_
      rintro e w6 ⟨rfl, hg4⟩
      have z4 := hg4.2.2
      try simp at z4
      have i4_0 : w6.cell? ⟨w.heap.size, 0, none⟩ = some (.int .u32 a1_0) := ((grown_cells hg4).1 _ _ (by omega)).trans i3_0
      have i4_1 : w6.cell? ⟨w.heap.size, 1, none⟩ = some (.int .u32 a1_1) := ((grown_cells hg4).1 _ _ (by omega)).trans i3_1
      clear i3_0 i3_1
      go_wp2_with fail
      go_ret
      exact ⟨rfl, by repeat (first | exact Grown.refl _ | assumption | apply Grown.alloc | refine grown_trans ?_ (by assumption))⟩
    · have d0 : 0 < a2 := by omega
      go_enter Try.func6, Try.ntmps6
      go_wp2_with (first | (go_at_call 9; refine (w_alive _).mono ?_; rintro e w' ⟨rfl, rfl⟩))
      refine (w_wide_725 _ _ _ N _ h0 h1 g0 g1 d0 k1 hN).mono ?_
      rintro e w3 ⟨rfl, hg1⟩
      have z1 := hg1.2.2
      try simp at z1
      have i1_0 : w3.cell? ⟨w.heap.size, 0, none⟩ = some (.int .u32 a1_0) := by rw [(grown_cells hg1).1 _ _ (by simp)]; simp
      have i1_1 : w3.cell? ⟨w.heap.size, 1, none⟩ = some (.int .u32 a1_1) := by rw [(grown_cells hg1).1 _ _ (by simp)]; simp
      go_wp2_with fail
      refine (w_rwide_725 _ _ _ N _ h0 h1 g0 g1 d0 k1 hN).mono ?_
      rintro e w4 ⟨rfl, hg2⟩
      have z2 := hg2.2.2
      try simp at z2
      have i2_0 : w4.cell? ⟨w.heap.size, 0, none⟩ = some (.int .u32 a1_0) := ((grown_cells hg2).1 _ _ (by omega)).trans i1_0
      have i2_1 : w4.cell? ⟨w.heap.size, 1, none⟩ = some (.int .u32 a1_1) := ((grown_cells hg2).1 _ _ (by omega)).trans i1_1
      clear i1_0 i1_1
      go_wp2_with fail
      refine (w_times _ _ _ h0 h1 g0 g1).mono ?_
      rintro e w5 ⟨rfl, hg3⟩
      have z3 := hg3.2.2
      try simp at z3
      have i3_0 : w5.cell? ⟨w.heap.size, 0, none⟩ = some (.int .u32 a1_0) := ((grown_cells hg3).1 _ _ (by omega)).trans i2_0
      have i3_1 : w5.cell? ⟨w.heap.size, 1, none⟩ = some (.int .u32 a1_1) := ((grown_cells hg3).1 _ _ (by omega)).trans i2_1
      clear i2_0 i2_1
      go_wp2_with fail
      refine (w_rtimes _ _ _ h0 h1 g0 g1).mono ?_
      rintro e w6 ⟨rfl, hg4⟩
      have z4 := hg4.2.2
      try simp at z4
      have i4_0 : w6.cell? ⟨w.heap.size, 0, none⟩ = some (.int .u32 a1_0) := ((grown_cells hg4).1 _ _ (by omega)).trans i3_0
      have i4_1 : w6.cell? ⟨w.heap.size, 1, none⟩ = some (.int .u32 a1_1) := ((grown_cells hg4).1 _ _ (by omega)).trans i3_1
      clear i3_0 i3_1
      go_wp2_with fail
      go_ret
      exact ⟨rfl, by repeat (first | exact Grown.refl _ | assumption | apply Grown.alloc | refine grown_trans ?_ (by assumption))⟩
  go_enter Try.func6, Try.ntmps6
  go_wp2_with (first | (go_at_call 9; refine (w_alive _).mono ?_; rintro e w' ⟨rfl, rfl⟩))
  refine (w_wide_none _ _ _ _ _ c213 c469 c725).mono ?_
  rintro e w3 ⟨rfl, hg1⟩
  have z1 := hg1.2.2
  try simp at z1
  have i1_0 : w3.cell? ⟨w.heap.size, 0, none⟩ = some (.int .u32 a1_0) := by rw [(grown_cells hg1).1 _ _ (by simp)]; simp
  have i1_1 : w3.cell? ⟨w.heap.size, 1, none⟩ = some (.int .u32 a1_1) := by rw [(grown_cells hg1).1 _ _ (by simp)]; simp
  go_wp2_with fail
  refine (w_rwide_none _ _ _ _ _ c213 c469 c725).mono ?_
  rintro e w4 ⟨rfl, hg2⟩
  have z2 := hg2.2.2
  try simp at z2
  have i2_0 : w4.cell? ⟨w.heap.size, 0, none⟩ = some (.int .u32 a1_0) := ((grown_cells hg2).1 _ _ (by omega)).trans i1_0
  have i2_1 : w4.cell? ⟨w.heap.size, 1, none⟩ = some (.int .u32 a1_1) := ((grown_cells hg2).1 _ _ (by omega)).trans i1_1
  clear i1_0 i1_1
  go_wp2_with fail
  refine (w_times _ _ _ h0 h1 g0 g1).mono ?_
  rintro e w5 ⟨rfl, hg3⟩
  have z3 := hg3.2.2
  try simp at z3
  have i3_0 : w5.cell? ⟨w.heap.size, 0, none⟩ = some (.int .u32 a1_0) := ((grown_cells hg3).1 _ _ (by omega)).trans i2_0
  have i3_1 : w5.cell? ⟨w.heap.size, 1, none⟩ = some (.int .u32 a1_1) := ((grown_cells hg3).1 _ _ (by omega)).trans i2_1
  clear i2_0 i2_1
  go_wp2_with fail
  refine (w_rtimes _ _ _ h0 h1 g0 g1).mono ?_
  rintro e w6 ⟨rfl, hg4⟩
  have z4 := hg4.2.2
  try simp at z4
  have i4_0 : w6.cell? ⟨w.heap.size, 0, none⟩ = some (.int .u32 a1_0) := ((grown_cells hg4).1 _ _ (by omega)).trans i3_0
  have i4_1 : w6.cell? ⟨w.heap.size, 1, none⟩ = some (.int .u32 a1_1) := ((grown_cells hg4).1 _ _ (by omega)).trans i3_1
  clear i3_0 i3_1
  go_wp2_with fail
  go_ret
  exact ⟨rfl, by repeat (first | exact Grown.refl _ | assumption | apply Grown.alloc | refine grown_trans ?_ (by assumption))⟩

set_option maxRecDepth 100000 in
theorem lifted (os : Os) (started : os.Started) (H : Type) (enc : TypeId × Value → H) :
    ReturnsInHanded {} Try.checked os 6 .any (Rows.cellWidesSpec.pre6 enc Try.prog Try.f6 Rows.cellWidesRow.domain false) (Rows.cellWidesSpec.post enc Try.prog Try.f6 false true false false) := by
  refine returnsInHanded_of_change (C := Try.checked) own started (by kernel_rfl) Try.func6
    (ChangeSpec.witness6 (enc := enc) (C := Try.checked) false ⟨#[], #[.int .i64 0, .agg #[.int .u32 0, .int .u32 0], .int .u32 0], []⟩ 8 (by kernel_rfl) (by kernel_rfl) (by kernel_rfl) (by kernel_rfl)) ?_
  intro W base args ds gs before hval0 hW hcnd _
  have hval : ∀ (j : Nat) t v, Try.f6.params[j]? = some t → args[j]? = some v → Value.okWide Try.prog W .any base t v := hval0
  have hW' := hW
  obtain ⟨p, q, hA0, hV, rfl, hfz, hnd⟩ := hW
  have hA : DataW.TrodAll enc Try.prog W 0 (fun _ => true) true Try.f6.params.toList args.toList ds p := hA0
  rw [Try.params6] at hA hval
  obtain ⟨v0, vs0, d0, ds0, p0, q0, hargs, rfl, rfl, h0, r0⟩ := trodAll_cons hA
  obtain ⟨v1, vs1, d1, ds1, p1, q1, rfl, rfl, rfl, h1, r1⟩ := trodAll_cons r0
  obtain ⟨v2, vs2, d2, ds2, p2, q2, rfl, rfl, rfl, h2, r2⟩ := trodAll_cons r1
  obtain ⟨rfl, rfl, rfl⟩ := trodAll_nil r2
  obtain rfl : args = #[v0, v1, v2] := by cases args; simp_all
  obtain ⟨rfl, rfl⟩ := trodVars_none hV
  obtain ⟨a0, rfl, rfl, rfl, w0⟩ := open_int Try.underlying3 (hval 0 3 v0 rfl rfl) h0
  obtain ⟨a1_0, a1_1, rfl, rfl, rfl, w1_0, w1_1⟩ := open_arr2 Try.underlying33 Try.underlying22 cells22 cells33 (hval 1 33 v1 rfl rfl) h1
  obtain ⟨a2, rfl, rfl, rfl, w2⟩ := open_int Try.underlying22 (hval 2 22 v2 rfl rfl) h2
  clear hA0 hval0
  simp only [List.append_nil] at hW'
  refine (walk a0 a1_0 a1_1 a2 w0 w1_0 w1_1 w2 W).mono fun e W' ⟨he, hg⟩ => ?_
  subst he
  exact ⟨_, rfl, post_of_same (pa := []) (pv := []) hW' (fun _ _ _ => (trodAll_cons_mk (shut_bool Try.underlying4 _) trodAll_mk0)) (fun sp _ => (trodAll_cons_mk (shut_int Try.underlying3 w0) (trodAll_cons_mk (shut_arr2 Try.underlying33 Try.underlying22 cells22 cells33 w1_0 w1_1) (trodAll_cons_mk (shut_int Try.underlying22 w2) trodAll_mk0)))) (fun _ _ => rfl) rfl
    (hg.frame _) hg.2.1 (ok_one (by kernel_rfl) rfl (okWide_bool_mk Try.underlying4 _))⟩

theorem over : Rows.cellWidesRow.holds Try.pinned (OpenSpec.ofChange Rows.cellWidesSpec) :=
  OpenClaim.holds_of_wide 6 Try.f6 rfl rfl rfl rfl rfl rfl rfl ⟨rfl, rfl, rfl, rfl, rfl⟩ rfl rfl rfl rfl rfl (by kernel_rfl) Try.func6 (by kernel_rfl)
    (of_decide_eq_true (by kernel_rfl)) (by unfold Func.isWrapper; first | (rw [if_pos (by decide +kernel)]; kernel_rfl) | (rw [if_neg (by decide +kernel)]; exact ⟨rfl, rfl⟩))
    (fun os started H enc _ => lifted os started H enc)
end Go.Proofs.Ytfmlkclacbceeaa.cellWides
namespace Go.Proofs.Ytfmlkclacbceeaa
theorem cellWides_holds : Rows.CellWidesSaid := cellWides.over
#print axioms cellWides_holds
end Go.Proofs.Ytfmlkclacbceeaa
