/-
  Double of the document's answer returns the same plain function as the program's, for all numbers and doubles.
-/
import Derived.Test.YtfmlkclacbceeaaDou
namespace Go.Proofs.Ytfmlkclacbceeaa
open Go.ChangeShapes Go.WideShapes Go.ChangeAt Go.RowKit
set_option linter.unusedVariables false
set_option linter.unusedSimpArgs false

set_option maxHeartbeats 2000000 in
theorem w_rdouble_216 (a0 a1 b0 b1 : Int) (w : World) (h0 : 0 ≤ a0) (h1 : a0 < 4294967296) (g0 : 0 ≤ a1) (g1 : a1 < 4294967296) (k0 : 0 ≤ b0) (k1 : b0 < 4294967296) (l0 : 0 ≤ b1) (l1 : b1 < 4294967296) :
    Calls Try.prog 23 #[.int .i64 216, .agg #[.int .u32 a0, .int .u32 a1], .agg #[.int .u32 b0, .int .u32 b1]] w fun e w' =>
      e = .returned (.tuple #[.agg #[.int .u32 (dbL 216 a0 a1 b0 b1), .int .u32 (dbH 216 a0 a1 b0 b1)], .int .i64 (dbE 216)]) ∧ Grown w w' := by
  obtain ⟨V, hV⟩ : ∃ V, IntKind.u64.wrap (a1 * 4294967296 + a0 + (b1 * 4294967296 + b0)) = V := ⟨_, rfl⟩
  have eV : a1 * 4294967296 + a0 + (b1 * 4294967296 + b0) = a0 + a1 * 4294967296 + (b0 + b1 * 4294967296) := by omega
  have e1 : Hid (dbL 216 a0 a1 b0 b1 = V % 4294967296) := by show _ = _; rw [← hV, eV]; simp [dbL, dbN]
  have e2 : Hid (dbH 216 a0 a1 b0 b1 = V / 4294967296) := by show _ = _; rw [← hV, eV]; simp [dbH, dbN]
  have e3 : Hid (dbE 216 = 0) := by show _ = _; simp [dbE]
  have v0 : 0 ≤ V := by rw [← hV]; exact (wrap_u64_bd _).1
  have v1 : V < 18446744073709551616 := by rw [← hV]; exact (wrap_u64_bd _).2
  clear eV
  go_enter Try.func23, Try.ntmps23
  go_wp2
  go_quiet (fail)
  go_wp2
  refine bodyPost_ret (v := .tuple #[.agg #[.int .u32 (V % 4294967296), .int .u32 (V / 4294967296)], .int .i64 0]) (by simp [results, Try.results23, go_sem]) rfl ⟨ret_db e1.out.symm e2.out.symm e3.out.symm, ?_⟩
  repeat (first | exact Grown.refl _ | apply Grown.drew | apply Grown.alloc | (refine grown_drewN ?_ _) | (refine Grown.setCell ?_ (by simp <;> omega) _))

set_option maxHeartbeats 2000000 in
theorem w_rdouble_217 (a0 a1 b0 b1 : Int) (w : World) (h0 : 0 ≤ a0) (h1 : a0 < 4294967296) (g0 : 0 ≤ a1) (g1 : a1 < 4294967296) (k0 : 0 ≤ b0) (k1 : b0 < 4294967296) (l0 : 0 ≤ b1) (l1 : b1 < 4294967296) :
    Calls Try.prog 23 #[.int .i64 217, .agg #[.int .u32 a0, .int .u32 a1], .agg #[.int .u32 b0, .int .u32 b1]] w fun e w' =>
      e = .returned (.tuple #[.agg #[.int .u32 (dbL 217 a0 a1 b0 b1), .int .u32 (dbH 217 a0 a1 b0 b1)], .int .i64 (dbE 217)]) ∧ Grown w w' := by
  obtain ⟨V, hV⟩ : ∃ V, IntKind.u64.wrap (a1 * 4294967296 + a0 - (b1 * 4294967296 + b0)) = V := ⟨_, rfl⟩
  have eV : a1 * 4294967296 + a0 - (b1 * 4294967296 + b0) = a0 + a1 * 4294967296 - (b0 + b1 * 4294967296) := by omega
  have e1 : Hid (dbL 217 a0 a1 b0 b1 = V % 4294967296) := by show _ = _; rw [← hV, eV]; simp [dbL, dbN]
  have e2 : Hid (dbH 217 a0 a1 b0 b1 = V / 4294967296) := by show _ = _; rw [← hV, eV]; simp [dbH, dbN]
  have e3 : Hid (dbE 217 = 0) := by show _ = _; simp [dbE]
  have v0 : 0 ≤ V := by rw [← hV]; exact (wrap_u64_bd _).1
  have v1 : V < 18446744073709551616 := by rw [← hV]; exact (wrap_u64_bd _).2
  clear eV
  go_enter Try.func23, Try.ntmps23
  go_wp2
  go_quiet (fail)
  go_wp2
  refine bodyPost_ret (v := .tuple #[.agg #[.int .u32 (V % 4294967296), .int .u32 (V / 4294967296)], .int .i64 0]) (by simp [results, Try.results23, go_sem]) rfl ⟨ret_db e1.out.symm e2.out.symm e3.out.symm, ?_⟩
  repeat (first | exact Grown.refl _ | apply Grown.drew | apply Grown.alloc | (refine grown_drewN ?_ _) | (refine Grown.setCell ?_ (by simp <;> omega) _))

set_option maxHeartbeats 1000000 in
theorem w_rdouble_other (op : Int) (a0 a1 b0 b1 : Int) (w : World) (h0 : 0 ≤ a0) (h1 : a0 < 4294967296) (g0 : 0 ≤ a1) (g1 : a1 < 4294967296) (k0 : 0 ≤ b0) (k1 : b0 < 4294967296) (l0 : 0 ≤ b1) (l1 : b1 < 4294967296) (c1 : ¬ op = 216) (c2 : ¬ op = 217) :
    Calls Try.prog 23 #[.int .i64 op, .agg #[.int .u32 a0, .int .u32 a1], .agg #[.int .u32 b0, .int .u32 b1]] w fun e w' =>
      e = .returned (.tuple #[.agg #[.int .u32 (dbL op a0 a1 b0 b1), .int .u32 (dbH op a0 a1 b0 b1)], .int .i64 (dbE op)]) ∧ Grown w w' := by
  obtain ⟨f1, f2, f3⟩ := db_other op a0 a1 b0 b1 c1 c2
  rw [f1, f2, f3]
  clear f1 f2 f3
  go_enter Try.func23, Try.ntmps23
  go_wp2
  go_quiet (fail)
  go_wp2
  refine bodyPost_ret (v := .tuple #[.agg #[.int .u32 0, .int .u32 0], .int .i64 2]) (by simp [results, Try.results23, go_sem]) rfl ⟨rfl, ?_⟩
  repeat (first | exact Grown.refl _ | apply Grown.drew | apply Grown.alloc | (refine grown_drewN ?_ _) | (refine Grown.setCell ?_ (by simp <;> omega) _))

theorem w_rdouble (op : Int) (a0 a1 b0 b1 : Int) (w : World) (h0 : 0 ≤ a0) (h1 : a0 < 4294967296) (g0 : 0 ≤ a1) (g1 : a1 < 4294967296) (k0 : 0 ≤ b0) (k1 : b0 < 4294967296) (l0 : 0 ≤ b1) (l1 : b1 < 4294967296) :
    Calls Try.prog 23 #[.int .i64 op, .agg #[.int .u32 a0, .int .u32 a1], .agg #[.int .u32 b0, .int .u32 b1]] w fun e w' =>
      e = .returned (.tuple #[.agg #[.int .u32 (dbL op a0 a1 b0 b1), .int .u32 (dbH op a0 a1 b0 b1)], .int .i64 (dbE op)]) ∧ Grown w w' := by
  by_cases c1 : op = 216
  · subst c1; exact w_rdouble_216 a0 a1 b0 b1 w h0 h1 g0 g1 k0 k1 l0 l1
  by_cases c2 : op = 217
  · subst c2; exact w_rdouble_217 a0 a1 b0 b1 w h0 h1 g0 g1 k0 k1 l0 l1
  exact w_rdouble_other op a0 a1 b0 b1 w h0 h1 g0 g1 k0 k1 l0 l1 c1 c2

theorem grown_heap {W w' : World} (h : Grown W w') (i : Nat) (hi : i < W.heap.size) : w'.heap[i]? = W.heap[i]? := by
  obtain ⟨⟨_, _, h3⟩, _, hs⟩ := h
  have := h3 i hi
  split at this
  · rename_i c t fr c' t' fr' e1 e2
    obtain ⟨rfl, rfl, hz, hc⟩ := this
    have : c' = c := by
      apply Array.ext_getElem?
      intro j
      exact hc j (fun f => f)
    rw [e1, e2, this]
  · rename_i es cl es' cl' e1 e2
    rcases this with f | ⟨rfl, rfl⟩
    · exact f.elim
    · rw [e1, e2]
  · exact this
theorem grown_cells {W w' : World} (h : Grown W w') : (∀ b o, b < W.heap.size → w'.cell? ⟨b, o, none⟩ = W.cell? ⟨b, o, none⟩) ∧ (∀ b o, b < W.heap.size → w'.frozen? ⟨b, o, none⟩ = W.frozen? ⟨b, o, none⟩) :=
  ⟨fun b o hb => World.cell?_of_block (w := W) (grown_heap h b hb), fun b o hb => World.frozen?_of_block (w := W) (grown_heap h b hb)⟩
end Go.Proofs.Ytfmlkclacbceeaa
