/-
  Double of the program and of the document's answer return one plain function of the number and the two doubles, for all of them.
-/
import Derived.Test.YtfmlkclacbceeaaDbl
import Derived.Deep.RegionWith
namespace Go.Proofs.Ytfmlkclacbceeaa
open Go.ChangeShapes Go.WideShapes Go.ChangeAt Go.RowKit
set_option linter.unusedVariables false
set_option linter.unusedSimpArgs false

theorem x_valueOf (lo hi : Int) (w : World) (h0 : 0 ≤ lo) (h1 : lo < 4294967296) (g0 : 0 ≤ hi) (g1 : hi < 4294967296) :
    Calls Try.prog 39 #[.agg #[.int .u32 lo, .int .u32 hi]] w fun e w' => e = .returned (.int .u64 (lo + hi * 4294967296)) ∧ w' = w.alloc (.cells #[.int .u32 lo, .int .u32 hi] 33) := by
  go_enter Try.func39, Try.ntmps39
  go_wp2
  go_ret
  exact ⟨ret_i (or_join lo hi h0 h1 g0 g1), rfl⟩

theorem x_doubleOf (n : Int) (w : World) (h0 : 0 ≤ n) (h1 : n < 18446744073709551616) :
    Calls Try.prog 43 #[.int .u64 n] w fun e w' => e = .returned (.agg #[.int .u32 (n % 4294967296), .int .u32 (n / 4294967296)]) ∧ w' = w.alloc (.cells #[.int .u32 (n % 4294967296), .int .u32 (n / 4294967296)] 33) := by
  go_enter Try.func43, Try.ntmps43
  go_wp2
  exact bodyPost_ret (v := .agg #[.int .u32 (n % 4294967296), .int .u32 (n / 4294967296)]) (by simp [results, Try.results43, go_sem]) rfl ⟨rfl, rfl⟩

theorem wrap_u64_bd (e : Int) : 0 ≤ IntKind.u64.wrap e ∧ IntKind.u64.wrap e < 18446744073709551616 := by rw [IntKind.wrap_u64]; omega

theorem x_doubleOfW (n : Int) (w : World) :
    Calls Try.prog 43 #[.int .u64 (IntKind.u64.wrap n)] w fun e w' => e = .returned (.agg #[.int .u32 (IntKind.u64.wrap n % 4294967296), .int .u32 (IntKind.u64.wrap n / 4294967296)]) ∧ w' = w.alloc (.cells #[.int .u32 (IntKind.u64.wrap n % 4294967296), .int .u32 (IntKind.u64.wrap n / 4294967296)] 33) :=
  x_doubleOf _ w (wrap_u64_bd n).1 (wrap_u64_bd n).2

/-- the sum and the difference, and the error -/
def dbN (op a0 a1 b0 b1 : Int) : Int :=
  if op = 216 then IntKind.u64.wrap (a0 + a1 * 4294967296 + (b0 + b1 * 4294967296)) else
  if op = 217 then IntKind.u64.wrap (a0 + a1 * 4294967296 - (b0 + b1 * 4294967296)) else 0
def dbE (op : Int) : Int := if op = 216 ∨ op = 217 then 0 else 2
def dbL (op a0 a1 b0 b1 : Int) : Int := dbN op a0 a1 b0 b1 % 4294967296
def dbH (op a0 a1 b0 b1 : Int) : Int := dbN op a0 a1 b0 b1 / 4294967296
theorem ret_db {x0 x1 y0 y1 e f : Int} (h : x0 = y0) (g : x1 = y1) (k : e = f) : Ending.returned (.tuple #[.agg #[.int .u32 x0, .int .u32 x1], .int .i64 e]) = .returned (.tuple #[.agg #[.int .u32 y0, .int .u32 y1], .int .i64 f]) := by rw [h, g, k]

set_option maxHeartbeats 2000000 in
theorem w_double_216 (a0 a1 b0 b1 : Int) (w : World) (h0 : 0 ≤ a0) (h1 : a0 < 4294967296) (g0 : 0 ≤ a1) (g1 : a1 < 4294967296) (k0 : 0 ≤ b0) (k1 : b0 < 4294967296) (l0 : 0 ≤ b1) (l1 : b1 < 4294967296) :
    Calls Try.prog 22 #[.int .i64 216, .agg #[.int .u32 a0, .int .u32 a1], .agg #[.int .u32 b0, .int .u32 b1]] w fun e w' =>
      e = .returned (.tuple #[.agg #[.int .u32 (dbL 216 a0 a1 b0 b1), .int .u32 (dbH 216 a0 a1 b0 b1)], .int .i64 (dbE 216)]) ∧ Grown w w' := by
  have e1 : Hid (dbL 216 a0 a1 b0 b1 = IntKind.u64.wrap (a0 + a1 * 4294967296 + (b0 + b1 * 4294967296)) % 4294967296) := by show _ = _; simp [dbL, dbN]
  have e2 : Hid (dbH 216 a0 a1 b0 b1 = IntKind.u64.wrap (a0 + a1 * 4294967296 + (b0 + b1 * 4294967296)) / 4294967296) := by show _ = _; simp [dbH, dbN]
  have e3 : Hid (dbE 216 = 0) := by show _ = _; simp [dbE]
  go_enter Try.func22, Try.ntmps22
  go_wp2
  go_region_with (first | (go_at_call 39; refine (x_valueOf _ _ _ (by omega) (by omega) (by omega) (by omega)).mono ?_; rintro e w' ⟨rfl, rfl⟩) | (go_at_call 43; refine (x_doubleOfW _ _).mono ?_; rintro e w' ⟨rfl, rfl⟩))
  all_goals go_wp2
  all_goals
    refine bodyPost_ret (v := .tuple #[.agg #[.int .u32 (IntKind.u64.wrap (a0 + a1 * 4294967296 + (b0 + b1 * 4294967296)) % 4294967296), .int .u32 (IntKind.u64.wrap (a0 + a1 * 4294967296 + (b0 + b1 * 4294967296)) / 4294967296)], .int .i64 0]) (by simp [results, Try.results22, go_sem]) rfl ⟨ret_db e1.out.symm e2.out.symm e3.out.symm, ?_⟩
    repeat (first | exact Grown.refl _ | apply Grown.drew | apply Grown.alloc)

set_option maxHeartbeats 2000000 in
theorem w_double_217 (a0 a1 b0 b1 : Int) (w : World) (h0 : 0 ≤ a0) (h1 : a0 < 4294967296) (g0 : 0 ≤ a1) (g1 : a1 < 4294967296) (k0 : 0 ≤ b0) (k1 : b0 < 4294967296) (l0 : 0 ≤ b1) (l1 : b1 < 4294967296) :
    Calls Try.prog 22 #[.int .i64 217, .agg #[.int .u32 a0, .int .u32 a1], .agg #[.int .u32 b0, .int .u32 b1]] w fun e w' =>
      e = .returned (.tuple #[.agg #[.int .u32 (dbL 217 a0 a1 b0 b1), .int .u32 (dbH 217 a0 a1 b0 b1)], .int .i64 (dbE 217)]) ∧ Grown w w' := by
  have e1 : Hid (dbL 217 a0 a1 b0 b1 = IntKind.u64.wrap (a0 + a1 * 4294967296 - (b0 + b1 * 4294967296)) % 4294967296) := by show _ = _; simp [dbL, dbN]
  have e2 : Hid (dbH 217 a0 a1 b0 b1 = IntKind.u64.wrap (a0 + a1 * 4294967296 - (b0 + b1 * 4294967296)) / 4294967296) := by show _ = _; simp [dbH, dbN]
  have e3 : Hid (dbE 217 = 0) := by show _ = _; simp [dbE]
  go_enter Try.func22, Try.ntmps22
  go_wp2
  go_region_with (first | (go_at_call 39; refine (x_valueOf _ _ _ (by omega) (by omega) (by omega) (by omega)).mono ?_; rintro e w' ⟨rfl, rfl⟩) | (go_at_call 43; refine (x_doubleOfW _ _).mono ?_; rintro e w' ⟨rfl, rfl⟩))
  all_goals go_wp2
  all_goals
    refine bodyPost_ret (v := .tuple #[.agg #[.int .u32 (IntKind.u64.wrap (a0 + a1 * 4294967296 - (b0 + b1 * 4294967296)) % 4294967296), .int .u32 (IntKind.u64.wrap (a0 + a1 * 4294967296 - (b0 + b1 * 4294967296)) / 4294967296)], .int .i64 0]) (by simp [results, Try.results22, go_sem]) rfl ⟨ret_db e1.out.symm e2.out.symm e3.out.symm, ?_⟩
    repeat (first | exact Grown.refl _ | apply Grown.drew | apply Grown.alloc)

theorem db_other (op a0 a1 b0 b1 : Int) (c1 : ¬ op = 216) (c2 : ¬ op = 217) : dbL op a0 a1 b0 b1 = 0 ∧ dbH op a0 a1 b0 b1 = 0 ∧ dbE op = 2 := by simp [dbL, dbH, dbN, dbE, c1, c2]

set_option maxHeartbeats 1000000 in
theorem w_double_other (op : Int) (a0 a1 b0 b1 : Int) (w : World) (h0 : 0 ≤ a0) (h1 : a0 < 4294967296) (g0 : 0 ≤ a1) (g1 : a1 < 4294967296) (k0 : 0 ≤ b0) (k1 : b0 < 4294967296) (l0 : 0 ≤ b1) (l1 : b1 < 4294967296) (c1 : ¬ op = 216) (c2 : ¬ op = 217) :
    Calls Try.prog 22 #[.int .i64 op, .agg #[.int .u32 a0, .int .u32 a1], .agg #[.int .u32 b0, .int .u32 b1]] w fun e w' =>
      e = .returned (.tuple #[.agg #[.int .u32 (dbL op a0 a1 b0 b1), .int .u32 (dbH op a0 a1 b0 b1)], .int .i64 (dbE op)]) ∧ Grown w w' := by
  obtain ⟨f1, f2, f3⟩ := db_other op a0 a1 b0 b1 c1 c2
  rw [f1, f2, f3]
  clear f1 f2 f3
  go_enter Try.func22, Try.ntmps22
  go_wp2
  refine bodyPost_ret (v := .tuple #[.agg #[.int .u32 0, .int .u32 0], .int .i64 2]) (by simp [results, Try.results22, go_sem]) rfl ⟨rfl, ?_⟩
  repeat (first | exact Grown.refl _ | apply Grown.drew | apply Grown.alloc)

theorem w_double (op : Int) (a0 a1 b0 b1 : Int) (w : World) (h0 : 0 ≤ a0) (h1 : a0 < 4294967296) (g0 : 0 ≤ a1) (g1 : a1 < 4294967296) (k0 : 0 ≤ b0) (k1 : b0 < 4294967296) (l0 : 0 ≤ b1) (l1 : b1 < 4294967296) :
    Calls Try.prog 22 #[.int .i64 op, .agg #[.int .u32 a0, .int .u32 a1], .agg #[.int .u32 b0, .int .u32 b1]] w fun e w' =>
      e = .returned (.tuple #[.agg #[.int .u32 (dbL op a0 a1 b0 b1), .int .u32 (dbH op a0 a1 b0 b1)], .int .i64 (dbE op)]) ∧ Grown w w' := by
  by_cases c1 : op = 216
  · subst c1; exact w_double_216 a0 a1 b0 b1 w h0 h1 g0 g1 k0 k1 l0 l1
  by_cases c2 : op = 217
  · subst c2; exact w_double_217 a0 a1 b0 b1 w h0 h1 g0 g1 k0 k1 l0 l1
  exact w_double_other op a0 a1 b0 b1 w h0 h1 g0 g1 k0 k1 l0 l1 c1 c2

end Go.Proofs.Ytfmlkclacbceeaa
