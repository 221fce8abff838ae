/-
  Division: the floored and the symmetric quotient and rest of the program and of the document's answer return the same plain functions; Divide of both returns one function of its arguments, for all of them.
-/
import Derived.Test.YtfmlkclacbceeaaSh
namespace Go.Proofs.Ytfmlkclacbceeaa
open Go.ChangeShapes Go.WideShapes Go.ChangeAt Go.RowKit
set_option linter.unusedVariables false
set_option linter.unusedSimpArgs false

theorem grown_trans {a b c : World} (h : Grown a b) (g : Grown b c) : Grown a c :=
  ⟨World.keptBut_trans h.1 g.1, fun x => (g.2.1 x).trans (h.2.1 x), Nat.le_trans h.2.2 g.2.2⟩

theorem w_sym (n d : Int) (w : World) (hd : ¬ d = 0) : Calls Try.prog 42 #[.int .i64 n, .int .i64 d] w fun e w' => e = .returned (.tuple #[.int .i64 (wrap64 (n.tdiv d)), .int .i64 (n.tmod d)]) ∧ Grown w w' := by
  go_enter Try.func42, Try.ntmps42
  go_wp2
  go_region
  all_goals
    go_wp2
    go_ret2
    exact ⟨rfl, by repeat (first | exact Grown.refl _ | apply Grown.drew)⟩

def adj (n d : Int) : Bool := !(n.tmod d == 0) && (decide (n.tmod d < 0) != decide (d < 0))
/-- the floored quotient, and its rest -/
def fq (n d : Int) : Int := if adj n d = true then wrap64 (wrap64 (n.tdiv d) - 1) else wrap64 (n.tdiv d)
def fr (n d : Int) : Int := if adj n d = true then n.tmod d + d else n.tmod d
theorem tmod_bd (n d : Int) : (0 < d → -d < n.tmod d ∧ n.tmod d < d) ∧ (d < 0 → d < n.tmod d ∧ n.tmod d < -d) := by
  constructor
  · intro h
    exact ⟨Int.lt_tmod_of_pos n h, Int.tmod_lt_of_pos n h⟩
  · intro h
    have e : n.tmod d = n.tmod (-d) := by rw [Int.tmod_neg]
    rw [e]
    have h1 := Int.lt_tmod_of_pos n (show 0 < -d by omega)
    have h2 := Int.tmod_lt_of_pos n (show 0 < -d by omega)
    omega

set_option maxHeartbeats 400000 in
theorem w_floored (n d : Int) (w : World) (hd : ¬ d = 0) (d0 : -9223372036854775808 ≤ d) (d1 : d ≤ 9223372036854775807) : Calls Try.prog 38 #[.int .i64 n, .int .i64 d] w fun e w' => e = .returned (.tuple #[.int .i64 (fq n d), .int .i64 (fr n d)]) ∧ Grown w w' := by
  have hb := tmod_bd n d
  obtain ⟨hb1, hb2⟩ := hb
  rcases Int.lt_trichotomy (n.tmod d) 0 with hr | hr | hr
  all_goals rcases (show d < 0 ∨ 0 < d by omega) with hs | hs
  all_goals
    have ht : (n.tmod d != 0) = !(n.tmod d == 0) := rfl
    obtain ⟨c, hc⟩ : ∃ c, (n.tmod d == 0) = c := ⟨_, rfl⟩
    obtain ⟨x, hx⟩ : ∃ x, decide (n.tmod d < 0) = x := ⟨_, rfl⟩
    obtain ⟨y, hy⟩ : ∃ y, decide (d < 0) = y := ⟨_, rfl⟩
    have gx : x = true ↔ n.tmod d < 0 := by rw [← hx]; simp
    have gy : y = true ↔ d < 0 := by rw [← hy]; simp
    have gc : c = true ↔ n.tmod d = 0 := by rw [← hc]; simp
    rw [hc] at ht
    cases c
    all_goals cases x
    all_goals cases y
    all_goals (try (exfalso; simp only [Bool.false_eq_true, true_iff, false_iff] at gx gy gc; omega))
  all_goals
    clear gx gy gc
    simp only [Bool.not_false, Bool.not_true] at ht
    have e1 : Hid (fq n d = if adj n d = true then wrap64 (wrap64 (n.tdiv d) - 1) else wrap64 (n.tdiv d)) := rfl
    have e2 : Hid (fr n d = if adj n d = true then n.tmod d + d else n.tmod d) := rfl
    simp only [adj, hc, hx, hy] at e1 e2
    go_enter Try.func38, Try.ntmps38
    go_wp2_with (go_at_call 42; refine (w_sym _ _ _ hd).mono ?_; rintro e w1 ⟨rfl, hg⟩)
    go_ret2
    refine ⟨ret_ii ?_ ?_, hg⟩
    · rw [e1.out]; simp
    · rw [e2.out]; simp
      try omega

set_option maxHeartbeats 400000 in
theorem w_rfloor (n d : Int) (w : World) (hd : ¬ d = 0) (d0 : -9223372036854775808 ≤ d) (d1 : d ≤ 9223372036854775807) : Calls Try.prog 35 #[.int .i64 n, .int .i64 d] w fun e w' => e = .returned (.tuple #[.int .i64 (fq n d), .int .i64 (fr n d)]) ∧ Grown w w' := by
  have hb := tmod_bd n d
  obtain ⟨hb1, hb2⟩ := hb
  rcases Int.lt_trichotomy (n.tmod d) 0 with hr | hr | hr
  all_goals rcases (show d < 0 ∨ 0 < d by omega) with hs | hs
  all_goals
    have ht : (n.tmod d != 0) = !(n.tmod d == 0) := rfl
    obtain ⟨c, hc⟩ : ∃ c, (n.tmod d == 0) = c := ⟨_, rfl⟩
    obtain ⟨x, hx⟩ : ∃ x, decide (n.tmod d < 0) = x := ⟨_, rfl⟩
    obtain ⟨y, hy⟩ : ∃ y, decide (d < 0) = y := ⟨_, rfl⟩
    have gx : x = true ↔ n.tmod d < 0 := by rw [← hx]; simp
    have gy : y = true ↔ d < 0 := by rw [← hy]; simp
    have gc : c = true ↔ n.tmod d = 0 := by rw [← hc]; simp
    rw [hc] at ht
    cases c
    all_goals cases x
    all_goals cases y
    all_goals (try (exfalso; simp only [Bool.false_eq_true, true_iff, false_iff] at gx gy gc; omega))
  all_goals
    clear gx gy gc
    simp only [Bool.not_false, Bool.not_true] at ht
    have e1 : Hid (fq n d = if adj n d = true then wrap64 (wrap64 (n.tdiv d) - 1) else wrap64 (n.tdiv d)) := rfl
    have e2 : Hid (fr n d = if adj n d = true then n.tmod d + d else n.tmod d) := rfl
    simp only [adj, hc, hx, hy] at e1 e2
    go_enter Try.func35, Try.ntmps35
    go_wp2
    go_region
    all_goals go_wp2
    all_goals go_ret2
    all_goals
      refine ⟨ret_ii ?_ ?_, by repeat (first | exact Grown.refl _ | apply Grown.drew)⟩
      · rw [e1.out]; simp
      · rw [e2.out]; simp
        try omega

def dvQ (op a b : Int) : Int := if op = 42 ∧ ¬ b = 0 then fq (wrap32 a) (wrap32 b) % 4294967296 else if op = 43 ∧ ¬ b = 0 then a / b else 0
def dvR (op a b : Int) : Int := if op = 42 ∧ ¬ b = 0 then fr (wrap32 a) (wrap32 b) % 4294967296 else if op = 43 ∧ ¬ b = 0 then a % b else 0
def dvE (op b : Int) : Int := if ¬ op = 42 ∧ ¬ op = 43 then 2 else if b = 0 then 7 else 0
theorem wrap32_ne (b : Int) (g0 : 0 ≤ b) (g1 : b < 4294967296) (h : ¬ b = 0) : ¬ wrap32 b = 0 := by unfold wrap32; omega

set_option maxHeartbeats 400000 in
theorem w_divide (op a b : Int) (w : World) (h0 : 0 ≤ a) (h1 : a < 4294967296) (g0 : 0 ≤ b) (g1 : b < 4294967296) : Calls Try.prog 16 #[.int .i64 op, .int .u32 a, .int .u32 b] w fun e w' => e = .returned (.tuple #[.int .u32 (dvQ op a b), .int .u32 (dvR op a b), .int .i64 (dvE op b)]) ∧ Grown w w' := by
  have ha := wrap32_sbd a
  have hb := wrap32_sbd b
  by_cases c1 : op = 42
  · subst c1
    by_cases c2 : b = 0
    · subst c2
      go_enter Try.func16, Try.ntmps16
      go_wp2
      go_ret3
      exact ⟨ret_iii (by simp [dvQ]) (by simp [dvR]) (by simp [dvE]), Grown.refl _⟩
    · have hn := wrap32_ne b g0 g1 c2
      go_enter Try.func16, Try.ntmps16
      go_wp2_with (go_at_call 38; refine (w_floored _ _ _ hn (by omega) (by omega)).mono ?_; rintro e w1 ⟨rfl, hg⟩)
      go_ret3
      exact ⟨ret_iii (by simp [dvQ, c2]) (by simp [dvR, c2]) (by simp [dvE, c2]), hg⟩
  · by_cases c3 : op = 43
    · subst c3
      by_cases c2 : b = 0
      · subst c2
        go_enter Try.func16, Try.ntmps16
        go_wp2
        go_ret3
        exact ⟨ret_iii (by simp [dvQ]) (by simp [dvR]) (by simp [dvE]), Grown.refl _⟩
      · go_enter Try.func16, Try.ntmps16
        go_wp2
        go_region
        all_goals go_wp2
        all_goals go_ret3
        all_goals exact ⟨ret_iii (by simp [dvQ, c2]) (by simp [dvR, c2]) (by simp [dvE, c2]), by repeat (first | exact Grown.refl _ | apply Grown.drew)⟩
    · have t1 : (op != 42) = true := by simp [c1]
      have t2 : (op != 43) = true := by simp [c3]
      go_enter Try.func16, Try.ntmps16
      go_wp2
      go_ret3
      exact ⟨ret_iii (by simp [dvQ, c1, c3]) (by simp [dvR, c1, c3]) (by simp [dvE, c1, c3]), Grown.refl _⟩

set_option maxHeartbeats 400000 in
theorem w_rdivide (op a b : Int) (w : World) (h0 : 0 ≤ a) (h1 : a < 4294967296) (g0 : 0 ≤ b) (g1 : b < 4294967296) : Calls Try.prog 17 #[.int .i64 op, .int .u32 a, .int .u32 b] w fun e w' => e = .returned (.tuple #[.int .u32 (dvQ op a b), .int .u32 (dvR op a b), .int .i64 (dvE op b)]) ∧ Grown w w' := by
  have ha := wrap32_sbd a
  have hb := wrap32_sbd b
  by_cases c1 : op = 42
  · subst c1
    by_cases c2 : b = 0
    · subst c2
      go_enter Try.func17, Try.ntmps17
      go_wp2
      go_ret3
      exact ⟨ret_iii (by simp [dvQ]) (by simp [dvR]) (by simp [dvE]), Grown.refl _⟩
    · have hn := wrap32_ne b g0 g1 c2
      go_enter Try.func17, Try.ntmps17
      go_wp2_with (first | (go_at_call 15; refine (w_rsigned _ _ (by omega) (by omega)).mono ?_; rintro e w1 ⟨rfl, rfl⟩) | (go_at_call 35; refine (w_rfloor _ _ _ hn (by omega) (by omega)).mono ?_; rintro e w1 ⟨rfl, hg⟩) | (go_at_call 31; refine (w_rcell _ _).mono ?_; rintro e w1 ⟨rfl, rfl⟩))
      go_ret3
      exact ⟨ret_iii (by simp [dvQ, c2]) (by simp [dvR, c2]) (by simp [dvE, c2]), hg⟩
  · by_cases c3 : op = 43
    · subst c3
      by_cases c2 : b = 0
      · subst c2
        go_enter Try.func17, Try.ntmps17
        go_wp2
        go_ret3
        exact ⟨ret_iii (by simp [dvQ]) (by simp [dvR]) (by simp [dvE]), Grown.refl _⟩
      · go_enter Try.func17, Try.ntmps17
        go_wp2
        go_region
        all_goals go_wp2
        all_goals go_ret3
        all_goals exact ⟨ret_iii (by simp [dvQ, c2]) (by simp [dvR, c2]) (by simp [dvE, c2]), by repeat (first | exact Grown.refl _ | apply Grown.drew)⟩
    · have t1 : (op != 42) = true := by simp [c1]
      have t2 : (op != 43) = true := by simp [c3]
      go_enter Try.func17, Try.ntmps17
      go_wp2
      go_ret3
      exact ⟨ret_iii (by simp [dvQ, c1, c3]) (by simp [dvR, c1, c3]) (by simp [dvE, c1, c3]), Grown.refl _⟩

end Go.Proofs.Ytfmlkclacbceeaa
