/-
  isCode, behind, isOffset of the landed package; Coded, Behind of the document's answer for tokens.
-/
import Derived.Test.YtbllblikigogoaaTqm
namespace Go.Proofs.Ytbllblikigogoaa
open Go.ChangeShapes Go.WideShapes Go.ChangeAt Go.RowKit
set_option linter.unusedVariables false
set_option linter.unusedSimpArgs false

theorem w_isCode (c : Int) (w : World) : Calls Try.prog 24 #[.int .i64 c] w fun e w' => e = .returned (.bool (cdd c)) ∧ w' = w := by
  by_cases h0 : c = 0
  · subst h0
    go_enter Try.func24, Try.ntmps24
    go_wp2_with fail
    go_ret
    exact ⟨rfl, rfl⟩
  · have hq : (c == 0) = false := by simpa using h0
    by_cases h1 : 16 ≤ c
    · have e : cdd c = decide (c ≤ 4095) := by simp [cdd, h0, h1]
      rw [e]
      clear h0 e
      go_enter Try.func24, Try.ntmps24
      go_wp2_with fail
      go_ret
      exact ⟨rfl, rfl⟩
    · have e : cdd c = false := by simp [cdd, h0, h1]
      rw [e]
      clear h0 e
      go_enter Try.func24, Try.ntmps24
      go_wp2_with fail
      go_ret
      exact ⟨rfl, rfl⟩

theorem w_coded (c : Int) (w : World) : Calls Try.prog 29 #[.int .i64 c] w fun e w' => e = .returned (.bool (cdd c)) ∧ w' = w := by
  by_cases h0 : c = 0
  · subst h0
    go_enter Try.func29, Try.ntmps29
    go_wp2_with fail
    go_ret
    exact ⟨rfl, rfl⟩
  · have hq : (c == 0) = false := by simpa using h0
    by_cases h1 : 16 ≤ c
    · have e : cdd c = decide (c ≤ 4095) := by simp [cdd, h0, h1]
      rw [e]
      clear h0 e
      go_enter Try.func29, Try.ntmps29
      go_wp2_with fail
      go_ret
      exact ⟨rfl, rfl⟩
    · have e : cdd c = false := by simp [cdd, h0, h1]
      rw [e]
      clear h0 e
      go_enter Try.func29, Try.ntmps29
      go_wp2_with fail
      go_ret
      exact ⟨rfl, rfl⟩

set_option maxHeartbeats 4000000 in
theorem w_behind (c : Int) (w : World) : Calls Try.prog 25 #[.int .i64 c] w fun e w' => e = .returned (.int .i64 (bhF c : Nat)) ∧ w' = w := by
  have hc : c = 16 ∨ c = 17 ∨ c = 195 ∨ c = 18 ∨ c = 19 ∨ c = 20 ∨ c = 21 ∨ c = 22 ∨ c = 23 ∨ c = 24 ∨ c = 28 ∨ c = 198 ∨ c = 181 ∨ c = 182 ∨ c = 202 ∨ (¬ c = 16 ∧ ¬ c = 17 ∧ ¬ c = 195 ∧ ¬ c = 18 ∧ ¬ c = 19 ∧ ¬ c = 20 ∧ ¬ c = 21 ∧ ¬ c = 22 ∧ ¬ c = 23 ∧ ¬ c = 24 ∧ ¬ c = 28 ∧ ¬ c = 198 ∧ ¬ c = 181 ∧ ¬ c = 182 ∧ ¬ c = 202) := by omega
  rcases hc with rfl | rfl | rfl | rfl | rfl | rfl | rfl | rfl | rfl | rfl | rfl | rfl | rfl | rfl | rfl | ⟨h0, h1, h2, h3, h4, h5, h6, h7, h8, h9, h10, h11, h12, h13, h14⟩
  · go_enter Try.func25, Try.ntmps25
    go_wp2_with fail
    go_ret
    exact ⟨rfl, rfl⟩
  · go_enter Try.func25, Try.ntmps25
    go_wp2_with fail
    go_ret
    exact ⟨rfl, rfl⟩
  · go_enter Try.func25, Try.ntmps25
    go_wp2_with fail
    go_ret
    exact ⟨rfl, rfl⟩
  · go_enter Try.func25, Try.ntmps25
    go_wp2_with fail
    go_ret
    exact ⟨rfl, rfl⟩
  · go_enter Try.func25, Try.ntmps25
    go_wp2_with fail
    go_ret
    exact ⟨rfl, rfl⟩
  · go_enter Try.func25, Try.ntmps25
    go_wp2_with fail
    go_ret
    exact ⟨rfl, rfl⟩
  · go_enter Try.func25, Try.ntmps25
    go_wp2_with fail
    go_ret
    exact ⟨rfl, rfl⟩
  · go_enter Try.func25, Try.ntmps25
    go_wp2_with fail
    go_ret
    exact ⟨rfl, rfl⟩
  · go_enter Try.func25, Try.ntmps25
    go_wp2_with fail
    go_ret
    exact ⟨rfl, rfl⟩
  · go_enter Try.func25, Try.ntmps25
    go_wp2_with fail
    go_ret
    exact ⟨rfl, rfl⟩
  · go_enter Try.func25, Try.ntmps25
    go_wp2_with fail
    go_ret
    exact ⟨rfl, rfl⟩
  · go_enter Try.func25, Try.ntmps25
    go_wp2_with fail
    go_ret
    exact ⟨rfl, rfl⟩
  · go_enter Try.func25, Try.ntmps25
    go_wp2_with fail
    go_ret
    exact ⟨rfl, rfl⟩
  · go_enter Try.func25, Try.ntmps25
    go_wp2_with fail
    go_ret
    exact ⟨rfl, rfl⟩
  · go_enter Try.func25, Try.ntmps25
    go_wp2_with fail
    go_ret
    exact ⟨rfl, rfl⟩
  · have e : bhF c = 0 := by simp [bhF, h0, h1, h2, h3, h4, h5, h6, h7, h8, h9, h10, h11, h12, h13, h14]
    rw [e]
    have q0 : (c == 16) = false := by simpa using h0
    have q1 : (c == 17) = false := by simpa using h1
    have q2 : (c == 195) = false := by simpa using h2
    have q3 : (c == 18) = false := by simpa using h3
    have q4 : (c == 19) = false := by simpa using h4
    have q5 : (c == 20) = false := by simpa using h5
    have q6 : (c == 21) = false := by simpa using h6
    have q7 : (c == 22) = false := by simpa using h7
    have q8 : (c == 23) = false := by simpa using h8
    have q9 : (c == 24) = false := by simpa using h9
    have q10 : (c == 28) = false := by simpa using h10
    have q11 : (c == 198) = false := by simpa using h11
    have q12 : (c == 181) = false := by simpa using h12
    have q13 : (c == 182) = false := by simpa using h13
    have q14 : (c == 202) = false := by simpa using h14
    clear e h0 h1 h2 h3 h4 h5 h6 h7 h8 h9 h10 h11 h12 h13 h14
    go_enter Try.func25, Try.ntmps25
    go_wp2_with fail
    go_ret
    exact ⟨rfl, rfl⟩

set_option maxHeartbeats 4000000 in
theorem w_rbehind (c : Int) (w : World) : Calls Try.prog 30 #[.int .i64 c] w fun e w' => e = .returned (.int .i64 (bhF c : Nat)) ∧ w' = w := by
  have hc : c = 16 ∨ c = 17 ∨ c = 195 ∨ c = 18 ∨ c = 19 ∨ c = 20 ∨ c = 21 ∨ c = 22 ∨ c = 23 ∨ c = 24 ∨ c = 28 ∨ c = 198 ∨ c = 181 ∨ c = 182 ∨ c = 202 ∨ (¬ c = 16 ∧ ¬ c = 17 ∧ ¬ c = 195 ∧ ¬ c = 18 ∧ ¬ c = 19 ∧ ¬ c = 20 ∧ ¬ c = 21 ∧ ¬ c = 22 ∧ ¬ c = 23 ∧ ¬ c = 24 ∧ ¬ c = 28 ∧ ¬ c = 198 ∧ ¬ c = 181 ∧ ¬ c = 182 ∧ ¬ c = 202) := by omega
  rcases hc with rfl | rfl | rfl | rfl | rfl | rfl | rfl | rfl | rfl | rfl | rfl | rfl | rfl | rfl | rfl | ⟨h0, h1, h2, h3, h4, h5, h6, h7, h8, h9, h10, h11, h12, h13, h14⟩
  · go_enter Try.func30, Try.ntmps30
    go_wp2_with fail
    go_ret
    exact ⟨rfl, rfl⟩
  · go_enter Try.func30, Try.ntmps30
    go_wp2_with fail
    go_ret
    exact ⟨rfl, rfl⟩
  · go_enter Try.func30, Try.ntmps30
    go_wp2_with fail
    go_ret
    exact ⟨rfl, rfl⟩
  · go_enter Try.func30, Try.ntmps30
    go_wp2_with fail
    go_ret
    exact ⟨rfl, rfl⟩
  · go_enter Try.func30, Try.ntmps30
    go_wp2_with fail
    go_ret
    exact ⟨rfl, rfl⟩
  · go_enter Try.func30, Try.ntmps30
    go_wp2_with fail
    go_ret
    exact ⟨rfl, rfl⟩
  · go_enter Try.func30, Try.ntmps30
    go_wp2_with fail
    go_ret
    exact ⟨rfl, rfl⟩
  · go_enter Try.func30, Try.ntmps30
    go_wp2_with fail
    go_ret
    exact ⟨rfl, rfl⟩
  · go_enter Try.func30, Try.ntmps30
    go_wp2_with fail
    go_ret
    exact ⟨rfl, rfl⟩
  · go_enter Try.func30, Try.ntmps30
    go_wp2_with fail
    go_ret
    exact ⟨rfl, rfl⟩
  · go_enter Try.func30, Try.ntmps30
    go_wp2_with fail
    go_ret
    exact ⟨rfl, rfl⟩
  · go_enter Try.func30, Try.ntmps30
    go_wp2_with fail
    go_ret
    exact ⟨rfl, rfl⟩
  · go_enter Try.func30, Try.ntmps30
    go_wp2_with fail
    go_ret
    exact ⟨rfl, rfl⟩
  · go_enter Try.func30, Try.ntmps30
    go_wp2_with fail
    go_ret
    exact ⟨rfl, rfl⟩
  · go_enter Try.func30, Try.ntmps30
    go_wp2_with fail
    go_ret
    exact ⟨rfl, rfl⟩
  · have e : bhF c = 0 := by simp [bhF, h0, h1, h2, h3, h4, h5, h6, h7, h8, h9, h10, h11, h12, h13, h14]
    rw [e]
    have q0 : (c == 16) = false := by simpa using h0
    have q1 : (c == 17) = false := by simpa using h1
    have q2 : (c == 195) = false := by simpa using h2
    have q3 : (c == 18) = false := by simpa using h3
    have q4 : (c == 19) = false := by simpa using h4
    have q5 : (c == 20) = false := by simpa using h5
    have q6 : (c == 21) = false := by simpa using h6
    have q7 : (c == 22) = false := by simpa using h7
    have q8 : (c == 23) = false := by simpa using h8
    have q9 : (c == 24) = false := by simpa using h9
    have q10 : (c == 28) = false := by simpa using h10
    have q11 : (c == 198) = false := by simpa using h11
    have q12 : (c == 181) = false := by simpa using h12
    have q13 : (c == 182) = false := by simpa using h13
    have q14 : (c == 202) = false := by simpa using h14
    clear e h0 h1 h2 h3 h4 h5 h6 h7 h8 h9 h10 h11 h12 h13 h14
    go_enter Try.func30, Try.ntmps30
    go_wp2_with fail
    go_ret
    exact ⟨rfl, rfl⟩

theorem wrp16 (n : Int) : IntKind.i16.wrap n = if 32768 ≤ n % 65536 then n % 65536 - 65536 else n % 65536 := by simp [IntKind.wrap, IntKind.bits, IntKind.signed]
theorem wrp8 (n : Int) : IntKind.i8.wrap n = if 128 ≤ n % 256 then n % 256 - 256 else n % 256 := by simp [IntKind.wrap, IntKind.bits, IntKind.signed]
theorem off_wide (n : Int) : (n == IntKind.i16.wrap n) = (decide (-32768 ≤ n) && decide (n ≤ 32767)) := by
  rw [wrp16, Bool.eq_iff_iff]
  simp only [beq_iff_eq, Bool.and_eq_true, decide_eq_true_eq]
  split <;> omega
theorem off_narrow (n : Int) : (n == IntKind.i8.wrap n) = (decide (-128 ≤ n) && decide (n ≤ 127)) := by
  rw [wrp8, Bool.eq_iff_iff]
  simp only [beq_iff_eq, Bool.and_eq_true, decide_eq_true_eq]
  split <;> omega

theorem w_isOffset (n : Int) (wide : Bool) (w : World) : Calls Try.prog 26 #[.int .i64 n, .bool wide] w fun e w' => e = .returned (.bool (offF n wide)) ∧ w' = w := by
  cases wide with
  | true =>
    have e : offF n true = (n == IntKind.i16.wrap n) := by rw [off_wide]; rfl
    rw [e]
    have e2 : IntKind.i64.wrap (IntKind.i16.wrap n) = IntKind.i16.wrap n := by rw [IntKind.wrap_i64, wrp16]; split <;> omega
    go_enter Try.func26, Try.ntmps26
    go_wp2_with fail
    go_ret
    exact ⟨rfl, rfl⟩
  | false =>
    have e : offF n false = (n == IntKind.i8.wrap n) := by rw [off_narrow]; rfl
    rw [e]
    have e2 : IntKind.i64.wrap (IntKind.i8.wrap n) = IntKind.i8.wrap n := by rw [IntKind.wrap_i64, wrp8]; split <;> omega
    go_enter Try.func26, Try.ntmps26
    go_wp2_with fail
    go_ret
    exact ⟨rfl, rfl⟩
end Go.Proofs.Ytbllblikigogoaa
