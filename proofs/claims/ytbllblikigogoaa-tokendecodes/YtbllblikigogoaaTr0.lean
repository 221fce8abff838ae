/-
  code and two of the document's answer for tokens.
-/
import Derived.Test.YtbllblikigogoaaTk5
namespace Go.Proofs.Ytbllblikigogoaa
open Go.ChangeShapes Go.WideShapes Go.ChangeAt Go.RowKit
set_option linter.unusedVariables false
set_option linter.unusedSimpArgs false

theorem own_litB (w : World) (xs : List Int) (hm : xs.length ≤ maxLen) : OwB w.heap.size (w.alloc (.cells (xs.map (Value.int .u8)).toArray 5)) (.slice (some ⟨w.heap.size, 0, none⟩) xs.length xs.length) xs :=
  ⟨by simp, .inr ⟨w.heap.size, xs.length, _, rfl, Nat.le_refl _, heap_alloc_new w _, Nat.le_refl _, hm, by simp, by simp [List.take_of_length_le]⟩⟩
theorem OwB.le {b b' : Nat} {w : World} {v : Value} {B : List Int} (h : OwB b' w v B) (hb : b ≤ b') : OwB b w v B := own_le hb h

theorem w_rcode (c : Int) (w : World) (hc : cdd c = true) :
    Calls Try.prog 31 #[.int .i64 c] w fun e w' => ∃ v', e = .returned v' ∧ OwB w.heap.size w' v' (cbF c) ∧ Below w.heap.size w w' := by
  simp only [cdd, Bool.or_eq_true, Bool.and_eq_true, decide_eq_true_eq] at hc
  by_cases h1 : c ≤ 255
  · have e : cbF c = [c] := by simp [cbF, h1]
    rw [e]
    have hw : IntKind.u8.wrap c = c := by rw [IntKind.wrap_u8]; omega
    go_enter Try.func31, Try.ntmps31
    go_wp2_with fail
    go_ret
    exact ⟨_, rfl, own_litB w [c] (by simp [maxLen]), box_below _ _⟩
  · have e : cbF c = [c / 256, c % 256] := by simp [cbF, h1]
    rw [e]
    have h0 : 0 ≤ c := by omega
    have hw : IntKind.u8.wrap (c / 256) = c / 256 := by rw [IntKind.wrap_u8]; omega
    have hw2 : IntKind.u8.wrap (c % 256) = c % 256 := by rw [IntKind.wrap_u8]; omega
    have ht : Int.tdiv c 256 = c / 256 := Int.tdiv_eq_ediv_of_nonneg h0
    have hm : Int.tmod c 256 = c % 256 := Int.tmod_eq_emod_of_nonneg h0
    go_enter Try.func31, Try.ntmps31
    go_wp2_with fail
    go_ret
    exact ⟨_, rfl, own_litB w [c / 256, c % 256] (by simp [maxLen]), box_below _ _⟩

/-- of what is no number of two bytes, some two -/
theorem w_rtwo (n : Int) (w : World) (m0 : -9223372036854775808 ≤ n) (m1 : n < 9223372036854775808) :
    Calls Try.prog 32 #[.int .i64 n] w fun e w' => ∃ v' x y, e = .returned v' ∧ OwB w.heap.size w' v' [x, y] ∧ Below w.heap.size w w' ∧ (0 ≤ n → x = n / 256 % 256 ∧ y = n % 256) := by
  by_cases h0 : 0 ≤ n
  · have ht : Int.tdiv n 256 = n / 256 := Int.tdiv_eq_ediv_of_nonneg h0
    have hm : Int.tmod n 256 = n % 256 := Int.tmod_eq_emod_of_nonneg h0
    have hm2 : Int.tmod (n / 256) 256 = n / 256 % 256 := Int.tmod_eq_emod_of_nonneg (by omega)
    have hw : IntKind.u8.wrap (n / 256 % 256) = n / 256 % 256 := by rw [IntKind.wrap_u8]; omega
    have hw2 : IntKind.u8.wrap (n % 256) = n % 256 := by rw [IntKind.wrap_u8]; omega
    go_enter Try.func32, Try.ntmps32
    go_wp2_with fail
    go_ret
    exact ⟨_, _, _, rfl, own_litB w [n / 256 % 256, n % 256] (by simp [maxLen]), box_below _ _, fun _ => ⟨rfl, rfl⟩⟩
  · have H0 := hid h0
    clear h0
    go_enter Try.func32, Try.ntmps32
    go_wp2_with fail
    go_ret
    exact ⟨_, rfl, Int.tmod (Int.tdiv n 256) 256 % 256, Int.tmod n 256 % 256, own_litB w [_, _] (by simp [maxLen]), box_below _ _, fun h => by have := H0.out; omega⟩
end Go.Proofs.Ytbllblikigogoaa
