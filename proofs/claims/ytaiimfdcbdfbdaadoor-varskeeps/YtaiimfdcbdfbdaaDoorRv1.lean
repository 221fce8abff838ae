/-
  Variable, find, Default of the document's answer for layer 19.
-/
import Derived.Test.YtaiimfdcbdfbdaaDoorVst
namespace Go.Proofs.YtaiimfdcbdfbdaaDoor
open Go.ChangeShapes Go.WideShapes Go.ChangeAt Go.RowKit
set_option linter.unusedVariables false
set_option linter.unusedSimpArgs false

set_option maxHeartbeats 1000000 in
theorem w_rvariable (k : Nat) (hk : k < 9) (w : World) :
    Calls Tryd.prog 32 #[.int .i64 (k : Int)] w fun e w' => e = .returned (.tuple #[.string (vaT k).1, .int .u8 (vaT k).2.1, .string (vaT k).2.2]) ∧ w' = w := by
  match k, hk with
  | 0, _ | 1, _ | 2, _ | 3, _ | 4, _ | 5, _ | 6, _ | 7, _ | 8, _ =>
    go_enter Tryd.func32, Tryd.ntmps32
    go_wp2_with fail
    go_ret3
    exact ⟨rfl, rfl⟩

set_option maxHeartbeats 1000000 in
theorem w_rfind (nm : ByteArray) (w : World) :
    Calls Tryd.prog 31 #[.string nm] w fun e w' => e = .returned (.int .i64 (vaF nm)) ∧ w' = w := by
  go_enter Tryd.func31, Tryd.ntmps31
  go_wp2_with fail
  go_loopw [3] (fun I wx => ∃ k : Nat, k ≤ 9 ∧ I = .int .i64 k ∧ Hid (∀ j, j < k → ¬ (vaT j).1 = nm) ∧ wx = w) (fun I _ => (9 - intOf I).toNat)
  case atStart => exact ⟨0, by omega, rfl, hid (fun j hj => by omega), rfl⟩
  case round =>
    obtain ⟨k, hk, rfl, hm, hw0⟩ := hrel
    obtain rfl := hw0.symm
    by_cases hlt : (k : Int) < 9
    · have cV := w_rvariable k (by omega)
      have hq := str_beq (vaT k).1 nm
      by_cases he : (vaT k).1 = nm
      · have hf := hid (va_hit (show k < 9 by omega) he)
        rw [decide_eq_true he] at hq
        obtain ⟨⟨T1, T2, T3⟩, hT⟩ : ∃ t, vaT k = t := ⟨_, rfl⟩
        rw [hT] at hq cV
        clear he hT
        go_wp2_with (go_at_call 32; refine (cV _).mono ?_; rintro e w1 ⟨rfl, hw⟩; obtain rfl := hw.symm)
        go_ret
        exact ⟨ret_i hf.out.symm, rfl⟩
      · have hm2 : Hid (∀ j, j < k + 1 → ¬ (vaT j).1 = nm) := by
          intro j hj
          by_cases e : j = k
          · rw [e]; exact he
          · exact hm.out j (by omega)
        rw [decide_eq_false he] at hq
        obtain ⟨⟨T1, T2, T3⟩, hT⟩ : ∃ t, vaT k = t := ⟨_, rfl⟩
        rw [hT] at hq cV
        clear he hT hm
        go_wp2_with (go_at_call 32; refine (cV _).mono ?_; rintro e w1 ⟨rfl, hw⟩; obtain rfl := hw.symm)
        go_roundw
        case rel => exact ⟨k + 1, by omega, by go_num, hm2, trivial⟩
        case measure => simp [intOf]; omega
    · have hf := hid (va_miss (fun j hj => hm.out j (by omega)))
      go_wp2_with fail
      go_ret
      exact ⟨ret_i hf.out.symm, rfl⟩

set_option maxHeartbeats 1000000 in
theorem w_rdefault (nm : ByteArray) (w : World) :
    Calls Tryd.prog 13 #[.string nm] w fun e w' => e = .returned (.tuple #[.string (vaD nm).1, .int .i64 (vaD nm).2]) ∧ w' = w := by
  have cF := w_rfind nm
  unfold vaD
  by_cases h : vaF nm < 0
  · rw [if_pos h]
    generalize vaF nm = k at cF h
    go_enter Tryd.func13, Tryd.ntmps13
    go_wp2_with (go_at_call 31; refine (cF _).mono ?_; rintro e w1 ⟨rfl, hw⟩; obtain rfl := hw.symm)
    go_ret2
    exact ⟨rfl, rfl⟩
  · rw [if_neg h]
    obtain ⟨h1, h2⟩ := va_found (show 0 ≤ vaF nm by omega)
    obtain ⟨k, hk⟩ : ∃ k : Nat, vaF nm = k := ⟨(vaF nm).toNat, by omega⟩
    rw [hk] at h cF h1 ⊢
    simp only [Int.toNat_natCast] at h1 ⊢
    have cV := w_rvariable k h1
    obtain ⟨⟨T1, T2, T3⟩, hT⟩ : ∃ t, vaT k = t := ⟨_, rfl⟩
    rw [hT] at cV ⊢
    clear hT hk h2
    go_enter Tryd.func13, Tryd.ntmps13
    go_wp2_with (first
      | (go_at_call 31; refine (cF _).mono ?_; rintro e w1 ⟨rfl, hw⟩; obtain rfl := hw.symm)
      | (go_at_call 32; refine (cV _).mono ?_; rintro e w1 ⟨rfl, hw⟩; obtain rfl := hw.symm))
    go_ret2
    exact ⟨rfl, rfl⟩
end Go.Proofs.YtaiimfdcbdfbdaaDoor
