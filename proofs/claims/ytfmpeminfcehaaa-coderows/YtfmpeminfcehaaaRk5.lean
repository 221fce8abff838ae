/-
  laid and lacks of the document's answer for code.
-/
import Derived.Test.YtfmpeminfcehaaaRk1
namespace Go.Proofs.Ytfmpeminfcehaaa
open Go.ChangeShapes Go.WideShapes Go.ChangeAt Go.RowKit
set_option linter.unusedVariables false
set_option linter.unusedSimpArgs false

set_option maxHeartbeats 1000000 in
theorem w_r10laid (a : Int) (w : World) (h1 : 1 ≤ a) (h2 : a ≤ 15) :
    Calls Try.prog 25 #[.int .i64 a] w fun e w' => e = .returned (.int .i64 (ladF a)) ∧ w' = w := by
  have hcs : a = 1 ∨ a = 2 ∨ a = 3 ∨ a = 4 ∨ a = 5 ∨ a = 6 ∨ a = 7 ∨ a = 8 ∨ a = 9 ∨ a = 10 ∨ a = 11 ∨ a = 12 ∨ a = 13 ∨ a = 14 ∨ a = 15 := by omega
  rcases hcs with rfl | rfl | rfl | rfl | rfl | rfl | rfl | rfl | rfl | rfl | rfl | rfl | rfl | rfl | rfl
  all_goals (
    go_enter Try.func25, Try.ntmps25
    go_wp2_with fail
    go_ret
    exact ⟨rfl, rfl⟩)
theorem len_is {α : Type} [DecidableEq α] (l : List α) (n : Nat) (h : l.length = n) : decide (l = []) = ((n : Int) == 0) := by
  subst h
  cases l with
  | nil => rfl
  | cons a r =>
    have : ((((a :: r).length : Nat) : Int) == 0) = false := by rw [beq_eq_false_iff_ne]; simp; omega
    rw [this]
    simp

set_option maxHeartbeats 4000000 in
set_option maxRecDepth 100000 in
theorem w_r10lacks (v : Dv) (d : Dft) (a : Int) (w : World) (h : RdD w v d) (h1 : 1 ≤ a) (h2 : a ≤ 15) :
    Calls Try.prog 24 #[.agg v.cs, .int .i64 a] w fun e w' => e = .returned (.bool (lakF d a)) ∧ Below w.heap.size w w' := by
  have bw := box_below w (.cells v.cs 26)
  have st := stands_new w v.cs 26
  have l1 := rd_len h.origs uJ (P := Try.prog)
  have l2 := rd_len h.dests uJ (P := Try.prog)
  have l3 := slr_len h.loops uK (P := Try.prog)
  have l4 := slr_len h.cases uK (P := Try.prog)
  have m4 := slr_max h.cases
  unfold maxLen at m4
  have z1 := st.cell 1 v.vo rfl
  have z2 := st.cell 2 v.vd rfl
  have z3 := st.cell 3 v.vl rfl
  have z4 := st.cell 4 v.vk rfl
  have ca := fun i (hi : i < d.cases.length) => opn_at (RdN.below h.cases bw) i hi
  obtain ⟨U, hU⟩ : ∃ U, v.cs = U := ⟨_, rfl⟩
  simp only [hU] at z1 z2 z3 z4 bw ca ⊢
  clear hU st
  obtain ⟨n1, e1⟩ : ∃ n, d.origs.length = n := ⟨_, rfl⟩
  obtain ⟨n2, e2⟩ : ∃ n, d.dests.length = n := ⟨_, rfl⟩
  obtain ⟨n3, e3⟩ : ∃ n, d.loops.length = n := ⟨_, rfl⟩
  have hcs : (a = 1 ∨ a = 4 ∨ a = 7 ∨ a = 8 ∨ a = 12) ∨ (a = 2 ∨ a = 3) ∨ (a = 5 ∨ a = 6) ∨ (a = 9 ∨ a = 10 ∨ a = 11) ∨ (a = 13 ∨ a = 15) ∨ a = 14 := by omega
  rcases hcs with hcs | hcs | hcs | hcs | hcs | rfl
  · have hf : Hid (lakF d a = false) := by show _ = _; rcases hcs with rfl | rfl | rfl | rfl | rfl <;> rfl
    clear l1 l2 l3 l4 ca
    rcases hcs with rfl | rfl | rfl | rfl | rfl
    all_goals (
      go_enter Try.func24, Try.ntmps24
      go_wp2_with fail
      go_ret
      exact ⟨ret_b hf.out.symm, bw⟩)
  · have hf : Hid (lakF d a = ((n1 : Int) == 0)) := by show _ = _; rw [← len_is d.origs n1 e1]; rcases hcs with rfl | rfl <;> rfl
    rw [e1] at l1
    clear l2 l3 l4 ca e1 e2 e3
    rcases hcs with rfl | rfl
    all_goals (
      go_enter Try.func24, Try.ntmps24
      go_wp2_with fail
      go_ret
      exact ⟨ret_b hf.out.symm, bw⟩)
  · have hf : Hid (lakF d a = ((n2 : Int) == 0)) := by show _ = _; rw [← len_is d.dests n2 e2]; rcases hcs with rfl | rfl <;> rfl
    rw [e2] at l2
    clear l1 l3 l4 ca e1 e2 e3
    rcases hcs with rfl | rfl
    all_goals (
      go_enter Try.func24, Try.ntmps24
      go_wp2_with fail
      go_ret
      exact ⟨ret_b hf.out.symm, bw⟩)
  · have hf : Hid (lakF d a = ((n3 : Int) == 0)) := by show _ = _; rw [← len_is d.loops n3 e3]; rcases hcs with rfl | rfl | rfl <;> rfl
    rw [e3] at l3
    clear l1 l2 l4 ca e1 e2 e3
    rcases hcs with rfl | rfl | rfl
    all_goals (
      go_enter Try.func24, Try.ntmps24
      go_wp2_with fail
      go_ret
      exact ⟨ret_b hf.out.symm, bw⟩)
  · have hE : lakF d a = (decide (d.cases = []) || decide (¬ (nwO d.cases).1 = -1)) := by rcases hcs with rfl | rfl <;> rfl
    by_cases h0 : d.cases = []
    · have hf : Hid (lakF d a = true) := by show _ = _; rw [hE, decide_eq_true h0, Bool.true_or]
      have q0 : ((d.cases.length : Int) == 0) = true := by rw [h0]; rfl
      obtain ⟨n4, e4⟩ : ∃ n, d.cases.length = n := ⟨_, rfl⟩
      rw [e4] at l4 q0
      clear l1 l2 l3 ca e1 e2 e3 hE h0 e4 m4
      rcases hcs with rfl | rfl
      all_goals (
        go_enter Try.func24, Try.ntmps24
        go_wp2_with fail
        go_ret
        exact ⟨ret_b hf.out.symm, bw⟩)
    · have hl : 0 < d.cases.length := List.length_pos_iff.2 h0
      obtain ⟨k, hk⟩ : ∃ k, d.cases.length = k + 1 := ⟨d.cases.length - 1, by omega⟩
      obtain ⟨b1, o1, vo, r1, c0, c1, ro⟩ := ca k (by omega)
      have hn : (nwO d.cases).1 = (d.cases[k]'(by omega)).1 := by
        unfold nwO
        rw [show d.cases.length - 1 = k by omega, List.getD_eq_getElem?_getD, List.getElem?_eq_getElem (by omega)]
        rfl
      obtain ⟨X, hX⟩ : ∃ X, (d.cases[k]'(by omega)).1 = X := ⟨_, rfl⟩
      rw [hX] at c0 hn
      have hf : Hid (lakF d a = (X != -1)) := by
        show _ = _
        rw [hE, decide_eq_false h0, Bool.false_or, hn, Bool.eq_iff_iff, decide_eq_true_eq, bne_iff_ne]
      have q0 : (((k + 1 : Nat) : Int) == 0) = false := by rw [beq_eq_false_iff_ne]; omega
      have hkm : (k : Int) ≤ 9223372036854775806 := by omega
      have hks : ((k + 1 : Nat) : Int) - 1 = (k : Int) := by omega
      rw [hk] at l4
      clear l1 l2 l3 ca e1 e2 e3 hE h0 hk hX hn hl m4 ro
      have hcast : ((k + 1 : Nat) : Int) = (k : Int) + 1 := by omega
      rw [hcast] at l4 q0 hks
      clear hcast
      rcases hcs with rfl | rfl
      all_goals (
        go_enter Try.func24, Try.ntmps24
        go_wp2_with fail
        go_ret
        exact ⟨ret_b hf.out.symm, bw⟩)
  · have hE : lakF d 14 = (decide (d.cases = []) || decide ((nwO d.cases).1 = -1)) := rfl
    by_cases h0 : d.cases = []
    · have hf : Hid (lakF d 14 = true) := by show _ = _; rw [hE, decide_eq_true h0, Bool.true_or]
      have q0 : ((d.cases.length : Int) == 0) = true := by rw [h0]; rfl
      obtain ⟨n4, e4⟩ : ∃ n, d.cases.length = n := ⟨_, rfl⟩
      rw [e4] at l4 q0
      clear l1 l2 l3 ca e1 e2 e3 hE h0 e4 m4
      go_enter Try.func24, Try.ntmps24
      go_wp2_with fail
      go_ret
      exact ⟨ret_b hf.out.symm, bw⟩
    · have hl : 0 < d.cases.length := List.length_pos_iff.2 h0
      obtain ⟨k, hk⟩ : ∃ k, d.cases.length = k + 1 := ⟨d.cases.length - 1, by omega⟩
      obtain ⟨b1, o1, vo, r1, c0, c1, ro⟩ := ca k (by omega)
      have hn : (nwO d.cases).1 = (d.cases[k]'(by omega)).1 := by
        unfold nwO
        rw [show d.cases.length - 1 = k by omega, List.getD_eq_getElem?_getD, List.getElem?_eq_getElem (by omega)]
        rfl
      obtain ⟨X, hX⟩ : ∃ X, (d.cases[k]'(by omega)).1 = X := ⟨_, rfl⟩
      rw [hX] at c0 hn
      have hf : Hid (lakF d 14 = (X == -1)) := by
        show _ = _
        rw [hE, decide_eq_false h0, Bool.false_or, hn, Bool.eq_iff_iff, decide_eq_true_eq, beq_iff_eq]
      have q0 : (((k + 1 : Nat) : Int) == 0) = false := by rw [beq_eq_false_iff_ne]; omega
      have hkm : (k : Int) ≤ 9223372036854775806 := by omega
      have hks : ((k + 1 : Nat) : Int) - 1 = (k : Int) := by omega
      rw [hk] at l4
      clear l1 l2 l3 ca e1 e2 e3 hE h0 hk hX hn hl m4 ro
      have hcast : ((k + 1 : Nat) : Int) = (k : Int) + 1 := by omega
      rw [hcast] at l4 q0 hks
      clear hcast
      go_enter Try.func24, Try.ntmps24
      go_wp2_with fail
      go_ret
      exact ⟨ret_b hf.out.symm, bw⟩
end Go.Proofs.Ytfmpeminfcehaaa
