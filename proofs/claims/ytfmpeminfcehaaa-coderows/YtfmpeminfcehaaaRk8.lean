/-
  Act of the document's answer for code.
-/
import Derived.Test.YtfmpeminfcehaaaRk7
import Derived.Test.YtfmpeminfcehaaaRk5
import Derived.Test.YtfmpeminfcehaaaOdm
namespace Go.Proofs.Ytfmpeminfcehaaa
open Go.ChangeShapes Go.WideShapes Go.ChangeAt Go.RowKit
set_option linter.unusedVariables false
set_option linter.unusedSimpArgs false

theorem act_no1 {d : Dft} {a : Int} (h : frmD d = false) : actD d a = (nilD, 1) := by unfold actD; rw [if_pos (Or.inl h)]
theorem act_no2 {d : Dft} {a : Int} (h : frmD d = true) (h1 : 1 ≤ a) (h2 : a ≤ 15) (h3 : lakF d a = true) : actD d a = (nilD, 13) := by unfold actD; rw [if_neg (by rw [h]; simp; omega), if_pos h3]
theorem act_no3 {d : Dft} {a : Int} (h : frmD d = true) (h1 : 1 ≤ a) (h2 : a ≤ 15) (h3 : lakF d a = false) (h4 : ladF a ≠ 0) (h5 : 256 ≤ d.code.length) : actD d a = (nilD, 3) := by unfold actD; rw [if_neg (by rw [h]; simp; omega), if_neg (by rw [h3]; simp), if_pos ⟨h4, h5⟩]
theorem act_yes {d : Dft} {a : Int} (h : frmD d = true) (h1 : 1 ≤ a) (h2 : a ≤ 15) (h3 : lakF d a = false) (h4 : ¬ (ladF a ≠ 0 ∧ 256 ≤ d.code.length)) : actD d a = (doD d a (layF d a) d.code.length (layF d a).length (ladF a), 0) := by unfold actD; rw [if_neg (by rw [h]; simp; omega), if_neg (by rw [h3]; simp), if_neg h4]
theorem frm_code {d : Dft} (h : frmD d = true) : d.code.length ≤ 256 := by
  unfold frmD at h
  rw [Bool.and_eq_true, decide_eq_true_eq] at h
  exact h.1
theorem lak_o {d : Dft} {a : Int} (ha : a = 2 ∨ a = 3) (h : lakF d a = false) : 0 < d.origs.length := by
  rcases ha with rfl | rfl <;> (simp [lakF] at h; exact List.length_pos_iff.2 h)
theorem lak_d {d : Dft} {a : Int} (ha : a = 5 ∨ a = 6) (h : lakF d a = false) : 0 < d.dests.length := by
  rcases ha with rfl | rfl <;> (simp [lakF] at h; exact List.length_pos_iff.2 h)
theorem lak_l {d : Dft} {a : Int} (ha : a = 9 ∨ a = 10 ∨ a = 11) (h : lakF d a = false) : 0 < d.loops.length := by
  rcases ha with rfl | rfl | rfl <;> (simp [lakF] at h; exact List.length_pos_iff.2 h)
theorem lak_k {d : Dft} {a : Int} (ha : a = 13 ∨ a = 14 ∨ a = 15) (h : lakF d a = false) : 0 < d.cases.length := by
  rcases ha with rfl | rfl | rfl <;> (simp [lakF] at h; exact List.length_pos_iff.2 h.1)
theorem frm_o {d : Dft} (h : frmD d = true) (hl : 0 < d.origs.length) : 0 ≤ nwI d.origs ∧ nwI d.origs < d.code.length := by
  have g := ((frm_iff d).1 h).origs _ (nwI_mem (List.length_pos_iff.1 hl))
  unfold okOr at g
  rw [decide_eq_true_eq] at g
  exact knd_lt (by omega)
theorem frm_d {d : Dft} (h : frmD d = true) (hl : 0 < d.dests.length) : 0 ≤ nwI d.dests ∧ nwI d.dests ≤ d.code.length := by
  have g := ((frm_iff d).1 h).dests _ (nwI_mem (List.length_pos_iff.1 hl))
  unfold okDe at g
  rw [decide_eq_true_eq] at g
  exact g
theorem frm_l {d : Dft} (h : frmD d = true) (hl : 0 < d.loops.length) : (0 ≤ (nwO d.loops).1 ∧ (nwO d.loops).1 < d.code.length) ∧ ∀ n ∈ (nwO d.loops).2, 0 ≤ n ∧ n < d.code.length := by
  have g := ((frm_iff d).1 h).loops _ (nwO_mem (List.length_pos_iff.1 hl))
  unfold okLo at g
  rw [Bool.and_eq_true, decide_eq_true_eq] at g
  refine ⟨knd_lt (by omega), fun n hn => ?_⟩
  have q := List.all_eq_true.1 g.2 n hn
  unfold okOu at q
  rw [decide_eq_true_eq] at q
  exact knd_lt (by omega)
theorem frm_k {d : Dft} (h : frmD d = true) (hl : 0 < d.cases.length) : ((nwO d.cases).1 = -1 ∨ 0 ≤ (nwO d.cases).1 ∧ (nwO d.cases).1 < d.code.length) ∧ ∀ n ∈ (nwO d.cases).2, 0 ≤ n ∧ n < d.code.length := by
  have g := ((frm_iff d).1 h).cases _ (nwO_mem (List.length_pos_iff.1 hl))
  unfold okCa at g
  rw [Bool.and_eq_true, decide_eq_true_eq] at g
  refine ⟨g.1.imp id (fun q => knd_lt (by omega)), fun n hn => ?_⟩
  have q := List.all_eq_true.1 g.2 n hn
  unfold okOu at q
  rw [decide_eq_true_eq] at q
  exact knd_lt (by omega)
theorem lak_14 {d : Dft} (h : lakF d 14 = false) : ¬ (nwO d.cases).1 = -1 := by
  simp [lakF] at h
  exact h.2
theorem setN_at (c : List Opd) (i : Nat) (to : Int) : setN c (i : Int) to = setN c i to := rfl
end Go.Proofs.Ytfmpeminfcehaaa
