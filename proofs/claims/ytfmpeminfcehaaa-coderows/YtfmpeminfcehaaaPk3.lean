/-
  Rows of deeds, step by step: a deed more, the first that is refused; how long lists grow. Lists alone.
-/
import Derived.Test.YtfmpeminfcehaaaPk2
namespace Go.Proofs.Ytfmpeminfcehaaa
set_option linter.unusedVariables false
set_option linter.unusedSimpArgs false

theorem bld_app (a b : List Ded) : ∀ d : Dft, (bldD d a).2.2 = 0 → bldD d (a ++ b) = ((bldD (bldD d a).1 b).1, a.length + (bldD (bldD d a).1 b).2.1, (bldD (bldD d a).1 b).2.2) := by
  induction a with
  | nil => intro d _; simp [bldD]
  | cons x a ih =>
    intro d h
    by_cases hs : (stpD d x).2 = 0
    · have e1 : bldD d (x :: a) = ((bldD (stpD d x).1 a).1, (bldD (stpD d x).1 a).2.1 + 1, (bldD (stpD d x).1 a).2.2) := by rw [bldD, if_pos hs]
      rw [e1] at h
      have e2 := ih (stpD d x).1 h
      rw [List.cons_append, bldD, if_pos hs, e2, e1]
      simp only [List.length_cons]
      congr 2
      omega
    · rw [bldD, if_neg hs] at h
      exact absurd h hs
theorem bld_one (d : Dft) (x : Ded) : bldD d [x] = if (stpD d x).2 = 0 then ((stpD d x).1, 1, 0) else (d, 0, (stpD d x).2) := by
  rw [bldD]
  split <;> rfl
theorem bld_step {d D : Dft} {l : List Ded} {k : Nat} (hk : k < l.length) (h : bldD d (l.take k) = (D, k, 0)) (g : (stpD D l[k]).2 = 0) : bldD d (l.take (k + 1)) = ((stpD D l[k]).1, k + 1, 0) := by
  rw [List.take_succ_eq_append_getElem hk, bld_app _ _ _ (by rw [h]), h]
  simp only [bld_one, if_pos g, List.length_take]
  congr 2
  omega
theorem bld_stop {d D : Dft} {l : List Ded} {k : Nat} (hk : k < l.length) (h : bldD d (l.take k) = (D, k, 0)) (g : ¬ (stpD D l[k]).2 = 0) : bldD d l = (D, k, (stpD D l[k]).2) := by
  have e : l = l.take k ++ l.drop k := (List.take_append_drop k l).symm
  have e2 : bldD D (l.drop k) = (D, 0, (stpD D l[k]).2) := by
    rw [List.drop_eq_getElem_cons hk, bldD, if_neg g]
  have e3 := bld_app (l.take k) (l.drop k) d (by rw [h])
  rw [← e, h] at e3
  simp only [e2, List.length_take] at e3
  rw [e3]
  congr 2
  omega
theorem bld_end {d D : Dft} {l : List Ded} {k : Nat} (hk : l.length ≤ k) (h : bldD d (l.take k) = (D, k, 0)) : bldD d l = (D, k, 0) := by
  rw [List.take_of_length_le hk] at h
  exact h
end Go.Proofs.Ytfmpeminfcehaaa
