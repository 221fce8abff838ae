/-
  What the statements of layer 7 want of paths. No Go text in sight.
-/
import Derived.Test.YtmjgiaomijghoaaDoorStp
namespace Go.Proofs.YtmjgiaomijghoaaDoor
set_option linter.unusedVariables false
set_option linter.unusedSimpArgs false

theorem par_bytes (X : List Int) (hb : bytesL X) : ∀ x ∈ (parF X).1, bytesL x.1 ∧ bytesL x.2.2 := by
  intro x hx
  by_cases h : (parF X).2 = 0
  · obtain ⟨_, _, h1, h2⟩ := (par_ok X hb h).1 x hx
    exact ⟨h1, h2⟩
  · rw [par_err X h] at hx
    simp at hx
theorem shoF_len (l : List Int) (h : cells l) : (shoF l).length ≤ 9 * l.length := by
  have := shoT_len l h
  unfold shoF
  rw [List.length_drop]
  omega
theorem shp_wt (l : List Sp) (hc : ∀ x ∈ l, cells x.2.1) : (shpT l).length ≤ 10 * wtS l := by
  induction l with
  | nil => simp [shpT, wtS]
  | cons x l ih =>
    have h1 := ih (fun y hy => hc y (by simp [hy]))
    have h2 := shoF_len x.2.1 (hc x (by simp))
    have h3 : (bodT x).length ≤ x.1.length + (1 + 9 * x.2.1.length) + (1 + x.2.2.length) := by
      unfold bodT
      simp only [List.length_append]
      split <;> split <;> simp <;> omega
    simp only [shpT, wtS, List.length_cons, List.length_append]
    omega
/-- what is shown is parsed as the same steps -/
theorem shp_back (l : List Sp) (hc : ∀ x ∈ l, cells x.2.1) (h : (shpF l).2 = 0) : parF (shpF l).1 = (l, 0) := by
  unfold shpF at h ⊢
  split at h
  · simp at h
  · rename_i h1
    split at h
    · rename_i h2
      rw [if_neg h1, if_pos h2, h2]
      rfl
    · rename_i h2
      split at h
      · simp at h
      · rename_i h3
        rw [if_neg h1, if_neg h2, if_neg h3]
        exact par_back l (by simpa using h1) hc (by omega) h2
theorem shp_err (l : List Sp) : (shpF l).2 = 0 ∨ (shpF l).1 = [] ∧ ((shpF l).2 = 1 ∨ (shpF l).2 = 3) := by
  unfold shpF
  split
  · right; simp
  · split
    · left; rfl
    · split
      · right; simp
      · left; rfl
theorem shp_bytes (l : List Sp) (hb : ∀ x ∈ l, bytesL x.1 ∧ bytesL x.2.2) (hc : ∀ x ∈ l, cells x.2.1) : bytesL (shpF l).1 := by
  have key : ∀ l : List Sp, (∀ x ∈ l, bytesL x.1 ∧ bytesL x.2.2) → (∀ x ∈ l, cells x.2.1) → bytesL (shpT l) := by
    intro l
    induction l with
    | nil => intro _ _ x hx; simp [shpT] at hx
    | cons y l ih =>
      intro hb hc x hx
      have h1 := hb y (by simp)
      simp only [shpT, List.mem_cons, List.mem_append, bodT] at hx
      rcases hx with rfl | (hx | hx | hx) | hx
      · omega
      · exact h1.1 x hx
      · split at hx
        · simp at hx
        · simp only [List.mem_cons] at hx
          rcases hx with rfl | hx
          · omega
          · exact shoF_bytes y.2.1 (hc y (by simp)) x hx
      · split at hx
        · simp at hx
        · simp only [List.mem_cons] at hx
          rcases hx with rfl | hx
          · omega
          · exact h1.2 x hx
      · exact ih (fun z hz => hb z (by simp [hz])) (fun z hz => hc z (by simp [hz])) x hx
  unfold shpF
  split
  · intro x hx; simp at hx
  · split
    · intro x hx; simp at hx; omega
    · split
      · intro x hx; simp at hx
      · exact key l hb hc
/-- what is parsed is shown in no more bytes -/
theorem par_shp (X : List Int) (hb : bytesL X) (h : (parF X).2 = 0) : (shpF (parF X).1).2 = 0 ∧ (shpF (parF X).1).1.length ≤ X.length := by
  obtain ⟨h1, h2, h3, h4⟩ := par_ok X hb h
  have hall : ¬ (parF X).1.all okS = false := by
    have : (parF X).1.all okS = true := by
      rw [List.all_eq_true]
      intro x hx
      exact (h1 x hx).1
    rw [this]
    decide
  unfold shpF
  rw [if_neg hall]
  split
  · rename_i h5
    rw [h4 h5]
    simp
  · rw [if_neg (by omega)]
    exact ⟨rfl, h2⟩
end Go.Proofs.YtmjgiaomijghoaaDoor
