/-
  What is complete by itself has never many cases open; built in between it stays small. Lists alone, but for what memory they ask.
-/
import Derived.Test.YtfmpeminfcehaaaPk4
namespace Go.Proofs.Ytfmpeminfcehaaa
set_option linter.unusedVariables false
set_option linter.unusedSimpArgs false

/-- a case that is ended lays an instruction -/
theorem act_cases {d : Dft} {a : Int} (h : (actD d a).2 = 0) : d.cases.length + d.code.length ≤ (actD d a).1.cases.length + (actD d a).1.code.length := by
  obtain ⟨hf, h1, h15, hlk, hlad, e⟩ := act_ok h
  rw [e]
  have hcs : a = 1 ∨ a = 2 ∨ a = 3 ∨ a = 4 ∨ a = 5 ∨ a = 6 ∨ a = 7 ∨ a = 8 ∨ a = 9 ∨ a = 10 ∨ a = 11 ∨ a = 12 ∨ a = 13 ∨ a = 14 ∨ a = 15 := by omega
  rcases hcs with rfl | rfl | rfl | rfl | rfl | rfl | rfl | rfl | rfl | rfl | rfl | rfl | rfl | rfl | rfl <;>
    simp only [doD, layF, ladF] <;> simp [aim_len, set_len] <;> omega
theorem put_cases {d : Dft} {o : Opd} (h : (putD d o).2 = 0) : d.cases.length + d.code.length ≤ (putD d o).1.cases.length + (putD d o).1.code.length := by
  obtain ⟨h1, h2, h3, e⟩ := put_ok h
  rw [e]
  simp
theorem stp_cases {d : Dft} {x : Ded} (h : (stpD d x).2 = 0) : d.cases.length + d.code.length ≤ (stpD d x).1.cases.length + (stpD d x).1.code.length := by
  unfold stpD at h ⊢
  split at h
  · rename_i g
    rw [if_pos g]
    exact put_cases h
  · rename_i g
    rw [if_neg g]
    exact act_cases h
theorem bld_cases (l : List Ded) : ∀ d : Dft, (bldD d l).2.2 = 0 → d.cases.length + d.code.length ≤ (bldD d l).1.cases.length + (bldD d l).1.code.length := by
  induction l with
  | nil => intro d _; exact Nat.le_refl _
  | cons x l ih =>
    intro d h
    by_cases hs : (stpD d x).2 = 0
    · have e : bldD d (x :: l) = ((bldD (stpD d x).1 l).1, (bldD (stpD d x).1 l).2.1 + 1, (bldD (stpD d x).1 l).2.2) := by rw [bldD, if_pos hs]
      rw [e] at h ⊢
      exact Nat.le_trans (stp_cases hs) (ih _ h)
    · rw [bldD, if_neg hs] at h
      exact absurd h hs
theorem bld_part {d : Dft} {l : List Ded} (h : (bldD d l).2.2 = 0) (j : Nat) : (bldD d (l.take j)).2.2 = 0 ∧ (bldD (bldD d (l.take j)).1 (l.drop j)).2.2 = 0 ∧ (bldD (bldD d (l.take j)).1 (l.drop j)).1 = (bldD d l).1 := by
  have key : ∀ (a b : List Ded) (d : Dft), (bldD d (a ++ b)).2.2 = 0 → (bldD d a).2.2 = 0 := by
    intro a
    induction a with
    | nil => intro b d _; rfl
    | cons x a ih =>
      intro b d h
      by_cases hs : (stpD d x).2 = 0
      · rw [List.cons_append, bldD, if_pos hs] at h
        rw [bldD, if_pos hs]
        exact ih b _ h
      · rw [List.cons_append, bldD, if_neg hs] at h
        exact absurd h hs
  have h1 : (bldD d (l.take j)).2.2 = 0 := key (l.take j) (l.drop j) d (by rw [List.take_append_drop]; exact h)
  have e := bld_app (l.take j) (l.drop j) d h1
  rw [List.take_append_drop] at e
  rw [e] at h ⊢
  exact ⟨h1, h, rfl⟩
/-- every draft on the way of what is built in between is small enough -/
theorem between_sz {d : Dft} {k : Nat} (h : Lng k k d) (hd : frmD d = true) (l : List Ded) (h1 : (bldD nilD l).2.2 = 0) (h2 : (finD (bldD nilD l).1).2 = 0) (h3 : d.code.length + (finD (bldD nilD l).1).1.length ≤ 256) (hk : (k + l.length) * 8 ≤ 140737488351232) (hc : (k + 256) * 32 ≤ 189999999999000) :
    ∀ j, j ≤ l.length → (bldD d (l.take j)).2.2 = 0 → szD (bldD d (l.take j)).1 ∧ szE (bldD d (l.take j)).1 := by
  intro j hj h0
  have hl : (l.take j).length = j := by simp; omega
  have L := bld_lng (l.take j) h
  rw [hl] at L
  obtain ⟨p1, p2, p3⟩ := bld_part h1 j
  have hX : (finD (bldD nilD l).1).1 = (bldD nilD l).1.code ∧ (bldD nilD l).1.cases = [] := by
    unfold finD at h2 ⊢
    split at h2
    · simp at h2
    · rename_i g1
      rw [if_neg g1]
      split at h2
      · simp at h2
      · rename_i g2
        rw [if_neg g2]
        simp only [Classical.not_not] at g2
        exact ⟨rfl, g2.2.2.2⟩
  rw [hX.1] at h3
  have c1 := bld_cases (l.drop j) _ p2
  rw [p3, hX.2] at c1
  have g1 := bld_grows (l.drop j) _ p2
  rw [p3] at g1
  have S0 : Sim d nilD d := ⟨⟨[], by simp, rfl, fun j hj => by simp [nilD] at hj⟩, by simp [nilD], by simp [nilD], by simp [nilD], by simp [nilD]⟩
  obtain ⟨s1, s2⟩ := sim_bld (l.take j) S0 hd p1 (by omega)
  have hcs : (bldD d (l.take j)).1.cases.length ≤ k + 256 := by
    rw [s2.cases, List.length_append, List.length_map]
    have := h.cases
    simp only [List.length_nil] at c1
    omega
  have L2 : Lng (k + j) (k + 256) (bldD d (l.take j)).1 := ⟨L.code, L.origs, L.dests, L.loops, hcs, L.louts, L.kouts⟩
  exact L2.sz (by omega) (by omega)
end Go.Proofs.Ytfmpeminfcehaaa
