/-
  How long the lists of a draft grow while it is built. Lists alone, but for what memory they ask.
-/
import Derived.Test.YtfmpeminfcehaaaPk3
import Derived.Test.YtfmpeminfcehaaaOdm
namespace Go.Proofs.Ytfmpeminfcehaaa
set_option linter.unusedVariables false
set_option linter.unusedSimpArgs false

structure Lng (k kc : Nat) (d : Dft) : Prop where
  code : d.code.length ≤ 256
  origs : d.origs.length ≤ k
  dests : d.dests.length ≤ k
  loops : d.loops.length ≤ d.code.length
  cases : d.cases.length ≤ kc
  louts : ∀ x ∈ d.loops, x.2.length ≤ k
  kouts : ∀ x ∈ d.cases, x.2.length ≤ k
theorem lng_nil : Lng 0 0 nilD := ⟨by simp [nilD], by simp [nilD], by simp [nilD], by simp [nilD], by simp [nilD], by simp [nilD], by simp [nilD]⟩
theorem Lng.mono {k kc k' kc' : Nat} {d : Dft} (h : Lng k kc d) (h1 : k ≤ k') (h2 : kc ≤ kc') : Lng k' kc' d :=
  ⟨h.code, Nat.le_trans h.origs h1, Nat.le_trans h.dests h1, h.loops, Nat.le_trans h.cases h2, fun x hx => Nat.le_trans (h.louts x hx) h1, fun x hx => Nat.le_trans (h.kouts x hx) h1⟩
theorem nwO_len {k : Nat} {l : List Opn} (h : ∀ x ∈ l, x.2.length ≤ k) : (nwO l).2.length ≤ k := by
  by_cases e : l = []
  · subst e
    simp [nwO]
  · exact h _ (nwO_mem e)
theorem set_outs {k : Nat} {l : List Opn} {n : Nat} {y : Opn} (h : ∀ x ∈ l, x.2.length ≤ k) (hy : y.2.length ≤ k + 1) : ∀ x ∈ l.set n y, x.2.length ≤ k + 1 := by
  intro x hx
  rcases List.mem_or_eq_of_mem_set hx with hx | rfl
  · have := h x hx
    omega
  · exact hy
theorem app_outs {k : Nat} {l : List Opn} {a : Int} (h : ∀ x ∈ l, x.2.length ≤ k) : ∀ x ∈ l ++ [(a, [])], x.2.length ≤ k + 1 := by
  intro x hx
  rcases List.mem_append.1 hx with hx | hx
  · have := h x hx
    omega
  · rw [List.mem_singleton] at hx
    subst hx
    simp
theorem take_outs {k n : Nat} {l : List Opn} (h : ∀ x ∈ l, x.2.length ≤ k) : ∀ x ∈ l.take n, x.2.length ≤ k + 1 := fun x hx => by
  have := h x (List.mem_of_mem_take hx)
  omega
theorem Lng.outs1 {k kc : Nat} {d : Dft} (h : Lng k kc d) : (∀ x ∈ d.loops, x.2.length ≤ k + 1) ∧ ∀ x ∈ d.cases, x.2.length ≤ k + 1 :=
  ⟨fun x hx => Nat.le_succ_of_le (h.louts x hx), fun x hx => Nat.le_succ_of_le (h.kouts x hx)⟩
theorem act_lng {k kc : Nat} {d : Dft} {a : Int} (h : Lng k kc d) (h0 : (actD d a).2 = 0) : Lng (k + 1) (kc + 1) (actD d a).1 := by
  have hc : (actD d a).1.code.length ≤ 256 := ((frm_iff _).1 (act_formed h0)).len
  obtain ⟨hf, h1, h15, hlk, hlad, e⟩ := act_ok h0
  rw [e] at hc ⊢
  have o1 := h.outs1.1
  have o2 := h.outs1.2
  have n1 := nwO_len h.louts
  have n2 := nwO_len h.kouts
  have c1 := h.origs
  have c2 := h.dests
  have c3 := h.loops
  have c4 := h.cases
  have hcs : a = 1 ∨ a = 2 ∨ a = 3 ∨ a = 4 ∨ a = 5 ∨ a = 6 ∨ a = 7 ∨ a = 8 ∨ a = 9 ∨ a = 10 ∨ a = 11 ∨ a = 12 ∨ a = 13 ∨ a = 14 ∨ a = 15 := by omega
  have hlp : a = 2 → 0 < d.origs.length := by
    rintro rfl
    simp [lakF] at hlk
    exact List.length_pos_iff.2 hlk
  rcases hcs with rfl | rfl | rfl | rfl | rfl | rfl | rfl | rfl | rfl | rfl | rfl | rfl | rfl | rfl | rfl <;>
    refine ⟨hc, ?_, ?_, ?_, ?_, ?_, ?_⟩ <;> simp only [doD, layF, ladF] <;>
    first
      | exact o1
      | exact o2
      | exact take_outs h.louts
      | exact take_outs h.kouts
      | exact app_outs h.louts
      | exact app_outs h.kouts
      | exact set_outs h.louts (by simp only [List.length_append, List.length_singleton]; omega)
      | exact set_outs h.kouts (by simp only [List.length_append, List.length_singleton]; omega)
      | exact set_outs h.kouts (by omega)
      | (simp [aim_len, set_len]; done)
      | (simp [aim_len, set_len] <;> omega)
theorem put_lng {k kc : Nat} {d : Dft} {o : Opd} (h : Lng k kc d) (h0 : (putD d o).2 = 0) : Lng (k + 1) (kc + 1) (putD d o).1 := by
  obtain ⟨h1, h2, h3, e⟩ := put_ok h0
  have hc : (putD d o).1.code.length ≤ 256 := ((frm_iff _).1 (put_formed h0)).len
  rw [e] at hc ⊢
  have c1 := h.origs
  have c2 := h.dests
  have c3 := h.loops
  have c4 := h.cases
  exact ⟨hc, Nat.le_succ_of_le c1, Nat.le_succ_of_le c2, by simp; omega, Nat.le_succ_of_le c4, h.outs1.1, h.outs1.2⟩
theorem stp_lng {k kc : Nat} {d : Dft} {x : Ded} (h : Lng k kc d) (h0 : (stpD d x).2 = 0) : Lng (k + 1) (kc + 1) (stpD d x).1 := by
  unfold stpD at h0 ⊢
  split at h0
  · rename_i g
    rw [if_pos g]
    exact put_lng h h0
  · rename_i g
    rw [if_neg g]
    exact act_lng h h0
theorem bld_lng (l : List Ded) : ∀ {k kc : Nat} {d : Dft}, Lng k kc d → Lng (k + l.length) (kc + l.length) (bldD d l).1 := by
  induction l with
  | nil => intro k kc d h; exact h
  | cons x l ih =>
    intro k kc d h
    unfold bldD
    split
    · rename_i g
      have := ih (stp_lng h g)
      exact this.mono (by simp; omega) (by simp; omega)
    · exact h.mono (by omega) (by omega)
theorem Lng.sz {k kc : Nat} {d : Dft} (h : Lng k kc d) (h1 : k * 8 ≤ 140737488351232) (h2 : kc * 32 ≤ 189999999999000) : szD d ∧ szE d := by
  have c0 := h.code
  have c1 := h.origs
  have c2 := h.dests
  have c3 := h.loops
  have c4 := h.cases
  refine ⟨⟨by omega, by omega, by omega, by omega, fun x hx => ?_, by omega, fun x hx => ?_⟩, ⟨by omega, by omega, by omega, by omega, fun x hx => ?_, fun x hx => ?_⟩⟩
  · have := h.louts x hx
    omega
  · have := h.kouts x hx
    omega
  · have := h.louts x hx
    omega
  · have := h.kouts x hx
    omega
/-- every draft on the way is small enough -/
theorem bld_sz {d : Dft} {k kc : Nat} (h : Lng k kc d) (l : List Ded) (h1 : (k + l.length) * 8 ≤ 140737488351232) (h2 : (kc + l.length) * 32 ≤ 189999999999000) : ∀ j, j ≤ l.length → (bldD d (l.take j)).2.2 = 0 → szD (bldD d (l.take j)).1 ∧ szE (bldD d (l.take j)).1 := by
  intro j hj _
  have hl : (l.take j).length = j := by simp; omega
  have := bld_lng (l.take j) h
  rw [hl] at this
  exact this.sz (by omega) (by omega)
end Go.Proofs.Ytfmpeminfcehaaa
