/-
  What the laws on tokens lean on besides: bytes of what is shown, places that grow, an error that answers no tokens.
-/
import Derived.Test.YtpjkjkjoaapdiaaDoorPsw
import Derived.Test.YtpjkjkjoaapdiaaDoorSb
namespace Go.Proofs.YtpjkjkjoaapdiaaDoor
set_option linter.unusedVariables false
set_option linter.unusedSimpArgs false

theorem dg_bytes (n : Int) (h0 : 0 ≤ n) (h1 : n < 16) : 0 ≤ dg n ∧ dg n < 256 := by unfold dg; omega
theorem esc_bytes (t : List Int) (h : bytesL t) : bytesL (t.flatMap esc) := by
  intro x hx
  rw [List.mem_flatMap] at hx
  obtain ⟨c, hc, hx⟩ := hx
  have hb := h c hc
  unfold esc at hx
  split at hx
  · have h1 := dg_bytes (c / 16) (by omega) (by omega)
    have h2 := dg_bytes (c % 16) (by omega) (by omega)
    simp only [hxd, List.mem_cons, List.not_mem_nil, or_false] at hx
    omega
  · simp at hx
    omega
theorem tokT_bytes (k : Int) (t : List Int) (h : bytesL t) : bytesL (tokT k t) := by
  have he := esc_bytes t h
  unfold tokT
  split
  · exact h
  · intro x hx
    simp only [List.mem_append, List.mem_cons, List.not_mem_nil, or_false] at hx
    rcases hx with hx | hx | hx | hx
    · split at hx
      · simp at hx; omega
      · simp at hx
    · omega
    · exact he x hx
    · omega
theorem shwT_bytes : ∀ l : List (Int × List Int), (∀ x ∈ l, bytesL x.2) → bytesL (shwT l)
  | [], _ => fun x hx => by simp [shwT] at hx
  | y :: l, h => by
    intro x hx
    simp only [shwT, List.mem_cons, List.mem_append] at hx
    rcases hx with rfl | hx | hx
    · omega
    · exact tokT_bytes y.1 y.2 (h y (by simp)) x hx
    · exact shwT_bytes l (fun z hz => h z (by simp [hz])) x hx
theorem shwD_bytes (l : List (Int × List Int)) (h : ∀ x ∈ l, bytesL x.2) : bytesL ((shwT l).drop 1) := fun x hx => shwT_bytes l h x (List.mem_of_mem_drop hx)
/-- places grow -/
theorem plc_inc (l : List (Int × List Int)) : ∀ (i : Int) (j : Nat) (h : j + 1 < (plc i l).length), ((plc i l)[j]'(by omega)).2.2 < (plc i l)[j + 1].2.2 := by
  induction l with
  | nil => intro i j h; simp [plc] at h
  | cons x l ih =>
    intro i j h
    cases j with
    | zero =>
      cases l with
      | nil => simp [plc] at h
      | cons y l =>
        simp [plc]
        omega
    | succ j =>
      have := ih (i + (tokT x.1 x.2).length + 1) j (by simpa [plc] using h)
      simpa [plc] using this
theorem eof_err (s : Sc × List Tk) (h : (eof s).2 ≠ 0) : (eof s).1 = [] := by
  obtain ⟨s, out⟩ := s
  cases s with
  | btw => simp [eof] at h
  | cmt => simp [eof] at h
  | wrd w p =>
    simp only [eof] at h ⊢
    split
    · rename_i h1; rw [if_pos h1] at h; simp at h
    · rename_i h1
      rw [if_neg h1] at h
      split
      · rfl
      · rename_i h2; rw [if_neg h2] at h; simp at h
  | qq k t p =>
    simp only [eof] at h ⊢
    split
    · rfl
    · rename_i h2; rw [if_neg h2] at h; simp at h
  | _ => rfl
theorem cut_err (X : List Int) (h : (cutF X).2 ≠ 0) : (cutF X).1 = [] := by
  unfold cutF at h ⊢
  split
  · rfl
  · rename_i h1
    rw [if_neg h1] at h
    exact eof_err _ h
theorem cut_long (X : List Int) (h : 4096 < X.length) : cutF X = ([], 3) := by
  unfold cutF
  rw [if_pos h]
/-! places -/
def scP (i : Int) : Sc → Prop
  | .wrd _ p => 0 ≤ p ∧ p < i
  | .sho _ p => 0 ≤ p ∧ p < i
  | .qt _ _ p => 0 ≤ p ∧ p < i
  | .qq _ _ p => 0 ≤ p ∧ p < i
  | .hx _ _ _ p => 0 ≤ p ∧ p < i
  | _ => True
def tkP (i : Int) (x : Tk) : Prop := 0 ≤ x.2.2 ∧ x.2.2 < i
theorem tks_P {i : Int} {out : List Tk} {x : Tk} (h : ∀ y ∈ out, tkP i y) (hx : tkP i x) : ∀ y ∈ out ++ [x], tkP i y := by
  intro y hy
  rcases List.mem_append.1 hy with hy | hy
  · exact h y hy
  · simp at hy; subst hy; exact hx
theorem step_P (i c : Int) (hi : 0 ≤ i) (s : Sc) (out : List Tk) (hs : scP i s) (ho : ∀ y ∈ out, tkP i y) : scP (i + 1) (step i c s out).1 ∧ ∀ y ∈ (step i c s out).2, tkP (i + 1) y := by
  have hm : ∀ y ∈ out, tkP (i + 1) y := fun y hy => by have := ho y hy; unfold tkP at this ⊢; omega
  cases s with
  | btw => simp only [step]; split <;> exact ⟨by simp [scP]; try omega, hm⟩
  | wrd w p =>
    have h2 : 0 ≤ p ∧ p < i := hs
    simp only [step]
    split
    · unfold wend
      split
      · split <;> exact ⟨trivial, hm⟩
      · split
        · exact ⟨trivial, hm⟩
        · split
          · exact ⟨by simp [scP]; omega, hm⟩
          · split
            · exact ⟨by simp [scP]; omega, hm⟩
            · split
              · exact ⟨by simp [scP]; omega, hm⟩
              · exact ⟨trivial, tks_P hm (by unfold tkP; simp; omega)⟩
    · exact ⟨by simp [scP]; omega, hm⟩
  | cmt => simp only [step]; split <;> exact ⟨trivial, hm⟩
  | par => simp only [step]; split <;> exact ⟨trivial, hm⟩
  | sho t p =>
    have h2 : 0 ≤ p ∧ p < i := hs
    simp only [step]
    split
    · unfold fin
      split
      · exact ⟨trivial, hm⟩
      · exact ⟨trivial, tks_P hm (by unfold tkP; simp; omega)⟩
    · exact ⟨by simp [scP]; omega, hm⟩
  | qt k t p =>
    have h2 : 0 ≤ p ∧ p < i := hs
    simp only [step]
    split <;> exact ⟨by simp [scP]; omega, hm⟩
  | qq k t p =>
    have h2 : 0 ≤ p ∧ p < i := hs
    simp only [step]
    split
    · exact ⟨by simp [scP]; omega, hm⟩
    · split
      · unfold fin
        split
        · exact ⟨trivial, hm⟩
        · exact ⟨trivial, tks_P hm (by unfold tkP; simp; omega)⟩
      · exact ⟨trivial, hm⟩
  | hx k t h p =>
    have h2 : 0 ≤ p ∧ p < i := hs
    simp only [step]
    split
    · split
      · exact ⟨trivial, hm⟩
      · exact ⟨by simp [scP]; omega, hm⟩
    · exact ⟨by simp [scP]; omega, hm⟩
  | ert => exact ⟨trivial, hm⟩
  | erl => exact ⟨trivial, hm⟩
theorem run_P (l : List Int) : ∀ (i : Int) (s : Sc) (out : List Tk), 0 ≤ i → scP i s → (∀ y ∈ out, tkP i y) → scP (i + l.length) (run i l (s, out)).1 ∧ ∀ y ∈ (run i l (s, out)).2, tkP (i + l.length) y := by
  induction l with
  | nil =>
    intro i s out _ h1 h2
    rw [show i + (([] : List Int).length : Int) = i by simp]
    exact ⟨h1, h2⟩
  | cons c l ih =>
    intro i s out hi h1 h2
    have h3 := step_P i c hi s out h1 h2
    have h4 := ih (i + 1) (step i c s out).1 (step i c s out).2 (by omega) h3.1 h3.2
    rw [show i + 1 + (l.length : Int) = i + ((c :: l).length : Nat) by simp; omega] at h4
    exact h4
theorem cut_place (X : List Int) : ∀ y ∈ (cutF X).1, tkP 4096 y := by
  unfold cutF
  split
  · intro y hy; simp at hy
  · rename_i hl
    have h := run_P X 0 .btw [] (by omega) trivial (fun y hy => by simp at hy)
    obtain ⟨s, out, e⟩ : ∃ s out, run 0 X (.btw, []) = (s, out) := ⟨_, _, rfl⟩
    rw [e] at h ⊢
    obtain ⟨h1, h2⟩ := h
    have h2' : ∀ y ∈ out, tkP 4096 y := fun y hy => by have := h2 y hy; unfold tkP at this ⊢; omega
    cases s with
    | btw => exact h2'
    | cmt => exact h2'
    | wrd w p =>
      have h3 : 0 ≤ p ∧ p < 0 + (X.length : Int) := h1
      simp only [eof]
      split
      · exact h2'
      · split
        · intro y hy; simp at hy
        · exact tks_P h2' (by unfold tkP; simp; omega)
    | qq k t p =>
      have h3 : 0 ≤ p ∧ p < 0 + (X.length : Int) := h1
      simp only [eof]
      split
      · intro y hy; simp at hy
      · exact tks_P h2' (by unfold tkP; simp; omega)
    | par => intro y hy; simp [eof] at hy
    | sho t p => intro y hy; simp [eof] at hy
    | qt k t p => intro y hy; simp [eof] at hy
    | hx k t h p => intro y hy; simp [eof] at hy
    | ert => intro y hy; simp [eof] at hy
    | erl => intro y hy; simp [eof] at hy
end Go.Proofs.YtpjkjkjoaapdiaaDoor
