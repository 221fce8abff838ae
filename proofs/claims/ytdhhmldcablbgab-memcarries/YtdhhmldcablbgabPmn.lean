/-
  What the statements on memories lean on, said of lists. No Go text in sight.
-/
import Derived.Test.YtdhhmldcablbgabPmm
namespace Go.Proofs.Ytdhhmldcablbgab
set_option linter.unusedVariables false
set_option linter.unusedSimpArgs false

theorem cmp_vals : ∀ xs ys : List Int, cmpL xs ys = 0 ∨ cmpL xs ys = 1 ∨ cmpL xs ys = 4294967295
  | [], _ => Or.inl rfl
  | _ :: _, [] => Or.inl rfl
  | x :: xs, y :: ys => by
    simp only [cmpL]
    split
    · exact Or.inr (Or.inl rfl)
    · split
      · exact Or.inr (Or.inr rfl)
      · exact cmp_vals xs ys
theorem cmp_anti : ∀ xs ys : List Int, cmpL ys xs = if cmpL xs ys = 0 then 0 else 4294967296 - cmpL xs ys
  | [], [] => rfl
  | [], _ :: _ => rfl
  | _ :: _, [] => rfl
  | x :: xs, y :: ys => by
    have e1 : cmpL (x :: xs) (y :: ys) = if y < x then 1 else if x < y then 4294967295 else cmpL xs ys := rfl
    have e2 : cmpL (y :: ys) (x :: xs) = if x < y then 1 else if y < x then 4294967295 else cmpL ys xs := rfl
    have ih := cmp_anti xs ys
    obtain ⟨A, hA⟩ : ∃ A, cmpL (x :: xs) (y :: ys) = A := ⟨_, rfl⟩
    obtain ⟨B, hB⟩ : ∃ B, cmpL (y :: ys) (x :: xs) = B := ⟨_, rfl⟩
    rw [hA] at e1 ⊢
    rw [hB] at e2 ⊢
    by_cases h1 : y < x
    · rw [if_pos h1] at e1
      rw [if_neg (by omega), if_pos h1] at e2
      subst e1 e2
      rfl
    · by_cases h2 : x < y
      · rw [if_neg h1, if_pos h2] at e1
        rw [if_pos h2] at e2
        subst e1 e2
        rfl
      · rw [if_neg h1, if_neg h2] at e1
        rw [if_neg h2, if_neg h1] at e2
        rw [e1, e2]
        exact ih
theorem cmpF_anti (m : List Int) (a b n : Int) : ∃ R E, cmpF m a b n = (R, E) ∧ cmpF m b a n = (if R = 0 then 0 else 4294967296 - R, E) ∧ (R = 0 ∨ R = 1 ∨ R = 4294967295) := by
  unfold cmpF
  by_cases h : inF m.length a n = true ∧ inF m.length b n = true
  · rw [if_pos h, if_pos ⟨h.2, h.1⟩]
    exact ⟨_, _, rfl, by rw [cmp_anti], cmp_vals _ _⟩
  · rw [if_neg h, if_neg (fun g => h ⟨g.2, g.1⟩)]
    exact ⟨0, 9, rfl, rfl, Or.inl rfl⟩
theorem all_two (m : List Int) (n : Int) : (∃ X P, allF m n = (X, P, 0) ∧ X.take m.length = m ∧ m.length ≤ X.length) ∨ allF m n = ([], 0, 10) := by
  unfold allF
  split
  · exact Or.inr rfl
  · split
    · exact Or.inr rfl
    · exact Or.inl ⟨_, _, rfl, by simp, by simp⟩

/-- bytes laid into a memory: what is there then -/
theorem lay_len (m q : List Int) (p : Nat) (h : p + q.length ≤ m.length) : (m.take p ++ q ++ m.drop (p + q.length)).length = m.length := by simp; omega
theorem lay_in (m q : List Int) (p : Nat) (h : p + q.length ≤ m.length) : ((m.take p ++ q ++ m.drop (p + q.length)).drop p).take q.length = q := by
  have h1 : (m.take p).length = p := by simp; omega
  rw [List.append_assoc, List.drop_append_of_le_length (by omega), List.drop_of_length_le (by omega), List.nil_append, List.take_left]
theorem lay_out (m q : List Int) (p i : Nat) (h : p + q.length ≤ m.length) (hi : i < p ∨ p + q.length ≤ i) : (m.take p ++ q ++ m.drop (p + q.length)).getD i 0 = m.getD i 0 := by
  have h1 : (m.take p).length = p := by simp; omega
  simp only [List.getD_eq_getElem?_getD]
  congr 1
  rcases hi with hi | hi
  · rw [List.append_assoc, List.getElem?_append_left (by omega), List.getElem?_take, if_pos hi]
  · rw [List.getElem?_append_right (by simp; omega), List.getElem?_drop]
    congr 1
    simp
    omega
theorem sto_ok (m : List Int) (a s v : Int) (a0 : 0 ≤ a) (v0 : 0 ≤ v) (v1 : v < 4294967296) (h : wrongF m.length a s = 0) : ∃ X, stoF m a s v = (X, 0) ∧ X.length = m.length ∧ fetF X a s = (v % 256 ^ s.toNat, 0) ∧ (∀ i : Nat, (i : Int) < a ∨ a + s ≤ i → X.getD i 0 = m.getD i 0) := by
  obtain ⟨hs, hm, hl, hr⟩ := wrong_ok h
  have hq : (beB s.toNat v).length = s.toNat := beB_len _ _
  have hle : a.toNat + (beB s.toNat v).length ≤ m.length := by rw [hq]; omega
  refine ⟨m.take a.toNat ++ beB s.toNat v ++ m.drop (a.toNat + s.toNat), by unfold stoF; rw [if_pos h], ?_, ?_, ?_⟩
  · have := lay_len m (beB s.toNat v) a.toNat hle
    rwa [hq] at this
  · have h1 := lay_len m (beB s.toNat v) a.toNat hle
    have h2 := lay_in m (beB s.toNat v) a.toNat hle
    rw [hq] at h1 h2
    unfold fetF
    rw [h1, if_pos h, h2, beV_beB]
  · intro i hi
    have := lay_out m (beB s.toNat v) a.toNat i hle (by rw [hq]; omega)
    rwa [hq] at this
theorem put_two (m s : List Int) (a n : Int) (a0 : 0 ≤ a) (n0 : 0 ≤ n) (hs : (s.length : Int) = n) (h : inF m.length a n = true) : ∃ X, putF m a s = (X, 0) ∧ texF X a n = (s, 0) ∧ X.length = m.length := by
  have h' := h
  simp [inF] at h'
  have hle : a.toNat + s.length ≤ m.length := by omega
  have h1 := lay_len m s a.toNat hle
  refine ⟨m.take a.toNat ++ s ++ m.drop (a.toNat + s.length), by unfold putF; rw [hs, if_pos h], ?_, h1⟩
  unfold texF
  rw [h1, if_pos h, show n.toNat = s.length by omega, lay_in m s a.toNat hle]
end Go.Proofs.Ytdhhmldcablbgab
