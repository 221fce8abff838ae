/-
  Ints and Texts of the document's answer for properties.
-/
import Derived.Test.YtmjgiaomijghoaaDoorRp3
namespace Go.Proofs.YtmjgiaomijghoaaDoor
open Go.ChangeShapes Go.WideShapes Go.ChangeAt Go.RowKit
set_option linter.unusedVariables false
set_option linter.unusedSimpArgs false

theorem int_step (l : List Int) (h : 4 ≤ l.length) : intL l = beV (l.take 4) :: intL (l.drop 4) := by
  match l, h with
  | a :: b :: c :: d :: r, _ => simp [intL]
theorem int_none (l : List Int) (h : l.length < 4) : intL l = [] := by
  match l, h with
  | [], _ => rfl
  | [_], _ => rfl
  | [_, _], _ => rfl
  | [_, _, _], _ => rfl
theorem beV_u32 (l : List Int) (h : l.length = 4) (hb : bytesL l) : 0 ≤ beV l ∧ beV l < 4294967296 := by
  match l, h with
  | [a, b, c, d], _ =>
    have h1 := hb a (by simp)
    have h2 := hb b (by simp)
    have h3 := hb c (by simp)
    have h4 := hb d (by simp)
    simp [beV]
    omega

theorem spl_tex : ∀ (l cur : List Int),
    (spl 0 cur l = [cur ++ l] ∧ texL cur l = if cur ++ l = [] then some [] else none) ∨
    ∃ a b q r, l = a ++ 0 :: b ∧ spl 0 cur l = (cur ++ a) :: q :: r ∧ texL cur l = (texL [] b).map ((cur ++ a) :: ·)
  | [], cur => Or.inl ⟨by simp [spl], by simp [texL]⟩
  | c :: l, cur => by
    by_cases hc : c = 0
    · subst hc
      have hl := spl_len 0 l []
      cases hq : spl 0 [] l with
      | nil => rw [hq] at hl; simp at hl
      | cons q r => exact Or.inr ⟨[], l, q, r, rfl, by rw [spl, if_pos rfl, hq, List.append_nil], by rw [texL, if_pos rfl, List.append_nil]⟩
    · rcases spl_tex l (cur ++ [c]) with ⟨h1, h2⟩ | ⟨a, b, q, r, h1, h2, h3⟩
      · refine Or.inl ⟨?_, ?_⟩
        · rw [spl, if_neg hc, h1]; simp
        · rw [texL, if_neg hc, h2]; simp
      · refine Or.inr ⟨c :: a, b, q, r, by rw [h1]; rfl, ?_, ?_⟩
        · rw [spl, if_neg hc, h2]; simp
        · rw [texL, if_neg hc, h3]; simp
/-- taking the first text off, and what is read of all -/
theorem deT_tex (l : List Int) (h : l ≠ []) : (deTF l = ([], [], 2) ∧ texL [] l = none) ∨ ∃ p D, deTF l = (p, D, 0) ∧ texL [] l = (texL [] D).map (p :: ·) ∧ l = p ++ 0 :: D := by
  rcases spl_tex l [] with ⟨h1, h2⟩ | ⟨a, b, q, r, h1, h2, h3⟩
  · refine Or.inl ⟨?_, ?_⟩
    · unfold deTF; rw [h1]
    · rw [h2, List.nil_append, if_neg h]
  · refine Or.inr ⟨a, b, ?_, by simpa using h3, h1⟩
    unfold deTF
    rw [h2, h1]
    simp
theorem bytes_of_app {a b : List Int} {c : Int} (h : bytesL (a ++ c :: b)) : bytesL a ∧ bytesL b :=
  ⟨fun x hx => h x (by simp [hx]), fun x hx => h x (by simp [hx])⟩
end Go.Proofs.YtmjgiaomijghoaaDoor
