/-
  What the laws of layer 19 ask of the plain functions.
-/
import Derived.Test.YtaiimfdcbdfbdaaDoorVal
namespace Go.Proofs.YtaiimfdcbdfbdaaDoor
open Go.ChangeShapes Go.WideShapes Go.ChangeAt Go.RowKit
set_option linter.unusedVariables false
set_option linter.unusedSimpArgs false

theorem vaS_right (l : List Stt) (nm s : ByteArray) : (vaS l nm s).2 = 0 → vaG (-1) (vaS l nm s).1 = true := by
  unfold vaS
  split
  · rename_i h
    split
    · rename_i hm
      intro _
      exact va_right h hm
    · rename_i hm
      intro h2
      exact absurd h2 hm
  · intro h2
    exact absurd h2 (by decide)
theorem vaS_none (l : List Stt) (nm s : ByteArray) : ¬ (vaS l nm s).2 = 0 → (vaS l nm s).1 = [] := by
  unfold vaS
  split
  · split
    · intro h; exact absurd rfl h
    · intro _; rfl
  · intro _; rfl
theorem vaS_gS (l : List Stt) (nm s : ByteArray) : ∀ p ∈ (vaS l nm s).1, gS p := by
  by_cases h : (vaS l nm s).2 = 0
  · exact va_gS (by decide) (vaS_right l nm s h)
  · rw [vaS_none l nm s h]
    intro p hp
    cases hp
theorem vaDe_gS {b : List Int} (hb : bytesL b) : ∀ p ∈ (vaDe b).1, gS p := by
  by_cases h : (vaDe b).2 = 0
  · exact va_gS (by decide) (va_de hb h).1
  · rw [va_den b h]
    intro p hp
    cases hp
theorem vaEn_bytes (l : List Stt) : bytesL (vaEn l).1 := by
  unfold vaEn
  split
  · split
    · intro x hx; cases hx
    · exact va_bytes l
  · intro x hx; cases hx
theorem vaEn_ok {l : List Stt} (h : (vaEn l).2 = 0) : vaG (-1) l = true ∧ (vaEn l).1 = vaB l ∧ (vaB l).length ≤ 248 := by
  unfold vaEn at h ⊢
  split at h
  · rename_i hg
    rw [if_pos hg]
    split at h
    · exact absurd h (by decide)
    · rename_i hl
      rw [if_neg hl]
      exact ⟨hg, rfl, by omega⟩
  · exact absurd h (by decide)
theorem vaEn_no {l : List Stt} (h : ¬ (vaEn l).2 = 0) : (vaEn l).1 = [] := by
  unfold vaEn at h ⊢
  split
  · split
    · rfl
    · rename_i hg hl
      rw [if_pos hg, if_neg hl] at h
      exact absurd rfl h
  · rfl
theorem vaEn_long {l : List Stt} {b : List Int} (h : vaG (-1) l = true) (hb : vaB l = b) (hl : 248 < b.length) : vaEn l = ([], 10) := by unfold vaEn; rw [if_pos h, hb, if_pos hl]
theorem vaEn_short {l : List Stt} {b : List Int} (h : vaG (-1) l = true) (hb : vaB l = b) (hl : ¬ 248 < b.length) : vaEn l = (b, 0) := by unfold vaEn; rw [if_pos h, hb, if_neg hl]
/-- behind a setting: the variable has the form of its value, every other one what it had -/
theorem va_keeps (l : List Stt) (nm s other : ByteArray) (h : (vaS l nm s).2 = 0) : vaGt (vaS l nm s).1 nm = ((vaM nm s).1, 0) ∧ (vaM nm s).2 = 0 ∧ (¬ other = nm → vaGt (vaS l nm s).1 other = vaGt l other) := by
  have hr := vaS_right l nm s h
  have hg : vaG (-1) l = true := by
    unfold vaS at h
    split at h
    · assumption
    · exact absurd h (by decide)
  have hm : (vaM nm s).2 = 0 := by
    unfold vaS at h
    rw [if_pos hg] at h
    split at h
    · assumption
    · rename_i h2; exact absurd h h2
  have e : (vaS l nm s).1 = vaP (vaU l nm (vaM nm s).1) 9 := by unfold vaS; rw [if_pos hg, if_pos hm]
  obtain ⟨h0, h1⟩ := va_ok hm
  refine ⟨?_, hm, fun ho => ?_⟩
  · unfold vaGt
    rw [if_pos hr, if_neg (by omega), e]
    obtain ⟨h2, h3⟩ := va_found h0
    have := va_got (vaU l nm (vaM nm s).1) _ h2
    rw [h3] at this
    rw [this]
    unfold vaU
    rw [if_pos h3]
  · unfold vaGt
    rw [if_pos hr, if_pos hg]
    by_cases hn : vaF other < 0
    · rw [if_pos hn, if_pos hn]
    · rw [if_neg hn, if_neg hn, e]
      obtain ⟨h2, h3⟩ := va_found (show 0 ≤ vaF other by omega)
      have := va_got (vaU l nm (vaM nm s).1) _ h2
      rw [h3] at this
      rw [this]
      unfold vaU
      rw [h3, if_neg ho]
end Go.Proofs.YtaiimfdcbdfbdaaDoor
