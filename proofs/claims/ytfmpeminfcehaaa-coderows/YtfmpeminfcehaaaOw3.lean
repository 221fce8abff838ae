/-
  Rows of the call's own written at several cells, and cut short. No Go text in sight.
-/
import Derived.Test.YtfmpeminfcehaaaOw2
import Derived.Laws.IdiomCopy
namespace Go.Proofs.Ytfmpeminfcehaaa
open Go.ChangeShapes Go.WideShapes Go.ChangeAt Go.RowKit
set_option linter.unusedVariables false
set_option linter.unusedSimpArgs false

/-- cells written one behind the other -/
def setL {α : Type} (cs : List α) : Nat → List α → List α
  | _, [] => cs
  | o, v :: r => setL (cs.set o v) (o + 1) r
theorem setL_len {α : Type} : ∀ (news : List α) (cs : List α) (o : Nat), (setL cs o news).length = cs.length
  | [], cs, o => rfl
  | v :: r, cs, o => by rw [setL, setL_len r]; simp
theorem setL_get {α : Type} : ∀ (news : List α) (cs : List α) (o : Nat), o + news.length ≤ cs.length → ∀ i, (setL cs o news)[i]? = if i < o then cs[i]? else if i < o + news.length then news[i - o]? else cs[i]?
  | [], cs, o, h, i => by simp only [setL, List.length_nil, Nat.add_zero]; split <;> (try split) <;> first | rfl | omega
  | v :: r, cs, o, h, i => by
    rw [setL, setL_get r (cs.set o v) (o + 1) (by simp at h ⊢; omega) i]
    simp only [List.length_cons] at h ⊢
    by_cases h1 : i < o
    · rw [if_pos (by omega), if_pos h1, List.getElem?_set_ne (by omega)]
    · rw [if_neg h1]
      by_cases h2 : i = o
      · subst h2
        rw [if_pos (by omega), if_pos (by omega), List.getElem?_set_self (by omega), Nat.sub_self]
        rfl
      · rw [if_neg (by omega)]
        by_cases h3 : i < o + (r.length + 1)
        · rw [if_pos (by omega), if_pos h3, show i - o = (i - (o + 1)) + 1 by omega]
          rfl
        · rw [if_neg (by omega), if_neg h3, List.getElem?_set_ne (by omega)]
theorem setL_eq {α : Type} (news cs : List α) (o : Nat) (h : o + news.length ≤ cs.length) : setL cs o news = cs.take o ++ news ++ cs.drop (o + news.length) := by
  apply List.ext_getElem?
  intro i
  rw [setL_get news cs o h]
  by_cases h1 : i < o
  · rw [if_pos h1, List.append_assoc, List.getElem?_append_left (by simp; omega), List.getElem?_take, if_pos h1]
  · rw [if_neg h1]
    by_cases h2 : i < o + news.length
    · rw [if_pos h2, List.getElem?_append_left (by simp; omega), List.getElem?_append_right (by simp; omega)]
      congr 1
      simp
      omega
    · rw [if_neg h2, List.getElem?_append_right (by simp; omega), List.getElem?_drop]
      congr 1
      simp
      omega
theorem own_setCells {base : Nat} {e : TypeId} {sz g n cap : Nat} : ∀ (news : List Value) (w : World) (cs : List Value) (o : Nat), w.ownsRow base e sz (.slice (some ⟨g, 0, none⟩) n cap) n cs →
    (w.setCells g o news).ownsRow base e sz (.slice (some ⟨g, 0, none⟩) n cap) n (setL cs o news) ∧ w.grownBy (w.setCells g o news) (some g)
  | [], w, cs, o, h => ⟨h, ⟨rfl, rfl, rfl, Nat.le_refl _, fun _ _ _ => rfl⟩⟩
  | v :: r, w, cs, o, h => by
    obtain ⟨h1, h2⟩ := h.stored o v
    obtain ⟨h3, h4⟩ := own_setCells r (w.setCell ⟨g, o, none⟩ v) (cs.set o v) (o + 1) h1
    exact ⟨h3, h4.os.trans h2.os, h4.tape.trans h2.tape, h4.output.trans h2.output, Nat.le_trans h2.size h4.size, fun k hk hne => (h4.block k (Nat.lt_of_lt_of_le hk h2.size) hne).trans (h2.block k hk hne)⟩
/-- the first ones of an own row -/
theorem own_take {w : World} {base : Nat} {e : TypeId} {sz g n cap : Nat} {cs : List Value} (h : w.ownsRow base e sz (.slice (some ⟨g, 0, none⟩) n cap) n cs) (m : Nat) (hm : m ≤ n) : w.ownsRow base e sz (.slice (some ⟨g, 0, none⟩) m cap) m (cs.take (m * sz)) := by
  obtain ⟨hl, h⟩ := h
  have hle : m * sz ≤ n * sz := Nat.mul_le_mul_right _ hm
  refine ⟨by rw [List.length_take]; omega, ?_⟩
  rcases h with ⟨h, _⟩ | ⟨g', cap', cur, he, hb, hg, hc, hx, hs, ht⟩
  · simp at h
  · simp at he
    obtain ⟨rfl, rfl⟩ := he
    refine Or.inr ⟨g, cap, cur, rfl, hb, hg, by omega, hx, hs, ?_⟩
    rw [← ht, List.take_take, Nat.min_eq_left hle]
theorem flat_take {α : Type} : ∀ (rows : List (List α)) (sz j : Nat), (∀ r ∈ rows, r.length = sz) → rows.flatten.take (j * sz) = (rows.take j).flatten
  | [], sz, j, h => by simp
  | r :: rows, sz, 0, h => by simp
  | r :: rows, sz, j + 1, h => by
    have hr := h r (by simp)
    have ih := flat_take rows sz j (fun x hx => h x (by simp [hx]))
    rw [List.flatten_cons, List.take_succ_cons, List.flatten_cons, List.take_append, hr, Nat.add_mul, Nat.one_mul, show j * sz + sz - sz = j * sz by omega, ih, List.take_of_length_le (by omega)]
theorem flat_drop {α : Type} : ∀ (rows : List (List α)) (sz j : Nat), (∀ r ∈ rows, r.length = sz) → rows.flatten.drop (j * sz) = (rows.drop j).flatten
  | [], sz, j, h => by simp
  | r :: rows, sz, 0, h => by simp
  | r :: rows, sz, j + 1, h => by
    have hr := h r (by simp)
    have ih := flat_drop rows sz j (fun x hx => h x (by simp [hx]))
    rw [List.flatten_cons, List.drop_succ_cons, List.drop_append, hr, Nat.add_mul, Nat.one_mul, show j * sz + sz - sz = j * sz by omega, ih, List.drop_of_length_le (by omega), List.nil_append]
end Go.Proofs.Ytfmpeminfcehaaa
