/-
  Move, Fill, Compare, Allot of the document's answer for a memory of bytes.
-/
import Derived.Test.YtdhhmldcablbgabRms
namespace Go.Proofs.Ytdhhmldcablbgab
open Go.ChangeShapes Go.WideShapes Go.ChangeAt Go.RowKit
set_option linter.unusedVariables false
set_option linter.unusedSimpArgs false

theorem fill_step (m : List Int) (p k : Nat) (y : Int) (hp : p + k < m.length) :
    (m.take p ++ List.replicate k y ++ m.drop (p + k)).set (p + k) y = m.take p ++ List.replicate (k + 1) y ++ m.drop (p + (k + 1)) := by
  have h1 : (m.take p ++ List.replicate k y).length = p + k := by simp; omega
  rw [List.set_append_right _ _ (by omega), h1, Nat.sub_self, List.drop_eq_getElem_cons hp, List.set_cons_zero, List.replicate_succ']
  simp [Nat.add_assoc]

theorem cmp_step (xs : List Int) (a b : Nat) (n k : Nat) (hk : k < n) (ha : a + n ≤ xs.length) (hb : b + n ≤ xs.length) :
    cmpL (((xs.drop a).take n).drop k) (((xs.drop b).take n).drop k) = if xs.getD (b + k) 0 < xs.getD (a + k) 0 then 1 else if xs.getD (a + k) 0 < xs.getD (b + k) 0 then 4294967295 else cmpL (((xs.drop a).take n).drop (k + 1)) (((xs.drop b).take n).drop (k + 1)) := by
  have g : ∀ c, c + n ≤ xs.length → ((xs.drop c).take n).drop k = xs.getD (c + k) 0 :: ((xs.drop c).take n).drop (k + 1) := by
    intro c hc
    rw [List.drop_eq_getElem_cons (by simp; omega), List.getElem_take, List.getElem_drop, List.getD_eq_getElem?_getD, List.getElem?_eq_getElem (by omega)]
    rfl
  rw [g a ha, g b hb]
  rfl
end Go.Proofs.Ytdhhmldcablbgab
