/-
  Store and Put of the document's answer for a memory of bytes.
-/
import Derived.Test.YtdhhmldcablbgabRmf
namespace Go.Proofs.Ytdhhmldcablbgab
open Go.ChangeShapes Go.WideShapes Go.ChangeAt Go.RowKit
set_option linter.unusedVariables false
set_option linter.unusedSimpArgs false

/-- a row of bytes of the call's own -/
def Own8 (base : Nat) (w : World) (v : Value) (xs : List Int) : Prop := w.ownsRow base 5 1 v xs.length (xs.map (Value.int .u8))

theorem set_snoc (m : List Int) (p : Nat) (q : List Int) (y : Int) (hp : p + 1 + q.length ≤ m.length) :
    (m.take (p + 1) ++ q ++ m.drop (p + 1 + q.length)).set p y = m.take p ++ (y :: q) ++ m.drop (p + (q.length + 1)) := by
  rw [List.take_succ_eq_append_getElem (show p < m.length by omega)]
  have : (m.take p).length = p := by simp; omega
  simp only [List.append_assoc]
  rw [List.set_append_right _ _ (by omega), this, Nat.sub_self]
  simp only [List.cons_append, List.nil_append, List.set_cons_zero]
  rw [show p + 1 + q.length = p + (q.length + 1) by omega]

/-- the lowest bytes of v, as many as have been written by now -/
theorem beB_low (n : Nat) (v : Int) : ∃ q, beB (n + 1) v = q ++ [v % 256] ∧ q = beB n (v / 256) := ⟨_, rfl, rfl⟩
end Go.Proofs.Ytdhhmldcablbgab
