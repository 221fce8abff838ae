/-
  What lies in blocks from a bound on stands, where only blocks below it are written. No Go text in sight.
-/
import Derived.Test.YtbllblikigogoaaGen
namespace Go.Proofs.Ytbllblikigogoaa
open Go.ChangeShapes Go.WideShapes Go.ChangeAt Go.RowKit
set_option linter.unusedVariables false
set_option linter.unusedSimpArgs false

/-- blocks from base on stand -/
def Ab (base : Nat) (w w' : World) : Prop := ∀ k, base ≤ k → k < w.heap.size → w'.heap[k]? = w.heap[k]?
theorem ab_set {base : Nat} (w : World) (g j : Nat) (u : Value) (hg : g < base) : Ab base w (w.setCell ⟨g, j, none⟩ u) := by
  intro k hk hs
  exact Below.heap_setCell _ _ _ k (fun e => by have e2 : k = g := e; omega)
theorem own_ab {base : Nat} {w w' : World} {e : TypeId} {sz : Nat} {v : Value} {n : Nat} {cs : List Value} (k : Ab base w w') (o : w.ownsRow base e sz v n cs) : w'.ownsRow base e sz v n cs := by
  obtain ⟨hl, o⟩ := o
  refine ⟨hl, ?_⟩
  rcases o with h | ⟨b, cap, cur, rfl, h1, h2, h3⟩
  · exact Or.inl h
  · refine Or.inr ⟨b, cap, cur, rfl, h1, ?_, h3⟩
    rw [k b h1 (Array.getElem?_eq_some_iff.1 h2).1]
    exact h2
theorem OwnR.ab {α : Type} {e : TypeId} {sz : Nat} {O : World → List Value → α → Prop} {base : Nat} {w w' : World} {v : Value} {xs : List α} (h : OwnR e sz O base w v xs) (k : Ab base w w') (hO : ∀ cs x, O w cs x → O w' cs x) : OwnR e sz O base w' v xs := by
  obtain ⟨rows, h1, h2, h3, h4⟩ := h
  exact ⟨rows, h1, h2, own_ab k h3, fun i hi => hO _ _ (h4 i hi)⟩
end Go.Proofs.Ytbllblikigogoaa
