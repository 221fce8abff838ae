/-
  What was there before a call that only lays new blocks reads the same behind it. No Go text in sight.
-/
import Derived.WalkKit
import Derived.ProofKit
import Derived.OpenShut
namespace Go.Proofs.Ytfmlkclacbceeaa
open Go.ChangeShapes Go.WideShapes Go.ChangeAt Go.RowKit
set_option linter.unusedVariables false

theorem grown_heap {W w' : World} (h : Grown W w') (i : Nat) (hi : i < W.heap.size) : w'.heap[i]? = W.heap[i]? := by
  obtain ⟨⟨_, _, h3⟩, _, hs⟩ := h
  have := h3 i hi
  split at this
  · rename_i c t fr c' t' fr' e1 e2
    obtain ⟨rfl, rfl, hz, hc⟩ := this
    have : c' = c := by
      apply Array.ext_getElem?
      intro j
      exact hc j (fun f => f)
    rw [e1, e2, this]
  · rename_i es cl es' cl' e1 e2
    rcases this with f | ⟨rfl, rfl⟩
    · exact f.elim
    · rw [e1, e2]
  · exact this
theorem grown_cells {W w' : World} (h : Grown W w') : (∀ b o, b < W.heap.size → w'.cell? ⟨b, o, none⟩ = W.cell? ⟨b, o, none⟩) ∧ (∀ b o, b < W.heap.size → w'.frozen? ⟨b, o, none⟩ = W.frozen? ⟨b, o, none⟩) :=
  ⟨fun b o hb => World.cell?_of_block (w := W) (grown_heap h b hb), fun b o hb => World.frozen?_of_block (w := W) (grown_heap h b hb)⟩
end Go.Proofs.Ytfmlkclacbceeaa
