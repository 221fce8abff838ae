/-
  Blocks that stand in a world: variables that are boxed, results kept in memory. No Go text in sight.
-/
import Derived.Test.YtaiimfdcbdfbdaaDoorSt
namespace Go.Proofs.YtaiimfdcbdfbdaaDoor
open Go.ChangeShapes Go.WideShapes Go.ChangeAt Go.RowKit
set_option linter.unusedVariables false
set_option linter.unusedSimpArgs false

theorem own_le {w : World} {b b' : Nat} {e : TypeId} {sz : Nat} {v : Value} {n : Nat} {cs : List Value} (h : b ≤ b') (o : w.ownsRow b' e sz v n cs) : w.ownsRow b e sz v n cs := by
  obtain ⟨hl, o⟩ := o
  refine ⟨hl, ?_⟩
  rcases o with o | ⟨g, cap, cur, rfl, hb, o⟩
  · exact Or.inl o
  · exact Or.inr ⟨g, cap, cur, rfl, by omega, o⟩
theorem own_form {w : World} {b : Nat} {e : TypeId} {sz : Nat} {v : Value} {n : Nat} {cs : List Value} (o : w.ownsRow b e sz v n cs) : ∃ ao cap, v = .slice ao n cap := by
  obtain ⟨hl, o⟩ := o
  rcases o with ⟨rfl, h0⟩ | ⟨g, cap, cur, rfl, o⟩
  · exact ⟨none, 0, by rw [h0]⟩
  · exact ⟨_, _, rfl⟩
theorem alloc_row2 (w : World) (A : Obj) (row : List Value) (T : TypeId) : ∀ j u, row[j]? = some u → ((w.alloc A).alloc (.cells row.toArray T)).cell? ⟨w.heap.size + 1, j, none⟩ = some u := by
  intro j u h
  have := alloc_row (w.alloc A) row T j u h
  rwa [size_al] at this
/-- a block that stands in a world: its cells, and that they may be written -/
def Stands (w : World) (b : Nat) (cs : Array Value) (T : TypeId) : Prop := w.heap[b]? = some (.cells cs T (0, 0))
theorem stands_new (w : World) (cs : Array Value) (T : TypeId) : Stands (w.alloc (.cells cs T)) w.heap.size cs T := heap_alloc_new w _
theorem Stands.below {w w' : World} {b : Nat} {cs : Array Value} {T : TypeId} (h : Stands w b cs T) (g : Below w.heap.size w w') : Stands w' b cs T := by
  unfold Stands at h ⊢
  rw [g.block b (Array.getElem?_eq_some_iff.1 h).1]
  exact h
theorem Stands.cell {w : World} {b : Nat} {cs : Array Value} {T : TypeId} (h : Stands w b cs T) (j : Nat) (u : Value) (hj : cs[j]? = some u) : w.cell? ⟨b, j, none⟩ = some u := by
  unfold Stands at h
  simp [World.cell?, h, hj]
theorem Stands.free {w : World} {b : Nat} {cs : Array Value} {T : TypeId} (h : Stands w b cs T) (j : Nat) : w.frozen? ⟨b, j, none⟩ = false := by
  unfold Stands at h
  simp [World.frozen?, h]
theorem Stands.set {w : World} {b : Nat} {cs : Array Value} {T : TypeId} (h : Stands w b cs T) (j : Nat) (u : Value) : Stands (w.setCell ⟨b, j, none⟩ u) b (cs.setIfInBounds j u) T := by
  unfold Stands at h ⊢
  have hb := (Array.getElem?_eq_some_iff.1 h).1
  have e : w.heap[b] = .cells cs T (0, 0) := (Array.getElem?_eq_some_iff.1 h).2
  simp only [World.setCell]
  rw [Array.getElem?_modify, if_pos rfl, Array.getElem?_eq_getElem hb, e]
  rfl
theorem Stands.other {w : World} {b b' : Nat} {cs : Array Value} {T : TypeId} (h : Stands w b cs T) (j : Nat) (u : Value) (hb : b ≠ b') : Stands (w.setCell ⟨b', j, none⟩ u) b cs T := by
  unfold Stands at h ⊢
  simp only [World.setCell]
  rw [Array.getElem?_modify, if_neg (by omega)]
  exact h
theorem own_other {w : World} {b : Nat} {e : TypeId} {v : Value} {n : Nat} {cs : List Value} (o : w.ownsRow b e 1 v n cs) (g : Nat) (j : Nat) (u : Value) (hg : g < b) : (w.setCell ⟨g, j, none⟩ u).ownsRow b e 1 v n cs := by
  obtain ⟨hl, o⟩ := o
  refine ⟨hl, ?_⟩
  rcases o with o | ⟨g', cap, cur, rfl, hb, h1, o⟩
  · exact Or.inl o
  · refine Or.inr ⟨g', cap, cur, rfl, hb, ?_, o⟩
    simp only [World.setCell]
    rw [Array.getElem?_modify, if_neg (by omega)]
    exact h1
theorem below_set {w w' : World} (h : Below w.heap.size w w') (g j : Nat) (u : Value) (hg : w.heap.size ≤ g) : Below w.heap.size w (w'.setCell ⟨g, j, none⟩ u) := by
  refine ⟨h.os, h.tape, h.output, by simpa [World.setCell] using h.size, fun k hk => ?_⟩
  rw [← h.block k hk]
  simp only [World.setCell]
  rw [Array.getElem?_modify, if_neg (by omega)]
/-- a block of another kind lies apart from a row of the call's own -/
theorem stands_apart {w : World} {b : Nat} {cs : Array Value} {T : TypeId} {base : Nat} {e : TypeId} {v : Value} {n sz : Nat} {xs : List Value} (h : Stands w b cs T) (o : w.ownsRow base e sz v n xs) (ht : ¬ e = T) : some b ≠ v.ownBlock := by
  obtain ⟨hl, o⟩ := o
  rcases o with ⟨rfl, h0⟩ | ⟨g, cap, cur, rfl, hb, hg, o⟩
  · simp [Value.ownBlock]
  · intro hh
    simp [Value.ownBlock] at hh
    subst hh
    unfold Stands at h
    rw [h] at hg
    simp at hg
    exact ht hg.2.symm
theorem Stands.grown {w w' : World} {b : Nat} {cs : Array Value} {T : TypeId} {row : Option Nat} (h : Stands w b cs T) (g : w.grownBy w' row) (hr : some b ≠ row) : Stands w' b cs T := by
  unfold Stands at h ⊢
  rw [g.block b (Array.getElem?_eq_some_iff.1 h).1 hr]
  exact h
end Go.Proofs.YtaiimfdcbdfbdaaDoor
