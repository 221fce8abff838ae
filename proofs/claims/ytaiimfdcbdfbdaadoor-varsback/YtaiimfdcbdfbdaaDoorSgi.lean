/-
  A row's cells by their places. No Go text in sight.
-/
import Derived.Test.YtaiimfdcbdfbdaaDoorSg
namespace Go.Proofs.YtaiimfdcbdfbdaaDoor
open Go.ChangeShapes Go.WideShapes Go.ChangeAt Go.RowKit
set_option linter.unusedVariables false
set_option linter.unusedSimpArgs false

/-- a row's cells by their places -/
theorem slr_idxN {α : Type} {P : Program} {R : World → List Value → α → Prop} {w : World} {v : Value} {xs : List α} {sz : Nat} (h : SlR sz R w v xs) {t : TypeId} (ht : P.underlying t = some (.slice (P.elem t))) (hs : ∀ w, (sizeOf (P.elem t)).run P w = .ok sz w) (i : Nat) (h1 : i < xs.length) :
    ∃ (b o : Nat) (cs : List Value), (∀ w', (Instr.indexAt t v (.int .i64 (i : Int))).run P w' = .ok (.pointer (some ⟨b, o, none⟩)) w') ∧ cs.length = sz ∧ (∀ j, j < sz → w.cell? ⟨b, o + j, none⟩ = cs[j]?) ∧ R w cs xs[i] := by
  obtain ⟨rows, g1, g2, g3⟩ := h
  obtain ⟨ao, cap, rfl, hc, hn, hx⟩ := g1.form
  obtain ⟨hm, b, off, rfl, hcell⟩ := hx (by omega)
  obtain ⟨l1, l2⟩ := hcell i (by omega)
  refine ⟨b, off + i * sz, rows.getD i [], fun w' => ?_, l1, fun j hj => l2 j hj, g3 i h1⟩
  rw [run_indexAt_slice (h := ht), if_pos ⟨by omega, by omega⟩, hs]
  simp only [Result.andThen, Int.toNat_natCast]
  congr 3
  unfold Addr.add
  split
  · rename_i hz; rw [hz]; rfl
  · rfl
end Go.Proofs.YtaiimfdcbdfbdaaDoor
