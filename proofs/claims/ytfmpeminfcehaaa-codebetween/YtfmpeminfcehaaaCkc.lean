/-
  A draft of the call's own whose code grows, beside a box of an instruction.
-/
import Derived.Test.YtfmpeminfcehaaaPk5
import Derived.Test.YtfmpeminfcehaaaCal
namespace Go.Proofs.Ytfmpeminfcehaaa
open Go.ChangeShapes Go.WideShapes Go.ChangeAt Go.RowKit
set_option linter.unusedVariables false
set_option linter.unusedSimpArgs false

theorem OwE.kept2 {base : Nat} {w w' : World} {v : Dv} {d : Dft} {vc : Value} {c : List Opd} (h : OwE base w v d) (k : Kept 37 w w') (hc : OwC base w' vc c) : OwE base w' ⟨vc, v.vo, v.vd, v.vl, v.vk⟩ { d with code := c } :=
  ⟨hc, own_kept k (by decide) h.origs, own_kept k (by decide) h.dests, OwnR.kept h.loops k (by decide) (opnO_apt (by decide)), OwnR.kept h.cases k (by decide) (opnO_apt (by decide))⟩
theorem OwE.apartO {base b : Nat} {w w' : World} {v : Dv} {d : Dft} (h : OwE base w v d) (k : Kept 37 w w') (g : w.grownBy w' (some b)) (hb : ∀ q, v.vc.ownBlock = some q → ¬ q = b) : OwE base w' v d := by
  obtain ⟨rows, h1, h2, h3, h4⟩ := h.code
  exact ⟨⟨rows, h1, h2, grown_below g h3 (fun q hq e => hb q hq (by injection e with e; exact e.symm)), h4⟩, own_kept k (by decide) h.origs, own_kept k (by decide) h.dests, OwnR.kept h.loops k (by decide) (opnO_apt (by decide)), OwnR.kept h.cases k (by decide) (opnO_apt (by decide))⟩
end Go.Proofs.Ytfmpeminfcehaaa
