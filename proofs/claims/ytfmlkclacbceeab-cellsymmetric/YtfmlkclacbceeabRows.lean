/-
  No cell of these rows narrows 'for every input' (looked for: loops, veiled, ifaces, maps, wideKeys, modest, calm, conditions, laid).
  DERIVED. THE GIVEN ROWS OF THIS SEAT. 3 by the template 'for every input the law returns true; each argument reads behind the call as it read before'; 0 by the template 'total and deterministic' (their statements: YtfmlkclacbceeabTotals.lean).
  GIVEN WITH THE SEED: the statements are not yours to turn. If you find one false, say at which input.
  Laid BY PROGRAM, IN A SANDBOX (cutbox-rows.mjs): the forced cells as the released guide's own fill.sh prints them over the translation 2f01e16ec40b0c75… (all of the seat's roots in one cut). By AI agents, Wed Nov 11 2026. No macro, syntax, notation, axiom, sorry.
-/
import Derived.Test.YtfmlkclacbceeabChecked
import GoSem.Claim
import GoSem.ClaimJoined
import GoSem.ClaimMapViews
import Derived.JoinedTies
import Derived.KernelRfl
namespace Go.Proofs.Ytfmlkclacbceeab
/- THE CELL 'sum', in the pinned program and in every row, IS THE sha256 OF THE DUMP (.gsa) THAT YtfmlkclacbceeabProg.lean LOADS. Nothing in Lean hashes anything: it is a label: what it is worth is what the hold of that sum in a sandbox is worth. -/
noncomputable def Try.pinned : Pinned := { name := "ytfmlkclacbceeab", sum := "2f01e16ec40b0c75dec4aee276bb8c6bb11fe7d7d9de4877d99e91de0cf8131a", checked := Try.checked }
namespace Rows
def none {H : Type} : Left H := { results := [], args := [] }

/-- 'tinderlaw01.CellEuclid': WHATEVER THE INPUT: true; the input reads as it did. -/
def cellEuclidSpec : ChangeSpec := { name := "cellEuclid", fn := fun _ => fun
  | [d1, d2] => { results := [.lit (.bool true)], args := [d1, d2] }
  | _ => none }
def cellEuclidRow : OpenClaim := { program := "ytfmlkclacbceeab", sum := "2f01e16ec40b0c75dec4aee276bb8c6bb11fe7d7d9de4877d99e91de0cf8131a", func := "tinder/tinderlaw01.CellEuclid", spec := "cellEuclid", apart := false }
def CellEuclidSaid : Prop := cellEuclidRow.holds Try.pinned (OpenSpec.ofChange cellEuclidSpec)

/-- ITS FALSE NEIGHBOUR: 'it returns false'. Refute it at one input. -/
def cellEuclidWrong : ChangeSpec := { name := "cellEuclid", fn := fun _ => fun
  | [d1, d2] => { results := [.lit (.bool false)], args := [d1, d2] }
  | _ => none }
def CellEuclidWrongFalsely : Prop := cellEuclidRow.holds Try.pinned (OpenSpec.ofChange cellEuclidWrong)

/-- 'tinderlaw01.CellSymmetric': WHATEVER THE INPUT: true; the input reads as it did. -/
def cellSymmetricSpec : ChangeSpec := { name := "cellSymmetric", fn := fun _ => fun
  | [d1, d2, d3] => { results := [.lit (.bool true)], args := [d1, d2, d3] }
  | _ => none }
def cellSymmetricRow : OpenClaim := { program := "ytfmlkclacbceeab", sum := "2f01e16ec40b0c75dec4aee276bb8c6bb11fe7d7d9de4877d99e91de0cf8131a", func := "tinder/tinderlaw01.CellSymmetric", spec := "cellSymmetric", apart := false }
def CellSymmetricSaid : Prop := cellSymmetricRow.holds Try.pinned (OpenSpec.ofChange cellSymmetricSpec)

/-- ITS FALSE NEIGHBOUR: 'it returns false'. Refute it at one input. -/
def cellSymmetricWrong : ChangeSpec := { name := "cellSymmetric", fn := fun _ => fun
  | [d1, d2, d3] => { results := [.lit (.bool false)], args := [d1, d2, d3] }
  | _ => none }
def CellSymmetricWrongFalsely : Prop := cellSymmetricRow.holds Try.pinned (OpenSpec.ofChange cellSymmetricWrong)

/-- 'tinderlaw01.CellUndoes': WHATEVER THE INPUT: true; the input reads as it did. -/
def cellUndoesSpec : ChangeSpec := { name := "cellUndoes", fn := fun _ => fun
  | [d1, d2, d3] => { results := [.lit (.bool true)], args := [d1, d2, d3] }
  | _ => none }
def cellUndoesRow : OpenClaim := { program := "ytfmlkclacbceeab", sum := "2f01e16ec40b0c75dec4aee276bb8c6bb11fe7d7d9de4877d99e91de0cf8131a", func := "tinder/tinderlaw01.CellUndoes", spec := "cellUndoes", apart := false }
def CellUndoesSaid : Prop := cellUndoesRow.holds Try.pinned (OpenSpec.ofChange cellUndoesSpec)

/-- ITS FALSE NEIGHBOUR: 'it returns false'. Refute it at one input. -/
def cellUndoesWrong : ChangeSpec := { name := "cellUndoes", fn := fun _ => fun
  | [d1, d2, d3] => { results := [.lit (.bool false)], args := [d1, d2, d3] }
  | _ => none }
def CellUndoesWrongFalsely : Prop := cellUndoesRow.holds Try.pinned (OpenSpec.ofChange cellUndoesWrong)

/- THE SECOND FORM. 'bulk': how many values and letters a reading holds, each counted each time it is reached (what is shared counts as often as it is met; a slice's spare places count too). A statement '..UptoSaid' is the law's where the arguments, and the package variables that the reading takes, are together of bulk at most 1048576: NARROWER than '..Said'. Prove '..Said' where nothing that the law and all that it calls make is longer than what came in: it says more and counts as full. Else prove '..UptoSaid'. A law counts once. -/
mutual
def uptoBulk {H : Type} : DataW H → Nat
  | .lit (.string bytes) => bytes.length + 1
  | .lit _ => 1
  | .nil => 1
  | .ptr d => uptoBulk d + 1
  | .slice elems spare => uptoBulkAll elems + uptoBulkAll spare + 1
  | .agg parts => uptoBulkAll parts + 1
  | .iface _ d => uptoBulk d + 1
  | .map entries => uptoBulkEntries entries + 1
  | .held _ => 1
def uptoBulkAll {H : Type} : List (DataW H) → Nat
  | [] => 0
  | d :: r => uptoBulk d + uptoBulkAll r
def uptoBulkEntries {H : Type} : List (Lit × DataW H) → Nat
  | [] => 0
  | x :: r => uptoBulkEntry x + uptoBulkEntries r
def uptoBulkEntry {H : Type} : Lit × DataW H → Nat
  | (.string bytes, d) => bytes.length + uptoBulk d + 1
  | (_, d) => uptoBulk d + 1
 end
def uptoSmall : (H : Type) → List (DataW H) → Bool := fun _ ds => decide (uptoBulkAll ds ≤ 1048576)
def OpenSpec.upto (s : _root_.Go.ChangeSpec) : _root_.Go.OpenSpec := { _root_.Go.OpenSpec.ofChange s with cond := some uptoSmall }

/-- 'tinderlaw01.CellEuclid', WHERE WHAT IT READS IS OF BULK AT MOST 1048576: true; the input reads as it did. -/
def cellEuclidUptoRow : OpenClaim := { program := "ytfmlkclacbceeab", sum := "2f01e16ec40b0c75dec4aee276bb8c6bb11fe7d7d9de4877d99e91de0cf8131a", func := "tinder/tinderlaw01.CellEuclid", spec := "cellEuclid", apart := false, narrowed := true }
def CellEuclidUptoSaid : Prop := cellEuclidUptoRow.holds Try.pinned (OpenSpec.upto cellEuclidSpec)

/-- 'tinderlaw01.CellSymmetric', WHERE WHAT IT READS IS OF BULK AT MOST 1048576: true; the input reads as it did. -/
def cellSymmetricUptoRow : OpenClaim := { program := "ytfmlkclacbceeab", sum := "2f01e16ec40b0c75dec4aee276bb8c6bb11fe7d7d9de4877d99e91de0cf8131a", func := "tinder/tinderlaw01.CellSymmetric", spec := "cellSymmetric", apart := false, narrowed := true }
def CellSymmetricUptoSaid : Prop := cellSymmetricUptoRow.holds Try.pinned (OpenSpec.upto cellSymmetricSpec)

/-- 'tinderlaw01.CellUndoes', WHERE WHAT IT READS IS OF BULK AT MOST 1048576: true; the input reads as it did. -/
def cellUndoesUptoRow : OpenClaim := { program := "ytfmlkclacbceeab", sum := "2f01e16ec40b0c75dec4aee276bb8c6bb11fe7d7d9de4877d99e91de0cf8131a", func := "tinder/tinderlaw01.CellUndoes", spec := "cellUndoes", apart := false, narrowed := true }
def CellUndoesUptoSaid : Prop := cellUndoesUptoRow.holds Try.pinned (OpenSpec.upto cellUndoesSpec)

end Rows
end Go.Proofs.Ytfmlkclacbceeab
