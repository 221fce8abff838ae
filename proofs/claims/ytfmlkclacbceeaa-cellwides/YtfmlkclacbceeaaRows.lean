/-
  No cell of these rows narrows 'for every input' (looked for: loops, veiled, ifaces, maps, wideKeys, modest, calm, conditions, laid).
  DERIVED. THE GIVEN ROWS OF THIS SEAT. 6 by the template 'for every input the law returns true; each argument reads behind the call as it read before'; 0 by the template 'total and deterministic' (their statements: YtfmlkclacbceeaaTotals.lean).
  GIVEN WITH THE SEED: the statements are not yours to turn. If you find one false, say at which input.
  Laid BY PROGRAM, IN A SANDBOX (cutbox-rows.mjs): the forced cells as the released guide's own fill.sh prints them over the translation 665150fefab68920… (all of the seat's roots in one cut). By AI agents, Wed Nov 11 2026. No macro, syntax, notation, axiom, sorry.
-/
import Derived.Test.YtfmlkclacbceeaaChecked
import GoSem.Claim
import GoSem.ClaimJoined
import GoSem.ClaimMapViews
import Derived.JoinedTies
import Derived.KernelRfl
namespace Go.Proofs.Ytfmlkclacbceeaa
/- THE CELL 'sum', in the pinned program and in every row, IS THE sha256 OF THE DUMP (.gsa) THAT YtfmlkclacbceeaaProg.lean LOADS. Nothing in Lean hashes anything: it is a label: what it is worth is what the hold of that sum in a sandbox is worth. -/
noncomputable def Try.pinned : Pinned := { name := "ytfmlkclacbceeaa", sum := "665150fefab689208a963f541ecdd1c44278f2104557e5cbfd30c886350f5058", checked := Try.checked }
namespace Rows
def none {H : Type} : Left H := { results := [], args := [] }

/-- 'tinderlaw01.CellBins': WHATEVER THE INPUT: true; the input reads as it did. -/
def cellBinsSpec : ChangeSpec := { name := "cellBins", fn := fun _ => fun
  | [d1, d2, d3] => { results := [.lit (.bool true)], args := [d1, d2, d3] }
  | _ => none }
def cellBinsRow : OpenClaim := { program := "ytfmlkclacbceeaa", sum := "665150fefab689208a963f541ecdd1c44278f2104557e5cbfd30c886350f5058", func := "tinder/tinderlaw01.CellBins", spec := "cellBins", apart := false }
def CellBinsSaid : Prop := cellBinsRow.holds Try.pinned (OpenSpec.ofChange cellBinsSpec)

/-- ITS FALSE NEIGHBOUR: 'it returns false'. Refute it at one input. -/
def cellBinsWrong : ChangeSpec := { name := "cellBins", fn := fun _ => fun
  | [d1, d2, d3] => { results := [.lit (.bool false)], args := [d1, d2, d3] }
  | _ => none }
def CellBinsWrongFalsely : Prop := cellBinsRow.holds Try.pinned (OpenSpec.ofChange cellBinsWrong)

/-- 'tinderlaw01.CellUns': WHATEVER THE INPUT: true; the input reads as it did. -/
def cellUnsSpec : ChangeSpec := { name := "cellUns", fn := fun _ => fun
  | [d1, d2] => { results := [.lit (.bool true)], args := [d1, d2] }
  | _ => none }
def cellUnsRow : OpenClaim := { program := "ytfmlkclacbceeaa", sum := "665150fefab689208a963f541ecdd1c44278f2104557e5cbfd30c886350f5058", func := "tinder/tinderlaw01.CellUns", spec := "cellUns", apart := false }
def CellUnsSaid : Prop := cellUnsRow.holds Try.pinned (OpenSpec.ofChange cellUnsSpec)

/-- ITS FALSE NEIGHBOUR: 'it returns false'. Refute it at one input. -/
def cellUnsWrong : ChangeSpec := { name := "cellUns", fn := fun _ => fun
  | [d1, d2] => { results := [.lit (.bool false)], args := [d1, d2] }
  | _ => none }
def CellUnsWrongFalsely : Prop := cellUnsRow.holds Try.pinned (OpenSpec.ofChange cellUnsWrong)

/-- 'tinderlaw01.CellDivides': WHATEVER THE INPUT: true; the input reads as it did. -/
def cellDividesSpec : ChangeSpec := { name := "cellDivides", fn := fun _ => fun
  | [d1, d2, d3] => { results := [.lit (.bool true)], args := [d1, d2, d3] }
  | _ => none }
def cellDividesRow : OpenClaim := { program := "ytfmlkclacbceeaa", sum := "665150fefab689208a963f541ecdd1c44278f2104557e5cbfd30c886350f5058", func := "tinder/tinderlaw01.CellDivides", spec := "cellDivides", apart := false }
def CellDividesSaid : Prop := cellDividesRow.holds Try.pinned (OpenSpec.ofChange cellDividesSpec)

/-- ITS FALSE NEIGHBOUR: 'it returns false'. Refute it at one input. -/
def cellDividesWrong : ChangeSpec := { name := "cellDivides", fn := fun _ => fun
  | [d1, d2, d3] => { results := [.lit (.bool false)], args := [d1, d2, d3] }
  | _ => none }
def CellDividesWrongFalsely : Prop := cellDividesRow.holds Try.pinned (OpenSpec.ofChange cellDividesWrong)

/-- 'tinderlaw01.CellWides': WHATEVER THE INPUT: true; the input reads as it did. -/
def cellWidesSpec : ChangeSpec := { name := "cellWides", fn := fun _ => fun
  | [d1, d2, d3] => { results := [.lit (.bool true)], args := [d1, d2, d3] }
  | _ => none }
def cellWidesRow : OpenClaim := { program := "ytfmlkclacbceeaa", sum := "665150fefab689208a963f541ecdd1c44278f2104557e5cbfd30c886350f5058", func := "tinder/tinderlaw01.CellWides", spec := "cellWides", apart := false }
def CellWidesSaid : Prop := cellWidesRow.holds Try.pinned (OpenSpec.ofChange cellWidesSpec)

/-- ITS FALSE NEIGHBOUR: 'it returns false'. Refute it at one input. -/
def cellWidesWrong : ChangeSpec := { name := "cellWides", fn := fun _ => fun
  | [d1, d2, d3] => { results := [.lit (.bool false)], args := [d1, d2, d3] }
  | _ => none }
def CellWidesWrongFalsely : Prop := cellWidesRow.holds Try.pinned (OpenSpec.ofChange cellWidesWrong)

/-- 'tinderlaw01.CellDoubles': WHATEVER THE INPUT: true; the input reads as it did. -/
def cellDoublesSpec : ChangeSpec := { name := "cellDoubles", fn := fun _ => fun
  | [d1, d2, d3] => { results := [.lit (.bool true)], args := [d1, d2, d3] }
  | _ => none }
def cellDoublesRow : OpenClaim := { program := "ytfmlkclacbceeaa", sum := "665150fefab689208a963f541ecdd1c44278f2104557e5cbfd30c886350f5058", func := "tinder/tinderlaw01.CellDoubles", spec := "cellDoubles", apart := false }
def CellDoublesSaid : Prop := cellDoublesRow.holds Try.pinned (OpenSpec.ofChange cellDoublesSpec)

/-- ITS FALSE NEIGHBOUR: 'it returns false'. Refute it at one input. -/
def cellDoublesWrong : ChangeSpec := { name := "cellDoubles", fn := fun _ => fun
  | [d1, d2, d3] => { results := [.lit (.bool false)], args := [d1, d2, d3] }
  | _ => none }
def CellDoublesWrongFalsely : Prop := cellDoublesRow.holds Try.pinned (OpenSpec.ofChange cellDoublesWrong)

/-- 'tinderlaw01.CellParts': WHATEVER THE INPUT: true; the input reads as it did. -/
def cellPartsSpec : ChangeSpec := { name := "cellParts", fn := fun _ => fun
  | [d1, d2] => { results := [.lit (.bool true)], args := [d1, d2] }
  | _ => none }
def cellPartsRow : OpenClaim := { program := "ytfmlkclacbceeaa", sum := "665150fefab689208a963f541ecdd1c44278f2104557e5cbfd30c886350f5058", func := "tinder/tinderlaw01.CellParts", spec := "cellParts", apart := false }
def CellPartsSaid : Prop := cellPartsRow.holds Try.pinned (OpenSpec.ofChange cellPartsSpec)

/-- ITS FALSE NEIGHBOUR: 'it returns false'. Refute it at one input. -/
def cellPartsWrong : ChangeSpec := { name := "cellParts", fn := fun _ => fun
  | [d1, d2] => { results := [.lit (.bool false)], args := [d1, d2] }
  | _ => none }
def CellPartsWrongFalsely : Prop := cellPartsRow.holds Try.pinned (OpenSpec.ofChange cellPartsWrong)

/- THE SECOND FORM. 'bulk': how many values and letters a reading holds, each counted each time it is reached (what is shared counts as often as it is met; a slice's spare places count too). A statement '..UptoSaid' is the law's where the arguments, and the package variables that the reading takes, are together of bulk at most 1048576: NARROWER than '..Said'. Prove '..Said' where nothing that the law and all that it calls make is longer than what came in: it says more and counts as full. Else prove '..UptoSaid'. A law counts once. -/
mutual
def uptoBulk {H : Type} : DataW H → Nat
  | .lit (.string bytes) => bytes.length + 1
  | .lit _ => 1
  | .nil => 1
  | .ptr d => uptoBulk d + 1
  | .slice elems spare => uptoBulkAll elems + uptoBulkAll spare + 1
  | .agg parts => uptoBulkAll parts + 1
  | .iface _ d => uptoBulk d + 1
  | .map entries => uptoBulkEntries entries + 1
  | .held _ => 1
def uptoBulkAll {H : Type} : List (DataW H) → Nat
  | [] => 0
  | d :: r => uptoBulk d + uptoBulkAll r
def uptoBulkEntries {H : Type} : List (Lit × DataW H) → Nat
  | [] => 0
  | x :: r => uptoBulkEntry x + uptoBulkEntries r
def uptoBulkEntry {H : Type} : Lit × DataW H → Nat
  | (.string bytes, d) => bytes.length + uptoBulk d + 1
  | (_, d) => uptoBulk d + 1
 end
def uptoSmall : (H : Type) → List (DataW H) → Bool := fun _ ds => decide (uptoBulkAll ds ≤ 1048576)
def OpenSpec.upto (s : _root_.Go.ChangeSpec) : _root_.Go.OpenSpec := { _root_.Go.OpenSpec.ofChange s with cond := some uptoSmall }

/-- 'tinderlaw01.CellBins', WHERE WHAT IT READS IS OF BULK AT MOST 1048576: true; the input reads as it did. -/
def cellBinsUptoRow : OpenClaim := { program := "ytfmlkclacbceeaa", sum := "665150fefab689208a963f541ecdd1c44278f2104557e5cbfd30c886350f5058", func := "tinder/tinderlaw01.CellBins", spec := "cellBins", apart := false, narrowed := true }
def CellBinsUptoSaid : Prop := cellBinsUptoRow.holds Try.pinned (OpenSpec.upto cellBinsSpec)

/-- 'tinderlaw01.CellUns', WHERE WHAT IT READS IS OF BULK AT MOST 1048576: true; the input reads as it did. -/
def cellUnsUptoRow : OpenClaim := { program := "ytfmlkclacbceeaa", sum := "665150fefab689208a963f541ecdd1c44278f2104557e5cbfd30c886350f5058", func := "tinder/tinderlaw01.CellUns", spec := "cellUns", apart := false, narrowed := true }
def CellUnsUptoSaid : Prop := cellUnsUptoRow.holds Try.pinned (OpenSpec.upto cellUnsSpec)

/-- 'tinderlaw01.CellDivides', WHERE WHAT IT READS IS OF BULK AT MOST 1048576: true; the input reads as it did. -/
def cellDividesUptoRow : OpenClaim := { program := "ytfmlkclacbceeaa", sum := "665150fefab689208a963f541ecdd1c44278f2104557e5cbfd30c886350f5058", func := "tinder/tinderlaw01.CellDivides", spec := "cellDivides", apart := false, narrowed := true }
def CellDividesUptoSaid : Prop := cellDividesUptoRow.holds Try.pinned (OpenSpec.upto cellDividesSpec)

/-- 'tinderlaw01.CellWides', WHERE WHAT IT READS IS OF BULK AT MOST 1048576: true; the input reads as it did. -/
def cellWidesUptoRow : OpenClaim := { program := "ytfmlkclacbceeaa", sum := "665150fefab689208a963f541ecdd1c44278f2104557e5cbfd30c886350f5058", func := "tinder/tinderlaw01.CellWides", spec := "cellWides", apart := false, narrowed := true }
def CellWidesUptoSaid : Prop := cellWidesUptoRow.holds Try.pinned (OpenSpec.upto cellWidesSpec)

/-- 'tinderlaw01.CellDoubles', WHERE WHAT IT READS IS OF BULK AT MOST 1048576: true; the input reads as it did. -/
def cellDoublesUptoRow : OpenClaim := { program := "ytfmlkclacbceeaa", sum := "665150fefab689208a963f541ecdd1c44278f2104557e5cbfd30c886350f5058", func := "tinder/tinderlaw01.CellDoubles", spec := "cellDoubles", apart := false, narrowed := true }
def CellDoublesUptoSaid : Prop := cellDoublesUptoRow.holds Try.pinned (OpenSpec.upto cellDoublesSpec)

/-- 'tinderlaw01.CellParts', WHERE WHAT IT READS IS OF BULK AT MOST 1048576: true; the input reads as it did. -/
def cellPartsUptoRow : OpenClaim := { program := "ytfmlkclacbceeaa", sum := "665150fefab689208a963f541ecdd1c44278f2104557e5cbfd30c886350f5058", func := "tinder/tinderlaw01.CellParts", spec := "cellParts", apart := false, narrowed := true }
def CellPartsUptoSaid : Prop := cellPartsUptoRow.holds Try.pinned (OpenSpec.upto cellPartsSpec)

end Rows
end Go.Proofs.Ytfmlkclacbceeaa
