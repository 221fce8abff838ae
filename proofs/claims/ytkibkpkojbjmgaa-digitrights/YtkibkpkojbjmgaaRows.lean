/-
  No cell of these rows narrows 'for every input' (looked for: loops, veiled, ifaces, maps, wideKeys, modest, calm, conditions, laid).
  DERIVED. THE GIVEN ROWS OF THIS SEAT. 6 by the template 'for every input the law returns true; each argument reads behind the call as it read before'; 0 by the template 'total and deterministic' (their statements: YtkibkpkojbjmgaaTotals.lean).
  GIVEN WITH THE SEED: the statements are not yours to turn. If you find one false, say at which input.
  Laid BY PROGRAM, IN A SANDBOX (cutbox-rows.mjs): the forced cells as the released guide's own fill.sh prints them over the translation 73aacd89f5881bbe… (all of the seat's roots in one cut). By AI agents, Wed Nov 11 2026. No macro, syntax, notation, axiom, sorry.
-/
import Derived.Test.YtkibkpkojbjmgaaChecked
import GoSem.Claim
import GoSem.ClaimJoined
import GoSem.ClaimMapViews
import Derived.JoinedTies
import Derived.KernelRfl
namespace Go.Proofs.Ytkibkpkojbjmgaa
/- THE CELL 'sum', in the pinned program and in every row, IS THE sha256 OF THE DUMP (.gsa) THAT YtkibkpkojbjmgaaProg.lean LOADS. Nothing in Lean hashes anything: it is a label: what it is worth is what the hold of that sum in a sandbox is worth. -/
noncomputable def Try.pinned : Pinned := { name := "ytkibkpkojbjmgaa", sum := "73aacd89f5881bbe28a3c1a1cd5b8bdcc2fd37c09d57c69049e1bda1da7c91e8", checked := Try.checked }
namespace Rows
def none {H : Type} : Left H := { results := [], args := [] }

/-- 'tinderlaw02.DigitValues': WHATEVER THE INPUT: true; the input reads as it did. -/
def digitValuesSpec : ChangeSpec := { name := "digitValues", fn := fun _ => fun
  | [d1, d2] => { results := [.lit (.bool true)], args := [d1, d2] }
  | _ => none }
def digitValuesRow : OpenClaim := { program := "ytkibkpkojbjmgaa", sum := "73aacd89f5881bbe28a3c1a1cd5b8bdcc2fd37c09d57c69049e1bda1da7c91e8", func := "tinder/tinderlaw02.DigitValues", spec := "digitValues", apart := false }
def DigitValuesSaid : Prop := digitValuesRow.holds Try.pinned (OpenSpec.ofChange digitValuesSpec)

/-- ITS FALSE NEIGHBOUR: 'it returns false'. Refute it at one input. -/
def digitValuesWrong : ChangeSpec := { name := "digitValues", fn := fun _ => fun
  | [d1, d2] => { results := [.lit (.bool false)], args := [d1, d2] }
  | _ => none }
def DigitValuesWrongFalsely : Prop := digitValuesRow.holds Try.pinned (OpenSpec.ofChange digitValuesWrong)

/-- 'tinderlaw02.DigitParses': WHATEVER THE INPUT: true; the input reads as it did. -/
def digitParsesSpec : ChangeSpec := { name := "digitParses", fn := fun _ => fun
  | [d1, d2] => { results := [.lit (.bool true)], args := [d1, d2] }
  | _ => none }
def digitParsesRow : OpenClaim := { program := "ytkibkpkojbjmgaa", sum := "73aacd89f5881bbe28a3c1a1cd5b8bdcc2fd37c09d57c69049e1bda1da7c91e8", func := "tinder/tinderlaw02.DigitParses", spec := "digitParses", apart := false }
def DigitParsesSaid : Prop := digitParsesRow.holds Try.pinned (OpenSpec.ofChange digitParsesSpec)

/-- ITS FALSE NEIGHBOUR: 'it returns false'. Refute it at one input. -/
def digitParsesWrong : ChangeSpec := { name := "digitParses", fn := fun _ => fun
  | [d1, d2] => { results := [.lit (.bool false)], args := [d1, d2] }
  | _ => none }
def DigitParsesWrongFalsely : Prop := digitParsesRow.holds Try.pinned (OpenSpec.ofChange digitParsesWrong)

/-- 'tinderlaw02.DigitShows': WHATEVER THE INPUT: true; the input reads as it did. -/
def digitShowsSpec : ChangeSpec := { name := "digitShows", fn := fun _ => fun
  | [d1, d2] => { results := [.lit (.bool true)], args := [d1, d2] }
  | _ => none }
def digitShowsRow : OpenClaim := { program := "ytkibkpkojbjmgaa", sum := "73aacd89f5881bbe28a3c1a1cd5b8bdcc2fd37c09d57c69049e1bda1da7c91e8", func := "tinder/tinderlaw02.DigitShows", spec := "digitShows", apart := false }
def DigitShowsSaid : Prop := digitShowsRow.holds Try.pinned (OpenSpec.ofChange digitShowsSpec)

/-- ITS FALSE NEIGHBOUR: 'it returns false'. Refute it at one input. -/
def digitShowsWrong : ChangeSpec := { name := "digitShows", fn := fun _ => fun
  | [d1, d2] => { results := [.lit (.bool false)], args := [d1, d2] }
  | _ => none }
def DigitShowsWrongFalsely : Prop := digitShowsRow.holds Try.pinned (OpenSpec.ofChange digitShowsWrong)

/-- 'tinderlaw02.DigitRights': WHATEVER THE INPUT: true; the input reads as it did. -/
def digitRightsSpec : ChangeSpec := { name := "digitRights", fn := fun _ => fun
  | [d1, d2] => { results := [.lit (.bool true)], args := [d1, d2] }
  | _ => none }
def digitRightsRow : OpenClaim := { program := "ytkibkpkojbjmgaa", sum := "73aacd89f5881bbe28a3c1a1cd5b8bdcc2fd37c09d57c69049e1bda1da7c91e8", func := "tinder/tinderlaw02.DigitRights", spec := "digitRights", inPlace := ["internal/abi.NoEscape", "internal/bytealg.MakeNoZero"], apart := false }
def DigitRightsSaid : Prop := digitRightsRow.holds Try.pinned (OpenSpec.ofChange digitRightsSpec)

/-- ITS FALSE NEIGHBOUR: 'it returns false'. Refute it at one input. -/
def digitRightsWrong : ChangeSpec := { name := "digitRights", fn := fun _ => fun
  | [d1, d2] => { results := [.lit (.bool false)], args := [d1, d2] }
  | _ => none }
def DigitRightsWrongFalsely : Prop := digitRightsRow.holds Try.pinned (OpenSpec.ofChange digitRightsWrong)

/-- 'tinderlaw02.DigitLiterals': WHATEVER THE INPUT: true; the input reads as it did. -/
def digitLiteralsSpec : ChangeSpec := { name := "digitLiterals", fn := fun _ => fun
  | [d] => { results := [.lit (.bool true)], args := [d] }
  | _ => none }
def digitLiteralsRow : OpenClaim := { program := "ytkibkpkojbjmgaa", sum := "73aacd89f5881bbe28a3c1a1cd5b8bdcc2fd37c09d57c69049e1bda1da7c91e8", func := "tinder/tinderlaw02.DigitLiterals", spec := "digitLiterals", apart := false }
def DigitLiteralsSaid : Prop := digitLiteralsRow.holds Try.pinned (OpenSpec.ofChange digitLiteralsSpec)

/-- ITS FALSE NEIGHBOUR: 'it returns false'. Refute it at one input. -/
def digitLiteralsWrong : ChangeSpec := { name := "digitLiterals", fn := fun _ => fun
  | [d] => { results := [.lit (.bool false)], args := [d] }
  | _ => none }
def DigitLiteralsWrongFalsely : Prop := digitLiteralsRow.holds Try.pinned (OpenSpec.ofChange digitLiteralsWrong)

/-- 'tinderlaw02.DigitBack': WHATEVER THE INPUT: true; the input reads as it did. -/
def digitBackSpec : ChangeSpec := { name := "digitBack", fn := fun _ => fun
  | [d1, d2, d3] => { results := [.lit (.bool true)], args := [d1, d2, d3] }
  | _ => none }
def digitBackRow : OpenClaim := { program := "ytkibkpkojbjmgaa", sum := "73aacd89f5881bbe28a3c1a1cd5b8bdcc2fd37c09d57c69049e1bda1da7c91e8", func := "tinder/tinderlaw02.DigitBack", spec := "digitBack", apart := false }
def DigitBackSaid : Prop := digitBackRow.holds Try.pinned (OpenSpec.ofChange digitBackSpec)

/-- ITS FALSE NEIGHBOUR: 'it returns false'. Refute it at one input. -/
def digitBackWrong : ChangeSpec := { name := "digitBack", fn := fun _ => fun
  | [d1, d2, d3] => { results := [.lit (.bool false)], args := [d1, d2, d3] }
  | _ => none }
def DigitBackWrongFalsely : Prop := digitBackRow.holds Try.pinned (OpenSpec.ofChange digitBackWrong)

/- THE SECOND FORM. 'bulk': how many values and letters a reading holds, each counted each time it is reached (what is shared counts as often as it is met; a slice's spare places count too). A statement '..UptoSaid' is the law's where the arguments, and the package variables that the reading takes, are together of bulk at most 1048576: NARROWER than '..Said'. Prove '..Said' where nothing that the law and all that it calls make is longer than what came in: it says more and counts as full. Else prove '..UptoSaid'. A law counts once. -/
mutual
def uptoBulk {H : Type} : DataW H → Nat
  | .lit (.string bytes) => bytes.length + 1
  | .lit _ => 1
  | .nil => 1
  | .ptr d => uptoBulk d + 1
  | .slice elems spare => uptoBulkAll elems + uptoBulkAll spare + 1
  | .agg parts => uptoBulkAll parts + 1
  | .iface _ d => uptoBulk d + 1
  | .map entries => uptoBulkEntries entries + 1
  | .held _ => 1
def uptoBulkAll {H : Type} : List (DataW H) → Nat
  | [] => 0
  | d :: r => uptoBulk d + uptoBulkAll r
def uptoBulkEntries {H : Type} : List (Lit × DataW H) → Nat
  | [] => 0
  | x :: r => uptoBulkEntry x + uptoBulkEntries r
def uptoBulkEntry {H : Type} : Lit × DataW H → Nat
  | (.string bytes, d) => bytes.length + uptoBulk d + 1
  | (_, d) => uptoBulk d + 1
 end
def uptoSmall : (H : Type) → List (DataW H) → Bool := fun _ ds => decide (uptoBulkAll ds ≤ 1048576)
def OpenSpec.upto (s : _root_.Go.ChangeSpec) : _root_.Go.OpenSpec := { _root_.Go.OpenSpec.ofChange s with cond := some uptoSmall }

/-- 'tinderlaw02.DigitValues', WHERE WHAT IT READS IS OF BULK AT MOST 1048576: true; the input reads as it did. -/
def digitValuesUptoRow : OpenClaim := { program := "ytkibkpkojbjmgaa", sum := "73aacd89f5881bbe28a3c1a1cd5b8bdcc2fd37c09d57c69049e1bda1da7c91e8", func := "tinder/tinderlaw02.DigitValues", spec := "digitValues", apart := false, narrowed := true }
def DigitValuesUptoSaid : Prop := digitValuesUptoRow.holds Try.pinned (OpenSpec.upto digitValuesSpec)

/-- 'tinderlaw02.DigitParses', WHERE WHAT IT READS IS OF BULK AT MOST 1048576: true; the input reads as it did. -/
def digitParsesUptoRow : OpenClaim := { program := "ytkibkpkojbjmgaa", sum := "73aacd89f5881bbe28a3c1a1cd5b8bdcc2fd37c09d57c69049e1bda1da7c91e8", func := "tinder/tinderlaw02.DigitParses", spec := "digitParses", apart := false, narrowed := true }
def DigitParsesUptoSaid : Prop := digitParsesUptoRow.holds Try.pinned (OpenSpec.upto digitParsesSpec)

/-- 'tinderlaw02.DigitShows', WHERE WHAT IT READS IS OF BULK AT MOST 1048576: true; the input reads as it did. -/
def digitShowsUptoRow : OpenClaim := { program := "ytkibkpkojbjmgaa", sum := "73aacd89f5881bbe28a3c1a1cd5b8bdcc2fd37c09d57c69049e1bda1da7c91e8", func := "tinder/tinderlaw02.DigitShows", spec := "digitShows", apart := false, narrowed := true }
def DigitShowsUptoSaid : Prop := digitShowsUptoRow.holds Try.pinned (OpenSpec.upto digitShowsSpec)

/-- 'tinderlaw02.DigitRights', WHERE WHAT IT READS IS OF BULK AT MOST 1048576: true; the input reads as it did. -/
def digitRightsUptoRow : OpenClaim := { program := "ytkibkpkojbjmgaa", sum := "73aacd89f5881bbe28a3c1a1cd5b8bdcc2fd37c09d57c69049e1bda1da7c91e8", func := "tinder/tinderlaw02.DigitRights", spec := "digitRights", inPlace := ["internal/abi.NoEscape", "internal/bytealg.MakeNoZero"], apart := false, narrowed := true }
def DigitRightsUptoSaid : Prop := digitRightsUptoRow.holds Try.pinned (OpenSpec.upto digitRightsSpec)

/-- 'tinderlaw02.DigitLiterals', WHERE WHAT IT READS IS OF BULK AT MOST 1048576: true; the input reads as it did. -/
def digitLiteralsUptoRow : OpenClaim := { program := "ytkibkpkojbjmgaa", sum := "73aacd89f5881bbe28a3c1a1cd5b8bdcc2fd37c09d57c69049e1bda1da7c91e8", func := "tinder/tinderlaw02.DigitLiterals", spec := "digitLiterals", apart := false, narrowed := true }
def DigitLiteralsUptoSaid : Prop := digitLiteralsUptoRow.holds Try.pinned (OpenSpec.upto digitLiteralsSpec)

/-- 'tinderlaw02.DigitBack', WHERE WHAT IT READS IS OF BULK AT MOST 1048576: true; the input reads as it did. -/
def digitBackUptoRow : OpenClaim := { program := "ytkibkpkojbjmgaa", sum := "73aacd89f5881bbe28a3c1a1cd5b8bdcc2fd37c09d57c69049e1bda1da7c91e8", func := "tinder/tinderlaw02.DigitBack", spec := "digitBack", apart := false, narrowed := true }
def DigitBackUptoSaid : Prop := digitBackUptoRow.holds Try.pinned (OpenSpec.upto digitBackSpec)

end Rows
end Go.Proofs.Ytkibkpkojbjmgaa
