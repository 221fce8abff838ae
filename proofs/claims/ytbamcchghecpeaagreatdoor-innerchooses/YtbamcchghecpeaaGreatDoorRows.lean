/-
  NARROWER THAN 'FOR EVERY INPUT', by the rows' own cells (each row's printed sentence says how): InnerRuns: laid · InnerThrows: laid · InnerFuel: laid · InnerCounts: laid · InnerChooses: laid · InnerCatches: laid.
  DERIVED. THE GIVEN ROWS OF THIS SEAT. 6 by the template 'for every input the law returns true; each argument reads behind the call as it read before'; 0 by the template 'total and deterministic' (their statements: YtbamcchghecpeaaGreatDoorTotals.lean).
  GIVEN WITH THE SEED: the statements are not yours to turn. If you find one false, say at which input.
  Laid BY PROGRAM, IN A SANDBOX (cutbox-rows.mjs): the forced cells as the released guide's own fill.sh prints them over the translation f9f651930a211f11… (all of the seat's roots in one cut). By AI agents, Wed Nov 11 2026. No macro, syntax, notation, axiom, sorry.
-/
import Derived.Test.YtbamcchghecpeaaGreatDoorChecked
import GoSem.Claim
import GoSem.ClaimJoined
import GoSem.ClaimMapViews
import Derived.JoinedTies
import Derived.KernelRfl
namespace Go.Proofs.YtbamcchghecpeaaGreatDoor
/- THE CELL 'sum', in the pinned program and in every row, IS THE sha256 OF THE DUMP (.gsa) THAT YtbamcchghecpeaaGreatDoorProg.lean LOADS. Nothing in Lean hashes anything: it is a label: what it is worth is what the hold of that sum in a sandbox is worth. -/
noncomputable def Tryz.pinned : Pinned := { name := "ytbamcchghecpeaagreatdoor", sum := "f9f651930a211f114c1155de34a46292976c9894e87dbdca94aa2dbee40df899", checked := Tryz.checked }
namespace Rows
def none {H : Type} : Left H := { results := [], args := [] }

/- WHAT THE LISTED PACKAGE-LEVEL VARIABLES READ AS WHEN THE CALL BEGINS. Each datum BY PROGRAM (the guide's laid-datum.mjs) off the statement by which the dump's own 'gosem.cut.vars' lays the variable. In a bare row this is a premise. The card (YtbamcchghecpeaaGreatDoorCards.lean) ties it to the program's text. -/
def laid_tinder_stack_turns {H : Type} : DataW H := .agg [.agg [.lit (.int .i64 70), .lit (.int .i64 1), .lit (.string [])], .agg [.lit (.int .i64 71), .lit (.int .i64 1), .lit (.string [97, 97])], .agg [.lit (.int .i64 72), .lit (.int .i64 2), .lit (.string [97, 98, 97])], .agg [.lit (.int .i64 73), .lit (.int .i64 2), .lit (.string [98, 97])], .agg [.lit (.int .i64 74), .lit (.int .i64 3), .lit (.string [98, 99, 97])], .agg [.lit (.int .i64 75), .lit (.int .i64 3), .lit (.string [99, 97, 98])], .agg [.lit (.int .i64 76), .lit (.int .i64 2), .lit (.string [98, 97, 98])], .agg [.lit (.int .i64 77), .lit (.int .i64 2), .lit (.string [98])], .agg [.lit (.int .i64 82), .lit (.int .i64 2), .lit (.string [])], .agg [.lit (.int .i64 83), .lit (.int .i64 2), .lit (.string [97, 98, 97, 98])], .agg [.lit (.int .i64 84), .lit (.int .i64 4), .lit (.string [97, 98, 99, 100, 97, 98])], .agg [.lit (.int .i64 85), .lit (.int .i64 4), .lit (.string [99, 100, 97, 98])], .agg [.lit (.int .i64 86), .lit (.int .i64 6), .lit (.string [99, 100, 101, 102, 97, 98])]]

/-- 'tinderlaw11.InnerRuns': WHATEVER THE INPUT: true; the input reads as it did. -/
def innerRunsSpec : ChangeSpec := { name := "innerRuns", fn := fun _ => fun
  | [d1, d2, d3] => { results := [.lit (.bool true)], args := [d1, d2, d3] }
  | _ => none }
def innerRunsRow : OpenClaim := { program := "ytbamcchghecpeaagreatdoor", sum := "f9f651930a211f114c1155de34a46292976c9894e87dbdca94aa2dbee40df899", func := "tinder/tinderlaw11.InnerRuns", spec := "innerRuns", inPlace := ["internal/bytealg.IndexByteString", "internal/bytealg.IndexString", "internal/bytealg.Compare", "internal/bytealg.IndexByte"], unfollowed := true, recurses := true, named := ["internal/bytealg.MaxLen", "tinder/stack.turns"], apart := false, laid := [("tinder/stack.turns", laid_tinder_stack_turns)] }
def InnerRunsSaid : Prop := innerRunsRow.holds Tryz.pinned (OpenSpec.ofChange innerRunsSpec)

/-- ITS FALSE NEIGHBOUR: 'it returns false'. Refute it at one input. -/
def innerRunsWrong : ChangeSpec := { name := "innerRuns", fn := fun _ => fun
  | [d1, d2, d3] => { results := [.lit (.bool false)], args := [d1, d2, d3] }
  | _ => none }
def InnerRunsWrongFalsely : Prop := innerRunsRow.holds Tryz.pinned (OpenSpec.ofChange innerRunsWrong)

/-- 'tinderlaw11.InnerThrows': WHATEVER THE INPUT: true; the input reads as it did. -/
def innerThrowsSpec : ChangeSpec := { name := "innerThrows", fn := fun _ => fun
  | [d1, d2, d3] => { results := [.lit (.bool true)], args := [d1, d2, d3] }
  | _ => none }
def innerThrowsRow : OpenClaim := { program := "ytbamcchghecpeaagreatdoor", sum := "f9f651930a211f114c1155de34a46292976c9894e87dbdca94aa2dbee40df899", func := "tinder/tinderlaw11.InnerThrows", spec := "innerThrows", inPlace := ["internal/bytealg.IndexByteString", "internal/bytealg.IndexString", "internal/bytealg.Compare", "internal/bytealg.IndexByte"], unfollowed := true, recurses := true, named := ["internal/bytealg.MaxLen", "tinder/stack.turns"], apart := false, laid := [("tinder/stack.turns", laid_tinder_stack_turns)] }
def InnerThrowsSaid : Prop := innerThrowsRow.holds Tryz.pinned (OpenSpec.ofChange innerThrowsSpec)

/-- ITS FALSE NEIGHBOUR: 'it returns false'. Refute it at one input. -/
def innerThrowsWrong : ChangeSpec := { name := "innerThrows", fn := fun _ => fun
  | [d1, d2, d3] => { results := [.lit (.bool false)], args := [d1, d2, d3] }
  | _ => none }
def InnerThrowsWrongFalsely : Prop := innerThrowsRow.holds Tryz.pinned (OpenSpec.ofChange innerThrowsWrong)

/-- 'tinderlaw11.InnerFuel': WHATEVER THE INPUT: true; the input reads as it did. -/
def innerFuelSpec : ChangeSpec := { name := "innerFuel", fn := fun _ => fun
  | [d1, d2, d3] => { results := [.lit (.bool true)], args := [d1, d2, d3] }
  | _ => none }
def innerFuelRow : OpenClaim := { program := "ytbamcchghecpeaagreatdoor", sum := "f9f651930a211f114c1155de34a46292976c9894e87dbdca94aa2dbee40df899", func := "tinder/tinderlaw11.InnerFuel", spec := "innerFuel", inPlace := ["internal/bytealg.IndexByteString", "internal/bytealg.IndexString", "internal/bytealg.Compare", "internal/bytealg.IndexByte"], unfollowed := true, recurses := true, named := ["internal/bytealg.MaxLen", "tinder/stack.turns"], apart := false, laid := [("tinder/stack.turns", laid_tinder_stack_turns)] }
def InnerFuelSaid : Prop := innerFuelRow.holds Tryz.pinned (OpenSpec.ofChange innerFuelSpec)

/-- ITS FALSE NEIGHBOUR: 'it returns false'. Refute it at one input. -/
def innerFuelWrong : ChangeSpec := { name := "innerFuel", fn := fun _ => fun
  | [d1, d2, d3] => { results := [.lit (.bool false)], args := [d1, d2, d3] }
  | _ => none }
def InnerFuelWrongFalsely : Prop := innerFuelRow.holds Tryz.pinned (OpenSpec.ofChange innerFuelWrong)

/-- 'tinderlaw11.InnerCounts': WHATEVER THE INPUT: true; the input reads as it did. -/
def innerCountsSpec : ChangeSpec := { name := "innerCounts", fn := fun _ => fun
  | [d1, d2] => { results := [.lit (.bool true)], args := [d1, d2] }
  | _ => none }
def innerCountsRow : OpenClaim := { program := "ytbamcchghecpeaagreatdoor", sum := "f9f651930a211f114c1155de34a46292976c9894e87dbdca94aa2dbee40df899", func := "tinder/tinderlaw11.InnerCounts", spec := "innerCounts", inPlace := ["internal/bytealg.IndexByteString", "internal/bytealg.IndexString", "internal/bytealg.Compare", "internal/bytealg.IndexByte"], unfollowed := true, recurses := true, named := ["internal/bytealg.MaxLen", "tinder/stack.turns"], apart := false, laid := [("tinder/stack.turns", laid_tinder_stack_turns)] }
def InnerCountsSaid : Prop := innerCountsRow.holds Tryz.pinned (OpenSpec.ofChange innerCountsSpec)

/-- ITS FALSE NEIGHBOUR: 'it returns false'. Refute it at one input. -/
def innerCountsWrong : ChangeSpec := { name := "innerCounts", fn := fun _ => fun
  | [d1, d2] => { results := [.lit (.bool false)], args := [d1, d2] }
  | _ => none }
def InnerCountsWrongFalsely : Prop := innerCountsRow.holds Tryz.pinned (OpenSpec.ofChange innerCountsWrong)

/-- 'tinderlaw11.InnerChooses': WHATEVER THE INPUT: true; the input reads as it did. -/
def innerChoosesSpec : ChangeSpec := { name := "innerChooses", fn := fun _ => fun
  | [d1, d2, d3] => { results := [.lit (.bool true)], args := [d1, d2, d3] }
  | _ => none }
def innerChoosesRow : OpenClaim := { program := "ytbamcchghecpeaagreatdoor", sum := "f9f651930a211f114c1155de34a46292976c9894e87dbdca94aa2dbee40df899", func := "tinder/tinderlaw11.InnerChooses", spec := "innerChooses", inPlace := ["internal/bytealg.IndexByteString", "internal/bytealg.IndexString", "internal/bytealg.Compare", "internal/bytealg.IndexByte"], unfollowed := true, recurses := true, named := ["internal/bytealg.MaxLen", "tinder/stack.turns"], apart := false, laid := [("tinder/stack.turns", laid_tinder_stack_turns)] }
def InnerChoosesSaid : Prop := innerChoosesRow.holds Tryz.pinned (OpenSpec.ofChange innerChoosesSpec)

/-- ITS FALSE NEIGHBOUR: 'it returns false'. Refute it at one input. -/
def innerChoosesWrong : ChangeSpec := { name := "innerChooses", fn := fun _ => fun
  | [d1, d2, d3] => { results := [.lit (.bool false)], args := [d1, d2, d3] }
  | _ => none }
def InnerChoosesWrongFalsely : Prop := innerChoosesRow.holds Tryz.pinned (OpenSpec.ofChange innerChoosesWrong)

/-- 'tinderlaw11.InnerCatches': WHATEVER THE INPUT: true; the input reads as it did. -/
def innerCatchesSpec : ChangeSpec := { name := "innerCatches", fn := fun _ => fun
  | [d1, d2, d3] => { results := [.lit (.bool true)], args := [d1, d2, d3] }
  | _ => none }
def innerCatchesRow : OpenClaim := { program := "ytbamcchghecpeaagreatdoor", sum := "f9f651930a211f114c1155de34a46292976c9894e87dbdca94aa2dbee40df899", func := "tinder/tinderlaw11.InnerCatches", spec := "innerCatches", inPlace := ["internal/bytealg.IndexByteString", "internal/bytealg.IndexString", "internal/bytealg.Compare", "internal/bytealg.IndexByte"], unfollowed := true, recurses := true, named := ["internal/bytealg.MaxLen", "tinder/stack.turns"], apart := false, laid := [("tinder/stack.turns", laid_tinder_stack_turns)] }
def InnerCatchesSaid : Prop := innerCatchesRow.holds Tryz.pinned (OpenSpec.ofChange innerCatchesSpec)

/-- ITS FALSE NEIGHBOUR: 'it returns false'. Refute it at one input. -/
def innerCatchesWrong : ChangeSpec := { name := "innerCatches", fn := fun _ => fun
  | [d1, d2, d3] => { results := [.lit (.bool false)], args := [d1, d2, d3] }
  | _ => none }
def InnerCatchesWrongFalsely : Prop := innerCatchesRow.holds Tryz.pinned (OpenSpec.ofChange innerCatchesWrong)

/- THE SECOND FORM. 'bulk': how many values and letters a reading holds, each counted each time it is reached (what is shared counts as often as it is met; a slice's spare places count too). A statement '..UptoSaid' is the law's where the arguments, and the package variables that the reading takes, are together of bulk at most 1048576: NARROWER than '..Said'. Prove '..Said' where nothing that the law and all that it calls make is longer than what came in: it says more and counts as full. Else prove '..UptoSaid'. A law counts once. -/
mutual
def uptoBulk {H : Type} : DataW H → Nat
  | .lit (.string bytes) => bytes.length + 1
  | .lit _ => 1
  | .nil => 1
  | .ptr d => uptoBulk d + 1
  | .slice elems spare => uptoBulkAll elems + uptoBulkAll spare + 1
  | .agg parts => uptoBulkAll parts + 1
  | .iface _ d => uptoBulk d + 1
  | .map entries => uptoBulkEntries entries + 1
  | .held _ => 1
def uptoBulkAll {H : Type} : List (DataW H) → Nat
  | [] => 0
  | d :: r => uptoBulk d + uptoBulkAll r
def uptoBulkEntries {H : Type} : List (Lit × DataW H) → Nat
  | [] => 0
  | x :: r => uptoBulkEntry x + uptoBulkEntries r
def uptoBulkEntry {H : Type} : Lit × DataW H → Nat
  | (.string bytes, d) => bytes.length + uptoBulk d + 1
  | (_, d) => uptoBulk d + 1
 end
def uptoSmall : (H : Type) → List (DataW H) → Bool := fun _ ds => decide (uptoBulkAll ds ≤ 1048576)
def OpenSpec.upto (s : _root_.Go.ChangeSpec) : _root_.Go.OpenSpec := { _root_.Go.OpenSpec.ofChange s with cond := some uptoSmall }

/-- 'tinderlaw11.InnerRuns', WHERE WHAT IT READS IS OF BULK AT MOST 1048576: true; the input reads as it did. -/
def innerRunsUptoRow : OpenClaim := { program := "ytbamcchghecpeaagreatdoor", sum := "f9f651930a211f114c1155de34a46292976c9894e87dbdca94aa2dbee40df899", func := "tinder/tinderlaw11.InnerRuns", spec := "innerRuns", inPlace := ["internal/bytealg.IndexByteString", "internal/bytealg.IndexString", "internal/bytealg.Compare", "internal/bytealg.IndexByte"], unfollowed := true, recurses := true, named := ["internal/bytealg.MaxLen", "tinder/stack.turns"], apart := false, laid := [("tinder/stack.turns", laid_tinder_stack_turns)], narrowed := true }
def InnerRunsUptoSaid : Prop := innerRunsUptoRow.holds Tryz.pinned (OpenSpec.upto innerRunsSpec)

/-- 'tinderlaw11.InnerThrows', WHERE WHAT IT READS IS OF BULK AT MOST 1048576: true; the input reads as it did. -/
def innerThrowsUptoRow : OpenClaim := { program := "ytbamcchghecpeaagreatdoor", sum := "f9f651930a211f114c1155de34a46292976c9894e87dbdca94aa2dbee40df899", func := "tinder/tinderlaw11.InnerThrows", spec := "innerThrows", inPlace := ["internal/bytealg.IndexByteString", "internal/bytealg.IndexString", "internal/bytealg.Compare", "internal/bytealg.IndexByte"], unfollowed := true, recurses := true, named := ["internal/bytealg.MaxLen", "tinder/stack.turns"], apart := false, laid := [("tinder/stack.turns", laid_tinder_stack_turns)], narrowed := true }
def InnerThrowsUptoSaid : Prop := innerThrowsUptoRow.holds Tryz.pinned (OpenSpec.upto innerThrowsSpec)

/-- 'tinderlaw11.InnerFuel', WHERE WHAT IT READS IS OF BULK AT MOST 1048576: true; the input reads as it did. -/
def innerFuelUptoRow : OpenClaim := { program := "ytbamcchghecpeaagreatdoor", sum := "f9f651930a211f114c1155de34a46292976c9894e87dbdca94aa2dbee40df899", func := "tinder/tinderlaw11.InnerFuel", spec := "innerFuel", inPlace := ["internal/bytealg.IndexByteString", "internal/bytealg.IndexString", "internal/bytealg.Compare", "internal/bytealg.IndexByte"], unfollowed := true, recurses := true, named := ["internal/bytealg.MaxLen", "tinder/stack.turns"], apart := false, laid := [("tinder/stack.turns", laid_tinder_stack_turns)], narrowed := true }
def InnerFuelUptoSaid : Prop := innerFuelUptoRow.holds Tryz.pinned (OpenSpec.upto innerFuelSpec)

/-- 'tinderlaw11.InnerCounts', WHERE WHAT IT READS IS OF BULK AT MOST 1048576: true; the input reads as it did. -/
def innerCountsUptoRow : OpenClaim := { program := "ytbamcchghecpeaagreatdoor", sum := "f9f651930a211f114c1155de34a46292976c9894e87dbdca94aa2dbee40df899", func := "tinder/tinderlaw11.InnerCounts", spec := "innerCounts", inPlace := ["internal/bytealg.IndexByteString", "internal/bytealg.IndexString", "internal/bytealg.Compare", "internal/bytealg.IndexByte"], unfollowed := true, recurses := true, named := ["internal/bytealg.MaxLen", "tinder/stack.turns"], apart := false, laid := [("tinder/stack.turns", laid_tinder_stack_turns)], narrowed := true }
def InnerCountsUptoSaid : Prop := innerCountsUptoRow.holds Tryz.pinned (OpenSpec.upto innerCountsSpec)

/-- 'tinderlaw11.InnerChooses', WHERE WHAT IT READS IS OF BULK AT MOST 1048576: true; the input reads as it did. -/
def innerChoosesUptoRow : OpenClaim := { program := "ytbamcchghecpeaagreatdoor", sum := "f9f651930a211f114c1155de34a46292976c9894e87dbdca94aa2dbee40df899", func := "tinder/tinderlaw11.InnerChooses", spec := "innerChooses", inPlace := ["internal/bytealg.IndexByteString", "internal/bytealg.IndexString", "internal/bytealg.Compare", "internal/bytealg.IndexByte"], unfollowed := true, recurses := true, named := ["internal/bytealg.MaxLen", "tinder/stack.turns"], apart := false, laid := [("tinder/stack.turns", laid_tinder_stack_turns)], narrowed := true }
def InnerChoosesUptoSaid : Prop := innerChoosesUptoRow.holds Tryz.pinned (OpenSpec.upto innerChoosesSpec)

/-- 'tinderlaw11.InnerCatches', WHERE WHAT IT READS IS OF BULK AT MOST 1048576: true; the input reads as it did. -/
def innerCatchesUptoRow : OpenClaim := { program := "ytbamcchghecpeaagreatdoor", sum := "f9f651930a211f114c1155de34a46292976c9894e87dbdca94aa2dbee40df899", func := "tinder/tinderlaw11.InnerCatches", spec := "innerCatches", inPlace := ["internal/bytealg.IndexByteString", "internal/bytealg.IndexString", "internal/bytealg.Compare", "internal/bytealg.IndexByte"], unfollowed := true, recurses := true, named := ["internal/bytealg.MaxLen", "tinder/stack.turns"], apart := false, laid := [("tinder/stack.turns", laid_tinder_stack_turns)], narrowed := true }
def InnerCatchesUptoSaid : Prop := innerCatchesUptoRow.holds Tryz.pinned (OpenSpec.upto innerCatchesSpec)

end Rows
end Go.Proofs.YtbamcchghecpeaaGreatDoor
