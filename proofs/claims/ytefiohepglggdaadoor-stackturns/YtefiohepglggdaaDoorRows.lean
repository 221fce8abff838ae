/-
  NARROWER THAN 'FOR EVERY INPUT', by the rows' own cells (each row's printed sentence says how): StackDoes: laid · StackPushes: laid · StackPops: laid · StackTurns: laid · StackBelow: laid.
  DERIVED. THE GIVEN ROWS OF THIS SEAT. 5 by the template 'for every input the law returns true; each argument reads behind the call as it read before'; 0 by the template 'total and deterministic' (their statements: YtefiohepglggdaaDoorTotals.lean).
  GIVEN WITH THE SEED: the statements are not yours to turn. If you find one false, say at which input.
  Laid BY PROGRAM, IN A SANDBOX (cutbox-rows.mjs): the forced cells as the released guide's own fill.sh prints them over the translation 7bcc5abd0089040d… (all of the seat's roots in one cut). By AI agents, Wed Nov 11 2026. No macro, syntax, notation, axiom, sorry.
-/
import Derived.Test.YtefiohepglggdaaDoorChecked
import GoSem.Claim
import GoSem.ClaimJoined
import GoSem.ClaimMapViews
import Derived.JoinedTies
import Derived.KernelRfl
namespace Go.Proofs.YtefiohepglggdaaDoor
/- THE CELL 'sum', in the pinned program and in every row, IS THE sha256 OF THE DUMP (.gsa) THAT YtefiohepglggdaaDoorProg.lean LOADS. Nothing in Lean hashes anything: it is a label: what it is worth is what the hold of that sum in a sandbox is worth. -/
noncomputable def Tryd.pinned : Pinned := { name := "ytefiohepglggdaadoor", sum := "7bcc5abd0089040d5d0a9135ed348558acb285a9959fda1713166713052a6eb2", checked := Tryd.checked }
namespace Rows
def none {H : Type} : Left H := { results := [], args := [] }

/- WHAT THE LISTED PACKAGE-LEVEL VARIABLES READ AS WHEN THE CALL BEGINS. Each datum BY PROGRAM (the guide's laid-datum.mjs) off the statement by which the dump's own 'gosem.cut.vars' lays the variable. In a bare row this is a premise. The card (YtefiohepglggdaaDoorCards.lean) ties it to the program's text. -/
def laid_tinder_stack_turns {H : Type} : DataW H := .agg [.agg [.lit (.int .i64 70), .lit (.int .i64 1), .lit (.string [])], .agg [.lit (.int .i64 71), .lit (.int .i64 1), .lit (.string [97, 97])], .agg [.lit (.int .i64 72), .lit (.int .i64 2), .lit (.string [97, 98, 97])], .agg [.lit (.int .i64 73), .lit (.int .i64 2), .lit (.string [98, 97])], .agg [.lit (.int .i64 74), .lit (.int .i64 3), .lit (.string [98, 99, 97])], .agg [.lit (.int .i64 75), .lit (.int .i64 3), .lit (.string [99, 97, 98])], .agg [.lit (.int .i64 76), .lit (.int .i64 2), .lit (.string [98, 97, 98])], .agg [.lit (.int .i64 77), .lit (.int .i64 2), .lit (.string [98])], .agg [.lit (.int .i64 82), .lit (.int .i64 2), .lit (.string [])], .agg [.lit (.int .i64 83), .lit (.int .i64 2), .lit (.string [97, 98, 97, 98])], .agg [.lit (.int .i64 84), .lit (.int .i64 4), .lit (.string [97, 98, 99, 100, 97, 98])], .agg [.lit (.int .i64 85), .lit (.int .i64 4), .lit (.string [99, 100, 97, 98])], .agg [.lit (.int .i64 86), .lit (.int .i64 6), .lit (.string [99, 100, 101, 102, 97, 98])]]

/-- 'tinderlaw03.StackDoes': WHATEVER THE INPUT: true; the input reads as it did. -/
def stackDoesSpec : ChangeSpec := { name := "stackDoes", fn := fun _ => fun
  | [d1, d2] => { results := [.lit (.bool true)], args := [d1, d2] }
  | _ => none }
def stackDoesRow : OpenClaim := { program := "ytefiohepglggdaadoor", sum := "7bcc5abd0089040d5d0a9135ed348558acb285a9959fda1713166713052a6eb2", func := "tinder/tinderlaw03.StackDoes", spec := "stackDoes", named := ["tinder/stack.turns"], apart := false, laid := [("tinder/stack.turns", laid_tinder_stack_turns)] }
def StackDoesSaid : Prop := stackDoesRow.holds Tryd.pinned (OpenSpec.ofChange stackDoesSpec)

/-- ITS FALSE NEIGHBOUR: 'it returns false'. Refute it at one input. -/
def stackDoesWrong : ChangeSpec := { name := "stackDoes", fn := fun _ => fun
  | [d1, d2] => { results := [.lit (.bool false)], args := [d1, d2] }
  | _ => none }
def StackDoesWrongFalsely : Prop := stackDoesRow.holds Tryd.pinned (OpenSpec.ofChange stackDoesWrong)

/-- 'tinderlaw03.StackPushes': WHATEVER THE INPUT: true; the input reads as it did. -/
def stackPushesSpec : ChangeSpec := { name := "stackPushes", fn := fun _ => fun
  | [d1, d2] => { results := [.lit (.bool true)], args := [d1, d2] }
  | _ => none }
def stackPushesRow : OpenClaim := { program := "ytefiohepglggdaadoor", sum := "7bcc5abd0089040d5d0a9135ed348558acb285a9959fda1713166713052a6eb2", func := "tinder/tinderlaw03.StackPushes", spec := "stackPushes", named := ["tinder/stack.turns"], apart := false, laid := [("tinder/stack.turns", laid_tinder_stack_turns)] }
def StackPushesSaid : Prop := stackPushesRow.holds Tryd.pinned (OpenSpec.ofChange stackPushesSpec)

/-- ITS FALSE NEIGHBOUR: 'it returns false'. Refute it at one input. -/
def stackPushesWrong : ChangeSpec := { name := "stackPushes", fn := fun _ => fun
  | [d1, d2] => { results := [.lit (.bool false)], args := [d1, d2] }
  | _ => none }
def StackPushesWrongFalsely : Prop := stackPushesRow.holds Tryd.pinned (OpenSpec.ofChange stackPushesWrong)

/-- 'tinderlaw03.StackPops': WHATEVER THE INPUT: true; the input reads as it did. -/
def stackPopsSpec : ChangeSpec := { name := "stackPops", fn := fun _ => fun
  | [d1, d2] => { results := [.lit (.bool true)], args := [d1, d2] }
  | _ => none }
def stackPopsRow : OpenClaim := { program := "ytefiohepglggdaadoor", sum := "7bcc5abd0089040d5d0a9135ed348558acb285a9959fda1713166713052a6eb2", func := "tinder/tinderlaw03.StackPops", spec := "stackPops", named := ["tinder/stack.turns"], apart := false, laid := [("tinder/stack.turns", laid_tinder_stack_turns)] }
def StackPopsSaid : Prop := stackPopsRow.holds Tryd.pinned (OpenSpec.ofChange stackPopsSpec)

/-- ITS FALSE NEIGHBOUR: 'it returns false'. Refute it at one input. -/
def stackPopsWrong : ChangeSpec := { name := "stackPops", fn := fun _ => fun
  | [d1, d2] => { results := [.lit (.bool false)], args := [d1, d2] }
  | _ => none }
def StackPopsWrongFalsely : Prop := stackPopsRow.holds Tryd.pinned (OpenSpec.ofChange stackPopsWrong)

/-- 'tinderlaw03.StackTurns': WHATEVER THE INPUT: true; the input reads as it did. -/
def stackTurnsSpec : ChangeSpec := { name := "stackTurns", fn := fun _ => fun
  | [d1, d2] => { results := [.lit (.bool true)], args := [d1, d2] }
  | _ => none }
def stackTurnsRow : OpenClaim := { program := "ytefiohepglggdaadoor", sum := "7bcc5abd0089040d5d0a9135ed348558acb285a9959fda1713166713052a6eb2", func := "tinder/tinderlaw03.StackTurns", spec := "stackTurns", named := ["tinder/stack.turns"], apart := false, laid := [("tinder/stack.turns", laid_tinder_stack_turns)] }
def StackTurnsSaid : Prop := stackTurnsRow.holds Tryd.pinned (OpenSpec.ofChange stackTurnsSpec)

/-- ITS FALSE NEIGHBOUR: 'it returns false'. Refute it at one input. -/
def stackTurnsWrong : ChangeSpec := { name := "stackTurns", fn := fun _ => fun
  | [d1, d2] => { results := [.lit (.bool false)], args := [d1, d2] }
  | _ => none }
def StackTurnsWrongFalsely : Prop := stackTurnsRow.holds Tryd.pinned (OpenSpec.ofChange stackTurnsWrong)

/-- 'tinderlaw03.StackBelow': WHATEVER THE INPUT: true; the input reads as it did. -/
def stackBelowSpec : ChangeSpec := { name := "stackBelow", fn := fun _ => fun
  | [d1, d2, d3] => { results := [.lit (.bool true)], args := [d1, d2, d3] }
  | _ => none }
def stackBelowRow : OpenClaim := { program := "ytefiohepglggdaadoor", sum := "7bcc5abd0089040d5d0a9135ed348558acb285a9959fda1713166713052a6eb2", func := "tinder/tinderlaw03.StackBelow", spec := "stackBelow", named := ["tinder/stack.turns"], apart := false, laid := [("tinder/stack.turns", laid_tinder_stack_turns)] }
def StackBelowSaid : Prop := stackBelowRow.holds Tryd.pinned (OpenSpec.ofChange stackBelowSpec)

/-- ITS FALSE NEIGHBOUR: 'it returns false'. Refute it at one input. -/
def stackBelowWrong : ChangeSpec := { name := "stackBelow", fn := fun _ => fun
  | [d1, d2, d3] => { results := [.lit (.bool false)], args := [d1, d2, d3] }
  | _ => none }
def StackBelowWrongFalsely : Prop := stackBelowRow.holds Tryd.pinned (OpenSpec.ofChange stackBelowWrong)

/- THE SECOND FORM. 'bulk': how many values and letters a reading holds, each counted each time it is reached (what is shared counts as often as it is met; a slice's spare places count too). A statement '..UptoSaid' is the law's where the arguments, and the package variables that the reading takes, are together of bulk at most 1048576: NARROWER than '..Said'. Prove '..Said' where nothing that the law and all that it calls make is longer than what came in: it says more and counts as full. Else prove '..UptoSaid'. A law counts once. -/
mutual
def uptoBulk {H : Type} : DataW H → Nat
  | .lit (.string bytes) => bytes.length + 1
  | .lit _ => 1
  | .nil => 1
  | .ptr d => uptoBulk d + 1
  | .slice elems spare => uptoBulkAll elems + uptoBulkAll spare + 1
  | .agg parts => uptoBulkAll parts + 1
  | .iface _ d => uptoBulk d + 1
  | .map entries => uptoBulkEntries entries + 1
  | .held _ => 1
def uptoBulkAll {H : Type} : List (DataW H) → Nat
  | [] => 0
  | d :: r => uptoBulk d + uptoBulkAll r
def uptoBulkEntries {H : Type} : List (Lit × DataW H) → Nat
  | [] => 0
  | x :: r => uptoBulkEntry x + uptoBulkEntries r
def uptoBulkEntry {H : Type} : Lit × DataW H → Nat
  | (.string bytes, d) => bytes.length + uptoBulk d + 1
  | (_, d) => uptoBulk d + 1
 end
def uptoSmall : (H : Type) → List (DataW H) → Bool := fun _ ds => decide (uptoBulkAll ds ≤ 1048576)
def OpenSpec.upto (s : _root_.Go.ChangeSpec) : _root_.Go.OpenSpec := { _root_.Go.OpenSpec.ofChange s with cond := some uptoSmall }

/-- 'tinderlaw03.StackDoes', WHERE WHAT IT READS IS OF BULK AT MOST 1048576: true; the input reads as it did. -/
def stackDoesUptoRow : OpenClaim := { program := "ytefiohepglggdaadoor", sum := "7bcc5abd0089040d5d0a9135ed348558acb285a9959fda1713166713052a6eb2", func := "tinder/tinderlaw03.StackDoes", spec := "stackDoes", named := ["tinder/stack.turns"], apart := false, laid := [("tinder/stack.turns", laid_tinder_stack_turns)], narrowed := true }
def StackDoesUptoSaid : Prop := stackDoesUptoRow.holds Tryd.pinned (OpenSpec.upto stackDoesSpec)

/-- 'tinderlaw03.StackPushes', WHERE WHAT IT READS IS OF BULK AT MOST 1048576: true; the input reads as it did. -/
def stackPushesUptoRow : OpenClaim := { program := "ytefiohepglggdaadoor", sum := "7bcc5abd0089040d5d0a9135ed348558acb285a9959fda1713166713052a6eb2", func := "tinder/tinderlaw03.StackPushes", spec := "stackPushes", named := ["tinder/stack.turns"], apart := false, laid := [("tinder/stack.turns", laid_tinder_stack_turns)], narrowed := true }
def StackPushesUptoSaid : Prop := stackPushesUptoRow.holds Tryd.pinned (OpenSpec.upto stackPushesSpec)

/-- 'tinderlaw03.StackPops', WHERE WHAT IT READS IS OF BULK AT MOST 1048576: true; the input reads as it did. -/
def stackPopsUptoRow : OpenClaim := { program := "ytefiohepglggdaadoor", sum := "7bcc5abd0089040d5d0a9135ed348558acb285a9959fda1713166713052a6eb2", func := "tinder/tinderlaw03.StackPops", spec := "stackPops", named := ["tinder/stack.turns"], apart := false, laid := [("tinder/stack.turns", laid_tinder_stack_turns)], narrowed := true }
def StackPopsUptoSaid : Prop := stackPopsUptoRow.holds Tryd.pinned (OpenSpec.upto stackPopsSpec)

/-- 'tinderlaw03.StackTurns', WHERE WHAT IT READS IS OF BULK AT MOST 1048576: true; the input reads as it did. -/
def stackTurnsUptoRow : OpenClaim := { program := "ytefiohepglggdaadoor", sum := "7bcc5abd0089040d5d0a9135ed348558acb285a9959fda1713166713052a6eb2", func := "tinder/tinderlaw03.StackTurns", spec := "stackTurns", named := ["tinder/stack.turns"], apart := false, laid := [("tinder/stack.turns", laid_tinder_stack_turns)], narrowed := true }
def StackTurnsUptoSaid : Prop := stackTurnsUptoRow.holds Tryd.pinned (OpenSpec.upto stackTurnsSpec)

/-- 'tinderlaw03.StackBelow', WHERE WHAT IT READS IS OF BULK AT MOST 1048576: true; the input reads as it did. -/
def stackBelowUptoRow : OpenClaim := { program := "ytefiohepglggdaadoor", sum := "7bcc5abd0089040d5d0a9135ed348558acb285a9959fda1713166713052a6eb2", func := "tinder/tinderlaw03.StackBelow", spec := "stackBelow", named := ["tinder/stack.turns"], apart := false, laid := [("tinder/stack.turns", laid_tinder_stack_turns)], narrowed := true }
def StackBelowUptoSaid : Prop := stackBelowUptoRow.holds Tryd.pinned (OpenSpec.upto stackBelowSpec)

end Rows
end Go.Proofs.YtefiohepglggdaaDoor
