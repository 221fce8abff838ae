/-
  NARROWER THAN 'FOR EVERY INPUT', by the rows' own cells (each row's printed sentence says how): VarsLoads: laid · VarsCut: laid · WholeVars: laid · WholeBanks: laid.
  DERIVED. THE GIVEN ROWS OF THIS SEAT. 4 by the template 'for every input the law returns true; each argument reads behind the call as it read before'; 0 by the template 'total and deterministic' (their statements: YtaiimfdcbdfbdabDoorTotals.lean).
  GIVEN WITH THE SEED: the statements are not yours to turn. If you find one false, say at which input.
  Laid BY PROGRAM, IN A SANDBOX (cutbox-rows.mjs): the forced cells as the released guide's own fill.sh prints them over the translation 1088218011ecc22f… (all of the seat's roots in one cut). By AI agents, Wed Nov 11 2026. No macro, syntax, notation, axiom, sorry.
-/
import Derived.Test.YtaiimfdcbdfbdabDoorChecked
import GoSem.Claim
import GoSem.ClaimJoined
import GoSem.ClaimMapViews
import Derived.JoinedTies
import Derived.KernelRfl
namespace Go.Proofs.YtaiimfdcbdfbdabDoor
/- THE CELL 'sum', in the pinned program and in every row, IS THE sha256 OF THE DUMP (.gsa) THAT YtaiimfdcbdfbdabDoorProg.lean LOADS. Nothing in Lean hashes anything: it is a label: what it is worth is what the hold of that sum in a sandbox is worth. -/
noncomputable def Tryd.pinned : Pinned := { name := "ytaiimfdcbdfbdabdoor", sum := "1088218011ecc22fb5b9c7f9236158e67d691faed362c80db864a16acfa9d809", checked := Tryd.checked }
namespace Rows
def none {H : Type} : Left H := { results := [], args := [] }

/- WHAT THE LISTED PACKAGE-LEVEL VARIABLES READ AS WHEN THE CALL BEGINS. Each datum BY PROGRAM (the guide's laid-datum.mjs) off the statement by which the dump's own 'gosem.cut.vars' lays the variable. In a bare row this is a premise. The card (YtaiimfdcbdfbdabDoorCards.lean) ties it to the program's text. -/
def laid_tinder_vars_table {H : Type} : DataW H := .agg [.agg [.lit (.string [97, 117, 116, 111, 45, 98, 111, 111, 116, 63]), .lit (.int .i64 0), .lit (.string [116, 114, 117, 101])], .agg [.lit (.string [98, 111, 111, 116, 45, 100, 101, 118, 105, 99, 101]), .lit (.int .i64 2), .lit (.string [100, 105, 115, 107, 32, 110, 101, 116])], .agg [.lit (.string [98, 111, 111, 116, 45, 102, 105, 108, 101]), .lit (.int .i64 2), .lit (.string [])], .agg [.lit (.string [98, 111, 111, 116, 45, 108, 105, 109, 105, 116]), .lit (.int .i64 1), .lit (.string [53, 48, 48, 48])], .agg [.lit (.string [105, 110, 112, 117, 116, 45, 100, 101, 118, 105, 99, 101]), .lit (.int .i64 2), .lit (.string [107, 101, 121, 98, 111, 97, 114, 100])], .agg [.lit (.string [110, 118, 114, 97, 109, 114, 99]), .lit (.int .i64 2), .lit (.string [])], .agg [.lit (.string [111, 101, 109, 45, 98, 97, 110, 110, 101, 114]), .lit (.int .i64 2), .lit (.string [])], .agg [.lit (.string [115, 99, 114, 101, 101, 110, 45, 116, 117, 114, 110]), .lit (.int .i64 1), .lit (.string [48])], .agg [.lit (.string [117, 115, 101, 45, 110, 118, 114, 97, 109, 114, 99, 63]), .lit (.int .i64 0), .lit (.string [102, 97, 108, 115, 101])]]

/-- 'tinderlaw19.VarsLoads': WHATEVER THE INPUT: true; the input reads as it did. -/
def varsLoadsSpec : ChangeSpec := { name := "varsLoads", fn := fun _ => fun
  | [d1, d2] => { results := [.lit (.bool true)], args := [d1, d2] }
  | _ => none }
def varsLoadsRow : OpenClaim := { program := "ytaiimfdcbdfbdabdoor", sum := "1088218011ecc22fb5b9c7f9236158e67d691faed362c80db864a16acfa9d809", func := "tinder/tinderlaw19.VarsLoads", spec := "varsLoads", inPlace := ["internal/bytealg.IndexByte", "internal/bytealg.Index"], unfollowed := true, recurses := true, named := ["tinder/vars.table", "internal/bytealg.MaxLen"], apart := false, laid := [("tinder/vars.table", laid_tinder_vars_table)] }
def VarsLoadsSaid : Prop := varsLoadsRow.holds Tryd.pinned (OpenSpec.ofChange varsLoadsSpec)

/-- ITS FALSE NEIGHBOUR: 'it returns false'. Refute it at one input. -/
def varsLoadsWrong : ChangeSpec := { name := "varsLoads", fn := fun _ => fun
  | [d1, d2] => { results := [.lit (.bool false)], args := [d1, d2] }
  | _ => none }
def VarsLoadsWrongFalsely : Prop := varsLoadsRow.holds Tryd.pinned (OpenSpec.ofChange varsLoadsWrong)

/-- 'tinderlaw19.VarsCut': WHATEVER THE INPUT: true; the input reads as it did. -/
def varsCutSpec : ChangeSpec := { name := "varsCut", fn := fun _ => fun
  | [d1, d2, d3] => { results := [.lit (.bool true)], args := [d1, d2, d3] }
  | _ => none }
def varsCutRow : OpenClaim := { program := "ytaiimfdcbdfbdabdoor", sum := "1088218011ecc22fb5b9c7f9236158e67d691faed362c80db864a16acfa9d809", func := "tinder/tinderlaw19.VarsCut", spec := "varsCut", inPlace := ["internal/bytealg.IndexByte", "internal/bytealg.Index"], unfollowed := true, recurses := true, named := ["tinder/vars.table", "internal/bytealg.MaxLen"], apart := false, laid := [("tinder/vars.table", laid_tinder_vars_table)] }
def VarsCutSaid : Prop := varsCutRow.holds Tryd.pinned (OpenSpec.ofChange varsCutSpec)

/-- ITS FALSE NEIGHBOUR: 'it returns false'. Refute it at one input. -/
def varsCutWrong : ChangeSpec := { name := "varsCut", fn := fun _ => fun
  | [d1, d2, d3] => { results := [.lit (.bool false)], args := [d1, d2, d3] }
  | _ => none }
def VarsCutWrongFalsely : Prop := varsCutRow.holds Tryd.pinned (OpenSpec.ofChange varsCutWrong)

/-- 'tindertop.WholeVars': WHATEVER THE INPUT: true; the input reads as it did. -/
def wholeVarsSpec : ChangeSpec := { name := "wholeVars", fn := fun _ => fun
  | [d1, d2, d3] => { results := [.lit (.bool true)], args := [d1, d2, d3] }
  | _ => none }
def wholeVarsRow : OpenClaim := { program := "ytaiimfdcbdfbdabdoor", sum := "1088218011ecc22fb5b9c7f9236158e67d691faed362c80db864a16acfa9d809", func := "tinder/tindertop.WholeVars", spec := "wholeVars", inPlace := ["internal/bytealg.IndexByte", "internal/bytealg.Index"], unfollowed := true, recurses := true, named := ["tinder/vars.table", "internal/bytealg.MaxLen"], apart := false, laid := [("tinder/vars.table", laid_tinder_vars_table)] }
def WholeVarsSaid : Prop := wholeVarsRow.holds Tryd.pinned (OpenSpec.ofChange wholeVarsSpec)

/-- ITS FALSE NEIGHBOUR: 'it returns false'. Refute it at one input. -/
def wholeVarsWrong : ChangeSpec := { name := "wholeVars", fn := fun _ => fun
  | [d1, d2, d3] => { results := [.lit (.bool false)], args := [d1, d2, d3] }
  | _ => none }
def WholeVarsWrongFalsely : Prop := wholeVarsRow.holds Tryd.pinned (OpenSpec.ofChange wholeVarsWrong)

/-- 'tindertop.WholeBanks': WHATEVER THE INPUT: true; the input reads as it did. -/
def wholeBanksSpec : ChangeSpec := { name := "wholeBanks", fn := fun _ => fun
  | [d1, d2, d3] => { results := [.lit (.bool true)], args := [d1, d2, d3] }
  | _ => none }
def wholeBanksRow : OpenClaim := { program := "ytaiimfdcbdfbdabdoor", sum := "1088218011ecc22fb5b9c7f9236158e67d691faed362c80db864a16acfa9d809", func := "tinder/tindertop.WholeBanks", spec := "wholeBanks", inPlace := ["internal/bytealg.IndexByte", "internal/bytealg.Index"], unfollowed := true, recurses := true, named := ["tinder/vars.table", "internal/bytealg.MaxLen"], apart := false, laid := [("tinder/vars.table", laid_tinder_vars_table)] }
def WholeBanksSaid : Prop := wholeBanksRow.holds Tryd.pinned (OpenSpec.ofChange wholeBanksSpec)

/-- ITS FALSE NEIGHBOUR: 'it returns false'. Refute it at one input. -/
def wholeBanksWrong : ChangeSpec := { name := "wholeBanks", fn := fun _ => fun
  | [d1, d2, d3] => { results := [.lit (.bool false)], args := [d1, d2, d3] }
  | _ => none }
def WholeBanksWrongFalsely : Prop := wholeBanksRow.holds Tryd.pinned (OpenSpec.ofChange wholeBanksWrong)

/- THE SECOND FORM. 'bulk': how many values and letters a reading holds, each counted each time it is reached (what is shared counts as often as it is met; a slice's spare places count too). A statement '..UptoSaid' is the law's where the arguments, and the package variables that the reading takes, are together of bulk at most 1048576: NARROWER than '..Said'. Prove '..Said' where nothing that the law and all that it calls make is longer than what came in: it says more and counts as full. Else prove '..UptoSaid'. A law counts once. -/
mutual
def uptoBulk {H : Type} : DataW H → Nat
  | .lit (.string bytes) => bytes.length + 1
  | .lit _ => 1
  | .nil => 1
  | .ptr d => uptoBulk d + 1
  | .slice elems spare => uptoBulkAll elems + uptoBulkAll spare + 1
  | .agg parts => uptoBulkAll parts + 1
  | .iface _ d => uptoBulk d + 1
  | .map entries => uptoBulkEntries entries + 1
  | .held _ => 1
def uptoBulkAll {H : Type} : List (DataW H) → Nat
  | [] => 0
  | d :: r => uptoBulk d + uptoBulkAll r
def uptoBulkEntries {H : Type} : List (Lit × DataW H) → Nat
  | [] => 0
  | x :: r => uptoBulkEntry x + uptoBulkEntries r
def uptoBulkEntry {H : Type} : Lit × DataW H → Nat
  | (.string bytes, d) => bytes.length + uptoBulk d + 1
  | (_, d) => uptoBulk d + 1
 end
def uptoSmall : (H : Type) → List (DataW H) → Bool := fun _ ds => decide (uptoBulkAll ds ≤ 1048576)
def OpenSpec.upto (s : _root_.Go.ChangeSpec) : _root_.Go.OpenSpec := { _root_.Go.OpenSpec.ofChange s with cond := some uptoSmall }

/-- 'tinderlaw19.VarsLoads', WHERE WHAT IT READS IS OF BULK AT MOST 1048576: true; the input reads as it did. -/
def varsLoadsUptoRow : OpenClaim := { program := "ytaiimfdcbdfbdabdoor", sum := "1088218011ecc22fb5b9c7f9236158e67d691faed362c80db864a16acfa9d809", func := "tinder/tinderlaw19.VarsLoads", spec := "varsLoads", inPlace := ["internal/bytealg.IndexByte", "internal/bytealg.Index"], unfollowed := true, recurses := true, named := ["tinder/vars.table", "internal/bytealg.MaxLen"], apart := false, laid := [("tinder/vars.table", laid_tinder_vars_table)], narrowed := true }
def VarsLoadsUptoSaid : Prop := varsLoadsUptoRow.holds Tryd.pinned (OpenSpec.upto varsLoadsSpec)

/-- 'tinderlaw19.VarsCut', WHERE WHAT IT READS IS OF BULK AT MOST 1048576: true; the input reads as it did. -/
def varsCutUptoRow : OpenClaim := { program := "ytaiimfdcbdfbdabdoor", sum := "1088218011ecc22fb5b9c7f9236158e67d691faed362c80db864a16acfa9d809", func := "tinder/tinderlaw19.VarsCut", spec := "varsCut", inPlace := ["internal/bytealg.IndexByte", "internal/bytealg.Index"], unfollowed := true, recurses := true, named := ["tinder/vars.table", "internal/bytealg.MaxLen"], apart := false, laid := [("tinder/vars.table", laid_tinder_vars_table)], narrowed := true }
def VarsCutUptoSaid : Prop := varsCutUptoRow.holds Tryd.pinned (OpenSpec.upto varsCutSpec)

/-- 'tindertop.WholeVars', WHERE WHAT IT READS IS OF BULK AT MOST 1048576: true; the input reads as it did. -/
def wholeVarsUptoRow : OpenClaim := { program := "ytaiimfdcbdfbdabdoor", sum := "1088218011ecc22fb5b9c7f9236158e67d691faed362c80db864a16acfa9d809", func := "tinder/tindertop.WholeVars", spec := "wholeVars", inPlace := ["internal/bytealg.IndexByte", "internal/bytealg.Index"], unfollowed := true, recurses := true, named := ["tinder/vars.table", "internal/bytealg.MaxLen"], apart := false, laid := [("tinder/vars.table", laid_tinder_vars_table)], narrowed := true }
def WholeVarsUptoSaid : Prop := wholeVarsUptoRow.holds Tryd.pinned (OpenSpec.upto wholeVarsSpec)

/-- 'tindertop.WholeBanks', WHERE WHAT IT READS IS OF BULK AT MOST 1048576: true; the input reads as it did. -/
def wholeBanksUptoRow : OpenClaim := { program := "ytaiimfdcbdfbdabdoor", sum := "1088218011ecc22fb5b9c7f9236158e67d691faed362c80db864a16acfa9d809", func := "tinder/tindertop.WholeBanks", spec := "wholeBanks", inPlace := ["internal/bytealg.IndexByte", "internal/bytealg.Index"], unfollowed := true, recurses := true, named := ["tinder/vars.table", "internal/bytealg.MaxLen"], apart := false, laid := [("tinder/vars.table", laid_tinder_vars_table)], narrowed := true }
def WholeBanksUptoSaid : Prop := wholeBanksUptoRow.holds Tryd.pinned (OpenSpec.upto wholeBanksSpec)

end Rows
end Go.Proofs.YtaiimfdcbdfbdabDoor
