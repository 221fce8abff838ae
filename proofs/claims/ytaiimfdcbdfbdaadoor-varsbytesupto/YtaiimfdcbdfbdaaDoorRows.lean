/-
  NARROWER THAN 'FOR EVERY INPUT', by the rows' own cells (each row's printed sentence says how): VarsForms: laid · VarsSets: laid · VarsGets: laid · VarsBytes: laid · VarsBack: laid · VarsKeeps: laid.
  DERIVED. THE GIVEN ROWS OF THIS SEAT. 6 by the template 'for every input the law returns true; each argument reads behind the call as it read before'; 0 by the template 'total and deterministic' (their statements: YtaiimfdcbdfbdaaDoorTotals.lean).
  GIVEN WITH THE SEED: the statements are not yours to turn. If you find one false, say at which input.
  Laid BY PROGRAM, IN A SANDBOX (cutbox-rows.mjs): the forced cells as the released guide's own fill.sh prints them over the translation fb1adf193472ae61… (all of the seat's roots in one cut). By AI agents, Wed Nov 11 2026. No macro, syntax, notation, axiom, sorry.
-/
import Derived.Test.YtaiimfdcbdfbdaaDoorChecked
import GoSem.Claim
import GoSem.ClaimJoined
import GoSem.ClaimMapViews
import Derived.JoinedTies
import Derived.KernelRfl
namespace Go.Proofs.YtaiimfdcbdfbdaaDoor
/- THE CELL 'sum', in the pinned program and in every row, IS THE sha256 OF THE DUMP (.gsa) THAT YtaiimfdcbdfbdaaDoorProg.lean LOADS. Nothing in Lean hashes anything: it is a label: what it is worth is what the hold of that sum in a sandbox is worth. -/
noncomputable def Tryd.pinned : Pinned := { name := "ytaiimfdcbdfbdaadoor", sum := "fb1adf193472ae616b41039935682937a70f6eb4d55e1750dad24377487060f2", checked := Tryd.checked }
namespace Rows
def none {H : Type} : Left H := { results := [], args := [] }

/- WHAT THE LISTED PACKAGE-LEVEL VARIABLES READ AS WHEN THE CALL BEGINS. Each datum BY PROGRAM (the guide's laid-datum.mjs) off the statement by which the dump's own 'gosem.cut.vars' lays the variable. In a bare row this is a premise. The card (YtaiimfdcbdfbdaaDoorCards.lean) ties it to the program's text. -/
def laid_tinder_vars_table {H : Type} : DataW H := .agg [.agg [.lit (.string [97, 117, 116, 111, 45, 98, 111, 111, 116, 63]), .lit (.int .i64 0), .lit (.string [116, 114, 117, 101])], .agg [.lit (.string [98, 111, 111, 116, 45, 100, 101, 118, 105, 99, 101]), .lit (.int .i64 2), .lit (.string [100, 105, 115, 107, 32, 110, 101, 116])], .agg [.lit (.string [98, 111, 111, 116, 45, 102, 105, 108, 101]), .lit (.int .i64 2), .lit (.string [])], .agg [.lit (.string [98, 111, 111, 116, 45, 108, 105, 109, 105, 116]), .lit (.int .i64 1), .lit (.string [53, 48, 48, 48])], .agg [.lit (.string [105, 110, 112, 117, 116, 45, 100, 101, 118, 105, 99, 101]), .lit (.int .i64 2), .lit (.string [107, 101, 121, 98, 111, 97, 114, 100])], .agg [.lit (.string [110, 118, 114, 97, 109, 114, 99]), .lit (.int .i64 2), .lit (.string [])], .agg [.lit (.string [111, 101, 109, 45, 98, 97, 110, 110, 101, 114]), .lit (.int .i64 2), .lit (.string [])], .agg [.lit (.string [115, 99, 114, 101, 101, 110, 45, 116, 117, 114, 110]), .lit (.int .i64 1), .lit (.string [48])], .agg [.lit (.string [117, 115, 101, 45, 110, 118, 114, 97, 109, 114, 99, 63]), .lit (.int .i64 0), .lit (.string [102, 97, 108, 115, 101])]]

/-- 'tinderlaw19.VarsForms': WHATEVER THE INPUT: true; the input reads as it did. -/
def varsFormsSpec : ChangeSpec := { name := "varsForms", fn := fun _ => fun
  | [d1, d2] => { results := [.lit (.bool true)], args := [d1, d2] }
  | _ => none }
def varsFormsRow : OpenClaim := { program := "ytaiimfdcbdfbdaadoor", sum := "fb1adf193472ae616b41039935682937a70f6eb4d55e1750dad24377487060f2", func := "tinder/tinderlaw19.VarsForms", spec := "varsForms", unfollowed := true, recurses := true, named := ["tinder/vars.table"], apart := false, laid := [("tinder/vars.table", laid_tinder_vars_table)] }
def VarsFormsSaid : Prop := varsFormsRow.holds Tryd.pinned (OpenSpec.ofChange varsFormsSpec)

/-- ITS FALSE NEIGHBOUR: 'it returns false'. Refute it at one input. -/
def varsFormsWrong : ChangeSpec := { name := "varsForms", fn := fun _ => fun
  | [d1, d2] => { results := [.lit (.bool false)], args := [d1, d2] }
  | _ => none }
def VarsFormsWrongFalsely : Prop := varsFormsRow.holds Tryd.pinned (OpenSpec.ofChange varsFormsWrong)

/-- 'tinderlaw19.VarsSets': WHATEVER THE INPUT: true; the input reads as it did. -/
def varsSetsSpec : ChangeSpec := { name := "varsSets", fn := fun _ => fun
  | [d1, d2, d3] => { results := [.lit (.bool true)], args := [d1, d2, d3] }
  | _ => none }
def varsSetsRow : OpenClaim := { program := "ytaiimfdcbdfbdaadoor", sum := "fb1adf193472ae616b41039935682937a70f6eb4d55e1750dad24377487060f2", func := "tinder/tinderlaw19.VarsSets", spec := "varsSets", unfollowed := true, recurses := true, named := ["tinder/vars.table"], apart := false, laid := [("tinder/vars.table", laid_tinder_vars_table)] }
def VarsSetsSaid : Prop := varsSetsRow.holds Tryd.pinned (OpenSpec.ofChange varsSetsSpec)

/-- ITS FALSE NEIGHBOUR: 'it returns false'. Refute it at one input. -/
def varsSetsWrong : ChangeSpec := { name := "varsSets", fn := fun _ => fun
  | [d1, d2, d3] => { results := [.lit (.bool false)], args := [d1, d2, d3] }
  | _ => none }
def VarsSetsWrongFalsely : Prop := varsSetsRow.holds Tryd.pinned (OpenSpec.ofChange varsSetsWrong)

/-- 'tinderlaw19.VarsGets': WHATEVER THE INPUT: true; the input reads as it did. -/
def varsGetsSpec : ChangeSpec := { name := "varsGets", fn := fun _ => fun
  | [d1, d2] => { results := [.lit (.bool true)], args := [d1, d2] }
  | _ => none }
def varsGetsRow : OpenClaim := { program := "ytaiimfdcbdfbdaadoor", sum := "fb1adf193472ae616b41039935682937a70f6eb4d55e1750dad24377487060f2", func := "tinder/tinderlaw19.VarsGets", spec := "varsGets", unfollowed := true, recurses := true, named := ["tinder/vars.table"], apart := false, laid := [("tinder/vars.table", laid_tinder_vars_table)] }
def VarsGetsSaid : Prop := varsGetsRow.holds Tryd.pinned (OpenSpec.ofChange varsGetsSpec)

/-- ITS FALSE NEIGHBOUR: 'it returns false'. Refute it at one input. -/
def varsGetsWrong : ChangeSpec := { name := "varsGets", fn := fun _ => fun
  | [d1, d2] => { results := [.lit (.bool false)], args := [d1, d2] }
  | _ => none }
def VarsGetsWrongFalsely : Prop := varsGetsRow.holds Tryd.pinned (OpenSpec.ofChange varsGetsWrong)

/-- 'tinderlaw19.VarsBytes': WHATEVER THE INPUT: true; the input reads as it did. -/
def varsBytesSpec : ChangeSpec := { name := "varsBytes", fn := fun _ => fun
  | [d1, d2] => { results := [.lit (.bool true)], args := [d1, d2] }
  | _ => none }
def varsBytesRow : OpenClaim := { program := "ytaiimfdcbdfbdaadoor", sum := "fb1adf193472ae616b41039935682937a70f6eb4d55e1750dad24377487060f2", func := "tinder/tinderlaw19.VarsBytes", spec := "varsBytes", inPlace := ["internal/bytealg.IndexByte", "internal/bytealg.Index"], unfollowed := true, recurses := true, named := ["tinder/vars.table", "internal/bytealg.MaxLen"], apart := false, laid := [("tinder/vars.table", laid_tinder_vars_table)] }
def VarsBytesSaid : Prop := varsBytesRow.holds Tryd.pinned (OpenSpec.ofChange varsBytesSpec)

/-- ITS FALSE NEIGHBOUR: 'it returns false'. Refute it at one input. -/
def varsBytesWrong : ChangeSpec := { name := "varsBytes", fn := fun _ => fun
  | [d1, d2] => { results := [.lit (.bool false)], args := [d1, d2] }
  | _ => none }
def VarsBytesWrongFalsely : Prop := varsBytesRow.holds Tryd.pinned (OpenSpec.ofChange varsBytesWrong)

/-- 'tinderlaw19.VarsBack': WHATEVER THE INPUT: true; the input reads as it did. -/
def varsBackSpec : ChangeSpec := { name := "varsBack", fn := fun _ => fun
  | [d1, d2] => { results := [.lit (.bool true)], args := [d1, d2] }
  | _ => none }
def varsBackRow : OpenClaim := { program := "ytaiimfdcbdfbdaadoor", sum := "fb1adf193472ae616b41039935682937a70f6eb4d55e1750dad24377487060f2", func := "tinder/tinderlaw19.VarsBack", spec := "varsBack", inPlace := ["internal/bytealg.IndexByte", "internal/bytealg.Index"], unfollowed := true, recurses := true, named := ["tinder/vars.table", "internal/bytealg.MaxLen"], apart := false, laid := [("tinder/vars.table", laid_tinder_vars_table)] }
def VarsBackSaid : Prop := varsBackRow.holds Tryd.pinned (OpenSpec.ofChange varsBackSpec)

/-- ITS FALSE NEIGHBOUR: 'it returns false'. Refute it at one input. -/
def varsBackWrong : ChangeSpec := { name := "varsBack", fn := fun _ => fun
  | [d1, d2] => { results := [.lit (.bool false)], args := [d1, d2] }
  | _ => none }
def VarsBackWrongFalsely : Prop := varsBackRow.holds Tryd.pinned (OpenSpec.ofChange varsBackWrong)

/-- 'tinderlaw19.VarsKeeps': WHATEVER THE INPUT: true; the input reads as it did. -/
def varsKeepsSpec : ChangeSpec := { name := "varsKeeps", fn := fun _ => fun
  | [d1, d2, d3] => { results := [.lit (.bool true)], args := [d1, d2, d3] }
  | _ => none }
def varsKeepsRow : OpenClaim := { program := "ytaiimfdcbdfbdaadoor", sum := "fb1adf193472ae616b41039935682937a70f6eb4d55e1750dad24377487060f2", func := "tinder/tinderlaw19.VarsKeeps", spec := "varsKeeps", unfollowed := true, recurses := true, named := ["tinder/vars.table"], apart := false, laid := [("tinder/vars.table", laid_tinder_vars_table)] }
def VarsKeepsSaid : Prop := varsKeepsRow.holds Tryd.pinned (OpenSpec.ofChange varsKeepsSpec)

/-- ITS FALSE NEIGHBOUR: 'it returns false'. Refute it at one input. -/
def varsKeepsWrong : ChangeSpec := { name := "varsKeeps", fn := fun _ => fun
  | [d1, d2, d3] => { results := [.lit (.bool false)], args := [d1, d2, d3] }
  | _ => none }
def VarsKeepsWrongFalsely : Prop := varsKeepsRow.holds Tryd.pinned (OpenSpec.ofChange varsKeepsWrong)

/- THE SECOND FORM. 'bulk': how many values and letters a reading holds, each counted each time it is reached (what is shared counts as often as it is met; a slice's spare places count too). A statement '..UptoSaid' is the law's where the arguments, and the package variables that the reading takes, are together of bulk at most 1048576: NARROWER than '..Said'. Prove '..Said' where nothing that the law and all that it calls make is longer than what came in: it says more and counts as full. Else prove '..UptoSaid'. A law counts once. -/
mutual
def uptoBulk {H : Type} : DataW H → Nat
  | .lit (.string bytes) => bytes.length + 1
  | .lit _ => 1
  | .nil => 1
  | .ptr d => uptoBulk d + 1
  | .slice elems spare => uptoBulkAll elems + uptoBulkAll spare + 1
  | .agg parts => uptoBulkAll parts + 1
  | .iface _ d => uptoBulk d + 1
  | .map entries => uptoBulkEntries entries + 1
  | .held _ => 1
def uptoBulkAll {H : Type} : List (DataW H) → Nat
  | [] => 0
  | d :: r => uptoBulk d + uptoBulkAll r
def uptoBulkEntries {H : Type} : List (Lit × DataW H) → Nat
  | [] => 0
  | x :: r => uptoBulkEntry x + uptoBulkEntries r
def uptoBulkEntry {H : Type} : Lit × DataW H → Nat
  | (.string bytes, d) => bytes.length + uptoBulk d + 1
  | (_, d) => uptoBulk d + 1
 end
def uptoSmall : (H : Type) → List (DataW H) → Bool := fun _ ds => decide (uptoBulkAll ds ≤ 1048576)
def OpenSpec.upto (s : _root_.Go.ChangeSpec) : _root_.Go.OpenSpec := { _root_.Go.OpenSpec.ofChange s with cond := some uptoSmall }

/-- 'tinderlaw19.VarsForms', WHERE WHAT IT READS IS OF BULK AT MOST 1048576: true; the input reads as it did. -/
def varsFormsUptoRow : OpenClaim := { program := "ytaiimfdcbdfbdaadoor", sum := "fb1adf193472ae616b41039935682937a70f6eb4d55e1750dad24377487060f2", func := "tinder/tinderlaw19.VarsForms", spec := "varsForms", unfollowed := true, recurses := true, named := ["tinder/vars.table"], apart := false, laid := [("tinder/vars.table", laid_tinder_vars_table)], narrowed := true }
def VarsFormsUptoSaid : Prop := varsFormsUptoRow.holds Tryd.pinned (OpenSpec.upto varsFormsSpec)

/-- 'tinderlaw19.VarsSets', WHERE WHAT IT READS IS OF BULK AT MOST 1048576: true; the input reads as it did. -/
def varsSetsUptoRow : OpenClaim := { program := "ytaiimfdcbdfbdaadoor", sum := "fb1adf193472ae616b41039935682937a70f6eb4d55e1750dad24377487060f2", func := "tinder/tinderlaw19.VarsSets", spec := "varsSets", unfollowed := true, recurses := true, named := ["tinder/vars.table"], apart := false, laid := [("tinder/vars.table", laid_tinder_vars_table)], narrowed := true }
def VarsSetsUptoSaid : Prop := varsSetsUptoRow.holds Tryd.pinned (OpenSpec.upto varsSetsSpec)

/-- 'tinderlaw19.VarsGets', WHERE WHAT IT READS IS OF BULK AT MOST 1048576: true; the input reads as it did. -/
def varsGetsUptoRow : OpenClaim := { program := "ytaiimfdcbdfbdaadoor", sum := "fb1adf193472ae616b41039935682937a70f6eb4d55e1750dad24377487060f2", func := "tinder/tinderlaw19.VarsGets", spec := "varsGets", unfollowed := true, recurses := true, named := ["tinder/vars.table"], apart := false, laid := [("tinder/vars.table", laid_tinder_vars_table)], narrowed := true }
def VarsGetsUptoSaid : Prop := varsGetsUptoRow.holds Tryd.pinned (OpenSpec.upto varsGetsSpec)

/-- 'tinderlaw19.VarsBytes', WHERE WHAT IT READS IS OF BULK AT MOST 1048576: true; the input reads as it did. -/
def varsBytesUptoRow : OpenClaim := { program := "ytaiimfdcbdfbdaadoor", sum := "fb1adf193472ae616b41039935682937a70f6eb4d55e1750dad24377487060f2", func := "tinder/tinderlaw19.VarsBytes", spec := "varsBytes", inPlace := ["internal/bytealg.IndexByte", "internal/bytealg.Index"], unfollowed := true, recurses := true, named := ["tinder/vars.table", "internal/bytealg.MaxLen"], apart := false, laid := [("tinder/vars.table", laid_tinder_vars_table)], narrowed := true }
def VarsBytesUptoSaid : Prop := varsBytesUptoRow.holds Tryd.pinned (OpenSpec.upto varsBytesSpec)

/-- 'tinderlaw19.VarsBack', WHERE WHAT IT READS IS OF BULK AT MOST 1048576: true; the input reads as it did. -/
def varsBackUptoRow : OpenClaim := { program := "ytaiimfdcbdfbdaadoor", sum := "fb1adf193472ae616b41039935682937a70f6eb4d55e1750dad24377487060f2", func := "tinder/tinderlaw19.VarsBack", spec := "varsBack", inPlace := ["internal/bytealg.IndexByte", "internal/bytealg.Index"], unfollowed := true, recurses := true, named := ["tinder/vars.table", "internal/bytealg.MaxLen"], apart := false, laid := [("tinder/vars.table", laid_tinder_vars_table)], narrowed := true }
def VarsBackUptoSaid : Prop := varsBackUptoRow.holds Tryd.pinned (OpenSpec.upto varsBackSpec)

/-- 'tinderlaw19.VarsKeeps', WHERE WHAT IT READS IS OF BULK AT MOST 1048576: true; the input reads as it did. -/
def varsKeepsUptoRow : OpenClaim := { program := "ytaiimfdcbdfbdaadoor", sum := "fb1adf193472ae616b41039935682937a70f6eb4d55e1750dad24377487060f2", func := "tinder/tinderlaw19.VarsKeeps", spec := "varsKeeps", unfollowed := true, recurses := true, named := ["tinder/vars.table"], apart := false, laid := [("tinder/vars.table", laid_tinder_vars_table)], narrowed := true }
def VarsKeepsUptoSaid : Prop := varsKeepsUptoRow.holds Tryd.pinned (OpenSpec.upto varsKeepsSpec)

end Rows
end Go.Proofs.YtaiimfdcbdfbdaaDoor
