/-
  DERIVED. GIVEN WITH THE SEED: THE CARDS: each row of YtefiohepglggdaaDoorRows.lean that lists a variable, with what it lists TIED to the program's text (the seventh form; the later family's looks); each row that meets fmt, with fmt's text TOLD by the authors' own Lean function (tested against real Go, not proved from fmt's source: count such statements apart). THE CARD IS WHAT COUNTS. Prove the row's statement (the work); the ties are given (YtefiohepglggdaaDoorTie.lean); close each card by the builder's one call (the guide's Derived/Test/ToyasCard.lean, 'card_holds'). Laid BY PROGRAM, IN A SANDBOX (cutbox-door.mjs). By AI agents, Wed Nov 11 2026. No macro, syntax, notation, axiom, sorry.
-/
import Derived.Test.YtefiohepglggdaaDoorRows
import GoSem.ClaimSeven
namespace Go.Proofs.YtefiohepglggdaaDoor
namespace Rows

/-- THE TIED CARD OF 'tinderlaw03.StackDoes'. -/
def stackDoesCard : Claim7 := { stood := { row := stackDoesRow, standIns := [], harness := (true, "a368fcbd1fff868afc9448af0f1b7c88b76aafd3040924ca8f082b9f0ec09509"), looks := false }, kinds := [], alts := [], laidByText := true, laidKinds := [.data], laidTests := true, laidLooks := .later }
def StackDoesCardSaid : Prop := Claim7.holds Tryd.pinned (.plain (OpenSpec.ofChange stackDoesSpec)) stackDoesCard

/-- THE TIED CARD OF 'tinderlaw03.StackPushes'. -/
def stackPushesCard : Claim7 := { stood := { row := stackPushesRow, standIns := [], harness := (true, "a368fcbd1fff868afc9448af0f1b7c88b76aafd3040924ca8f082b9f0ec09509"), looks := false }, kinds := [], alts := [], laidByText := true, laidKinds := [.data], laidTests := true, laidLooks := .later }
def StackPushesCardSaid : Prop := Claim7.holds Tryd.pinned (.plain (OpenSpec.ofChange stackPushesSpec)) stackPushesCard

/-- THE TIED CARD OF 'tinderlaw03.StackPops'. -/
def stackPopsCard : Claim7 := { stood := { row := stackPopsRow, standIns := [], harness := (true, "a368fcbd1fff868afc9448af0f1b7c88b76aafd3040924ca8f082b9f0ec09509"), looks := false }, kinds := [], alts := [], laidByText := true, laidKinds := [.data], laidTests := true, laidLooks := .later }
def StackPopsCardSaid : Prop := Claim7.holds Tryd.pinned (.plain (OpenSpec.ofChange stackPopsSpec)) stackPopsCard

/-- THE TIED CARD OF 'tinderlaw03.StackTurns'. -/
def stackTurnsCard : Claim7 := { stood := { row := stackTurnsRow, standIns := [], harness := (true, "a368fcbd1fff868afc9448af0f1b7c88b76aafd3040924ca8f082b9f0ec09509"), looks := false }, kinds := [], alts := [], laidByText := true, laidKinds := [.data], laidTests := true, laidLooks := .later }
def StackTurnsCardSaid : Prop := Claim7.holds Tryd.pinned (.plain (OpenSpec.ofChange stackTurnsSpec)) stackTurnsCard

/-- THE TIED CARD OF 'tinderlaw03.StackBelow'. -/
def stackBelowCard : Claim7 := { stood := { row := stackBelowRow, standIns := [], harness := (true, "a368fcbd1fff868afc9448af0f1b7c88b76aafd3040924ca8f082b9f0ec09509"), looks := false }, kinds := [], alts := [], laidByText := true, laidKinds := [.data], laidTests := true, laidLooks := .later }
def StackBelowCardSaid : Prop := Claim7.holds Tryd.pinned (.plain (OpenSpec.ofChange stackBelowSpec)) stackBelowCard

/-- THE SECOND FORM's CARD OF 'tinderlaw03.StackDoes'. -/
def stackDoesUptoCard : Claim7 := { stood := { row := stackDoesUptoRow, standIns := [], harness := (true, "a368fcbd1fff868afc9448af0f1b7c88b76aafd3040924ca8f082b9f0ec09509"), looks := false }, kinds := [], alts := [], laidByText := true, laidKinds := [.data], laidTests := true, laidLooks := .later }
def StackDoesUptoCardSaid : Prop := Claim7.holds Tryd.pinned (.plain (OpenSpec.upto stackDoesSpec)) stackDoesUptoCard

/-- THE SECOND FORM's CARD OF 'tinderlaw03.StackPushes'. -/
def stackPushesUptoCard : Claim7 := { stood := { row := stackPushesUptoRow, standIns := [], harness := (true, "a368fcbd1fff868afc9448af0f1b7c88b76aafd3040924ca8f082b9f0ec09509"), looks := false }, kinds := [], alts := [], laidByText := true, laidKinds := [.data], laidTests := true, laidLooks := .later }
def StackPushesUptoCardSaid : Prop := Claim7.holds Tryd.pinned (.plain (OpenSpec.upto stackPushesSpec)) stackPushesUptoCard

/-- THE SECOND FORM's CARD OF 'tinderlaw03.StackPops'. -/
def stackPopsUptoCard : Claim7 := { stood := { row := stackPopsUptoRow, standIns := [], harness := (true, "a368fcbd1fff868afc9448af0f1b7c88b76aafd3040924ca8f082b9f0ec09509"), looks := false }, kinds := [], alts := [], laidByText := true, laidKinds := [.data], laidTests := true, laidLooks := .later }
def StackPopsUptoCardSaid : Prop := Claim7.holds Tryd.pinned (.plain (OpenSpec.upto stackPopsSpec)) stackPopsUptoCard

/-- THE SECOND FORM's CARD OF 'tinderlaw03.StackTurns'. -/
def stackTurnsUptoCard : Claim7 := { stood := { row := stackTurnsUptoRow, standIns := [], harness := (true, "a368fcbd1fff868afc9448af0f1b7c88b76aafd3040924ca8f082b9f0ec09509"), looks := false }, kinds := [], alts := [], laidByText := true, laidKinds := [.data], laidTests := true, laidLooks := .later }
def StackTurnsUptoCardSaid : Prop := Claim7.holds Tryd.pinned (.plain (OpenSpec.upto stackTurnsSpec)) stackTurnsUptoCard

/-- THE SECOND FORM's CARD OF 'tinderlaw03.StackBelow'. -/
def stackBelowUptoCard : Claim7 := { stood := { row := stackBelowUptoRow, standIns := [], harness := (true, "a368fcbd1fff868afc9448af0f1b7c88b76aafd3040924ca8f082b9f0ec09509"), looks := false }, kinds := [], alts := [], laidByText := true, laidKinds := [.data], laidTests := true, laidLooks := .later }
def StackBelowUptoCardSaid : Prop := Claim7.holds Tryd.pinned (.plain (OpenSpec.upto stackBelowSpec)) stackBelowUptoCard
end Rows
end Go.Proofs.YtefiohepglggdaaDoor
