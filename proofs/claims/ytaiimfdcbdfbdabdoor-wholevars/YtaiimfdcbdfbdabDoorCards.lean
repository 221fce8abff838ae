/-
  DERIVED. GIVEN WITH THE SEED: THE CARDS: each row of YtaiimfdcbdfbdabDoorRows.lean that lists a variable, with what it lists TIED to the program's text (the seventh form; the later family's looks); each row that meets fmt, with fmt's text TOLD by the authors' own Lean function (tested against real Go, not proved from fmt's source: count such statements apart). THE CARD IS WHAT COUNTS. Prove the row's statement (the work); the ties are given (YtaiimfdcbdfbdabDoorTie.lean); close each card by the builder's one call (the guide's Derived/Test/ToyasCard.lean, 'card_holds'). Laid BY PROGRAM, IN A SANDBOX (cutbox-door.mjs). By AI agents, Wed Nov 11 2026. No macro, syntax, notation, axiom, sorry.
-/
import Derived.Test.YtaiimfdcbdfbdabDoorRows
import GoSem.ClaimSeven
namespace Go.Proofs.YtaiimfdcbdfbdabDoor
namespace Rows

/-- THE TIED CARD OF 'tinderlaw19.VarsLoads'. -/
def varsLoadsCard : Claim7 := { stood := { row := varsLoadsRow, standIns := [], harness := (true, "0279d1f15e8097b5bd3d41d4b0ed1f081d3d110f81ba2f126b5a7ba90b10993a"), looks := false }, kinds := [], alts := [], laidByText := true, laidKinds := [.wider], laidTests := true, laidLooks := .later }
def VarsLoadsCardSaid : Prop := Claim7.holds Tryd.pinned (.plain (OpenSpec.ofChange varsLoadsSpec)) varsLoadsCard

/-- THE TIED CARD OF 'tinderlaw19.VarsCut'. -/
def varsCutCard : Claim7 := { stood := { row := varsCutRow, standIns := [], harness := (true, "0279d1f15e8097b5bd3d41d4b0ed1f081d3d110f81ba2f126b5a7ba90b10993a"), looks := false }, kinds := [], alts := [], laidByText := true, laidKinds := [.wider], laidTests := true, laidLooks := .later }
def VarsCutCardSaid : Prop := Claim7.holds Tryd.pinned (.plain (OpenSpec.ofChange varsCutSpec)) varsCutCard

/-- THE TIED CARD OF 'tindertop.WholeVars'. -/
def wholeVarsCard : Claim7 := { stood := { row := wholeVarsRow, standIns := [], harness := (true, "0279d1f15e8097b5bd3d41d4b0ed1f081d3d110f81ba2f126b5a7ba90b10993a"), looks := false }, kinds := [], alts := [], laidByText := true, laidKinds := [.wider], laidTests := true, laidLooks := .later }
def WholeVarsCardSaid : Prop := Claim7.holds Tryd.pinned (.plain (OpenSpec.ofChange wholeVarsSpec)) wholeVarsCard

/-- THE TIED CARD OF 'tindertop.WholeBanks'. -/
def wholeBanksCard : Claim7 := { stood := { row := wholeBanksRow, standIns := [], harness := (true, "0279d1f15e8097b5bd3d41d4b0ed1f081d3d110f81ba2f126b5a7ba90b10993a"), looks := false }, kinds := [], alts := [], laidByText := true, laidKinds := [.wider], laidTests := true, laidLooks := .later }
def WholeBanksCardSaid : Prop := Claim7.holds Tryd.pinned (.plain (OpenSpec.ofChange wholeBanksSpec)) wholeBanksCard

/-- THE SECOND FORM's CARD OF 'tinderlaw19.VarsLoads'. -/
def varsLoadsUptoCard : Claim7 := { stood := { row := varsLoadsUptoRow, standIns := [], harness := (true, "0279d1f15e8097b5bd3d41d4b0ed1f081d3d110f81ba2f126b5a7ba90b10993a"), looks := false }, kinds := [], alts := [], laidByText := true, laidKinds := [.wider], laidTests := true, laidLooks := .later }
def VarsLoadsUptoCardSaid : Prop := Claim7.holds Tryd.pinned (.plain (OpenSpec.upto varsLoadsSpec)) varsLoadsUptoCard

/-- THE SECOND FORM's CARD OF 'tinderlaw19.VarsCut'. -/
def varsCutUptoCard : Claim7 := { stood := { row := varsCutUptoRow, standIns := [], harness := (true, "0279d1f15e8097b5bd3d41d4b0ed1f081d3d110f81ba2f126b5a7ba90b10993a"), looks := false }, kinds := [], alts := [], laidByText := true, laidKinds := [.wider], laidTests := true, laidLooks := .later }
def VarsCutUptoCardSaid : Prop := Claim7.holds Tryd.pinned (.plain (OpenSpec.upto varsCutSpec)) varsCutUptoCard

/-- THE SECOND FORM's CARD OF 'tindertop.WholeVars'. -/
def wholeVarsUptoCard : Claim7 := { stood := { row := wholeVarsUptoRow, standIns := [], harness := (true, "0279d1f15e8097b5bd3d41d4b0ed1f081d3d110f81ba2f126b5a7ba90b10993a"), looks := false }, kinds := [], alts := [], laidByText := true, laidKinds := [.wider], laidTests := true, laidLooks := .later }
def WholeVarsUptoCardSaid : Prop := Claim7.holds Tryd.pinned (.plain (OpenSpec.upto wholeVarsSpec)) wholeVarsUptoCard

/-- THE SECOND FORM's CARD OF 'tindertop.WholeBanks'. -/
def wholeBanksUptoCard : Claim7 := { stood := { row := wholeBanksUptoRow, standIns := [], harness := (true, "0279d1f15e8097b5bd3d41d4b0ed1f081d3d110f81ba2f126b5a7ba90b10993a"), looks := false }, kinds := [], alts := [], laidByText := true, laidKinds := [.wider], laidTests := true, laidLooks := .later }
def WholeBanksUptoCardSaid : Prop := Claim7.holds Tryd.pinned (.plain (OpenSpec.upto wholeBanksSpec)) wholeBanksUptoCard
end Rows
end Go.Proofs.YtaiimfdcbdfbdabDoor
