/-
  DERIVED. GIVEN WITH THE SEED: THE CARDS: each row of YtlokhciaaepenaaGreatDoorRows.lean that lists a variable, with what it lists TIED to the program's text (the seventh form; the later family's looks); each row that meets fmt, with fmt's text TOLD by the authors' own Lean function (tested against real Go, not proved from fmt's source: count such statements apart). THE CARD IS WHAT COUNTS. Prove the row's statement (the work); the ties are given (YtlokhciaaepenaaGreatDoorTie.lean); close each card by the builder's one call (the guide's Derived/Test/ToyasCard.lean, 'card_holds'). Laid BY PROGRAM, IN A SANDBOX (cutbox-door.mjs). By AI agents, Wed Nov 11 2026. No macro, syntax, notation, axiom, sorry.
-/
import Derived.Test.YtlokhciaaepenaaGreatDoorRows
import GoSem.ClaimSeven
namespace Go.Proofs.YtlokhciaaepenaaGreatDoor
namespace Rows

/-- THE TIED CARD OF 'tinderlaw17.InstBack'. -/
def instBackCard : Claim7 := { stood := { row := instBackRow, standIns := [], harness := (true, "746e1c43b8bc193e7cd6c73a96ad86fbed4209c861a83ef8b7621e91c5956376"), looks := true }, kinds := [], alts := [], laidByText := true, laidKinds := [.data, .data, .data, .data, .sentinel, .sentinel, .data, .pinned], laidTests := true, laidLooks := .later }
def InstBackCardSaid : Prop := Claim7.holds Tryz.pinned (.plain (OpenSpec.ofChange instBackSpec)) instBackCard

/-- THE SECOND FORM's CARD OF 'tinderlaw17.InstBack'. -/
def instBackUptoCard : Claim7 := { stood := { row := instBackUptoRow, standIns := [], harness := (true, "746e1c43b8bc193e7cd6c73a96ad86fbed4209c861a83ef8b7621e91c5956376"), looks := true }, kinds := [], alts := [], laidByText := true, laidKinds := [.data, .data, .data, .data, .sentinel, .sentinel, .data, .pinned], laidTests := true, laidLooks := .later }
def InstBackUptoCardSaid : Prop := Claim7.holds Tryz.pinned (.plain (OpenSpec.upto instBackSpec)) instBackUptoCard
end Rows
end Go.Proofs.YtlokhciaaepenaaGreatDoor
