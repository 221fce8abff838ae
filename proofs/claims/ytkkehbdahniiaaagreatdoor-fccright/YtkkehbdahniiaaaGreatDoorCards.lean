/-
  DERIVED. GIVEN WITH THE SEED: THE CARDS: each row of YtkkehbdahniiaaaGreatDoorRows.lean that lists a variable, with what it lists TIED to the program's text (the seventh form; the later family's looks); each row that meets fmt, with fmt's text TOLD by the authors' own Lean function (tested against real Go, not proved from fmt's source: count such statements apart). THE CARD IS WHAT COUNTS. Prove the row's statement (the work); the ties are given (YtkkehbdahniiaaaGreatDoorTie.lean); close each card by the builder's one call (the guide's Derived/Test/ToyasCard.lean, 'card_holds'). Laid BY PROGRAM, IN A SANDBOX (cutbox-door.mjs). By AI agents, Wed Nov 11 2026. No macro, syntax, notation, axiom, sorry.
-/
import Derived.Test.YtkkehbdahniiaaaGreatDoorRows
import GoSem.ClaimSeven
namespace Go.Proofs.YtkkehbdahniiaaaGreatDoor
namespace Rows

/-- THE TIED CARD OF 'tinderlaw15.FccTokens'. -/
def fccTokensCard : Claim7 := { stood := { row := fccTokensRow, standIns := [], harness := (true, "28746c056094757fae948c9866c82be7c39a873b5ffbdf33cac955d1181ca0bd"), looks := true }, kinds := [], alts := [], laidByText := true, laidKinds := [.data, .data, .data, .sentinel, .sentinel], laidTests := true, laidLooks := .later }
def FccTokensCardSaid : Prop := Claim7.holds Tryz.pinned (.plain (OpenSpec.ofChange fccTokensSpec)) fccTokensCard

/-- THE TIED CARD OF 'tinderlaw15.FccCompiles'. -/
def fccCompilesCard : Claim7 := { stood := { row := fccCompilesRow, standIns := [], harness := (true, "28746c056094757fae948c9866c82be7c39a873b5ffbdf33cac955d1181ca0bd"), looks := true }, kinds := [], alts := [], laidByText := true, laidKinds := [.data, .data, .data, .sentinel, .sentinel], laidTests := true, laidLooks := .later }
def FccCompilesCardSaid : Prop := Claim7.holds Tryz.pinned (.plain (OpenSpec.ofChange fccCompilesSpec)) fccCompilesCard

/-- THE TIED CARD OF 'tinderlaw15.FccRight'. -/
def fccRightCard : Claim7 := { stood := { row := fccRightRow, standIns := [], harness := (true, "28746c056094757fae948c9866c82be7c39a873b5ffbdf33cac955d1181ca0bd"), looks := true }, kinds := [], alts := [], laidByText := true, laidKinds := [.data, .data, .data, .sentinel, .sentinel], laidTests := true, laidLooks := .later }
def FccRightCardSaid : Prop := Claim7.holds Tryz.pinned (.plain (OpenSpec.ofChange fccRightSpec)) fccRightCard

/-- THE TIED CARD OF 'tinderlaw15.FccWords'. -/
def fccWordsCard : Claim7 := { stood := { row := fccWordsRow, standIns := [], harness := (true, "28746c056094757fae948c9866c82be7c39a873b5ffbdf33cac955d1181ca0bd"), looks := true }, kinds := [], alts := [], laidByText := true, laidKinds := [.data, .data, .data, .sentinel, .sentinel], laidTests := true, laidLooks := .later }
def FccWordsCardSaid : Prop := Claim7.holds Tryz.pinned (.plain (OpenSpec.ofChange fccWordsSpec)) fccWordsCard

/-- THE SECOND FORM's CARD OF 'tinderlaw15.FccTokens'. -/
def fccTokensUptoCard : Claim7 := { stood := { row := fccTokensUptoRow, standIns := [], harness := (true, "28746c056094757fae948c9866c82be7c39a873b5ffbdf33cac955d1181ca0bd"), looks := true }, kinds := [], alts := [], laidByText := true, laidKinds := [.data, .data, .data, .sentinel, .sentinel], laidTests := true, laidLooks := .later }
def FccTokensUptoCardSaid : Prop := Claim7.holds Tryz.pinned (.plain (OpenSpec.upto fccTokensSpec)) fccTokensUptoCard

/-- THE SECOND FORM's CARD OF 'tinderlaw15.FccCompiles'. -/
def fccCompilesUptoCard : Claim7 := { stood := { row := fccCompilesUptoRow, standIns := [], harness := (true, "28746c056094757fae948c9866c82be7c39a873b5ffbdf33cac955d1181ca0bd"), looks := true }, kinds := [], alts := [], laidByText := true, laidKinds := [.data, .data, .data, .sentinel, .sentinel], laidTests := true, laidLooks := .later }
def FccCompilesUptoCardSaid : Prop := Claim7.holds Tryz.pinned (.plain (OpenSpec.upto fccCompilesSpec)) fccCompilesUptoCard

/-- THE SECOND FORM's CARD OF 'tinderlaw15.FccRight'. -/
def fccRightUptoCard : Claim7 := { stood := { row := fccRightUptoRow, standIns := [], harness := (true, "28746c056094757fae948c9866c82be7c39a873b5ffbdf33cac955d1181ca0bd"), looks := true }, kinds := [], alts := [], laidByText := true, laidKinds := [.data, .data, .data, .sentinel, .sentinel], laidTests := true, laidLooks := .later }
def FccRightUptoCardSaid : Prop := Claim7.holds Tryz.pinned (.plain (OpenSpec.upto fccRightSpec)) fccRightUptoCard

/-- THE SECOND FORM's CARD OF 'tinderlaw15.FccWords'. -/
def fccWordsUptoCard : Claim7 := { stood := { row := fccWordsUptoRow, standIns := [], harness := (true, "28746c056094757fae948c9866c82be7c39a873b5ffbdf33cac955d1181ca0bd"), looks := true }, kinds := [], alts := [], laidByText := true, laidKinds := [.data, .data, .data, .sentinel, .sentinel], laidTests := true, laidLooks := .later }
def FccWordsUptoCardSaid : Prop := Claim7.holds Tryz.pinned (.plain (OpenSpec.upto fccWordsSpec)) fccWordsUptoCard
end Rows
end Go.Proofs.YtkkehbdahniiaaaGreatDoor
