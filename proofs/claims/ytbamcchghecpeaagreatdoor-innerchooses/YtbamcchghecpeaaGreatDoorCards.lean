/-
  DERIVED. GIVEN WITH THE SEED: THE CARDS: each row of YtbamcchghecpeaaGreatDoorRows.lean that lists a variable, with what it lists TIED to the program's text (the seventh form; the later family's looks); each row that meets fmt, with fmt's text TOLD by the authors' own Lean function (tested against real Go, not proved from fmt's source: count such statements apart). THE CARD IS WHAT COUNTS. Prove the row's statement (the work); the ties are given (YtbamcchghecpeaaGreatDoorTie.lean); close each card by the builder's one call (the guide's Derived/Test/ToyasCard.lean, 'card_holds'). Laid BY PROGRAM, IN A SANDBOX (cutbox-door.mjs). By AI agents, Wed Nov 11 2026. No macro, syntax, notation, axiom, sorry.
-/
import Derived.Test.YtbamcchghecpeaaGreatDoorRows
import GoSem.ClaimSeven
namespace Go.Proofs.YtbamcchghecpeaaGreatDoor
namespace Rows

/-- THE TIED CARD OF 'tinderlaw11.InnerRuns'. -/
def innerRunsCard : Claim7 := { stood := { row := innerRunsRow, standIns := [], harness := (true, "66e1f777a914d54c775800982dec15b32a6d3add589dd43877653c0f7022993e"), looks := false }, kinds := [], alts := [], laidByText := true, laidKinds := [.data], laidTests := true, laidLooks := .later }
def InnerRunsCardSaid : Prop := Claim7.holds Tryz.pinned (.plain (OpenSpec.ofChange innerRunsSpec)) innerRunsCard

/-- THE TIED CARD OF 'tinderlaw11.InnerThrows'. -/
def innerThrowsCard : Claim7 := { stood := { row := innerThrowsRow, standIns := [], harness := (true, "66e1f777a914d54c775800982dec15b32a6d3add589dd43877653c0f7022993e"), looks := false }, kinds := [], alts := [], laidByText := true, laidKinds := [.data], laidTests := true, laidLooks := .later }
def InnerThrowsCardSaid : Prop := Claim7.holds Tryz.pinned (.plain (OpenSpec.ofChange innerThrowsSpec)) innerThrowsCard

/-- THE TIED CARD OF 'tinderlaw11.InnerFuel'. -/
def innerFuelCard : Claim7 := { stood := { row := innerFuelRow, standIns := [], harness := (true, "66e1f777a914d54c775800982dec15b32a6d3add589dd43877653c0f7022993e"), looks := false }, kinds := [], alts := [], laidByText := true, laidKinds := [.data], laidTests := true, laidLooks := .later }
def InnerFuelCardSaid : Prop := Claim7.holds Tryz.pinned (.plain (OpenSpec.ofChange innerFuelSpec)) innerFuelCard

/-- THE TIED CARD OF 'tinderlaw11.InnerCounts'. -/
def innerCountsCard : Claim7 := { stood := { row := innerCountsRow, standIns := [], harness := (true, "66e1f777a914d54c775800982dec15b32a6d3add589dd43877653c0f7022993e"), looks := false }, kinds := [], alts := [], laidByText := true, laidKinds := [.data], laidTests := true, laidLooks := .later }
def InnerCountsCardSaid : Prop := Claim7.holds Tryz.pinned (.plain (OpenSpec.ofChange innerCountsSpec)) innerCountsCard

/-- THE TIED CARD OF 'tinderlaw11.InnerChooses'. -/
def innerChoosesCard : Claim7 := { stood := { row := innerChoosesRow, standIns := [], harness := (true, "66e1f777a914d54c775800982dec15b32a6d3add589dd43877653c0f7022993e"), looks := false }, kinds := [], alts := [], laidByText := true, laidKinds := [.data], laidTests := true, laidLooks := .later }
def InnerChoosesCardSaid : Prop := Claim7.holds Tryz.pinned (.plain (OpenSpec.ofChange innerChoosesSpec)) innerChoosesCard

/-- THE TIED CARD OF 'tinderlaw11.InnerCatches'. -/
def innerCatchesCard : Claim7 := { stood := { row := innerCatchesRow, standIns := [], harness := (true, "66e1f777a914d54c775800982dec15b32a6d3add589dd43877653c0f7022993e"), looks := false }, kinds := [], alts := [], laidByText := true, laidKinds := [.data], laidTests := true, laidLooks := .later }
def InnerCatchesCardSaid : Prop := Claim7.holds Tryz.pinned (.plain (OpenSpec.ofChange innerCatchesSpec)) innerCatchesCard

/-- THE SECOND FORM's CARD OF 'tinderlaw11.InnerRuns'. -/
def innerRunsUptoCard : Claim7 := { stood := { row := innerRunsUptoRow, standIns := [], harness := (true, "66e1f777a914d54c775800982dec15b32a6d3add589dd43877653c0f7022993e"), looks := false }, kinds := [], alts := [], laidByText := true, laidKinds := [.data], laidTests := true, laidLooks := .later }
def InnerRunsUptoCardSaid : Prop := Claim7.holds Tryz.pinned (.plain (OpenSpec.upto innerRunsSpec)) innerRunsUptoCard

/-- THE SECOND FORM's CARD OF 'tinderlaw11.InnerThrows'. -/
def innerThrowsUptoCard : Claim7 := { stood := { row := innerThrowsUptoRow, standIns := [], harness := (true, "66e1f777a914d54c775800982dec15b32a6d3add589dd43877653c0f7022993e"), looks := false }, kinds := [], alts := [], laidByText := true, laidKinds := [.data], laidTests := true, laidLooks := .later }
def InnerThrowsUptoCardSaid : Prop := Claim7.holds Tryz.pinned (.plain (OpenSpec.upto innerThrowsSpec)) innerThrowsUptoCard

/-- THE SECOND FORM's CARD OF 'tinderlaw11.InnerFuel'. -/
def innerFuelUptoCard : Claim7 := { stood := { row := innerFuelUptoRow, standIns := [], harness := (true, "66e1f777a914d54c775800982dec15b32a6d3add589dd43877653c0f7022993e"), looks := false }, kinds := [], alts := [], laidByText := true, laidKinds := [.data], laidTests := true, laidLooks := .later }
def InnerFuelUptoCardSaid : Prop := Claim7.holds Tryz.pinned (.plain (OpenSpec.upto innerFuelSpec)) innerFuelUptoCard

/-- THE SECOND FORM's CARD OF 'tinderlaw11.InnerCounts'. -/
def innerCountsUptoCard : Claim7 := { stood := { row := innerCountsUptoRow, standIns := [], harness := (true, "66e1f777a914d54c775800982dec15b32a6d3add589dd43877653c0f7022993e"), looks := false }, kinds := [], alts := [], laidByText := true, laidKinds := [.data], laidTests := true, laidLooks := .later }
def InnerCountsUptoCardSaid : Prop := Claim7.holds Tryz.pinned (.plain (OpenSpec.upto innerCountsSpec)) innerCountsUptoCard

/-- THE SECOND FORM's CARD OF 'tinderlaw11.InnerChooses'. -/
def innerChoosesUptoCard : Claim7 := { stood := { row := innerChoosesUptoRow, standIns := [], harness := (true, "66e1f777a914d54c775800982dec15b32a6d3add589dd43877653c0f7022993e"), looks := false }, kinds := [], alts := [], laidByText := true, laidKinds := [.data], laidTests := true, laidLooks := .later }
def InnerChoosesUptoCardSaid : Prop := Claim7.holds Tryz.pinned (.plain (OpenSpec.upto innerChoosesSpec)) innerChoosesUptoCard

/-- THE SECOND FORM's CARD OF 'tinderlaw11.InnerCatches'. -/
def innerCatchesUptoCard : Claim7 := { stood := { row := innerCatchesUptoRow, standIns := [], harness := (true, "66e1f777a914d54c775800982dec15b32a6d3add589dd43877653c0f7022993e"), looks := false }, kinds := [], alts := [], laidByText := true, laidKinds := [.data], laidTests := true, laidLooks := .later }
def InnerCatchesUptoCardSaid : Prop := Claim7.holds Tryz.pinned (.plain (OpenSpec.upto innerCatchesSpec)) innerCatchesUptoCard
end Rows
end Go.Proofs.YtbamcchghecpeaaGreatDoor
