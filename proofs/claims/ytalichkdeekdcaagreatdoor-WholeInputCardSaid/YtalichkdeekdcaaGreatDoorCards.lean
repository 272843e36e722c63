/-
  DERIVED. GIVEN WITH THE SEED: THE CARDS: each row of YtalichkdeekdcaaGreatDoorRows.lean that lists a variable, with what it lists TIED to the program's text (the seventh form; the later family's looks); each row that meets fmt, with fmt's text TOLD by the authors' own Lean function (tested against real Go, not proved from fmt's source: count such statements apart). THE CARD IS WHAT COUNTS. Prove the row's statement (the work); the ties are given (YtalichkdeekdcaaGreatDoorTie.lean); close each card by the builder's one call (the guide's Derived/Test/ToyasCard.lean, 'card_holds'). Laid BY PROGRAM, IN A SANDBOX (cutbox-door.mjs). By AI agents, Wed Nov 11 2026. No macro, syntax, notation, axiom, sorry.
-/
import Derived.Test.YtalichkdeekdcaaGreatDoorRows
import GoSem.ClaimSeven
namespace Go.Proofs.YtalichkdeekdcaaGreatDoor
namespace Rows

/-- THE TIED CARD OF 'kibitzertop.WholeTiles'. -/
def wholeTilesCard : Claim7 := { stood := { row := wholeTilesRow, standIns := [], harness := (true, "c722f65f930408ed3eee740b8c31bd60406d71aa8579140781131edd596d3bf1"), looks := true }, kinds := [], alts := [], laidByText := true, laidKinds := [.data, .data, .data, .sentinel, .sentinel, .data], laidTests := true, laidLooks := .later }
def WholeTilesCardSaid : Prop := Claim7.holds Tryz.pinned (.plain (OpenSpec.ofChange wholeTilesSpec)) wholeTilesCard

/-- THE TIED CARD OF 'kibitzertop.WholeInput'. -/
def wholeInputCard : Claim7 := { stood := { row := wholeInputRow, standIns := [], harness := (true, "c722f65f930408ed3eee740b8c31bd60406d71aa8579140781131edd596d3bf1"), looks := true }, kinds := [], alts := [], laidByText := true, laidKinds := [.data, .data, .data, .sentinel, .sentinel, .data], laidTests := true, laidLooks := .later }
def WholeInputCardSaid : Prop := Claim7.holds Tryz.pinned (.plain (OpenSpec.ofChange wholeInputSpec)) wholeInputCard

/-- THE TIED CARD OF 'kibitzertop.WholeFloor'. -/
def wholeFloorCard : Claim7 := { stood := { row := wholeFloorRow, standIns := [], harness := (true, "c722f65f930408ed3eee740b8c31bd60406d71aa8579140781131edd596d3bf1"), looks := true }, kinds := [], alts := [], laidByText := true, laidKinds := [.data, .data, .data, .sentinel, .sentinel, .data], laidTests := true, laidLooks := .later }
def WholeFloorCardSaid : Prop := Claim7.holds Tryz.pinned (.plain (OpenSpec.ofChange wholeFloorSpec)) wholeFloorCard

/-- THE TIED CARD OF 'kibitzertop.WholeApart'. -/
def wholeApartCard : Claim7 := { stood := { row := wholeApartRow, standIns := [], harness := (true, "c722f65f930408ed3eee740b8c31bd60406d71aa8579140781131edd596d3bf1"), looks := true }, kinds := [], alts := [], laidByText := true, laidKinds := [.data, .data, .data, .sentinel, .sentinel, .data], laidTests := true, laidLooks := .later }
def WholeApartCardSaid : Prop := Claim7.holds Tryz.pinned (.plain (OpenSpec.ofChange wholeApartSpec)) wholeApartCard

/-- THE TIED CARD OF 'kibitzertop.WholeCatch'. -/
def wholeCatchCard : Claim7 := { stood := { row := wholeCatchRow, standIns := [], harness := (true, "c722f65f930408ed3eee740b8c31bd60406d71aa8579140781131edd596d3bf1"), looks := true }, kinds := [], alts := [], laidByText := true, laidKinds := [.data, .data, .data, .sentinel, .sentinel, .data], laidTests := true, laidLooks := .later }
def WholeCatchCardSaid : Prop := Claim7.holds Tryz.pinned (.plain (OpenSpec.ofChange wholeCatchSpec)) wholeCatchCard

/-- THE TIED CARD OF 'kibitzertop.WholeWaits'. -/
def wholeWaitsCard : Claim7 := { stood := { row := wholeWaitsRow, standIns := [], harness := (true, "c722f65f930408ed3eee740b8c31bd60406d71aa8579140781131edd596d3bf1"), looks := true }, kinds := [], alts := [], laidByText := true, laidKinds := [.data, .data, .data, .sentinel, .sentinel, .data], laidTests := true, laidLooks := .later }
def WholeWaitsCardSaid : Prop := Claim7.holds Tryz.pinned (.plain (OpenSpec.ofChange wholeWaitsSpec)) wholeWaitsCard

/-- THE TIED CARD OF 'kibitzertop.WholeDenied'. -/
def wholeDeniedCard : Claim7 := { stood := { row := wholeDeniedRow, standIns := [], harness := (true, "c722f65f930408ed3eee740b8c31bd60406d71aa8579140781131edd596d3bf1"), looks := true }, kinds := [], alts := [], laidByText := true, laidKinds := [.data, .data, .data, .sentinel, .sentinel, .data], laidTests := true, laidLooks := .later }
def WholeDeniedCardSaid : Prop := Claim7.holds Tryz.pinned (.plain (OpenSpec.ofChange wholeDeniedSpec)) wholeDeniedCard

/-- THE TIED CARD OF 'kibitzertop.WholeKick'. -/
def wholeKickCard : Claim7 := { stood := { row := wholeKickRow, standIns := [], harness := (true, "c722f65f930408ed3eee740b8c31bd60406d71aa8579140781131edd596d3bf1"), looks := true }, kinds := [], alts := [], laidByText := true, laidKinds := [.data, .data, .data, .sentinel, .sentinel, .data], laidTests := true, laidLooks := .later }
def WholeKickCardSaid : Prop := Claim7.holds Tryz.pinned (.plain (OpenSpec.ofChange wholeKickSpec)) wholeKickCard

/-- THE TIED CARD OF 'kibitzertop.WholeStays'. -/
def wholeStaysCard : Claim7 := { stood := { row := wholeStaysRow, standIns := [], harness := (true, "c722f65f930408ed3eee740b8c31bd60406d71aa8579140781131edd596d3bf1"), looks := true }, kinds := [], alts := [], laidByText := true, laidKinds := [.data, .data, .data, .sentinel, .sentinel, .data], laidTests := true, laidLooks := .later }
def WholeStaysCardSaid : Prop := Claim7.holds Tryz.pinned (.plain (OpenSpec.ofChange wholeStaysSpec)) wholeStaysCard

/-- THE SECOND FORM's CARD OF 'kibitzertop.WholeTiles'. -/
def wholeTilesUptoCard : Claim7 := { stood := { row := wholeTilesUptoRow, standIns := [], harness := (true, "c722f65f930408ed3eee740b8c31bd60406d71aa8579140781131edd596d3bf1"), looks := true }, kinds := [], alts := [], laidByText := true, laidKinds := [.data, .data, .data, .sentinel, .sentinel, .data], laidTests := true, laidLooks := .later }
def WholeTilesUptoCardSaid : Prop := Claim7.holds Tryz.pinned (.plain (OpenSpec.upto wholeTilesSpec)) wholeTilesUptoCard

/-- THE SECOND FORM's CARD OF 'kibitzertop.WholeInput'. -/
def wholeInputUptoCard : Claim7 := { stood := { row := wholeInputUptoRow, standIns := [], harness := (true, "c722f65f930408ed3eee740b8c31bd60406d71aa8579140781131edd596d3bf1"), looks := true }, kinds := [], alts := [], laidByText := true, laidKinds := [.data, .data, .data, .sentinel, .sentinel, .data], laidTests := true, laidLooks := .later }
def WholeInputUptoCardSaid : Prop := Claim7.holds Tryz.pinned (.plain (OpenSpec.upto wholeInputSpec)) wholeInputUptoCard

/-- THE SECOND FORM's CARD OF 'kibitzertop.WholeFloor'. -/
def wholeFloorUptoCard : Claim7 := { stood := { row := wholeFloorUptoRow, standIns := [], harness := (true, "c722f65f930408ed3eee740b8c31bd60406d71aa8579140781131edd596d3bf1"), looks := true }, kinds := [], alts := [], laidByText := true, laidKinds := [.data, .data, .data, .sentinel, .sentinel, .data], laidTests := true, laidLooks := .later }
def WholeFloorUptoCardSaid : Prop := Claim7.holds Tryz.pinned (.plain (OpenSpec.upto wholeFloorSpec)) wholeFloorUptoCard

/-- THE SECOND FORM's CARD OF 'kibitzertop.WholeApart'. -/
def wholeApartUptoCard : Claim7 := { stood := { row := wholeApartUptoRow, standIns := [], harness := (true, "c722f65f930408ed3eee740b8c31bd60406d71aa8579140781131edd596d3bf1"), looks := true }, kinds := [], alts := [], laidByText := true, laidKinds := [.data, .data, .data, .sentinel, .sentinel, .data], laidTests := true, laidLooks := .later }
def WholeApartUptoCardSaid : Prop := Claim7.holds Tryz.pinned (.plain (OpenSpec.upto wholeApartSpec)) wholeApartUptoCard

/-- THE SECOND FORM's CARD OF 'kibitzertop.WholeCatch'. -/
def wholeCatchUptoCard : Claim7 := { stood := { row := wholeCatchUptoRow, standIns := [], harness := (true, "c722f65f930408ed3eee740b8c31bd60406d71aa8579140781131edd596d3bf1"), looks := true }, kinds := [], alts := [], laidByText := true, laidKinds := [.data, .data, .data, .sentinel, .sentinel, .data], laidTests := true, laidLooks := .later }
def WholeCatchUptoCardSaid : Prop := Claim7.holds Tryz.pinned (.plain (OpenSpec.upto wholeCatchSpec)) wholeCatchUptoCard

/-- THE SECOND FORM's CARD OF 'kibitzertop.WholeWaits'. -/
def wholeWaitsUptoCard : Claim7 := { stood := { row := wholeWaitsUptoRow, standIns := [], harness := (true, "c722f65f930408ed3eee740b8c31bd60406d71aa8579140781131edd596d3bf1"), looks := true }, kinds := [], alts := [], laidByText := true, laidKinds := [.data, .data, .data, .sentinel, .sentinel, .data], laidTests := true, laidLooks := .later }
def WholeWaitsUptoCardSaid : Prop := Claim7.holds Tryz.pinned (.plain (OpenSpec.upto wholeWaitsSpec)) wholeWaitsUptoCard

/-- THE SECOND FORM's CARD OF 'kibitzertop.WholeDenied'. -/
def wholeDeniedUptoCard : Claim7 := { stood := { row := wholeDeniedUptoRow, standIns := [], harness := (true, "c722f65f930408ed3eee740b8c31bd60406d71aa8579140781131edd596d3bf1"), looks := true }, kinds := [], alts := [], laidByText := true, laidKinds := [.data, .data, .data, .sentinel, .sentinel, .data], laidTests := true, laidLooks := .later }
def WholeDeniedUptoCardSaid : Prop := Claim7.holds Tryz.pinned (.plain (OpenSpec.upto wholeDeniedSpec)) wholeDeniedUptoCard

/-- THE SECOND FORM's CARD OF 'kibitzertop.WholeKick'. -/
def wholeKickUptoCard : Claim7 := { stood := { row := wholeKickUptoRow, standIns := [], harness := (true, "c722f65f930408ed3eee740b8c31bd60406d71aa8579140781131edd596d3bf1"), looks := true }, kinds := [], alts := [], laidByText := true, laidKinds := [.data, .data, .data, .sentinel, .sentinel, .data], laidTests := true, laidLooks := .later }
def WholeKickUptoCardSaid : Prop := Claim7.holds Tryz.pinned (.plain (OpenSpec.upto wholeKickSpec)) wholeKickUptoCard

/-- THE SECOND FORM's CARD OF 'kibitzertop.WholeStays'. -/
def wholeStaysUptoCard : Claim7 := { stood := { row := wholeStaysUptoRow, standIns := [], harness := (true, "c722f65f930408ed3eee740b8c31bd60406d71aa8579140781131edd596d3bf1"), looks := true }, kinds := [], alts := [], laidByText := true, laidKinds := [.data, .data, .data, .sentinel, .sentinel, .data], laidTests := true, laidLooks := .later }
def WholeStaysUptoCardSaid : Prop := Claim7.holds Tryz.pinned (.plain (OpenSpec.upto wholeStaysSpec)) wholeStaysUptoCard
end Rows
end Go.Proofs.YtalichkdeekdcaaGreatDoor
