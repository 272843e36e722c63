/-
  DERIVED. GIVEN WITH THE SEED: THE CARDS: each row of YthkbgopimgnbgaaGreatDoorRows.lean that lists a variable, with what it lists TIED to the program's text (the seventh form; the later family's looks); each row that meets fmt, with fmt's text TOLD by the authors' own Lean function (tested against real Go, not proved from fmt's source: count such statements apart). THE CARD IS WHAT COUNTS. Prove the row's statement (the work); the ties are given (YthkbgopimgnbgaaGreatDoorTie.lean); close each card by the builder's one call (the guide's Derived/Test/ToyasCard.lean, 'card_holds'). Laid BY PROGRAM, IN A SANDBOX (cutbox-door.mjs). By AI agents, Wed Nov 11 2026. No macro, syntax, notation, axiom, sorry.
-/
import Derived.Test.YthkbgopimgnbgaaGreatDoorRows
import GoSem.ClaimSeven
namespace Go.Proofs.YthkbgopimgnbgaaGreatDoor
namespace Rows

/-- THE TIED CARD OF 'kibitzerlaw14.BrokerTiles'. -/
def brokerTilesCard : Claim7 := { stood := { row := brokerTilesRow, standIns := [], harness := (true, "e5e0129394f5f6ae6214213c7bbb379b37474227689f88527dcc9033f9ac7df0"), looks := true }, kinds := [], alts := [], laidByText := true, laidKinds := [.data, .data, .data, .sentinel, .sentinel, .data], laidTests := true, laidLooks := .later }
def BrokerTilesCardSaid : Prop := Claim7.holds Tryz.pinned (.plain (OpenSpec.ofChange brokerTilesSpec)) brokerTilesCard

/-- THE SECOND FORM's CARD OF 'kibitzerlaw14.BrokerTiles'. -/
def brokerTilesUptoCard : Claim7 := { stood := { row := brokerTilesUptoRow, standIns := [], harness := (true, "e5e0129394f5f6ae6214213c7bbb379b37474227689f88527dcc9033f9ac7df0"), looks := true }, kinds := [], alts := [], laidByText := true, laidKinds := [.data, .data, .data, .sentinel, .sentinel, .data], laidTests := true, laidLooks := .later }
def BrokerTilesUptoCardSaid : Prop := Claim7.holds Tryz.pinned (.plain (OpenSpec.upto brokerTilesSpec)) brokerTilesUptoCard
end Rows
end Go.Proofs.YthkbgopimgnbgaaGreatDoor
