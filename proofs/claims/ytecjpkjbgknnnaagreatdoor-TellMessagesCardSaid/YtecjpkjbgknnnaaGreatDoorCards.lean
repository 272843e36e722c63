/-
  DERIVED. GIVEN WITH THE SEED: THE CARDS: each row of YtecjpkjbgknnnaaGreatDoorRows.lean that lists a variable, with what it lists TIED to the program's text (the seventh form; the later family's looks); each row that meets fmt, with fmt's text TOLD by the authors' own Lean function (tested against real Go, not proved from fmt's source: count such statements apart). THE CARD IS WHAT COUNTS. Prove the row's statement (the work); the ties are given (YtecjpkjbgknnnaaGreatDoorTie.lean); close each card by the builder's one call (the guide's Derived/Test/ToyasCard.lean, 'card_holds'). Laid BY PROGRAM, IN A SANDBOX (cutbox-door.mjs). By AI agents, Wed Nov 11 2026. No macro, syntax, notation, axiom, sorry.
-/
import Derived.Test.YtecjpkjbgknnnaaGreatDoorRows
import GoSem.ClaimSeven
namespace Go.Proofs.YtecjpkjbgknnnaaGreatDoor
namespace Rows

/-- THE TIED CARD OF 'kibitzerlaw18.TellMessages'. -/
def tellMessagesCard : Claim7 := { stood := { row := tellMessagesRow, standIns := [], harness := (true, "a7439786251b14c09543386bd06be0f4e8167e463cd614c7d0d9c4c5ac3871a5"), looks := true }, kinds := [], alts := [], laidByText := true, laidKinds := [.data, .data, .data, .sentinel, .sentinel, .data, .data], laidTests := true, laidLooks := .later }
def TellMessagesCardSaid : Prop := Claim7.holds Tryz.pinned (.plain (OpenSpec.ofChange tellMessagesSpec)) tellMessagesCard

/-- THE TIED CARD OF 'kibitzerlaw18.TellMany'. -/
def tellManyCard : Claim7 := { stood := { row := tellManyRow, standIns := [], harness := (true, "a7439786251b14c09543386bd06be0f4e8167e463cd614c7d0d9c4c5ac3871a5"), looks := true }, kinds := [], alts := [], laidByText := true, laidKinds := [.data, .data, .data, .sentinel, .sentinel, .data], laidTests := true, laidLooks := .later }
def TellManyCardSaid : Prop := Claim7.holds Tryz.pinned (.plain (OpenSpec.ofChange tellManySpec)) tellManyCard

/-- THE SECOND FORM's CARD OF 'kibitzerlaw18.TellMessages'. -/
def tellMessagesUptoCard : Claim7 := { stood := { row := tellMessagesUptoRow, standIns := [], harness := (true, "a7439786251b14c09543386bd06be0f4e8167e463cd614c7d0d9c4c5ac3871a5"), looks := true }, kinds := [], alts := [], laidByText := true, laidKinds := [.data, .data, .data, .sentinel, .sentinel, .data, .data], laidTests := true, laidLooks := .later }
def TellMessagesUptoCardSaid : Prop := Claim7.holds Tryz.pinned (.plain (OpenSpec.upto tellMessagesSpec)) tellMessagesUptoCard

/-- THE SECOND FORM's CARD OF 'kibitzerlaw18.TellMany'. -/
def tellManyUptoCard : Claim7 := { stood := { row := tellManyUptoRow, standIns := [], harness := (true, "a7439786251b14c09543386bd06be0f4e8167e463cd614c7d0d9c4c5ac3871a5"), looks := true }, kinds := [], alts := [], laidByText := true, laidKinds := [.data, .data, .data, .sentinel, .sentinel, .data], laidTests := true, laidLooks := .later }
def TellManyUptoCardSaid : Prop := Claim7.holds Tryz.pinned (.plain (OpenSpec.upto tellManySpec)) tellManyUptoCard
end Rows
end Go.Proofs.YtecjpkjbgknnnaaGreatDoor
