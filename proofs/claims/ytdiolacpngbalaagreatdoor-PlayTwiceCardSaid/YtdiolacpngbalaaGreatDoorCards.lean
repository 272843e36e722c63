/-
  DERIVED. GIVEN WITH THE SEED: THE CARDS: each row of YtdiolacpngbalaaGreatDoorRows.lean that lists a variable, with what it lists TIED to the program's text (the seventh form; the later family's looks); each row that meets fmt, with fmt's text TOLD by the authors' own Lean function (tested against real Go, not proved from fmt's source: count such statements apart). THE CARD IS WHAT COUNTS. Prove the row's statement (the work); the ties are given (YtdiolacpngbalaaGreatDoorTie.lean); close each card by the builder's one call (the guide's Derived/Test/ToyasCard.lean, 'card_holds'). Laid BY PROGRAM, IN A SANDBOX (cutbox-door.mjs). By AI agents, Wed Nov 11 2026. No macro, syntax, notation, axiom, sorry.
-/
import Derived.Test.YtdiolacpngbalaaGreatDoorRows
import GoSem.ClaimSeven
namespace Go.Proofs.YtdiolacpngbalaaGreatDoor
namespace Rows

/-- THE TIED CARD OF 'kibitzerlaw17.PlayTwice'. -/
def playTwiceCard : Claim7 := { stood := { row := playTwiceRow, standIns := [], harness := (true, "1d40c0e9ec3cb2bde35ed44266895dfd04f717a718586e8a779ac7f9cf756ce6"), looks := true }, kinds := [], alts := [], laidByText := true, laidKinds := [.data, .data, .data, .sentinel, .sentinel, .data], laidTests := true, laidLooks := .later }
def PlayTwiceCardSaid : Prop := Claim7.holds Tryz.pinned (.plain (OpenSpec.ofChange playTwiceSpec)) playTwiceCard

/-- THE SECOND FORM's CARD OF 'kibitzerlaw17.PlayTwice'. -/
def playTwiceUptoCard : Claim7 := { stood := { row := playTwiceUptoRow, standIns := [], harness := (true, "1d40c0e9ec3cb2bde35ed44266895dfd04f717a718586e8a779ac7f9cf756ce6"), looks := true }, kinds := [], alts := [], laidByText := true, laidKinds := [.data, .data, .data, .sentinel, .sentinel, .data], laidTests := true, laidLooks := .later }
def PlayTwiceUptoCardSaid : Prop := Claim7.holds Tryz.pinned (.plain (OpenSpec.upto playTwiceSpec)) playTwiceUptoCard
end Rows
end Go.Proofs.YtdiolacpngbalaaGreatDoor
