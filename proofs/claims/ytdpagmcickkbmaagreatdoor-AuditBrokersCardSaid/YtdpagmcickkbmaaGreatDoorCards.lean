/-
  DERIVED. GIVEN WITH THE SEED: THE CARDS: each row of YtdpagmcickkbmaaGreatDoorRows.lean that lists a variable, with what it lists TIED to the program's text (the seventh form; the later family's looks); each row that meets fmt, with fmt's text TOLD by the authors' own Lean function (tested against real Go, not proved from fmt's source: count such statements apart). THE CARD IS WHAT COUNTS. Prove the row's statement (the work); the ties are given (YtdpagmcickkbmaaGreatDoorTie.lean); close each card by the builder's one call (the guide's Derived/Test/ToyasCard.lean, 'card_holds'). Laid BY PROGRAM, IN A SANDBOX (cutbox-door.mjs). By AI agents, Wed Nov 11 2026. No macro, syntax, notation, axiom, sorry.
-/
import Derived.Test.YtdpagmcickkbmaaGreatDoorRows
import GoSem.ClaimSeven
namespace Go.Proofs.YtdpagmcickkbmaaGreatDoor
namespace Rows

/-- THE TIED CARD OF 'kibitzerlaw15.AuditBrokers'. -/
def auditBrokersCard : Claim7 := { stood := { row := auditBrokersRow, standIns := [], harness := (true, "5cbcacf2435ded1979c532c20e606a474d05ded3470395d3a2a1d5d74ef9e2ff"), looks := true }, kinds := [], alts := [], laidByText := true, laidKinds := [.data, .data, .data, .sentinel, .sentinel, .data], laidTests := true, laidLooks := .later }
def AuditBrokersCardSaid : Prop := Claim7.holds Tryz.pinned (.plain (OpenSpec.ofChange auditBrokersSpec)) auditBrokersCard

/-- THE TIED CARD OF 'kibitzerlaw15.AuditFinds'. -/
def auditFindsCard : Claim7 := { stood := { row := auditFindsRow, standIns := [], harness := (true, "5cbcacf2435ded1979c532c20e606a474d05ded3470395d3a2a1d5d74ef9e2ff"), looks := true }, kinds := [], alts := [], laidByText := true, laidKinds := [.data, .data, .data, .sentinel, .sentinel, .data], laidTests := true, laidLooks := .later }
def AuditFindsCardSaid : Prop := Claim7.holds Tryz.pinned (.plain (OpenSpec.ofChange auditFindsSpec)) auditFindsCard

/-- THE TIED CARD OF 'kibitzerlaw15.AuditCuts'. -/
def auditCutsCard : Claim7 := { stood := { row := auditCutsRow, standIns := [], harness := (true, "5cbcacf2435ded1979c532c20e606a474d05ded3470395d3a2a1d5d74ef9e2ff"), looks := true }, kinds := [], alts := [], laidByText := true, laidKinds := [.data, .data, .data, .sentinel, .sentinel, .data], laidTests := true, laidLooks := .later }
def AuditCutsCardSaid : Prop := Claim7.holds Tryz.pinned (.plain (OpenSpec.ofChange auditCutsSpec)) auditCutsCard

/-- THE SECOND FORM's CARD OF 'kibitzerlaw15.AuditBrokers'. -/
def auditBrokersUptoCard : Claim7 := { stood := { row := auditBrokersUptoRow, standIns := [], harness := (true, "5cbcacf2435ded1979c532c20e606a474d05ded3470395d3a2a1d5d74ef9e2ff"), looks := true }, kinds := [], alts := [], laidByText := true, laidKinds := [.data, .data, .data, .sentinel, .sentinel, .data], laidTests := true, laidLooks := .later }
def AuditBrokersUptoCardSaid : Prop := Claim7.holds Tryz.pinned (.plain (OpenSpec.upto auditBrokersSpec)) auditBrokersUptoCard

/-- THE SECOND FORM's CARD OF 'kibitzerlaw15.AuditFinds'. -/
def auditFindsUptoCard : Claim7 := { stood := { row := auditFindsUptoRow, standIns := [], harness := (true, "5cbcacf2435ded1979c532c20e606a474d05ded3470395d3a2a1d5d74ef9e2ff"), looks := true }, kinds := [], alts := [], laidByText := true, laidKinds := [.data, .data, .data, .sentinel, .sentinel, .data], laidTests := true, laidLooks := .later }
def AuditFindsUptoCardSaid : Prop := Claim7.holds Tryz.pinned (.plain (OpenSpec.upto auditFindsSpec)) auditFindsUptoCard

/-- THE SECOND FORM's CARD OF 'kibitzerlaw15.AuditCuts'. -/
def auditCutsUptoCard : Claim7 := { stood := { row := auditCutsUptoRow, standIns := [], harness := (true, "5cbcacf2435ded1979c532c20e606a474d05ded3470395d3a2a1d5d74ef9e2ff"), looks := true }, kinds := [], alts := [], laidByText := true, laidKinds := [.data, .data, .data, .sentinel, .sentinel, .data], laidTests := true, laidLooks := .later }
def AuditCutsUptoCardSaid : Prop := Claim7.holds Tryz.pinned (.plain (OpenSpec.upto auditCutsSpec)) auditCutsUptoCard
end Rows
end Go.Proofs.YtdpagmcickkbmaaGreatDoor
