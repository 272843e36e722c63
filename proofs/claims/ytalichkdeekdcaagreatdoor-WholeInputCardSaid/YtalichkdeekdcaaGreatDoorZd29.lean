/- PInse -/
import Derived.Test.YtalichkdeekdcaaGreatDoorZd18
import Derived.Test.YtalichkdeekdcaaGreatDoorZd23
namespace Go.Proofs.YtalichkdeekdcaaGreatDoor
set_option maxRecDepth 100000
section
open Go.ChangeShapes Go.WideShapes Go.ChangeAt Go.RowKit Go.Deep
structure Ievs (w:World) (B:Nat) (a:Option Addr) (n:Nat) (K I R:Nat→Int) (A:Nat→Option Addr) (Ln Cp:Nat→Nat) (T:Nat→Bs):Prop where
 outer:0<n→∃ b off,a=some ⟨b,off,none⟩∧b<B∧∀ r,r<n→w.cell? ⟨b,off+r * 4,none⟩=some (.int .i64 (K r))∧w.cell? ⟨b,off+r * 4+1,none⟩=some (.int .i64 (I r))∧w.cell? ⟨b,off+r * 4+2,none⟩=some (.int .i64 (R r)) ∧
  w.cell? ⟨b,off+r * 4+3,none⟩=some (.slice (A r) (Ln r) (Cp r))
 inner:∀ r,r<n→(wf64 (K r)∧wf64 (I r)∧wf64 (R r))∧Bytes w B (A r) (Ln r) (T r)∧Ln r≤Cp r∧Cp r≤most
end
end Go.Proofs.YtalichkdeekdcaaGreatDoor
