/- PAuf -/
import Derived.Deep.CutBlock
import Derived.Test.YtalichkdeekdcaaGreatDoorZd16
import Derived.Test.YtalichkdeekdcaaGreatDoorZd23
namespace Go.Proofs.YtalichkdeekdcaaGreatDoor
set_option maxRecDepth 100000
section
open Go.RowKit
open Fr Ms Au
structure MsIn (w:World) (B:Nat) (a:Option Addr) (L:List M):Prop where
 outer:0<L.length→∃ b off,a=some ⟨b,off,none⟩∧b<B∧∀ r m,L[r]?=some m→w.cell? ⟨b,off+r * 4,none⟩=some (.int .i64 m.k)∧w.cell? ⟨b,off+r * 4+1,none⟩=some (.int .i64 m.a)∧w.cell? ⟨b,off+r * 4+2,none⟩=some (.int .i64 m.b)∧w.cell? ⟨b,off+r * 4+3,none⟩=some (.string (str m.t))
 inner:∀ m∈L,m.t.length≤maxLen
end
end Go.Proofs.YtalichkdeekdcaaGreatDoor
