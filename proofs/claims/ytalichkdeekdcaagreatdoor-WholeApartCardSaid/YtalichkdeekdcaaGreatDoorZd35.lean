/- POrp -/
import Derived.Deep.DeepCutAuto
import Derived.Test.YtalichkdeekdcaaGreatDoorZd05
import Derived.Test.YtalichkdeekdcaaGreatDoorZd10
import Derived.Test.YtalichkdeekdcaaGreatDoorZd34
section
namespace Go.Proofs.YtalichkdeekdcaaGreatDoor
open Go.RowKit
open Dgs Orm
structure OrJ (w wr:World) (s:Bs) (k:Nat):Prop where
 k0:1≤k
 k1:k≤12
 non:∀ (j n:Int),j<k→¬ Is s j n
 bel:Below w.heap.size w wr
 bx:Bx w.heap.size wr #[.int .i64 0,.int .i64 0]
 ti:TI wr
end Go.Proofs.YtalichkdeekdcaaGreatDoor
end
