/- POrp -/
import Derived.Deep.DeepCutAuto
import Derived.Test.YtecjpkjbgknnnaaGreatDoorZd29
namespace Go.Proofs.YtecjpkjbgknnnaaGreatDoor
set_option maxRecDepth 100000
section
open Go.RowKit
open Dgs Orm
structure OrJ (w wr:World) (s:Bs) (k:Nat):Prop where
 k0:1≤k
 k1:k≤12
 non:∀ (j n:Int),j<k→¬ Is s j n
 bel:Below w.heap.size w wr
 bx:Bx w.heap.size wr #[.int .i64 0,.int .i64 0]
 ti:TI wr
end
end Go.Proofs.YtecjpkjbgknnnaaGreatDoor
