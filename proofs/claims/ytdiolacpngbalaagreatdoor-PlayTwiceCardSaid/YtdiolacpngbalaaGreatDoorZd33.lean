/- POrp -/
import Derived.Deep.DeepCutAuto
import Derived.Test.YtdiolacpngbalaaGreatDoorZd05
import Derived.Test.YtdiolacpngbalaaGreatDoorZd09
import Derived.Test.YtdiolacpngbalaaGreatDoorZd32

section
namespace Go.Proofs.YtdiolacpngbalaaGreatDoor
open Go.RowKit
open Dgs Orm
structure OrJ (w wr : World) (s : Bs) (k : Nat) : Prop where
  k0 : 1≤k
  k1 : k≤12
  non : ∀ (j n : Int),j < k→¬ Is s j n
  bel : Below w.heap.size w wr
  bx : Bx w.heap.size wr #[.int .i64 0,.int .i64 0]
  ti : TI wr
end Go.Proofs.YtdiolacpngbalaaGreatDoor
end
