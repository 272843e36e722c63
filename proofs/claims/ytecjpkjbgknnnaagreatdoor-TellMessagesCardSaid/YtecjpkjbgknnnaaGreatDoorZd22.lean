/- PSpk -/
import Derived.Deep.DeepCutAuto
import Derived.WalkLawsBesides
import Derived.Test.YtecjpkjbgknnnaaGreatDoorZd03
import Derived.Test.YtecjpkjbgknnnaaGreatDoorZd08
namespace Go.Proofs.YtecjpkjbgknnnaaGreatDoor
set_option maxRecDepth 100000
section
open Go.RowKit
open Sp
def SV (a b:Nat) (s:Sp):Array Value:=#[.complex .f64 a b,.int .i64 (s.w - 1),.int .i64 s.q]
end
end Go.Proofs.YtecjpkjbgknnnaaGreatDoor
