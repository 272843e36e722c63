/- POrk -/
import Derived.Lib.AtoiTie
import Derived.Test.YtalichkdeekdcaaGreatDoorZd32
namespace Go.Proofs.YtalichkdeekdcaaGreatDoor
set_option maxRecDepth 100000
section
open Go.RowKit
open Dgs Orm
def rest (s:Bs):Bs:=s.drop ((word s).length+1)
end
end Go.Proofs.YtalichkdeekdcaaGreatDoor
