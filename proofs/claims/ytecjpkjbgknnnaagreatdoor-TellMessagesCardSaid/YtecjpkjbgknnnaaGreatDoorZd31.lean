/- POrk -/
import Derived.Lib.AtoiTie
import Derived.Test.YtecjpkjbgknnnaaGreatDoorZd30
namespace Go.Proofs.YtecjpkjbgknnnaaGreatDoor
set_option maxRecDepth 100000
section
open Go.RowKit
open Dgs Orm
def bl (s:Bs):List UInt8:=s.map fun c=>(⟨c⟩:UInt8)
theorem bl_str (s:Bs):(str s).data.toList=bl s:=by simp [str,bl]
def rest (s:Bs):Bs:=s.drop ((word s).length+1)
end
end Go.Proofs.YtecjpkjbgknnnaaGreatDoor
