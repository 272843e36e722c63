/- PTs PScd -/
import Derived.Deep.CutBlock
import Derived.Test.YtalichkdeekdcaaGreatDoorZd07
import Derived.Test.YtalichkdeekdcaaGreatDoorZd10
import Derived.Test.YtalichkdeekdcaaGreatDoorZd29
namespace Go.Proofs.YtalichkdeekdcaaGreatDoor
set_option maxRecDepth 100000
section
open Go.RowKit
open Fr Bk
def sayE (id:Int) (m:M):Sc.Ev:=⟨1,id,0,enc m⟩
def allE (id:Int):Sc.Ev:=⟨2,id,65536,[]⟩
end
section
open Go.RowKit
open Sc
structure Sofar (r:Bs) (L:List Ev) (m:Nat):Prop where
 le:m≤r.length
 bytes:r.take m=evs L
 right:∀ x∈L,rtE x=true
 many:L.length≤8192
end
end Go.Proofs.YtalichkdeekdcaaGreatDoor
