/- PLinew PRingx -/
import Derived.Deep.LoopGhost
import Derived.Test.YtecjpkjbgknnnaaGreatDoorZd08
namespace Go.Proofs.YtecjpkjbgknnnaaGreatDoor
set_option maxRecDepth 100000
section
open Go.RowKit
open Rg
def Begins (b0:Nat) (L:Bs) (off:Int) (i:Nat):Prop:=off≤i∧(i=0∨(b0<i∧L[i - 1]?=some 10#8))
def IsLine (b0:Nat) (L:Bs) (off:Int) (r:Nat):Prop:=
 r≤L.length∧(r<L.length→b0≤r∧Begins b0 L off r)∧∀ i,b0≤i→i<r→¬ Begins b0 L off i
end
section
open Go.RowKit
open Rg
end
end Go.Proofs.YtecjpkjbgknnnaaGreatDoor
