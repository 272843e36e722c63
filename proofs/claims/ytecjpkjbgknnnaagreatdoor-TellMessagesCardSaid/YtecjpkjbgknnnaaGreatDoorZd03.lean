/- PFl -/
import Derived.Laws.ComplexArith
namespace Go.Proofs.YtecjpkjbgknnnaaGreatDoor
set_option maxRecDepth 100000
section
open Ieee
def Rep (r:Nat) (n:Int):Prop:=
 ∃ (s:Bool) (k:Nat),double.read r = .number s (n.natAbs * 2 ^ k) (-(k:Int))∧(0<n→s=false)∧(n<0→s=true)
def RepC (a b:Nat) (n m:Int):Prop:=Rep a n∧Rep b m
end
end Go.Proofs.YtecjpkjbgknnnaaGreatDoor
