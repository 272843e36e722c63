/- PMsgo PVw -/
import Derived.Deep.RegionHeld3
import Derived.Lib.AppendStr
import Derived.Deep.DeepCutAuto
import Derived.Test.YtecjpkjbgknnnaaGreatDoorZd09
namespace Go.Proofs.YtecjpkjbgknnnaaGreatDoor
set_option maxRecDepth 100000
section
open Go.RowKit
open Fr Ms
structure Mid3 (k:Int) (l:Bs) (a:Option Addr) (n cap B g gl:Nat) (w w':World) (A C:Int) (s:ByteArray):Prop where
 fr:Bx g w' #[.int .u8 k,.slice a n cap]
 res:Bx (g+1) w' #[.int .i64 0,.int .i64 0,.int .i64 0,.string ⟨#[]⟩]
 msg:Bx (g+1+1) w' #[.int .i64 k,.int .i64 A,.int .i64 C,.string s]
 lay:Bx gl w' #[.int .i64 (nu k),.int .i64 (tx k)]
 bytes:Bytes w' B a n l
 below:Below g w w'
end
section
open Go.RowKit
def startOf (n room:Nat) (back:Int):Nat:=max (n - (max back 0).toNat) (n - room)
abbrev VV (p s:Nat):Array Value:=#[.int .i64 p,.int .i64 s]
end
end Go.Proofs.YtecjpkjbgknnnaaGreatDoor
