/- PFom -/
import Derived.Deep.DeepCutAuto
import Derived.Test.YtecjpkjbgknnnaaGreatDoorZd15
namespace Go.Proofs.YtecjpkjbgknnnaaGreatDoor
set_option maxRecDepth 100000
section
open Go.RowKit
structure MdAt (M:Nat→Prop) (g bm:Nat) (a:Option Addr) (n c:Nat) (w:World) (s:Fl):Prop where
 bx:Bx g w #[.int .i64 s.lease,.int .i64 s.left,.map (some bm),.bool false,.slice a n c]
 rm:Rm bm w s.roles
 rw:Rw 0 w a n c (ints s.line)
 d1:bm≠g
 d2:¬ In a g
 d3:¬ In a bm
 m1:M g
 m2:M bm
 m3:∀ b,In a b→M b
 lt:∀ b,M b→b<w.heap.size
end
end Go.Proofs.YtecjpkjbgknnnaaGreatDoor
