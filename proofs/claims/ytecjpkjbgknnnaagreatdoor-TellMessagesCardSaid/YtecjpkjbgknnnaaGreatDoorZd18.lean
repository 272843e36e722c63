/- PFow -/
import Derived.Sort.Grow
import Derived.Test.YtecjpkjbgknnnaaGreatDoorZd16
namespace Go.Proofs.YtecjpkjbgknnnaaGreatDoor
set_option maxRecDepth 100000
section
open Go.RowKit
structure TaAt (z:Zo) (F:Nat→Prop) (g:Nat) (om:Option Nat) (a:Option Addr) (n c:Nat) (w:World) (t:Ta):Prop where
 bx:Bo z g w #[.map om,.int .i64 t.hold,.int .i64 t.left,.slice a n c,.int .i64 ((t.lease:Int) - 1)]
 mo:(om=none∧t.roles=[])∨∃ bm,om=some bm∧Rm bm w t.roles
 rw:Rw 0 w a n c (ints t.waits)
 d1:om≠some g
 d2:¬ In a g
 d3:∀ bm,om=some bm→¬ In a bm
 m1:F g
 m2:∀ bm,om=some bm→F bm
 m3:∀ b,In a b→F b
 lt:∀ b,F b→b<w.heap.size
 l1:1≤t.lease
 l2:t.lease≤1000
def Ta.Is (z:Zo) (F:Nat→Prop) (g:Nat) (w:World) (t:Ta):Prop:=∃ om a n c,TaAt z F g om a n c w t
end
end Go.Proofs.YtecjpkjbgknnnaaGreatDoor
