/- POutv PGetw -/
import Derived.Deep.RegionHeld3
import Derived.Test.YtecjpkjbgknnnaaGreatDoorZd08
namespace Go.Proofs.YtecjpkjbgknnnaaGreatDoor
set_option maxRecDepth 100000
section
open Go.RowKit
structure Que (z:Zo) (R:List Value) (base:Nat) (w:World) (g size:Nat) (a:Option Addr) (n c:Nat) (l:Bs):Prop where
 bx:Bo z g w (.int .i64 size :: .slice a n c :: R).toArray
 low:base≤g
 small:size≤65536
 few:n≤size
 mid:Mid base w a n c l
 apart:¬ In a g
section
variable {z:Zo} {R:List Value} {base g size n c:Nat} {a:Option Addr} {l:Bs}
def takes (t:Int) (n:Nat):Nat:=(min (max t 0) n).toNat
end
end
section
open Go.RowKit
open Fr
open Crc (more)
structure Res (w:World) (g:Nat) (W:World):Prop where
 below:Below w.heap.size w W
 eq:w.heap.size=g
 room:g<W.heap.size
 c0:W.cell? ⟨g,0,none⟩=some (.int .u8 0)
 c1:W.cell? ⟨g,1,none⟩=some (.slice none 0 0)
 f0:W.frozen? ⟨g,0,none⟩=false
 f1:W.frozen? ⟨g,1,none⟩=false
end
end Go.Proofs.YtecjpkjbgknnnaaGreatDoor
