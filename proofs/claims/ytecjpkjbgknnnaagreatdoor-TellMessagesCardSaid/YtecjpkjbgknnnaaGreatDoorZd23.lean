/- PFeedw PFst -/
import Derived.Deep.DeepCutAuto
import Derived.Test.YtecjpkjbgknnnaaGreatDoorZd11
import Derived.Test.YtecjpkjbgknnnaaGreatDoorZd19
namespace Go.Proofs.YtecjpkjbgknnnaaGreatDoor
set_option maxRecDepth 100000
section
open Go.RowKit
open Fr
structure Fed (base:Nat) (w:World) (g:Nat) (a:Option Addr) (n c:Nat) (l:Bs) (e:Nat):Prop where
 head:w.heap[g]?=some (.cells #[.slice a n c,.int .i64 e] 135 (0,0))
 low:base≤g
 mid:Mid base w a n c l
 apart:¬ In a g
structure Inv (base:Nat) (w0:World) (g:Nat) (a:Option Addr) (n c:Nat) (lt:Bs) (Lf:Option Addr) (ln lc:Nat) (q:Bs) (R:Option Addr) (rn rc:Nat) (es:List Ent) (w:World):Prop where
 mid:Mid base w Lf ln lc q
 row:FrRow w0.heap.size w R rn rc es
 tells:∀ fs r,Tells q fs r→Tells lt (kl es ++ fs) r
 few:5 * rn+ln≤lt.length
 new:Off (fun b=>b<w0.heap.size) es
 offL:Off (In Lf) es
 offR:Off (In R) es
 sep:∀ p,R=some p→¬ In Lf p.block
 from_:∀ p,Lf=some p→In a p.block∨w0.heap.size≤p.block
 head:w.heap[g]?=some (.cells #[.slice a n c,.int .i64 (0:Nat)] 135 (0,0))
 only:Only (In a) w0 w
 caps:∀ e∈es,e.n≤e.c
section
variable {base g n c m e:Nat} {w w':World} {a:Option Addr} {l:Bs}
end
end
section
open Go.RowKit
open Fr
def FS (g:Nat) (a:Option Addr) (b:Nat):Prop:=b=g∨In a b
structure St (base:Nat) (w:World) (g:Nat) (l:Bs) (e:Nat) (ra:Option Addr) (rn rc:Nat) (X:Bs) (R:Option Addr) (fn fc:Nat) (es:List Ent) (a:Option Addr) (n c:Nat):Prop where
 fed:Fed base w g a n c l e
 all:Mid base w ra rn rc X
 got:FrRow base w R fn fc es
 s1:∀ b,FS g a b→¬ In ra b
 s2:∀ b,FS g a b→¬ In R b
 s3:∀ b,In ra b→¬ In R b
 s4:Off (FS g a) es
 s5:Off (In ra) es
 s6:Off (In R) es
section
variable {base g n c e rn rc fn fc:Nat} {w w':World} {l X:Bs} {ra R a:Option Addr} {es:List Ent}
structure Told (base:Nat) (w0 w:World) (g:Nat) (l:Bs) (e:Nat) (ra:Option Addr) (rn rc:Nat) (X:Bs) (R:Option Addr) (fn fc:Nat) (es:List Ent) (a:Option Addr) (n c:Nat) (R2:Option Addr) (f2 c2:Nat) (es2:List Ent):Prop where
 st:St base w g l e ra rn rc X R fn fc es a n c
 row:FrRow w0.heap.size w R2 f2 c2 es2
 off2:Off (fun b=>b<w0.heap.size∨FS g a b) es2
 old:∀ b,In ra b∨In R b→b<w0.heap.size
 size:w0.heap.size≤w.heap.size
end
end
end Go.Proofs.YtecjpkjbgknnnaaGreatDoor
