/- PWor PBase PMid PRw PRingw PFramew -/
import Derived.Test.YtalichkdeekdcaaGreatDoorRows
import Derived.Lib.SliceRun
import Derived.Lib.SlBytesConst
import Derived.BigQuiet
import Derived.StillTailTactics
import Derived.Deep.Upon
import Derived.Test.YtalichkdeekdcaaGreatDoorZd01
import Derived.Test.YtalichkdeekdcaaGreatDoorZd04
import Derived.Test.YtalichkdeekdcaaGreatDoorZd05
namespace Go.Proofs.YtalichkdeekdcaaGreatDoor
set_option maxRecDepth 100000
section
open Go.RowKit
def In (a:Option Addr) (b:Nat):Prop:=∃ p,a=some p∧p.block=b
end
section
open Go.RowKit
abbrev Bs:=List (BitVec 8)
structure Own (base:Nat) (w:World) (a:Option Addr) (n c:Nat) (l:Bs):Prop where
 row:w.ownsRow base 5 1 (.slice a n c) n (l.map by8)
 cap:n≤c
def str (l:Bs):ByteArray:=⟨(l.map fun c=>(⟨c⟩:UInt8)).toArray⟩
end
section
open Go.RowKit
structure Mid (base:Nat) (w:World) (a:Option Addr) (n c:Nat) (l:Bs):Prop where
 len:l.length=n
 cap:n≤c
 max:c≤maxLen
 lies:(a=none∧c=0)∨∃ g off,a=some ⟨g,off,none⟩∧base≤g∧g<w.heap.size ∧
  (∀ j,j<n→w.cell? ⟨g,off+j,none⟩=some (.int .u8 (l[j]?.getD 0#8).toNat)) ∧
  ∀ j,j<c→(w.cell? ⟨g,off+j,none⟩).isSome=true∧w.frozen? ⟨g,off+j,none⟩=false
end
section
open Go.RowKit
structure Elem (st e:TypeId) (z:Value) (wd:Nat):Prop where
 und:Tryz.prog.underlying st=some (.slice e)
 info:∃ i,Tryz.prog.info? e=some i∧i.zero=some z∧i.size=1∧i.bytes=wd
 zc:z.cells = #[z]
 pos:1≤wd
def Vals (w:World) (B:Nat) (a:Option Addr) (n:Nat) (vs:List Value):Prop:=
 vs.length=n∧(∀ v∈vs,v.oneCell'=true)∧(0<n→∃ b off,a=some ⟨b,off,none⟩∧b<B∧∀ i v,vs[i]?=some v→w.cell? ⟨b,off+i,none⟩=some v)
structure Rw (base:Nat) (w:World) (a:Option Addr) (n c:Nat) (vs:List Value):Prop where
 len:vs.length=n
 cap:n≤c
 max:c≤maxLen
 one:∀ v∈vs,v.oneCell'=true
 lies:(a=none∧c=0)∨∃ g off,a=some ⟨g,off,none⟩∧base≤g∧g<w.heap.size ∧
  (∀ j v,vs[j]?=some v→w.cell? ⟨g,off+j,none⟩=some v) ∧
  ∀ j,j<c→(w.cell? ⟨g,off+j,none⟩).isSome=true∧w.frozen? ⟨g,off+j,none⟩=false
def ints (l:List Int):List Value:=l.map (Value.int .i64)
end
section
open Go.RowKit
open Rg
structure Raw (z:Zo) (w:World) (gr gk room:Nat) (c:Bs) (e:Nat):Prop where
 len:c.length=room
 pos:0<room
 small:room≤65536
 few:e≤1099511627776
 ne:gr≠gk
 head:Bo z gr w #[.int .i64 e,.slice (some ⟨gk,0,none⟩) room room]
 body:w.heap[gk]?=some (.cells (c.map by8).toArray 5 (0,0))
end
section
open Go.RowKit
open Fr
structure Box (g:Nat) (W w:World) (k:BitVec 8) (a:Option Addr) (n c:Nat):Prop where
 below:Below (g+1) W w
 room:g+1≤w.heap.size
 kind:w.cell? ⟨g,0,none⟩=some (.int .u8 k.toNat)
 body:w.cell? ⟨g,1,none⟩=some (.slice a n c)
end
end Go.Proofs.YtalichkdeekdcaaGreatDoor
