/- PEvm PScw PFw -/
import Derived.Lib.SmallJoins
import Derived.Test.YtalichkdeekdcaaGreatDoorZd15
import Derived.Test.YtalichkdeekdcaaGreatDoorZd19
namespace Go.Proofs.YtalichkdeekdcaaGreatDoor
set_option maxRecDepth 100000
section
open Go.ChangeShapes Go.WideShapes Go.ChangeAt Go.RowKit Go.Deep
open Sc (Ev evs evb rtE)
def evc (e:Ev):List Value:=[.int .i64 e.k,.int .i64 e.i,.int .i64 e.n,.string (str e.t)]
def ecells (L:List Ev):List Value:=L.flatMap evc
structure EvIn (w:World) (B:Nat) (a:Option Addr) (L:List Ev):Prop where
 outer:0<L.length→∃ b off,a=some ⟨b,off,none⟩∧b<B∧∀ r e,L[r]?=some e→w.cell? ⟨b,off+r * 4,none⟩=some (.int .i64 e.k)∧w.cell? ⟨b,off+r * 4+1,none⟩=some (.int .i64 e.i)∧w.cell? ⟨b,off+r * 4+2,none⟩=some (.int .i64 e.n)∧w.cell? ⟨b,off+r * 4+3,none⟩=some (.string (str e.t))
 inner:∀ e∈L,e.t.length≤maxLen
structure EvRow (base:Nat) (w:World) (a:Option Addr) (n c:Nat) (L:List Ev):Prop where
 row:w.ownsRow base 30 4 (.slice a n c) n (ecells L)
 cap:n≤c
 inner:∀ e∈L,e.t.length≤maxLen
end
section
open Go.RowKit
open Sc
structure Grew (w w':World) (A A':Option Addr):Prop where
 only:Only (In A) w w'
 place:∀ p,A'=some p→In A p.block∨w.heap.size≤p.block
end
section
open Go.RowKit
open Sc
def tot (L:List Ev):Nat:=(L.map fun e=>e.t.length).sum
end
end Go.Proofs.YtalichkdeekdcaaGreatDoor
