/- PIno PInb PInp PInk PInsf PFrw -/
import Derived.SizedLaws
import Derived.ProofKit
import Derived.OpenShut
import Derived.ShutString
import Derived.Deep.Matrix
import Derived.Deep.Fields
import Derived.Test.YtecjpkjbgknnnaaGreatDoorZd08
namespace Go.Proofs.YtecjpkjbgknnnaaGreatDoor
set_option maxRecDepth 100000
section
open Go.ChangeShapes Go.WideShapes Go.ChangeAt Go.RowKit Go.Deep
theorem own:ownKnob Tryz.prog.godebug=none:=by kernel_rfl
theorem laidOut:laidOutB Tryz.prog=true:=by kernel_rfl
def most:Nat:=140737488351232
end
section
open Go.ChangeShapes Go.WideShapes Go.ChangeAt Go.RowKit Go.Deep
end
section
open Go.ChangeShapes Go.WideShapes Go.ChangeAt Go.RowKit Go.Deep
structure Pcs (w:World) (B:Nat) (a:Option Addr) (n:Nat) (A:Nat→Option Addr) (Ln Cp:Nat→Nat) (T:Nat→Bs):Prop where
 outer:0<n→∃ b off,a=some ⟨b,off,none⟩∧b<B∧∀ r,r<n→w.cell? ⟨b,off+r,none⟩=some (.slice (A r) (Ln r) (Cp r))
 inner:∀ r,r<n→Bytes w B (A r) (Ln r) (T r)∧Ln r≤Cp r∧Cp r≤most
end
section
open Go.ChangeShapes Go.WideShapes Go.ChangeAt Go.RowKit Go.Deep
end
section
open Go.ChangeShapes Go.WideShapes Go.ChangeAt Go.RowKit Go.Deep
structure Frs (w:World) (B:Nat) (a:Option Addr) (n:Nat) (K:Nat→BitVec 8) (A:Nat→Option Addr) (Ln Cp:Nat→Nat) (T:Nat→Bs):Prop where
 outer:0<n→∃ b off,a=some ⟨b,off,none⟩∧b<B∧∀ r,r<n→w.cell? ⟨b,off+r * 2,none⟩=some (.int .u8 (K r).toNat)∧w.cell? ⟨b,off+r * 2+1,none⟩=some (.slice (A r) (Ln r) (Cp r))
 inner:∀ r,r<n→Bytes w B (A r) (Ln r) (T r)∧Ln r≤Cp r∧Cp r≤most
end
section
open Go.RowKit
structure Ent where
 k:BitVec 8
 A:Option Addr
 n:Nat
 c:Nat
 l:Bs
def Ent.cells (e:Ent):List Value:=[.int .u8 e.k.toNat,.slice e.A e.n e.c]
def cellsOf (es:List Ent):List Value:=es.flatMap Ent.cells
def kl (es:List Ent):List (BitVec 8×Bs):=es.map fun e=>(e.k,e.l)
structure FrRow (base:Nat) (w:World) (a:Option Addr) (n c:Nat) (es:List Ent):Prop where
 row:w.ownsRow base 139 2 (.slice a n c) n (cellsOf es)
 cap:n≤c
 ents:∀ e∈es,Bytes w w.heap.size e.A e.n e.l
def Off (S:Nat→Prop) (es:List Ent):Prop:=∀ e∈es,0<e.n→∀ p,e.A=some p→¬ S p.block
structure Fv (w:World) (B:Nat) (a:Option Addr) (n:Nat) (K:Nat→BitVec 8) (A:Nat→Option Addr) (Ln Cp:Nat→Nat) (T:Nat→Bs):Prop where
 outer:0<n→∃ b off,a=some ⟨b,off,none⟩∧b<B∧∀ r,r<n→w.cell? ⟨b,off+r * 2,none⟩=some (.int .u8 (K r).toNat)∧w.cell? ⟨b,off+r * 2+1,none⟩=some (.slice (A r) (Ln r) (Cp r))
 inner:∀ r,r<n→Bytes w B (A r) (Ln r) (T r)
end
end Go.Proofs.YtecjpkjbgknnnaaGreatDoor
