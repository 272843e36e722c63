/- PEvm PScw PFw -/
import Derived.Lib.SmallJoins
import Derived.Test.YtdpagmcickkbmaaGreatDoorZd19
import Derived.Test.YtdpagmcickkbmaaGreatDoorZd23
namespace Go.Proofs.YtdpagmcickkbmaaGreatDoor
set_option maxRecDepth 100000
section
open Go.ChangeShapes Go.WideShapes Go.ChangeAt Go.RowKit Go.Deep
open Sc (Ev evs evb rtE)
structure EvIn (w:World) (B:Nat) (a:Option Addr) (L:List Ev):Prop where
 outer:0<L.length→∃ b off,a=some ⟨b,off,none⟩∧b<B∧∀ r e,L[r]?=some e→w.cell? ⟨b,off+r * 4,none⟩=some (.int .i64 e.k)∧w.cell? ⟨b,off+r * 4+1,none⟩=some (.int .i64 e.i)∧w.cell? ⟨b,off+r * 4+2,none⟩=some (.int .i64 e.n)∧w.cell? ⟨b,off+r * 4+3,none⟩=some (.string (str e.t))
 inner:∀ e∈L,e.t.length≤maxLen
end
section
open Go.RowKit
open Sc
structure Grew (w w':World) (A A':Option Addr):Prop where
 only:Only (In A) w w'
 place:∀ p,A'=some p→In A p.block∨w.heap.size≤p.block
theorem Grew.refl (w:World) (A:Option Addr):Grew w w A A:=⟨Only.refl _ _,fun p hp=>.inl ⟨p,hp,rfl⟩⟩
theorem grew_of {w w':World} {A A2:Option Addr} {n m c c2:Nat} (h2:w.grownBy w' (Value.slice A n c).ownBlock) (h3:(Value.slice A2 m c2).ownBlock=(Value.slice A n c).ownBlock∨(Value.slice A2 m c2).ownBlock=some w.heap.size):Grew w w' A A2:=by
 refine ⟨Only.grown h2 (fun k hk _=>?_),fun p hp=>?_⟩
 ·rcases A with _ | p
  ·simp [Value.ownBlock] at hk
  ·simp [Value.ownBlock] at hk
   exact ⟨p,rfl,hk⟩
 ·subst hp
  rcases h3 with h5 | h5
  ·left
   rcases A with _ | q
   ·simp [Value.ownBlock] at h5
   ·simp [Value.ownBlock] at h5
    exact ⟨q,rfl,h5.symm⟩
  ·right
   simp [Value.ownBlock] at h5;omega
end
section
open Go.RowKit
open Sc
def tot (L:List Ev):Nat:=(L.map fun e=>e.t.length).sum
end
end Go.Proofs.YtdpagmcickkbmaaGreatDoor
