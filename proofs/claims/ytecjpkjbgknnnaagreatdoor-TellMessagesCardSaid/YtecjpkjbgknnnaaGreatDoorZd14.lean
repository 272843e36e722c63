/- PMm -/
import Derived.Test.YtecjpkjbgknnnaaGreatDoorZd06
import Derived.Test.YtecjpkjbgknnnaaGreatDoorZd12
namespace Go.Proofs.YtecjpkjbgknnnaaGreatDoor
set_option maxRecDepth 100000
section
open Go.RowKit
open Bk (M)
def msc (e:M):List Value:=[.int .i64 e.k,.int .i64 e.a,.int .i64 e.b,.string (str e.t)]
def mscells (L:List M):List Value:=L.flatMap msc
structure MsgIn (w:World) (B:Nat) (a:Option Addr) (L:List M):Prop where
 outer:0<L.length→∃ b off,a=some ⟨b,off,none⟩∧b<B∧∀ r e,L[r]?=some e→w.cell? ⟨b,off+r * 4,none⟩=some (.int .i64 e.k)∧w.cell? ⟨b,off+r * 4+1,none⟩=some (.int .i64 e.a)∧w.cell? ⟨b,off+r * 4+2,none⟩=some (.int .i64 e.b)∧w.cell? ⟨b,off+r * 4+3,none⟩=some (.string (str e.t))
 inner:∀ e∈L,e.t.length≤maxLen
structure MsgRow (base:Nat) (w:World) (a:Option Addr) (n c:Nat) (L:List M):Prop where
 row:w.ownsRow base 24 4 (.slice a n c) n (mscells L)
 cap:n≤c
 inner:∀ e∈L,e.t.length≤maxLen
theorem own_belowk {base e k n:Nat} {v:Value} {xs:List Value} {w w':World} (h:w.ownsRow base e k v n xs) (hb:Below w.heap.size w w'):w'.ownsRow base e k v n xs:=by
 refine ⟨h.1,?_⟩
 rcases h.2 with h1 | ⟨g,cap,cur,h1,h2,h3,h4⟩
 ·exact .inl h1
 ·refine .inr ⟨g,cap,cur,h1,h2,?_,h4⟩
  have hlt:g<w.heap.size:=by
   rcases Nat.lt_or_ge g w.heap.size with h' | h'
   ·exact h'
   ·rw [Array.getElem?_eq_none h'] at h3; cases h3
  exact (hb.block g hlt).trans h3
end
end Go.Proofs.YtecjpkjbgknnnaaGreatDoor
