/- POrt -/
import Derived.Test.YtecjpkjbgknnnaaGreatDoorZd02
import Derived.Test.YtecjpkjbgknnnaaGreatDoorZd08
import Derived.Test.YtecjpkjbgknnnaaGreatDoorZd28
namespace Go.Proofs.YtecjpkjbgknnnaaGreatDoor
set_option maxRecDepth 100000
section
open Go.RowKit
open Dgs Orm
structure TI (w:World):Prop where
 tab:Lib.TabIs Tryz.prog w "internal/strconv.uint64pow10" .u64 Lib.pow10Tab
 words:∀ k,k<12→w.cell? ⟨5,k,none⟩=some (.string (str (wd k)))
 es:∃ tp p,w.var? Tryz.prog "strconv.ErrSyntax" = some #[.iface tp p]
 er:∃ tp p,w.var? Tryz.prog "strconv.ErrRange" = some #[.iface tp p]
theorem var_below {P:Program} {n:String} {cs:Array Value} {w w':World} (h:w.var? P n=some cs) (hb:Below w.heap.size w w'):w'.var? P n=some cs:=by
  unfold World.var? at *
  cases hg:P.globalNamed n with
  | none=>simp [hg] at h
  | some g =>
    simp only [hg,Option.bind_some] at h ⊢
    have hlt:g<w.heap.size:=by
      rcases Nat.lt_or_ge g w.heap.size with h' | h'
      · exact h'
      · rw [Array.getElem?_eq_none h'] at h; simp at h
    rw [hb.block g hlt];exact h
theorem TI.below {w w':World} (h:TI w) (hb:Below w.heap.size w w'):TI w':=by
 refine ⟨var_below h.tab hb,fun k hk=>?_,?_,?_⟩
 ·have h1:=h.words k hk
  exact (hb.cell (cell_lt h1)).trans h1
 ·obtain ⟨tp,p,h1⟩:=h.es
  exact ⟨tp,p,var_below h1 hb⟩
 ·obtain ⟨tp,p,h1⟩:=h.er
  exact ⟨tp,p,var_below h1 hb⟩
theorem below_grow (w:World) (k:Nat) (os:Array Obj):Below w.heap.size w (Sort.grow (w.drewN k) os):=
 ⟨rfl,rfl,rfl,by simp,fun i hi=>Sort.heap_grow_old (w.drewN k) os hi⟩
end
end Go.Proofs.YtecjpkjbgknnnaaGreatDoor
