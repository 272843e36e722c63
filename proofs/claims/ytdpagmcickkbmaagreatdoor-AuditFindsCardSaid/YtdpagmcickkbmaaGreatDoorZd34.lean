/- POrt -/
import Derived.Test.YtdpagmcickkbmaaGreatDoorZd02
import Derived.Test.YtdpagmcickkbmaaGreatDoorZd10
import Derived.Test.YtdpagmcickkbmaaGreatDoorZd33
namespace Go.Proofs.YtdpagmcickkbmaaGreatDoor
set_option maxRecDepth 100000
section
open Go.RowKit
open Dgs Orm
structure TI (w:World):Prop where
 tab:Lib.TabIs Tryz.prog w "internal/strconv.uint64pow10" .u64 Lib.pow10Tab
 words:∀ k,k<12→w.cell? ⟨1,k,none⟩=some (.string (str (wd k)))
 es:∃ tp p,w.var? Tryz.prog "strconv.ErrSyntax" = some #[.iface tp p]
 er:∃ tp p,w.var? Tryz.prog "strconv.ErrRange" = some #[.iface tp p]
theorem var_below {P:Program} {n:String} {cs:Array Value} {w w':World} (h:w.var? P n=some cs) (hb:Below w.heap.size w w'):w'.var? P n=some cs:=by
  unfold World.var? at *
  cases hg:P.globalNamed n with
  | none=>simp [hg] at h
  | some g =>
    simp only [hg,Option.bind_some] at h ⊢
    have hlt:g<w.heap.size:=by
      rcases Nat.lt_or_ge g w.heap.size with h' | h'
      · exact h'
      · rw [Array.getElem?_eq_none h'] at h; simp at h
    rw [hb.block g hlt];exact h
theorem TI.below {w w':World} (h:TI w) (hb:Below w.heap.size w w'):TI w':=by
 refine ⟨var_below h.tab hb,fun k hk=>?_,?_,?_⟩
 ·have h1:=h.words k hk
  exact (hb.cell (cell_lt h1)).trans h1
 ·obtain ⟨tp,p,h1⟩:=h.es
  exact ⟨tp,p,var_below h1 hb⟩
 ·obtain ⟨tp,p,h1⟩:=h.er
  exact ⟨tp,p,var_below h1 hb⟩
theorem below_grow (w:World) (k:Nat) (os:Array Obj):Below w.heap.size w (Sort.grow (w.drewN k) os):=
 ⟨rfl,rfl,rfl,by simp,fun i hi=>Sort.heap_grow_old (w.drewN k) os hi⟩
theorem itoa_str (n:Int) (h:0≤n):(⟨(Lib.itoa n).toArray⟩:ByteArray)=str (dgs n.toNat):=by
 have e:Lib.itoa n=Lib.decDigits n.toNat:=by
  have:=Lib.itoa_nonneg n.toNat
  rwa [show ((n.toNat:Nat):Int)=n by omega] at this
 rw [e,← dgs_lib];unfold str;rw [List.map_map]
 show _=(⟨(List.map id (Lib.decDigits n.toNat)).toArray⟩:ByteArray)
 simp
theorem fmt_any (n:Int) (h0:0≤n) (h1:n≤9223372036854775807) (w:World) (ht:TI w) :
  Calls Tryz.prog 172 #[.int .i64 n,.int .i64 10] w fun e w'=>e = .returned (.string (str (dgs n.toNat)))∧Below w.heap.size w w':=by
 refine (Tryz.strconv_FormatInt_10 n (by omega) h1 w ht.tab).mono ?_;rintro e w' ⟨rfl,k,os,rfl⟩;exact ⟨by rw [itoa_str n h0],below_grow w k os⟩
def TextGives (w:World) (s:Bs) (e:Ending) (w':World):Prop:=e = .returned (.string (str s))∧Below w.heap.size w w'
end
end Go.Proofs.YtdpagmcickkbmaaGreatDoor
