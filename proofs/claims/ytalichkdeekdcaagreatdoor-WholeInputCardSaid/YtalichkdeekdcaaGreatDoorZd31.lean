/- POrt -/
import Derived.Shelf.Strconv.Itoa4
import Derived.Shelf.Strconv.ErrVarParseInt
import Derived.Shelf.Strings.Shaped
import Derived.Shelf.Sort.Plain
import Derived.Shelf.Slices.Turned
import Derived.Shelf.Slices.In.SortNone
import Derived.Shelf.SlicesE.DeleteFunc
import Derived.Test.YtalichkdeekdcaaGreatDoorZd02
import Derived.Test.YtalichkdeekdcaaGreatDoorZd08
namespace Go.Proofs.YtalichkdeekdcaaGreatDoor
set_option maxRecDepth 100000
section
open Go.RowKit
open Dgs Orm
structure TI (w:World):Prop where
 tab:Lib.TabIs Tryz.prog w "internal/strconv.uint64pow10" .u64 Lib.pow10Tab
 words:∀ k,k<12→w.cell? ⟨1,k,none⟩=some (.string (str (wd k)))
 es:∃ tp p,w.var? Tryz.prog "strconv.ErrSyntax" = some #[.iface tp p]
 er:∃ tp p,w.var? Tryz.prog "strconv.ErrRange" = some #[.iface tp p]
end
end Go.Proofs.YtalichkdeekdcaaGreatDoor
