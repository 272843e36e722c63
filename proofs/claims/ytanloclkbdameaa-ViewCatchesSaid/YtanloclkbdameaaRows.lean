/-
  No cell of these rows narrows 'for every input' (looked for: loops, veiled, ifaces, maps, wideKeys, modest, calm, conditions, laid).
  DERIVED. THE GIVEN ROWS OF THIS SEAT. 6 by the template 'for every input the law returns true; each argument reads behind the call as it read before'; 0 by the template 'total and deterministic' (their statements: YtanloclkbdameaaTotals.lean).
  GIVEN WITH THE SEED: the statements are not yours to turn. If you find one false, say at which input.
  Laid BY PROGRAM, IN A SANDBOX (cutbox-rows.mjs): the forced cells as the released guide's own fill.sh prints them over the translation 58a5a9b76b5987ad… (all of the seat's roots in one cut). By AI agents, Wed Nov 11 2026. No macro, syntax, notation, axiom, sorry.
-/
import Derived.Test.YtanloclkbdameaaChecked
import GoSem.Claim
import GoSem.ClaimJoined
import GoSem.ClaimMapViews
import Derived.JoinedTies
import Derived.KernelRfl
namespace Go.Proofs.Ytanloclkbdameaa
/- THE CELL 'sum', in the pinned program and in every row, IS THE sha256 OF THE DUMP (.gsa) THAT YtanloclkbdameaaProg.lean LOADS. Nothing in Lean hashes anything: it is a label: what it is worth is what the hold of that sum in a sandbox is worth. -/
noncomputable def Try.pinned : Pinned := { name := "ytanloclkbdameaa", sum := "58a5a9b76b5987ad8ca693cc8516cd44879edd9b69b437ff6d5e53f58053b285", checked := Try.checked }
namespace Rows
def none {H : Type} : Left H := { results := [], args := [] }

/-- 'kibitzerlaw11.InqActs': WHATEVER THE INPUT: true; the input reads as it did. -/
def inqActsSpec : ChangeSpec := { name := "inqActs", fn := fun _ => fun
  | [d1, d2] => { results := [.lit (.bool true)], args := [d1, d2] }
  | _ => none }
def inqActsRow : OpenClaim := { program := "ytanloclkbdameaa", sum := "58a5a9b76b5987ad8ca693cc8516cd44879edd9b69b437ff6d5e53f58053b285", func := "kibitzer/kibitzerlaw11.InqActs", spec := "inqActs", unfollowed := true, recurses := true, apart := false }
def InqActsSaid : Prop := inqActsRow.holds Try.pinned (OpenSpec.ofChange inqActsSpec)

/-- ITS FALSE NEIGHBOUR: 'it returns false'. Refute it at one input. -/
def inqActsWrong : ChangeSpec := { name := "inqActs", fn := fun _ => fun
  | [d1, d2] => { results := [.lit (.bool false)], args := [d1, d2] }
  | _ => none }
def InqActsWrongFalsely : Prop := inqActsRow.holds Try.pinned (OpenSpec.ofChange inqActsWrong)

/-- 'kibitzerlaw11.InqWhole': WHATEVER THE INPUT: true; the input reads as it did. -/
def inqWholeSpec : ChangeSpec := { name := "inqWhole", fn := fun _ => fun
  | [d] => { results := [.lit (.bool true)], args := [d] }
  | _ => none }
def inqWholeRow : OpenClaim := { program := "ytanloclkbdameaa", sum := "58a5a9b76b5987ad8ca693cc8516cd44879edd9b69b437ff6d5e53f58053b285", func := "kibitzer/kibitzerlaw11.InqWhole", spec := "inqWhole", unfollowed := true, recurses := true, apart := false }
def InqWholeSaid : Prop := inqWholeRow.holds Try.pinned (OpenSpec.ofChange inqWholeSpec)

/-- ITS FALSE NEIGHBOUR: 'it returns false'. Refute it at one input. -/
def inqWholeWrong : ChangeSpec := { name := "inqWhole", fn := fun _ => fun
  | [d] => { results := [.lit (.bool false)], args := [d] }
  | _ => none }
def InqWholeWrongFalsely : Prop := inqWholeRow.holds Try.pinned (OpenSpec.ofChange inqWholeWrong)

/-- 'kibitzerlaw11.InqEnds': WHATEVER THE INPUT: true; the input reads as it did. -/
def inqEndsSpec : ChangeSpec := { name := "inqEnds", fn := fun _ => fun
  | [d1, d2, d3, d4] => { results := [.lit (.bool true)], args := [d1, d2, d3, d4] }
  | _ => none }
def inqEndsRow : OpenClaim := { program := "ytanloclkbdameaa", sum := "58a5a9b76b5987ad8ca693cc8516cd44879edd9b69b437ff6d5e53f58053b285", func := "kibitzer/kibitzerlaw11.InqEnds", spec := "inqEnds", unfollowed := true, recurses := true, apart := false }
def InqEndsSaid : Prop := inqEndsRow.holds Try.pinned (OpenSpec.ofChange inqEndsSpec)

/-- ITS FALSE NEIGHBOUR: 'it returns false'. Refute it at one input. -/
def inqEndsWrong : ChangeSpec := { name := "inqEnds", fn := fun _ => fun
  | [d1, d2, d3, d4] => { results := [.lit (.bool false)], args := [d1, d2, d3, d4] }
  | _ => none }
def InqEndsWrongFalsely : Prop := inqEndsRow.holds Try.pinned (OpenSpec.ofChange inqEndsWrong)

/-- 'kibitzerlaw12.ViewTiles': WHATEVER THE INPUT: true; the input reads as it did. -/
def viewTilesSpec : ChangeSpec := { name := "viewTiles", fn := fun _ => fun
  | [d1, d2, d3, d4] => { results := [.lit (.bool true)], args := [d1, d2, d3, d4] }
  | _ => none }
def viewTilesRow : OpenClaim := { program := "ytanloclkbdameaa", sum := "58a5a9b76b5987ad8ca693cc8516cd44879edd9b69b437ff6d5e53f58053b285", func := "kibitzer/kibitzerlaw12.ViewTiles", spec := "viewTiles", apart := false }
def ViewTilesSaid : Prop := viewTilesRow.holds Try.pinned (OpenSpec.ofChange viewTilesSpec)

/-- ITS FALSE NEIGHBOUR: 'it returns false'. Refute it at one input. -/
def viewTilesWrong : ChangeSpec := { name := "viewTiles", fn := fun _ => fun
  | [d1, d2, d3, d4] => { results := [.lit (.bool false)], args := [d1, d2, d3, d4] }
  | _ => none }
def ViewTilesWrongFalsely : Prop := viewTilesRow.holds Try.pinned (OpenSpec.ofChange viewTilesWrong)

/-- 'kibitzerlaw12.ViewCatches': WHATEVER THE INPUT: true; the input reads as it did. -/
def viewCatchesSpec : ChangeSpec := { name := "viewCatches", fn := fun _ => fun
  | [d1, d2] => { results := [.lit (.bool true)], args := [d1, d2] }
  | _ => none }
def viewCatchesRow : OpenClaim := { program := "ytanloclkbdameaa", sum := "58a5a9b76b5987ad8ca693cc8516cd44879edd9b69b437ff6d5e53f58053b285", func := "kibitzer/kibitzerlaw12.ViewCatches", spec := "viewCatches", apart := false }
def ViewCatchesSaid : Prop := viewCatchesRow.holds Try.pinned (OpenSpec.ofChange viewCatchesSpec)

/-- ITS FALSE NEIGHBOUR: 'it returns false'. Refute it at one input. -/
def viewCatchesWrong : ChangeSpec := { name := "viewCatches", fn := fun _ => fun
  | [d1, d2] => { results := [.lit (.bool false)], args := [d1, d2] }
  | _ => none }
def ViewCatchesWrongFalsely : Prop := viewCatchesRow.holds Try.pinned (OpenSpec.ofChange viewCatchesWrong)

/-- 'kibitzerlaw12.ViewLines': WHATEVER THE INPUT: true; the input reads as it did. -/
def viewLinesSpec : ChangeSpec := { name := "viewLines", fn := fun _ => fun
  | [d1, d2, d3] => { results := [.lit (.bool true)], args := [d1, d2, d3] }
  | _ => none }
def viewLinesRow : OpenClaim := { program := "ytanloclkbdameaa", sum := "58a5a9b76b5987ad8ca693cc8516cd44879edd9b69b437ff6d5e53f58053b285", func := "kibitzer/kibitzerlaw12.ViewLines", spec := "viewLines", apart := false }
def ViewLinesSaid : Prop := viewLinesRow.holds Try.pinned (OpenSpec.ofChange viewLinesSpec)

/-- ITS FALSE NEIGHBOUR: 'it returns false'. Refute it at one input. -/
def viewLinesWrong : ChangeSpec := { name := "viewLines", fn := fun _ => fun
  | [d1, d2, d3] => { results := [.lit (.bool false)], args := [d1, d2, d3] }
  | _ => none }
def ViewLinesWrongFalsely : Prop := viewLinesRow.holds Try.pinned (OpenSpec.ofChange viewLinesWrong)

/- THE SECOND FORM. 'bulk': how many values and letters a reading holds, each counted each time it is reached (what is shared counts as often as it is met; a slice's spare places count too). A statement '..UptoSaid' is the law's where the arguments, and the package variables that the reading takes, are together of bulk at most 1048576: NARROWER than '..Said'. Prove '..Said' where nothing that the law and all that it calls make is longer than what came in: it says more and counts as full. Else prove '..UptoSaid'. A law counts once. -/
mutual
def uptoBulk {H : Type} : DataW H → Nat
  | .lit (.string bytes) => bytes.length + 1
  | .lit _ => 1
  | .nil => 1
  | .ptr d => uptoBulk d + 1
  | .slice elems spare => uptoBulkAll elems + uptoBulkAll spare + 1
  | .agg parts => uptoBulkAll parts + 1
  | .iface _ d => uptoBulk d + 1
  | .map entries => uptoBulkEntries entries + 1
  | .held _ => 1
def uptoBulkAll {H : Type} : List (DataW H) → Nat
  | [] => 0
  | d :: r => uptoBulk d + uptoBulkAll r
def uptoBulkEntries {H : Type} : List (Lit × DataW H) → Nat
  | [] => 0
  | x :: r => uptoBulkEntry x + uptoBulkEntries r
def uptoBulkEntry {H : Type} : Lit × DataW H → Nat
  | (.string bytes, d) => bytes.length + uptoBulk d + 1
  | (_, d) => uptoBulk d + 1
 end
def uptoSmall : (H : Type) → List (DataW H) → Bool := fun _ ds => decide (uptoBulkAll ds ≤ 1048576)
def OpenSpec.upto (s : _root_.Go.ChangeSpec) : _root_.Go.OpenSpec := { _root_.Go.OpenSpec.ofChange s with cond := some uptoSmall }

/-- 'kibitzerlaw11.InqActs', WHERE WHAT IT READS IS OF BULK AT MOST 1048576: true; the input reads as it did. -/
def inqActsUptoRow : OpenClaim := { program := "ytanloclkbdameaa", sum := "58a5a9b76b5987ad8ca693cc8516cd44879edd9b69b437ff6d5e53f58053b285", func := "kibitzer/kibitzerlaw11.InqActs", spec := "inqActs", unfollowed := true, recurses := true, apart := false, narrowed := true }
def InqActsUptoSaid : Prop := inqActsUptoRow.holds Try.pinned (OpenSpec.upto inqActsSpec)

/-- 'kibitzerlaw11.InqWhole', WHERE WHAT IT READS IS OF BULK AT MOST 1048576: true; the input reads as it did. -/
def inqWholeUptoRow : OpenClaim := { program := "ytanloclkbdameaa", sum := "58a5a9b76b5987ad8ca693cc8516cd44879edd9b69b437ff6d5e53f58053b285", func := "kibitzer/kibitzerlaw11.InqWhole", spec := "inqWhole", unfollowed := true, recurses := true, apart := false, narrowed := true }
def InqWholeUptoSaid : Prop := inqWholeUptoRow.holds Try.pinned (OpenSpec.upto inqWholeSpec)

/-- 'kibitzerlaw11.InqEnds', WHERE WHAT IT READS IS OF BULK AT MOST 1048576: true; the input reads as it did. -/
def inqEndsUptoRow : OpenClaim := { program := "ytanloclkbdameaa", sum := "58a5a9b76b5987ad8ca693cc8516cd44879edd9b69b437ff6d5e53f58053b285", func := "kibitzer/kibitzerlaw11.InqEnds", spec := "inqEnds", unfollowed := true, recurses := true, apart := false, narrowed := true }
def InqEndsUptoSaid : Prop := inqEndsUptoRow.holds Try.pinned (OpenSpec.upto inqEndsSpec)

/-- 'kibitzerlaw12.ViewTiles', WHERE WHAT IT READS IS OF BULK AT MOST 1048576: true; the input reads as it did. -/
def viewTilesUptoRow : OpenClaim := { program := "ytanloclkbdameaa", sum := "58a5a9b76b5987ad8ca693cc8516cd44879edd9b69b437ff6d5e53f58053b285", func := "kibitzer/kibitzerlaw12.ViewTiles", spec := "viewTiles", apart := false, narrowed := true }
def ViewTilesUptoSaid : Prop := viewTilesUptoRow.holds Try.pinned (OpenSpec.upto viewTilesSpec)

/-- 'kibitzerlaw12.ViewCatches', WHERE WHAT IT READS IS OF BULK AT MOST 1048576: true; the input reads as it did. -/
def viewCatchesUptoRow : OpenClaim := { program := "ytanloclkbdameaa", sum := "58a5a9b76b5987ad8ca693cc8516cd44879edd9b69b437ff6d5e53f58053b285", func := "kibitzer/kibitzerlaw12.ViewCatches", spec := "viewCatches", apart := false, narrowed := true }
def ViewCatchesUptoSaid : Prop := viewCatchesUptoRow.holds Try.pinned (OpenSpec.upto viewCatchesSpec)

/-- 'kibitzerlaw12.ViewLines', WHERE WHAT IT READS IS OF BULK AT MOST 1048576: true; the input reads as it did. -/
def viewLinesUptoRow : OpenClaim := { program := "ytanloclkbdameaa", sum := "58a5a9b76b5987ad8ca693cc8516cd44879edd9b69b437ff6d5e53f58053b285", func := "kibitzer/kibitzerlaw12.ViewLines", spec := "viewLines", apart := false, narrowed := true }
def ViewLinesUptoSaid : Prop := viewLinesUptoRow.holds Try.pinned (OpenSpec.upto viewLinesSpec)

end Rows
end Go.Proofs.Ytanloclkbdameaa
