/-
  No cell of these rows narrows 'for every input' (looked for: loops, veiled, ifaces, maps, wideKeys, modest, calm, conditions, laid).
  DERIVED. THE GIVEN ROWS OF THIS SEAT. 5 by the template 'for every input the law returns true; each argument reads behind the call as it read before'; 0 by the template 'total and deterministic' (their statements: YtlifnjihnppckaaTotals.lean).
  GIVEN WITH THE SEED: the statements are not yours to turn. If you find one false, say at which input.
  Laid BY PROGRAM, IN A SANDBOX (cutbox-rows.mjs): the forced cells as the released guide's own fill.sh prints them over the translation 1e0d9c88723d9f14… (all of the seat's roots in one cut). By AI agents, Wed Nov 11 2026. No macro, syntax, notation, axiom, sorry.
-/
import Derived.Test.YtlifnjihnppckaaChecked
import GoSem.Claim
import GoSem.ClaimJoined
import GoSem.ClaimMapViews
import Derived.JoinedTies
import Derived.KernelRfl
namespace Go.Proofs.Ytlifnjihnppckaa
/- THE CELL 'sum', in the pinned program and in every row, IS THE sha256 OF THE DUMP (.gsa) THAT YtlifnjihnppckaaProg.lean LOADS. Nothing in Lean hashes anything: it is a label: what it is worth is what the hold of that sum in a sandbox is worth. -/
noncomputable def Try.pinned : Pinned := { name := "ytlifnjihnppckaa", sum := "1e0d9c88723d9f14439b2abad6b49a03090e5982891d7ca520f497065e006320", checked := Try.checked }
namespace Rows
def none {H : Type} : Left H := { results := [], args := [] }

/-- 'kibitzerlaw04.FeedPieces': WHATEVER THE INPUT: true; the input reads as it did. -/
def feedPiecesSpec : ChangeSpec := { name := "feedPieces", fn := fun _ => fun
  | [d] => { results := [.lit (.bool true)], args := [d] }
  | _ => none }
def feedPiecesRow : OpenClaim := { program := "ytlifnjihnppckaa", sum := "1e0d9c88723d9f14439b2abad6b49a03090e5982891d7ca520f497065e006320", func := "kibitzer/kibitzerlaw04.FeedPieces", spec := "feedPieces", apart := false }
def FeedPiecesSaid : Prop := feedPiecesRow.holds Try.pinned (OpenSpec.ofChange feedPiecesSpec)

/-- ITS FALSE NEIGHBOUR: 'it returns false'. Refute it at one input. -/
def feedPiecesWrong : ChangeSpec := { name := "feedPieces", fn := fun _ => fun
  | [d] => { results := [.lit (.bool false)], args := [d] }
  | _ => none }
def FeedPiecesWrongFalsely : Prop := feedPiecesRow.holds Try.pinned (OpenSpec.ofChange feedPiecesWrong)

/-- 'kibitzerlaw04.FeedFrames': WHATEVER THE INPUT: true; the input reads as it did. -/
def feedFramesSpec : ChangeSpec := { name := "feedFrames", fn := fun _ => fun
  | [d1, d2] => { results := [.lit (.bool true)], args := [d1, d2] }
  | _ => none }
def feedFramesRow : OpenClaim := { program := "ytlifnjihnppckaa", sum := "1e0d9c88723d9f14439b2abad6b49a03090e5982891d7ca520f497065e006320", func := "kibitzer/kibitzerlaw04.FeedFrames", spec := "feedFrames", apart := false }
def FeedFramesSaid : Prop := feedFramesRow.holds Try.pinned (OpenSpec.ofChange feedFramesSpec)

/-- ITS FALSE NEIGHBOUR: 'it returns false'. Refute it at one input. -/
def feedFramesWrong : ChangeSpec := { name := "feedFrames", fn := fun _ => fun
  | [d1, d2] => { results := [.lit (.bool false)], args := [d1, d2] }
  | _ => none }
def FeedFramesWrongFalsely : Prop := feedFramesRow.holds Try.pinned (OpenSpec.ofChange feedFramesWrong)

/-- 'kibitzerlaw04.FeedBroken': WHATEVER THE INPUT: true; the input reads as it did. -/
def feedBrokenSpec : ChangeSpec := { name := "feedBroken", fn := fun _ => fun
  | [d1, d2] => { results := [.lit (.bool true)], args := [d1, d2] }
  | _ => none }
def feedBrokenRow : OpenClaim := { program := "ytlifnjihnppckaa", sum := "1e0d9c88723d9f14439b2abad6b49a03090e5982891d7ca520f497065e006320", func := "kibitzer/kibitzerlaw04.FeedBroken", spec := "feedBroken", apart := false }
def FeedBrokenSaid : Prop := feedBrokenRow.holds Try.pinned (OpenSpec.ofChange feedBrokenSpec)

/-- ITS FALSE NEIGHBOUR: 'it returns false'. Refute it at one input. -/
def feedBrokenWrong : ChangeSpec := { name := "feedBroken", fn := fun _ => fun
  | [d1, d2] => { results := [.lit (.bool false)], args := [d1, d2] }
  | _ => none }
def FeedBrokenWrongFalsely : Prop := feedBrokenRow.holds Try.pinned (OpenSpec.ofChange feedBrokenWrong)

/-- 'kibitzerlaw05.OutqActs': WHATEVER THE INPUT: true; the input reads as it did. -/
def outqActsSpec : ChangeSpec := { name := "outqActs", fn := fun _ => fun
  | [d1, d2] => { results := [.lit (.bool true)], args := [d1, d2] }
  | _ => none }
def outqActsRow : OpenClaim := { program := "ytlifnjihnppckaa", sum := "1e0d9c88723d9f14439b2abad6b49a03090e5982891d7ca520f497065e006320", func := "kibitzer/kibitzerlaw05.OutqActs", spec := "outqActs", apart := false }
def OutqActsSaid : Prop := outqActsRow.holds Try.pinned (OpenSpec.ofChange outqActsSpec)

/-- ITS FALSE NEIGHBOUR: 'it returns false'. Refute it at one input. -/
def outqActsWrong : ChangeSpec := { name := "outqActs", fn := fun _ => fun
  | [d1, d2] => { results := [.lit (.bool false)], args := [d1, d2] }
  | _ => none }
def OutqActsWrongFalsely : Prop := outqActsRow.holds Try.pinned (OpenSpec.ofChange outqActsWrong)

/-- 'kibitzerlaw05.OutqWhole': WHATEVER THE INPUT: true; the input reads as it did. -/
def outqWholeSpec : ChangeSpec := { name := "outqWhole", fn := fun _ => fun
  | [d1, d2] => { results := [.lit (.bool true)], args := [d1, d2] }
  | _ => none }
def outqWholeRow : OpenClaim := { program := "ytlifnjihnppckaa", sum := "1e0d9c88723d9f14439b2abad6b49a03090e5982891d7ca520f497065e006320", func := "kibitzer/kibitzerlaw05.OutqWhole", spec := "outqWhole", apart := false }
def OutqWholeSaid : Prop := outqWholeRow.holds Try.pinned (OpenSpec.ofChange outqWholeSpec)

/-- ITS FALSE NEIGHBOUR: 'it returns false'. Refute it at one input. -/
def outqWholeWrong : ChangeSpec := { name := "outqWhole", fn := fun _ => fun
  | [d1, d2] => { results := [.lit (.bool false)], args := [d1, d2] }
  | _ => none }
def OutqWholeWrongFalsely : Prop := outqWholeRow.holds Try.pinned (OpenSpec.ofChange outqWholeWrong)

/- THE SECOND FORM. 'bulk': how many values and letters a reading holds, each counted each time it is reached (what is shared counts as often as it is met; a slice's spare places count too). A statement '..UptoSaid' is the law's where the arguments, and the package variables that the reading takes, are together of bulk at most 1048576: NARROWER than '..Said'. Prove '..Said' where nothing that the law and all that it calls make is longer than what came in: it says more and counts as full. Else prove '..UptoSaid'. A law counts once. -/
mutual
def uptoBulk {H : Type} : DataW H → Nat
  | .lit (.string bytes) => bytes.length + 1
  | .lit _ => 1
  | .nil => 1
  | .ptr d => uptoBulk d + 1
  | .slice elems spare => uptoBulkAll elems + uptoBulkAll spare + 1
  | .agg parts => uptoBulkAll parts + 1
  | .iface _ d => uptoBulk d + 1
  | .map entries => uptoBulkEntries entries + 1
  | .held _ => 1
def uptoBulkAll {H : Type} : List (DataW H) → Nat
  | [] => 0
  | d :: r => uptoBulk d + uptoBulkAll r
def uptoBulkEntries {H : Type} : List (Lit × DataW H) → Nat
  | [] => 0
  | x :: r => uptoBulkEntry x + uptoBulkEntries r
def uptoBulkEntry {H : Type} : Lit × DataW H → Nat
  | (.string bytes, d) => bytes.length + uptoBulk d + 1
  | (_, d) => uptoBulk d + 1
 end
def uptoSmall : (H : Type) → List (DataW H) → Bool := fun _ ds => decide (uptoBulkAll ds ≤ 1048576)
def OpenSpec.upto (s : _root_.Go.ChangeSpec) : _root_.Go.OpenSpec := { _root_.Go.OpenSpec.ofChange s with cond := some uptoSmall }

/-- 'kibitzerlaw04.FeedPieces', WHERE WHAT IT READS IS OF BULK AT MOST 1048576: true; the input reads as it did. -/
def feedPiecesUptoRow : OpenClaim := { program := "ytlifnjihnppckaa", sum := "1e0d9c88723d9f14439b2abad6b49a03090e5982891d7ca520f497065e006320", func := "kibitzer/kibitzerlaw04.FeedPieces", spec := "feedPieces", apart := false, narrowed := true }
def FeedPiecesUptoSaid : Prop := feedPiecesUptoRow.holds Try.pinned (OpenSpec.upto feedPiecesSpec)

/-- 'kibitzerlaw04.FeedFrames', WHERE WHAT IT READS IS OF BULK AT MOST 1048576: true; the input reads as it did. -/
def feedFramesUptoRow : OpenClaim := { program := "ytlifnjihnppckaa", sum := "1e0d9c88723d9f14439b2abad6b49a03090e5982891d7ca520f497065e006320", func := "kibitzer/kibitzerlaw04.FeedFrames", spec := "feedFrames", apart := false, narrowed := true }
def FeedFramesUptoSaid : Prop := feedFramesUptoRow.holds Try.pinned (OpenSpec.upto feedFramesSpec)

/-- 'kibitzerlaw04.FeedBroken', WHERE WHAT IT READS IS OF BULK AT MOST 1048576: true; the input reads as it did. -/
def feedBrokenUptoRow : OpenClaim := { program := "ytlifnjihnppckaa", sum := "1e0d9c88723d9f14439b2abad6b49a03090e5982891d7ca520f497065e006320", func := "kibitzer/kibitzerlaw04.FeedBroken", spec := "feedBroken", apart := false, narrowed := true }
def FeedBrokenUptoSaid : Prop := feedBrokenUptoRow.holds Try.pinned (OpenSpec.upto feedBrokenSpec)

/-- 'kibitzerlaw05.OutqActs', WHERE WHAT IT READS IS OF BULK AT MOST 1048576: true; the input reads as it did. -/
def outqActsUptoRow : OpenClaim := { program := "ytlifnjihnppckaa", sum := "1e0d9c88723d9f14439b2abad6b49a03090e5982891d7ca520f497065e006320", func := "kibitzer/kibitzerlaw05.OutqActs", spec := "outqActs", apart := false, narrowed := true }
def OutqActsUptoSaid : Prop := outqActsUptoRow.holds Try.pinned (OpenSpec.upto outqActsSpec)

/-- 'kibitzerlaw05.OutqWhole', WHERE WHAT IT READS IS OF BULK AT MOST 1048576: true; the input reads as it did. -/
def outqWholeUptoRow : OpenClaim := { program := "ytlifnjihnppckaa", sum := "1e0d9c88723d9f14439b2abad6b49a03090e5982891d7ca520f497065e006320", func := "kibitzer/kibitzerlaw05.OutqWhole", spec := "outqWhole", apart := false, narrowed := true }
def OutqWholeUptoSaid : Prop := outqWholeUptoRow.holds Try.pinned (OpenSpec.upto outqWholeSpec)

end Rows
end Go.Proofs.Ytlifnjihnppckaa
