/-
  NARROWER THAN 'FOR EVERY INPUT', by the rows' own cells (each row's printed sentence says how): WholeTiles: laid · WholeInput: laid · WholeFloor: laid · WholeApart: laid · WholeCatch: laid · WholeWaits: laid · WholeDenied: laid · WholeKick: laid · WholeStays: laid.
  DERIVED. THE GIVEN ROWS OF THIS SEAT. 9 by the template 'for every input the law returns true; each argument reads behind the call as it read before'; 0 by the template 'total and deterministic' (their statements: YtalichkdeekdcaaGreatDoorTotals.lean).
  GIVEN WITH THE SEED: the statements are not yours to turn. If you find one false, say at which input.
  Laid BY PROGRAM, IN A SANDBOX (cutbox-rows.mjs): the forced cells as the released guide's own fill.sh prints them over the translation 1f279f2d23490d5b… (all of the seat's roots in one cut). By AI agents, Wed Nov 11 2026. No macro, syntax, notation, axiom, sorry.
-/
import Derived.Test.YtalichkdeekdcaaGreatDoorChecked
import GoSem.Claim
import GoSem.ClaimJoined
import GoSem.ClaimMapViews
import Derived.JoinedTies
import Derived.KernelRfl
namespace Go.Proofs.YtalichkdeekdcaaGreatDoor
/- THE CELL 'sum', in the pinned program and in every row, IS THE sha256 OF THE DUMP (.gsa) THAT YtalichkdeekdcaaGreatDoorProg.lean LOADS. Nothing in Lean hashes anything: it is a label: what it is worth is what the hold of that sum in a sandbox is worth. -/
noncomputable def Tryz.pinned : Pinned := { name := "ytalichkdeekdcaagreatdoor", sum := "1f279f2d23490d5b11e313467a475c9ee9aeedd1ca018374ecb61c3e8b1cf6bb", checked := Tryz.checked }
namespace Rows
def none {H : Type} : Left H := { results := [], args := [] }

/- WHAT THE LISTED PACKAGE-LEVEL VARIABLES READ AS WHEN THE CALL BEGINS. Each datum BY PROGRAM (the guide's laid-datum.mjs) off the statement by which the dump's own 'gosem.cut.vars' lays the variable. In a bare row this is a premise. The card (YtalichkdeekdcaaGreatDoorCards.lean) ties it to the program's text. -/
def laid_math_bits_deBruijn32tab {H : Type} : DataW H := .agg [.lit (.int .u8 0), .lit (.int .u8 1), .lit (.int .u8 28), .lit (.int .u8 2), .lit (.int .u8 29), .lit (.int .u8 14), .lit (.int .u8 24), .lit (.int .u8 3), .lit (.int .u8 30), .lit (.int .u8 22), .lit (.int .u8 20), .lit (.int .u8 15), .lit (.int .u8 25), .lit (.int .u8 17), .lit (.int .u8 4), .lit (.int .u8 8), .lit (.int .u8 31), .lit (.int .u8 27), .lit (.int .u8 13), .lit (.int .u8 23), .lit (.int .u8 21), .lit (.int .u8 19), .lit (.int .u8 16), .lit (.int .u8 7), .lit (.int .u8 26), .lit (.int .u8 12), .lit (.int .u8 18), .lit (.int .u8 6), .lit (.int .u8 11), .lit (.int .u8 5), .lit (.int .u8 10), .lit (.int .u8 9)]
def laid_math_bits_deBruijn64tab {H : Type} : DataW H := .agg [.lit (.int .u8 0), .lit (.int .u8 1), .lit (.int .u8 56), .lit (.int .u8 2), .lit (.int .u8 57), .lit (.int .u8 49), .lit (.int .u8 28), .lit (.int .u8 3), .lit (.int .u8 61), .lit (.int .u8 58), .lit (.int .u8 42), .lit (.int .u8 50), .lit (.int .u8 38), .lit (.int .u8 29), .lit (.int .u8 17), .lit (.int .u8 4), .lit (.int .u8 62), .lit (.int .u8 47), .lit (.int .u8 59), .lit (.int .u8 36), .lit (.int .u8 45), .lit (.int .u8 43), .lit (.int .u8 51), .lit (.int .u8 22), .lit (.int .u8 53), .lit (.int .u8 39), .lit (.int .u8 33), .lit (.int .u8 30), .lit (.int .u8 24), .lit (.int .u8 18), .lit (.int .u8 12), .lit (.int .u8 5), .lit (.int .u8 63), .lit (.int .u8 55), .lit (.int .u8 48), .lit (.int .u8 27), .lit (.int .u8 60), .lit (.int .u8 41), .lit (.int .u8 37), .lit (.int .u8 16), .lit (.int .u8 46), .lit (.int .u8 35), .lit (.int .u8 44), .lit (.int .u8 21), .lit (.int .u8 52), .lit (.int .u8 32), .lit (.int .u8 23), .lit (.int .u8 11), .lit (.int .u8 54), .lit (.int .u8 26), .lit (.int .u8 40), .lit (.int .u8 15), .lit (.int .u8 34), .lit (.int .u8 20), .lit (.int .u8 31), .lit (.int .u8 10), .lit (.int .u8 25), .lit (.int .u8 14), .lit (.int .u8 19), .lit (.int .u8 9), .lit (.int .u8 13), .lit (.int .u8 8), .lit (.int .u8 7), .lit (.int .u8 6)]
def laid_internal_strconv_uint64pow10 {H : Type} : DataW H := .agg [.lit (.int .u64 1), .lit (.int .u64 10), .lit (.int .u64 100), .lit (.int .u64 1000), .lit (.int .u64 10000), .lit (.int .u64 100000), .lit (.int .u64 1000000), .lit (.int .u64 10000000), .lit (.int .u64 100000000), .lit (.int .u64 1000000000), .lit (.int .u64 10000000000), .lit (.int .u64 100000000000), .lit (.int .u64 1000000000000), .lit (.int .u64 10000000000000), .lit (.int .u64 100000000000000), .lit (.int .u64 1000000000000000), .lit (.int .u64 10000000000000000), .lit (.int .u64 100000000000000000), .lit (.int .u64 1000000000000000000), .lit (.int .u64 10000000000000000000)]
def laid_strconv_ErrRange {H : Type} : DataW H := .iface "*errors.errorString" (.ptr (.agg [.lit (.string [118, 97, 108, 117, 101, 32, 111, 117, 116, 32, 111, 102, 32, 114, 97, 110, 103, 101])]))
def laid_strconv_ErrSyntax {H : Type} : DataW H := .iface "*errors.errorString" (.ptr (.agg [.lit (.string [105, 110, 118, 97, 108, 105, 100, 32, 115, 121, 110, 116, 97, 120])]))
def laid_kibitzer_order_words {H : Type} : DataW H := .agg [.lit (.string []), .lit (.string [102, 108, 111, 111, 114]), .lit (.string [100, 114, 111, 112]), .lit (.string [108, 105, 115, 116]), .lit (.string [100, 101, 116, 97, 99, 104]), .lit (.string [114, 101, 118, 111, 107, 101]), .lit (.string [103, 105, 118, 101]), .lit (.string [107, 105, 99, 107]), .lit (.string [119, 114, 105, 116, 101]), .lit (.string [119, 97, 116, 99, 104]), .lit (.string [114, 101, 112, 108, 97, 121]), .lit (.string [108, 105, 109, 105, 116])]

/-- 'kibitzertop.WholeTiles': WHATEVER THE INPUT: true; the input reads as it did. -/
def wholeTilesSpec : ChangeSpec := { name := "wholeTiles", fn := fun _ => fun
  | [d1, d2, d3, d4] => { results := [.lit (.bool true)], args := [d1, d2, d3, d4] }
  | _ => none }
def wholeTilesRow : OpenClaim := { program := "ytalichkdeekdcaagreatdoor", sum := "1f279f2d23490d5b11e313467a475c9ee9aeedd1ca018374ecb61c3e8b1cf6bb", func := "kibitzer/kibitzertop.WholeTiles", spec := "wholeTiles", inPlace := ["internal/bytealg.IndexByteString", "internal/bytealg.IndexString"], unfollowed := true, recurses := true, named := ["internal/strconv.uint64pow10", "math/bits.deBruijn32tab", "math/bits.deBruijn64tab", "internal/bytealg.MaxLen", "kibitzer/order.words", "strconv.ErrSyntax", "strconv.ErrRange"], apart := false, laid := [("math/bits.deBruijn32tab", laid_math_bits_deBruijn32tab), ("math/bits.deBruijn64tab", laid_math_bits_deBruijn64tab), ("internal/strconv.uint64pow10", laid_internal_strconv_uint64pow10), ("strconv.ErrRange", laid_strconv_ErrRange), ("strconv.ErrSyntax", laid_strconv_ErrSyntax), ("kibitzer/order.words", laid_kibitzer_order_words)] }
def WholeTilesSaid : Prop := wholeTilesRow.holds Tryz.pinned (OpenSpec.ofChange wholeTilesSpec)

/-- ITS FALSE NEIGHBOUR: 'it returns false'. Refute it at one input. -/
def wholeTilesWrong : ChangeSpec := { name := "wholeTiles", fn := fun _ => fun
  | [d1, d2, d3, d4] => { results := [.lit (.bool false)], args := [d1, d2, d3, d4] }
  | _ => none }
def WholeTilesWrongFalsely : Prop := wholeTilesRow.holds Tryz.pinned (OpenSpec.ofChange wholeTilesWrong)

/-- 'kibitzertop.WholeInput': WHATEVER THE INPUT: true; the input reads as it did. -/
def wholeInputSpec : ChangeSpec := { name := "wholeInput", fn := fun _ => fun
  | [d1, d2, d3] => { results := [.lit (.bool true)], args := [d1, d2, d3] }
  | _ => none }
def wholeInputRow : OpenClaim := { program := "ytalichkdeekdcaagreatdoor", sum := "1f279f2d23490d5b11e313467a475c9ee9aeedd1ca018374ecb61c3e8b1cf6bb", func := "kibitzer/kibitzertop.WholeInput", spec := "wholeInput", inPlace := ["internal/bytealg.IndexByteString", "internal/bytealg.IndexString"], unfollowed := true, recurses := true, named := ["internal/strconv.uint64pow10", "math/bits.deBruijn32tab", "math/bits.deBruijn64tab", "internal/bytealg.MaxLen", "kibitzer/order.words", "strconv.ErrSyntax", "strconv.ErrRange"], apart := false, laid := [("math/bits.deBruijn32tab", laid_math_bits_deBruijn32tab), ("math/bits.deBruijn64tab", laid_math_bits_deBruijn64tab), ("internal/strconv.uint64pow10", laid_internal_strconv_uint64pow10), ("strconv.ErrRange", laid_strconv_ErrRange), ("strconv.ErrSyntax", laid_strconv_ErrSyntax), ("kibitzer/order.words", laid_kibitzer_order_words)] }
def WholeInputSaid : Prop := wholeInputRow.holds Tryz.pinned (OpenSpec.ofChange wholeInputSpec)

/-- ITS FALSE NEIGHBOUR: 'it returns false'. Refute it at one input. -/
def wholeInputWrong : ChangeSpec := { name := "wholeInput", fn := fun _ => fun
  | [d1, d2, d3] => { results := [.lit (.bool false)], args := [d1, d2, d3] }
  | _ => none }
def WholeInputWrongFalsely : Prop := wholeInputRow.holds Tryz.pinned (OpenSpec.ofChange wholeInputWrong)

/-- 'kibitzertop.WholeFloor': WHATEVER THE INPUT: true; the input reads as it did. -/
def wholeFloorSpec : ChangeSpec := { name := "wholeFloor", fn := fun _ => fun
  | [d1, d2] => { results := [.lit (.bool true)], args := [d1, d2] }
  | _ => none }
def wholeFloorRow : OpenClaim := { program := "ytalichkdeekdcaagreatdoor", sum := "1f279f2d23490d5b11e313467a475c9ee9aeedd1ca018374ecb61c3e8b1cf6bb", func := "kibitzer/kibitzertop.WholeFloor", spec := "wholeFloor", inPlace := ["internal/bytealg.IndexByteString", "internal/bytealg.IndexString"], unfollowed := true, recurses := true, named := ["internal/strconv.uint64pow10", "math/bits.deBruijn32tab", "math/bits.deBruijn64tab", "internal/bytealg.MaxLen", "kibitzer/order.words", "strconv.ErrSyntax", "strconv.ErrRange"], apart := false, laid := [("math/bits.deBruijn32tab", laid_math_bits_deBruijn32tab), ("math/bits.deBruijn64tab", laid_math_bits_deBruijn64tab), ("internal/strconv.uint64pow10", laid_internal_strconv_uint64pow10), ("strconv.ErrRange", laid_strconv_ErrRange), ("strconv.ErrSyntax", laid_strconv_ErrSyntax), ("kibitzer/order.words", laid_kibitzer_order_words)] }
def WholeFloorSaid : Prop := wholeFloorRow.holds Tryz.pinned (OpenSpec.ofChange wholeFloorSpec)

/-- ITS FALSE NEIGHBOUR: 'it returns false'. Refute it at one input. -/
def wholeFloorWrong : ChangeSpec := { name := "wholeFloor", fn := fun _ => fun
  | [d1, d2] => { results := [.lit (.bool false)], args := [d1, d2] }
  | _ => none }
def WholeFloorWrongFalsely : Prop := wholeFloorRow.holds Tryz.pinned (OpenSpec.ofChange wholeFloorWrong)

/-- 'kibitzertop.WholeApart': WHATEVER THE INPUT: true; the input reads as it did. -/
def wholeApartSpec : ChangeSpec := { name := "wholeApart", fn := fun _ => fun
  | [d1, d2] => { results := [.lit (.bool true)], args := [d1, d2] }
  | _ => none }
def wholeApartRow : OpenClaim := { program := "ytalichkdeekdcaagreatdoor", sum := "1f279f2d23490d5b11e313467a475c9ee9aeedd1ca018374ecb61c3e8b1cf6bb", func := "kibitzer/kibitzertop.WholeApart", spec := "wholeApart", inPlace := ["internal/bytealg.IndexByteString", "internal/bytealg.IndexString"], unfollowed := true, recurses := true, named := ["internal/strconv.uint64pow10", "math/bits.deBruijn32tab", "math/bits.deBruijn64tab", "internal/bytealg.MaxLen", "kibitzer/order.words", "strconv.ErrSyntax", "strconv.ErrRange"], apart := false, laid := [("math/bits.deBruijn32tab", laid_math_bits_deBruijn32tab), ("math/bits.deBruijn64tab", laid_math_bits_deBruijn64tab), ("internal/strconv.uint64pow10", laid_internal_strconv_uint64pow10), ("strconv.ErrRange", laid_strconv_ErrRange), ("strconv.ErrSyntax", laid_strconv_ErrSyntax), ("kibitzer/order.words", laid_kibitzer_order_words)] }
def WholeApartSaid : Prop := wholeApartRow.holds Tryz.pinned (OpenSpec.ofChange wholeApartSpec)

/-- ITS FALSE NEIGHBOUR: 'it returns false'. Refute it at one input. -/
def wholeApartWrong : ChangeSpec := { name := "wholeApart", fn := fun _ => fun
  | [d1, d2] => { results := [.lit (.bool false)], args := [d1, d2] }
  | _ => none }
def WholeApartWrongFalsely : Prop := wholeApartRow.holds Tryz.pinned (OpenSpec.ofChange wholeApartWrong)

/-- 'kibitzertop.WholeCatch': WHATEVER THE INPUT: true; the input reads as it did. -/
def wholeCatchSpec : ChangeSpec := { name := "wholeCatch", fn := fun _ => fun
  | [d1, d2, d3] => { results := [.lit (.bool true)], args := [d1, d2, d3] }
  | _ => none }
def wholeCatchRow : OpenClaim := { program := "ytalichkdeekdcaagreatdoor", sum := "1f279f2d23490d5b11e313467a475c9ee9aeedd1ca018374ecb61c3e8b1cf6bb", func := "kibitzer/kibitzertop.WholeCatch", spec := "wholeCatch", inPlace := ["internal/bytealg.IndexByteString", "internal/bytealg.IndexString"], unfollowed := true, recurses := true, named := ["internal/strconv.uint64pow10", "math/bits.deBruijn32tab", "math/bits.deBruijn64tab", "internal/bytealg.MaxLen", "kibitzer/order.words", "strconv.ErrSyntax", "strconv.ErrRange"], apart := false, laid := [("math/bits.deBruijn32tab", laid_math_bits_deBruijn32tab), ("math/bits.deBruijn64tab", laid_math_bits_deBruijn64tab), ("internal/strconv.uint64pow10", laid_internal_strconv_uint64pow10), ("strconv.ErrRange", laid_strconv_ErrRange), ("strconv.ErrSyntax", laid_strconv_ErrSyntax), ("kibitzer/order.words", laid_kibitzer_order_words)] }
def WholeCatchSaid : Prop := wholeCatchRow.holds Tryz.pinned (OpenSpec.ofChange wholeCatchSpec)

/-- ITS FALSE NEIGHBOUR: 'it returns false'. Refute it at one input. -/
def wholeCatchWrong : ChangeSpec := { name := "wholeCatch", fn := fun _ => fun
  | [d1, d2, d3] => { results := [.lit (.bool false)], args := [d1, d2, d3] }
  | _ => none }
def WholeCatchWrongFalsely : Prop := wholeCatchRow.holds Tryz.pinned (OpenSpec.ofChange wholeCatchWrong)

/-- 'kibitzertop.WholeWaits': WHATEVER THE INPUT: true; the input reads as it did. -/
def wholeWaitsSpec : ChangeSpec := { name := "wholeWaits", fn := fun _ => fun
  | [d1, d2, d3] => { results := [.lit (.bool true)], args := [d1, d2, d3] }
  | _ => none }
def wholeWaitsRow : OpenClaim := { program := "ytalichkdeekdcaagreatdoor", sum := "1f279f2d23490d5b11e313467a475c9ee9aeedd1ca018374ecb61c3e8b1cf6bb", func := "kibitzer/kibitzertop.WholeWaits", spec := "wholeWaits", inPlace := ["internal/bytealg.IndexByteString", "internal/bytealg.IndexString"], unfollowed := true, recurses := true, named := ["internal/strconv.uint64pow10", "math/bits.deBruijn32tab", "math/bits.deBruijn64tab", "internal/bytealg.MaxLen", "kibitzer/order.words", "strconv.ErrSyntax", "strconv.ErrRange"], apart := false, laid := [("math/bits.deBruijn32tab", laid_math_bits_deBruijn32tab), ("math/bits.deBruijn64tab", laid_math_bits_deBruijn64tab), ("internal/strconv.uint64pow10", laid_internal_strconv_uint64pow10), ("strconv.ErrRange", laid_strconv_ErrRange), ("strconv.ErrSyntax", laid_strconv_ErrSyntax), ("kibitzer/order.words", laid_kibitzer_order_words)] }
def WholeWaitsSaid : Prop := wholeWaitsRow.holds Tryz.pinned (OpenSpec.ofChange wholeWaitsSpec)

/-- ITS FALSE NEIGHBOUR: 'it returns false'. Refute it at one input. -/
def wholeWaitsWrong : ChangeSpec := { name := "wholeWaits", fn := fun _ => fun
  | [d1, d2, d3] => { results := [.lit (.bool false)], args := [d1, d2, d3] }
  | _ => none }
def WholeWaitsWrongFalsely : Prop := wholeWaitsRow.holds Tryz.pinned (OpenSpec.ofChange wholeWaitsWrong)

/-- 'kibitzertop.WholeDenied': WHATEVER THE INPUT: true; the input reads as it did. -/
def wholeDeniedSpec : ChangeSpec := { name := "wholeDenied", fn := fun _ => fun
  | [d] => { results := [.lit (.bool true)], args := [d] }
  | _ => none }
def wholeDeniedRow : OpenClaim := { program := "ytalichkdeekdcaagreatdoor", sum := "1f279f2d23490d5b11e313467a475c9ee9aeedd1ca018374ecb61c3e8b1cf6bb", func := "kibitzer/kibitzertop.WholeDenied", spec := "wholeDenied", inPlace := ["internal/bytealg.IndexByteString", "internal/bytealg.IndexString"], unfollowed := true, recurses := true, named := ["internal/strconv.uint64pow10", "math/bits.deBruijn32tab", "math/bits.deBruijn64tab", "internal/bytealg.MaxLen", "kibitzer/order.words", "strconv.ErrSyntax", "strconv.ErrRange"], apart := false, laid := [("math/bits.deBruijn32tab", laid_math_bits_deBruijn32tab), ("math/bits.deBruijn64tab", laid_math_bits_deBruijn64tab), ("internal/strconv.uint64pow10", laid_internal_strconv_uint64pow10), ("strconv.ErrRange", laid_strconv_ErrRange), ("strconv.ErrSyntax", laid_strconv_ErrSyntax), ("kibitzer/order.words", laid_kibitzer_order_words)] }
def WholeDeniedSaid : Prop := wholeDeniedRow.holds Tryz.pinned (OpenSpec.ofChange wholeDeniedSpec)

/-- ITS FALSE NEIGHBOUR: 'it returns false'. Refute it at one input. -/
def wholeDeniedWrong : ChangeSpec := { name := "wholeDenied", fn := fun _ => fun
  | [d] => { results := [.lit (.bool false)], args := [d] }
  | _ => none }
def WholeDeniedWrongFalsely : Prop := wholeDeniedRow.holds Tryz.pinned (OpenSpec.ofChange wholeDeniedWrong)

/-- 'kibitzertop.WholeKick': WHATEVER THE INPUT: true; the input reads as it did. -/
def wholeKickSpec : ChangeSpec := { name := "wholeKick", fn := fun _ => fun
  | [d1, d2] => { results := [.lit (.bool true)], args := [d1, d2] }
  | _ => none }
def wholeKickRow : OpenClaim := { program := "ytalichkdeekdcaagreatdoor", sum := "1f279f2d23490d5b11e313467a475c9ee9aeedd1ca018374ecb61c3e8b1cf6bb", func := "kibitzer/kibitzertop.WholeKick", spec := "wholeKick", inPlace := ["internal/bytealg.IndexByteString", "internal/bytealg.IndexString"], unfollowed := true, recurses := true, named := ["internal/strconv.uint64pow10", "math/bits.deBruijn32tab", "math/bits.deBruijn64tab", "internal/bytealg.MaxLen", "kibitzer/order.words", "strconv.ErrSyntax", "strconv.ErrRange"], apart := false, laid := [("math/bits.deBruijn32tab", laid_math_bits_deBruijn32tab), ("math/bits.deBruijn64tab", laid_math_bits_deBruijn64tab), ("internal/strconv.uint64pow10", laid_internal_strconv_uint64pow10), ("strconv.ErrRange", laid_strconv_ErrRange), ("strconv.ErrSyntax", laid_strconv_ErrSyntax), ("kibitzer/order.words", laid_kibitzer_order_words)] }
def WholeKickSaid : Prop := wholeKickRow.holds Tryz.pinned (OpenSpec.ofChange wholeKickSpec)

/-- ITS FALSE NEIGHBOUR: 'it returns false'. Refute it at one input. -/
def wholeKickWrong : ChangeSpec := { name := "wholeKick", fn := fun _ => fun
  | [d1, d2] => { results := [.lit (.bool false)], args := [d1, d2] }
  | _ => none }
def WholeKickWrongFalsely : Prop := wholeKickRow.holds Tryz.pinned (OpenSpec.ofChange wholeKickWrong)

/-- 'kibitzertop.WholeStays': WHATEVER THE INPUT: true; the input reads as it did. -/
def wholeStaysSpec : ChangeSpec := { name := "wholeStays", fn := fun _ => fun
  | [d1, d2] => { results := [.lit (.bool true)], args := [d1, d2] }
  | _ => none }
def wholeStaysRow : OpenClaim := { program := "ytalichkdeekdcaagreatdoor", sum := "1f279f2d23490d5b11e313467a475c9ee9aeedd1ca018374ecb61c3e8b1cf6bb", func := "kibitzer/kibitzertop.WholeStays", spec := "wholeStays", inPlace := ["internal/bytealg.IndexByteString", "internal/bytealg.IndexString"], unfollowed := true, recurses := true, named := ["internal/strconv.uint64pow10", "math/bits.deBruijn32tab", "math/bits.deBruijn64tab", "internal/bytealg.MaxLen", "kibitzer/order.words", "strconv.ErrSyntax", "strconv.ErrRange"], apart := false, laid := [("math/bits.deBruijn32tab", laid_math_bits_deBruijn32tab), ("math/bits.deBruijn64tab", laid_math_bits_deBruijn64tab), ("internal/strconv.uint64pow10", laid_internal_strconv_uint64pow10), ("strconv.ErrRange", laid_strconv_ErrRange), ("strconv.ErrSyntax", laid_strconv_ErrSyntax), ("kibitzer/order.words", laid_kibitzer_order_words)] }
def WholeStaysSaid : Prop := wholeStaysRow.holds Tryz.pinned (OpenSpec.ofChange wholeStaysSpec)

/-- ITS FALSE NEIGHBOUR: 'it returns false'. Refute it at one input. -/
def wholeStaysWrong : ChangeSpec := { name := "wholeStays", fn := fun _ => fun
  | [d1, d2] => { results := [.lit (.bool false)], args := [d1, d2] }
  | _ => none }
def WholeStaysWrongFalsely : Prop := wholeStaysRow.holds Tryz.pinned (OpenSpec.ofChange wholeStaysWrong)

/- THE SECOND FORM. 'bulk': how many values and letters a reading holds, each counted each time it is reached (what is shared counts as often as it is met; a slice's spare places count too). A statement '..UptoSaid' is the law's where the arguments, and the package variables that the reading takes, are together of bulk at most 1048576: NARROWER than '..Said'. Prove '..Said' where nothing that the law and all that it calls make is longer than what came in: it says more and counts as full. Else prove '..UptoSaid'. A law counts once. -/
mutual
def uptoBulk {H : Type} : DataW H → Nat
  | .lit (.string bytes) => bytes.length + 1
  | .lit _ => 1
  | .nil => 1
  | .ptr d => uptoBulk d + 1
  | .slice elems spare => uptoBulkAll elems + uptoBulkAll spare + 1
  | .agg parts => uptoBulkAll parts + 1
  | .iface _ d => uptoBulk d + 1
  | .map entries => uptoBulkEntries entries + 1
  | .held _ => 1
def uptoBulkAll {H : Type} : List (DataW H) → Nat
  | [] => 0
  | d :: r => uptoBulk d + uptoBulkAll r
def uptoBulkEntries {H : Type} : List (Lit × DataW H) → Nat
  | [] => 0
  | x :: r => uptoBulkEntry x + uptoBulkEntries r
def uptoBulkEntry {H : Type} : Lit × DataW H → Nat
  | (.string bytes, d) => bytes.length + uptoBulk d + 1
  | (_, d) => uptoBulk d + 1
 end
def uptoSmall : (H : Type) → List (DataW H) → Bool := fun _ ds => decide (uptoBulkAll ds ≤ 1048576)
def OpenSpec.upto (s : _root_.Go.ChangeSpec) : _root_.Go.OpenSpec := { _root_.Go.OpenSpec.ofChange s with cond := some uptoSmall }

/-- 'kibitzertop.WholeTiles', WHERE WHAT IT READS IS OF BULK AT MOST 1048576: true; the input reads as it did. -/
def wholeTilesUptoRow : OpenClaim := { program := "ytalichkdeekdcaagreatdoor", sum := "1f279f2d23490d5b11e313467a475c9ee9aeedd1ca018374ecb61c3e8b1cf6bb", func := "kibitzer/kibitzertop.WholeTiles", spec := "wholeTiles", inPlace := ["internal/bytealg.IndexByteString", "internal/bytealg.IndexString"], unfollowed := true, recurses := true, named := ["internal/strconv.uint64pow10", "math/bits.deBruijn32tab", "math/bits.deBruijn64tab", "internal/bytealg.MaxLen", "kibitzer/order.words", "strconv.ErrSyntax", "strconv.ErrRange"], apart := false, laid := [("math/bits.deBruijn32tab", laid_math_bits_deBruijn32tab), ("math/bits.deBruijn64tab", laid_math_bits_deBruijn64tab), ("internal/strconv.uint64pow10", laid_internal_strconv_uint64pow10), ("strconv.ErrRange", laid_strconv_ErrRange), ("strconv.ErrSyntax", laid_strconv_ErrSyntax), ("kibitzer/order.words", laid_kibitzer_order_words)], narrowed := true }
def WholeTilesUptoSaid : Prop := wholeTilesUptoRow.holds Tryz.pinned (OpenSpec.upto wholeTilesSpec)

/-- 'kibitzertop.WholeInput', WHERE WHAT IT READS IS OF BULK AT MOST 1048576: true; the input reads as it did. -/
def wholeInputUptoRow : OpenClaim := { program := "ytalichkdeekdcaagreatdoor", sum := "1f279f2d23490d5b11e313467a475c9ee9aeedd1ca018374ecb61c3e8b1cf6bb", func := "kibitzer/kibitzertop.WholeInput", spec := "wholeInput", inPlace := ["internal/bytealg.IndexByteString", "internal/bytealg.IndexString"], unfollowed := true, recurses := true, named := ["internal/strconv.uint64pow10", "math/bits.deBruijn32tab", "math/bits.deBruijn64tab", "internal/bytealg.MaxLen", "kibitzer/order.words", "strconv.ErrSyntax", "strconv.ErrRange"], apart := false, laid := [("math/bits.deBruijn32tab", laid_math_bits_deBruijn32tab), ("math/bits.deBruijn64tab", laid_math_bits_deBruijn64tab), ("internal/strconv.uint64pow10", laid_internal_strconv_uint64pow10), ("strconv.ErrRange", laid_strconv_ErrRange), ("strconv.ErrSyntax", laid_strconv_ErrSyntax), ("kibitzer/order.words", laid_kibitzer_order_words)], narrowed := true }
def WholeInputUptoSaid : Prop := wholeInputUptoRow.holds Tryz.pinned (OpenSpec.upto wholeInputSpec)

/-- 'kibitzertop.WholeFloor', WHERE WHAT IT READS IS OF BULK AT MOST 1048576: true; the input reads as it did. -/
def wholeFloorUptoRow : OpenClaim := { program := "ytalichkdeekdcaagreatdoor", sum := "1f279f2d23490d5b11e313467a475c9ee9aeedd1ca018374ecb61c3e8b1cf6bb", func := "kibitzer/kibitzertop.WholeFloor", spec := "wholeFloor", inPlace := ["internal/bytealg.IndexByteString", "internal/bytealg.IndexString"], unfollowed := true, recurses := true, named := ["internal/strconv.uint64pow10", "math/bits.deBruijn32tab", "math/bits.deBruijn64tab", "internal/bytealg.MaxLen", "kibitzer/order.words", "strconv.ErrSyntax", "strconv.ErrRange"], apart := false, laid := [("math/bits.deBruijn32tab", laid_math_bits_deBruijn32tab), ("math/bits.deBruijn64tab", laid_math_bits_deBruijn64tab), ("internal/strconv.uint64pow10", laid_internal_strconv_uint64pow10), ("strconv.ErrRange", laid_strconv_ErrRange), ("strconv.ErrSyntax", laid_strconv_ErrSyntax), ("kibitzer/order.words", laid_kibitzer_order_words)], narrowed := true }
def WholeFloorUptoSaid : Prop := wholeFloorUptoRow.holds Tryz.pinned (OpenSpec.upto wholeFloorSpec)

/-- 'kibitzertop.WholeApart', WHERE WHAT IT READS IS OF BULK AT MOST 1048576: true; the input reads as it did. -/
def wholeApartUptoRow : OpenClaim := { program := "ytalichkdeekdcaagreatdoor", sum := "1f279f2d23490d5b11e313467a475c9ee9aeedd1ca018374ecb61c3e8b1cf6bb", func := "kibitzer/kibitzertop.WholeApart", spec := "wholeApart", inPlace := ["internal/bytealg.IndexByteString", "internal/bytealg.IndexString"], unfollowed := true, recurses := true, named := ["internal/strconv.uint64pow10", "math/bits.deBruijn32tab", "math/bits.deBruijn64tab", "internal/bytealg.MaxLen", "kibitzer/order.words", "strconv.ErrSyntax", "strconv.ErrRange"], apart := false, laid := [("math/bits.deBruijn32tab", laid_math_bits_deBruijn32tab), ("math/bits.deBruijn64tab", laid_math_bits_deBruijn64tab), ("internal/strconv.uint64pow10", laid_internal_strconv_uint64pow10), ("strconv.ErrRange", laid_strconv_ErrRange), ("strconv.ErrSyntax", laid_strconv_ErrSyntax), ("kibitzer/order.words", laid_kibitzer_order_words)], narrowed := true }
def WholeApartUptoSaid : Prop := wholeApartUptoRow.holds Tryz.pinned (OpenSpec.upto wholeApartSpec)

/-- 'kibitzertop.WholeCatch', WHERE WHAT IT READS IS OF BULK AT MOST 1048576: true; the input reads as it did. -/
def wholeCatchUptoRow : OpenClaim := { program := "ytalichkdeekdcaagreatdoor", sum := "1f279f2d23490d5b11e313467a475c9ee9aeedd1ca018374ecb61c3e8b1cf6bb", func := "kibitzer/kibitzertop.WholeCatch", spec := "wholeCatch", inPlace := ["internal/bytealg.IndexByteString", "internal/bytealg.IndexString"], unfollowed := true, recurses := true, named := ["internal/strconv.uint64pow10", "math/bits.deBruijn32tab", "math/bits.deBruijn64tab", "internal/bytealg.MaxLen", "kibitzer/order.words", "strconv.ErrSyntax", "strconv.ErrRange"], apart := false, laid := [("math/bits.deBruijn32tab", laid_math_bits_deBruijn32tab), ("math/bits.deBruijn64tab", laid_math_bits_deBruijn64tab), ("internal/strconv.uint64pow10", laid_internal_strconv_uint64pow10), ("strconv.ErrRange", laid_strconv_ErrRange), ("strconv.ErrSyntax", laid_strconv_ErrSyntax), ("kibitzer/order.words", laid_kibitzer_order_words)], narrowed := true }
def WholeCatchUptoSaid : Prop := wholeCatchUptoRow.holds Tryz.pinned (OpenSpec.upto wholeCatchSpec)

/-- 'kibitzertop.WholeWaits', WHERE WHAT IT READS IS OF BULK AT MOST 1048576: true; the input reads as it did. -/
def wholeWaitsUptoRow : OpenClaim := { program := "ytalichkdeekdcaagreatdoor", sum := "1f279f2d23490d5b11e313467a475c9ee9aeedd1ca018374ecb61c3e8b1cf6bb", func := "kibitzer/kibitzertop.WholeWaits", spec := "wholeWaits", inPlace := ["internal/bytealg.IndexByteString", "internal/bytealg.IndexString"], unfollowed := true, recurses := true, named := ["internal/strconv.uint64pow10", "math/bits.deBruijn32tab", "math/bits.deBruijn64tab", "internal/bytealg.MaxLen", "kibitzer/order.words", "strconv.ErrSyntax", "strconv.ErrRange"], apart := false, laid := [("math/bits.deBruijn32tab", laid_math_bits_deBruijn32tab), ("math/bits.deBruijn64tab", laid_math_bits_deBruijn64tab), ("internal/strconv.uint64pow10", laid_internal_strconv_uint64pow10), ("strconv.ErrRange", laid_strconv_ErrRange), ("strconv.ErrSyntax", laid_strconv_ErrSyntax), ("kibitzer/order.words", laid_kibitzer_order_words)], narrowed := true }
def WholeWaitsUptoSaid : Prop := wholeWaitsUptoRow.holds Tryz.pinned (OpenSpec.upto wholeWaitsSpec)

/-- 'kibitzertop.WholeDenied', WHERE WHAT IT READS IS OF BULK AT MOST 1048576: true; the input reads as it did. -/
def wholeDeniedUptoRow : OpenClaim := { program := "ytalichkdeekdcaagreatdoor", sum := "1f279f2d23490d5b11e313467a475c9ee9aeedd1ca018374ecb61c3e8b1cf6bb", func := "kibitzer/kibitzertop.WholeDenied", spec := "wholeDenied", inPlace := ["internal/bytealg.IndexByteString", "internal/bytealg.IndexString"], unfollowed := true, recurses := true, named := ["internal/strconv.uint64pow10", "math/bits.deBruijn32tab", "math/bits.deBruijn64tab", "internal/bytealg.MaxLen", "kibitzer/order.words", "strconv.ErrSyntax", "strconv.ErrRange"], apart := false, laid := [("math/bits.deBruijn32tab", laid_math_bits_deBruijn32tab), ("math/bits.deBruijn64tab", laid_math_bits_deBruijn64tab), ("internal/strconv.uint64pow10", laid_internal_strconv_uint64pow10), ("strconv.ErrRange", laid_strconv_ErrRange), ("strconv.ErrSyntax", laid_strconv_ErrSyntax), ("kibitzer/order.words", laid_kibitzer_order_words)], narrowed := true }
def WholeDeniedUptoSaid : Prop := wholeDeniedUptoRow.holds Tryz.pinned (OpenSpec.upto wholeDeniedSpec)

/-- 'kibitzertop.WholeKick', WHERE WHAT IT READS IS OF BULK AT MOST 1048576: true; the input reads as it did. -/
def wholeKickUptoRow : OpenClaim := { program := "ytalichkdeekdcaagreatdoor", sum := "1f279f2d23490d5b11e313467a475c9ee9aeedd1ca018374ecb61c3e8b1cf6bb", func := "kibitzer/kibitzertop.WholeKick", spec := "wholeKick", inPlace := ["internal/bytealg.IndexByteString", "internal/bytealg.IndexString"], unfollowed := true, recurses := true, named := ["internal/strconv.uint64pow10", "math/bits.deBruijn32tab", "math/bits.deBruijn64tab", "internal/bytealg.MaxLen", "kibitzer/order.words", "strconv.ErrSyntax", "strconv.ErrRange"], apart := false, laid := [("math/bits.deBruijn32tab", laid_math_bits_deBruijn32tab), ("math/bits.deBruijn64tab", laid_math_bits_deBruijn64tab), ("internal/strconv.uint64pow10", laid_internal_strconv_uint64pow10), ("strconv.ErrRange", laid_strconv_ErrRange), ("strconv.ErrSyntax", laid_strconv_ErrSyntax), ("kibitzer/order.words", laid_kibitzer_order_words)], narrowed := true }
def WholeKickUptoSaid : Prop := wholeKickUptoRow.holds Tryz.pinned (OpenSpec.upto wholeKickSpec)

/-- 'kibitzertop.WholeStays', WHERE WHAT IT READS IS OF BULK AT MOST 1048576: true; the input reads as it did. -/
def wholeStaysUptoRow : OpenClaim := { program := "ytalichkdeekdcaagreatdoor", sum := "1f279f2d23490d5b11e313467a475c9ee9aeedd1ca018374ecb61c3e8b1cf6bb", func := "kibitzer/kibitzertop.WholeStays", spec := "wholeStays", inPlace := ["internal/bytealg.IndexByteString", "internal/bytealg.IndexString"], unfollowed := true, recurses := true, named := ["internal/strconv.uint64pow10", "math/bits.deBruijn32tab", "math/bits.deBruijn64tab", "internal/bytealg.MaxLen", "kibitzer/order.words", "strconv.ErrSyntax", "strconv.ErrRange"], apart := false, laid := [("math/bits.deBruijn32tab", laid_math_bits_deBruijn32tab), ("math/bits.deBruijn64tab", laid_math_bits_deBruijn64tab), ("internal/strconv.uint64pow10", laid_internal_strconv_uint64pow10), ("strconv.ErrRange", laid_strconv_ErrRange), ("strconv.ErrSyntax", laid_strconv_ErrSyntax), ("kibitzer/order.words", laid_kibitzer_order_words)], narrowed := true }
def WholeStaysUptoSaid : Prop := wholeStaysUptoRow.holds Tryz.pinned (OpenSpec.upto wholeStaysSpec)

end Rows
end Go.Proofs.YtalichkdeekdcaaGreatDoor
