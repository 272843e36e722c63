/-
  NARROWER THAN 'FOR EVERY INPUT', by the rows' own cells (each row's printed sentence says how): BrokerEvents: laid · BrokerTiles: laid · BrokerInput: laid · BrokerFloor: laid · BrokerApart: laid · BrokerCatches: laid · BrokerEvicts: laid · BrokerBounds: laid · BrokerDenied: laid · BrokerChunks: laid · BrokerWaits: laid · BrokerIdle: laid · BrokerRoles: laid · BrokerExit: laid · BrokerReplay: laid · BrokerFresh: laid.
  DERIVED. THE GIVEN ROWS OF THIS SEAT. 16 by the template 'for every input the law returns true; each argument reads behind the call as it read before'; 0 by the template 'total and deterministic' (their statements: YtjmdddhbdofppaaGreatDoorTotals.lean).
  GIVEN WITH THE SEED: the statements are not yours to turn. If you find one false, say at which input.
  Laid BY PROGRAM, IN A SANDBOX (cutbox-rows.mjs): the forced cells as the released guide's own fill.sh prints them over the translation 49be18445dc5be88… (all of the seat's roots in one cut). By AI agents, Wed Nov 11 2026. No macro, syntax, notation, axiom, sorry.
-/
import Derived.Test.YtjmdddhbdofppaaGreatDoorChecked
import GoSem.Claim
import GoSem.ClaimJoined
import GoSem.ClaimMapViews
import Derived.JoinedTies
import Derived.KernelRfl
namespace Go.Proofs.YtjmdddhbdofppaaGreatDoor
/- THE CELL 'sum', in the pinned program and in every row, IS THE sha256 OF THE DUMP (.gsa) THAT YtjmdddhbdofppaaGreatDoorProg.lean LOADS. Nothing in Lean hashes anything: it is a label: what it is worth is what the hold of that sum in a sandbox is worth. -/
noncomputable def Tryz.pinned : Pinned := { name := "ytjmdddhbdofppaagreatdoor", sum := "49be18445dc5be8831fde7dbffb77a3af7b95807370b48fe3f27148377f9ea66", checked := Tryz.checked }
namespace Rows
def none {H : Type} : Left H := { results := [], args := [] }

/- WHAT THE LISTED PACKAGE-LEVEL VARIABLES READ AS WHEN THE CALL BEGINS. Each datum BY PROGRAM (the guide's laid-datum.mjs) off the statement by which the dump's own 'gosem.cut.vars' lays the variable. In a bare row this is a premise. The card (YtjmdddhbdofppaaGreatDoorCards.lean) ties it to the program's text. -/
def laid_math_bits_deBruijn32tab {H : Type} : DataW H := .agg [.lit (.int .u8 0), .lit (.int .u8 1), .lit (.int .u8 28), .lit (.int .u8 2), .lit (.int .u8 29), .lit (.int .u8 14), .lit (.int .u8 24), .lit (.int .u8 3), .lit (.int .u8 30), .lit (.int .u8 22), .lit (.int .u8 20), .lit (.int .u8 15), .lit (.int .u8 25), .lit (.int .u8 17), .lit (.int .u8 4), .lit (.int .u8 8), .lit (.int .u8 31), .lit (.int .u8 27), .lit (.int .u8 13), .lit (.int .u8 23), .lit (.int .u8 21), .lit (.int .u8 19), .lit (.int .u8 16), .lit (.int .u8 7), .lit (.int .u8 26), .lit (.int .u8 12), .lit (.int .u8 18), .lit (.int .u8 6), .lit (.int .u8 11), .lit (.int .u8 5), .lit (.int .u8 10), .lit (.int .u8 9)]
def laid_math_bits_deBruijn64tab {H : Type} : DataW H := .agg [.lit (.int .u8 0), .lit (.int .u8 1), .lit (.int .u8 56), .lit (.int .u8 2), .lit (.int .u8 57), .lit (.int .u8 49), .lit (.int .u8 28), .lit (.int .u8 3), .lit (.int .u8 61), .lit (.int .u8 58), .lit (.int .u8 42), .lit (.int .u8 50), .lit (.int .u8 38), .lit (.int .u8 29), .lit (.int .u8 17), .lit (.int .u8 4), .lit (.int .u8 62), .lit (.int .u8 47), .lit (.int .u8 59), .lit (.int .u8 36), .lit (.int .u8 45), .lit (.int .u8 43), .lit (.int .u8 51), .lit (.int .u8 22), .lit (.int .u8 53), .lit (.int .u8 39), .lit (.int .u8 33), .lit (.int .u8 30), .lit (.int .u8 24), .lit (.int .u8 18), .lit (.int .u8 12), .lit (.int .u8 5), .lit (.int .u8 63), .lit (.int .u8 55), .lit (.int .u8 48), .lit (.int .u8 27), .lit (.int .u8 60), .lit (.int .u8 41), .lit (.int .u8 37), .lit (.int .u8 16), .lit (.int .u8 46), .lit (.int .u8 35), .lit (.int .u8 44), .lit (.int .u8 21), .lit (.int .u8 52), .lit (.int .u8 32), .lit (.int .u8 23), .lit (.int .u8 11), .lit (.int .u8 54), .lit (.int .u8 26), .lit (.int .u8 40), .lit (.int .u8 15), .lit (.int .u8 34), .lit (.int .u8 20), .lit (.int .u8 31), .lit (.int .u8 10), .lit (.int .u8 25), .lit (.int .u8 14), .lit (.int .u8 19), .lit (.int .u8 9), .lit (.int .u8 13), .lit (.int .u8 8), .lit (.int .u8 7), .lit (.int .u8 6)]
def laid_internal_strconv_uint64pow10 {H : Type} : DataW H := .agg [.lit (.int .u64 1), .lit (.int .u64 10), .lit (.int .u64 100), .lit (.int .u64 1000), .lit (.int .u64 10000), .lit (.int .u64 100000), .lit (.int .u64 1000000), .lit (.int .u64 10000000), .lit (.int .u64 100000000), .lit (.int .u64 1000000000), .lit (.int .u64 10000000000), .lit (.int .u64 100000000000), .lit (.int .u64 1000000000000), .lit (.int .u64 10000000000000), .lit (.int .u64 100000000000000), .lit (.int .u64 1000000000000000), .lit (.int .u64 10000000000000000), .lit (.int .u64 100000000000000000), .lit (.int .u64 1000000000000000000), .lit (.int .u64 10000000000000000000)]
def laid_strconv_ErrRange {H : Type} : DataW H := .iface "*errors.errorString" (.ptr (.agg [.lit (.string [118, 97, 108, 117, 101, 32, 111, 117, 116, 32, 111, 102, 32, 114, 97, 110, 103, 101])]))
def laid_strconv_ErrSyntax {H : Type} : DataW H := .iface "*errors.errorString" (.ptr (.agg [.lit (.string [105, 110, 118, 97, 108, 105, 100, 32, 115, 121, 110, 116, 97, 120])]))
def laid_kibitzer_order_words {H : Type} : DataW H := .agg [.lit (.string []), .lit (.string [102, 108, 111, 111, 114]), .lit (.string [100, 114, 111, 112]), .lit (.string [108, 105, 115, 116]), .lit (.string [100, 101, 116, 97, 99, 104]), .lit (.string [114, 101, 118, 111, 107, 101]), .lit (.string [103, 105, 118, 101]), .lit (.string [107, 105, 99, 107]), .lit (.string [119, 114, 105, 116, 101]), .lit (.string [119, 97, 116, 99, 104]), .lit (.string [114, 101, 112, 108, 97, 121]), .lit (.string [108, 105, 109, 105, 116])]

/-- 'kibitzerlaw14.BrokerEvents': WHATEVER THE INPUT: true; the input reads as it did. -/
def brokerEventsSpec : ChangeSpec := { name := "brokerEvents", fn := fun _ => fun
  | [d1, d2] => { results := [.lit (.bool true)], args := [d1, d2] }
  | _ => none }
def brokerEventsRow : OpenClaim := { program := "ytjmdddhbdofppaagreatdoor", sum := "49be18445dc5be8831fde7dbffb77a3af7b95807370b48fe3f27148377f9ea66", func := "kibitzer/kibitzerlaw14.BrokerEvents", spec := "brokerEvents", inPlace := ["internal/bytealg.IndexByteString", "internal/bytealg.IndexString"], unfollowed := true, recurses := true, named := ["internal/strconv.uint64pow10", "math/bits.deBruijn32tab", "math/bits.deBruijn64tab", "internal/bytealg.MaxLen", "kibitzer/order.words", "strconv.ErrSyntax", "strconv.ErrRange"], apart := false, laid := [("math/bits.deBruijn32tab", laid_math_bits_deBruijn32tab), ("math/bits.deBruijn64tab", laid_math_bits_deBruijn64tab), ("internal/strconv.uint64pow10", laid_internal_strconv_uint64pow10), ("strconv.ErrRange", laid_strconv_ErrRange), ("strconv.ErrSyntax", laid_strconv_ErrSyntax), ("kibitzer/order.words", laid_kibitzer_order_words)] }
def BrokerEventsSaid : Prop := brokerEventsRow.holds Tryz.pinned (OpenSpec.ofChange brokerEventsSpec)

/-- ITS FALSE NEIGHBOUR: 'it returns false'. Refute it at one input. -/
def brokerEventsWrong : ChangeSpec := { name := "brokerEvents", fn := fun _ => fun
  | [d1, d2] => { results := [.lit (.bool false)], args := [d1, d2] }
  | _ => none }
def BrokerEventsWrongFalsely : Prop := brokerEventsRow.holds Tryz.pinned (OpenSpec.ofChange brokerEventsWrong)

/-- 'kibitzerlaw14.BrokerTiles': WHATEVER THE INPUT: true; the input reads as it did. -/
def brokerTilesSpec : ChangeSpec := { name := "brokerTiles", fn := fun _ => fun
  | [d1, d2] => { results := [.lit (.bool true)], args := [d1, d2] }
  | _ => none }
def brokerTilesRow : OpenClaim := { program := "ytjmdddhbdofppaagreatdoor", sum := "49be18445dc5be8831fde7dbffb77a3af7b95807370b48fe3f27148377f9ea66", func := "kibitzer/kibitzerlaw14.BrokerTiles", spec := "brokerTiles", inPlace := ["internal/bytealg.IndexByteString", "internal/bytealg.IndexString"], unfollowed := true, recurses := true, named := ["internal/strconv.uint64pow10", "math/bits.deBruijn32tab", "math/bits.deBruijn64tab", "internal/bytealg.MaxLen", "kibitzer/order.words", "strconv.ErrSyntax", "strconv.ErrRange"], apart := false, laid := [("math/bits.deBruijn32tab", laid_math_bits_deBruijn32tab), ("math/bits.deBruijn64tab", laid_math_bits_deBruijn64tab), ("internal/strconv.uint64pow10", laid_internal_strconv_uint64pow10), ("strconv.ErrRange", laid_strconv_ErrRange), ("strconv.ErrSyntax", laid_strconv_ErrSyntax), ("kibitzer/order.words", laid_kibitzer_order_words)] }
def BrokerTilesSaid : Prop := brokerTilesRow.holds Tryz.pinned (OpenSpec.ofChange brokerTilesSpec)

/-- ITS FALSE NEIGHBOUR: 'it returns false'. Refute it at one input. -/
def brokerTilesWrong : ChangeSpec := { name := "brokerTiles", fn := fun _ => fun
  | [d1, d2] => { results := [.lit (.bool false)], args := [d1, d2] }
  | _ => none }
def BrokerTilesWrongFalsely : Prop := brokerTilesRow.holds Tryz.pinned (OpenSpec.ofChange brokerTilesWrong)

/-- 'kibitzerlaw14.BrokerInput': WHATEVER THE INPUT: true; the input reads as it did. -/
def brokerInputSpec : ChangeSpec := { name := "brokerInput", fn := fun _ => fun
  | [d1, d2] => { results := [.lit (.bool true)], args := [d1, d2] }
  | _ => none }
def brokerInputRow : OpenClaim := { program := "ytjmdddhbdofppaagreatdoor", sum := "49be18445dc5be8831fde7dbffb77a3af7b95807370b48fe3f27148377f9ea66", func := "kibitzer/kibitzerlaw14.BrokerInput", spec := "brokerInput", inPlace := ["internal/bytealg.IndexByteString", "internal/bytealg.IndexString"], unfollowed := true, recurses := true, named := ["internal/strconv.uint64pow10", "math/bits.deBruijn32tab", "math/bits.deBruijn64tab", "internal/bytealg.MaxLen", "kibitzer/order.words", "strconv.ErrSyntax", "strconv.ErrRange"], apart := false, laid := [("math/bits.deBruijn32tab", laid_math_bits_deBruijn32tab), ("math/bits.deBruijn64tab", laid_math_bits_deBruijn64tab), ("internal/strconv.uint64pow10", laid_internal_strconv_uint64pow10), ("strconv.ErrRange", laid_strconv_ErrRange), ("strconv.ErrSyntax", laid_strconv_ErrSyntax), ("kibitzer/order.words", laid_kibitzer_order_words)] }
def BrokerInputSaid : Prop := brokerInputRow.holds Tryz.pinned (OpenSpec.ofChange brokerInputSpec)

/-- ITS FALSE NEIGHBOUR: 'it returns false'. Refute it at one input. -/
def brokerInputWrong : ChangeSpec := { name := "brokerInput", fn := fun _ => fun
  | [d1, d2] => { results := [.lit (.bool false)], args := [d1, d2] }
  | _ => none }
def BrokerInputWrongFalsely : Prop := brokerInputRow.holds Tryz.pinned (OpenSpec.ofChange brokerInputWrong)

/-- 'kibitzerlaw14.BrokerFloor': WHATEVER THE INPUT: true; the input reads as it did. -/
def brokerFloorSpec : ChangeSpec := { name := "brokerFloor", fn := fun _ => fun
  | [d1, d2] => { results := [.lit (.bool true)], args := [d1, d2] }
  | _ => none }
def brokerFloorRow : OpenClaim := { program := "ytjmdddhbdofppaagreatdoor", sum := "49be18445dc5be8831fde7dbffb77a3af7b95807370b48fe3f27148377f9ea66", func := "kibitzer/kibitzerlaw14.BrokerFloor", spec := "brokerFloor", inPlace := ["internal/bytealg.IndexByteString", "internal/bytealg.IndexString"], unfollowed := true, recurses := true, named := ["internal/strconv.uint64pow10", "math/bits.deBruijn32tab", "math/bits.deBruijn64tab", "internal/bytealg.MaxLen", "kibitzer/order.words", "strconv.ErrSyntax", "strconv.ErrRange"], apart := false, laid := [("math/bits.deBruijn32tab", laid_math_bits_deBruijn32tab), ("math/bits.deBruijn64tab", laid_math_bits_deBruijn64tab), ("internal/strconv.uint64pow10", laid_internal_strconv_uint64pow10), ("strconv.ErrRange", laid_strconv_ErrRange), ("strconv.ErrSyntax", laid_strconv_ErrSyntax), ("kibitzer/order.words", laid_kibitzer_order_words)] }
def BrokerFloorSaid : Prop := brokerFloorRow.holds Tryz.pinned (OpenSpec.ofChange brokerFloorSpec)

/-- ITS FALSE NEIGHBOUR: 'it returns false'. Refute it at one input. -/
def brokerFloorWrong : ChangeSpec := { name := "brokerFloor", fn := fun _ => fun
  | [d1, d2] => { results := [.lit (.bool false)], args := [d1, d2] }
  | _ => none }
def BrokerFloorWrongFalsely : Prop := brokerFloorRow.holds Tryz.pinned (OpenSpec.ofChange brokerFloorWrong)

/-- 'kibitzerlaw14.BrokerApart': WHATEVER THE INPUT: true; the input reads as it did. -/
def brokerApartSpec : ChangeSpec := { name := "brokerApart", fn := fun _ => fun
  | [d1, d2] => { results := [.lit (.bool true)], args := [d1, d2] }
  | _ => none }
def brokerApartRow : OpenClaim := { program := "ytjmdddhbdofppaagreatdoor", sum := "49be18445dc5be8831fde7dbffb77a3af7b95807370b48fe3f27148377f9ea66", func := "kibitzer/kibitzerlaw14.BrokerApart", spec := "brokerApart", inPlace := ["internal/bytealg.IndexByteString", "internal/bytealg.IndexString"], unfollowed := true, recurses := true, named := ["internal/strconv.uint64pow10", "math/bits.deBruijn32tab", "math/bits.deBruijn64tab", "internal/bytealg.MaxLen", "kibitzer/order.words", "strconv.ErrSyntax", "strconv.ErrRange"], apart := false, laid := [("math/bits.deBruijn32tab", laid_math_bits_deBruijn32tab), ("math/bits.deBruijn64tab", laid_math_bits_deBruijn64tab), ("internal/strconv.uint64pow10", laid_internal_strconv_uint64pow10), ("strconv.ErrRange", laid_strconv_ErrRange), ("strconv.ErrSyntax", laid_strconv_ErrSyntax), ("kibitzer/order.words", laid_kibitzer_order_words)] }
def BrokerApartSaid : Prop := brokerApartRow.holds Tryz.pinned (OpenSpec.ofChange brokerApartSpec)

/-- ITS FALSE NEIGHBOUR: 'it returns false'. Refute it at one input. -/
def brokerApartWrong : ChangeSpec := { name := "brokerApart", fn := fun _ => fun
  | [d1, d2] => { results := [.lit (.bool false)], args := [d1, d2] }
  | _ => none }
def BrokerApartWrongFalsely : Prop := brokerApartRow.holds Tryz.pinned (OpenSpec.ofChange brokerApartWrong)

/-- 'kibitzerlaw14.BrokerCatches': WHATEVER THE INPUT: true; the input reads as it did. -/
def brokerCatchesSpec : ChangeSpec := { name := "brokerCatches", fn := fun _ => fun
  | [d1, d2, d3] => { results := [.lit (.bool true)], args := [d1, d2, d3] }
  | _ => none }
def brokerCatchesRow : OpenClaim := { program := "ytjmdddhbdofppaagreatdoor", sum := "49be18445dc5be8831fde7dbffb77a3af7b95807370b48fe3f27148377f9ea66", func := "kibitzer/kibitzerlaw14.BrokerCatches", spec := "brokerCatches", inPlace := ["internal/bytealg.IndexByteString", "internal/bytealg.IndexString"], unfollowed := true, recurses := true, named := ["internal/strconv.uint64pow10", "math/bits.deBruijn32tab", "math/bits.deBruijn64tab", "internal/bytealg.MaxLen", "kibitzer/order.words", "strconv.ErrSyntax", "strconv.ErrRange"], apart := false, laid := [("math/bits.deBruijn32tab", laid_math_bits_deBruijn32tab), ("math/bits.deBruijn64tab", laid_math_bits_deBruijn64tab), ("internal/strconv.uint64pow10", laid_internal_strconv_uint64pow10), ("strconv.ErrRange", laid_strconv_ErrRange), ("strconv.ErrSyntax", laid_strconv_ErrSyntax), ("kibitzer/order.words", laid_kibitzer_order_words)] }
def BrokerCatchesSaid : Prop := brokerCatchesRow.holds Tryz.pinned (OpenSpec.ofChange brokerCatchesSpec)

/-- ITS FALSE NEIGHBOUR: 'it returns false'. Refute it at one input. -/
def brokerCatchesWrong : ChangeSpec := { name := "brokerCatches", fn := fun _ => fun
  | [d1, d2, d3] => { results := [.lit (.bool false)], args := [d1, d2, d3] }
  | _ => none }
def BrokerCatchesWrongFalsely : Prop := brokerCatchesRow.holds Tryz.pinned (OpenSpec.ofChange brokerCatchesWrong)

/-- 'kibitzerlaw14.BrokerEvicts': WHATEVER THE INPUT: true; the input reads as it did. -/
def brokerEvictsSpec : ChangeSpec := { name := "brokerEvicts", fn := fun _ => fun
  | [d1, d2] => { results := [.lit (.bool true)], args := [d1, d2] }
  | _ => none }
def brokerEvictsRow : OpenClaim := { program := "ytjmdddhbdofppaagreatdoor", sum := "49be18445dc5be8831fde7dbffb77a3af7b95807370b48fe3f27148377f9ea66", func := "kibitzer/kibitzerlaw14.BrokerEvicts", spec := "brokerEvicts", inPlace := ["internal/bytealg.IndexByteString", "internal/bytealg.IndexString"], unfollowed := true, recurses := true, named := ["internal/strconv.uint64pow10", "math/bits.deBruijn32tab", "math/bits.deBruijn64tab", "internal/bytealg.MaxLen", "kibitzer/order.words", "strconv.ErrSyntax", "strconv.ErrRange"], apart := false, laid := [("math/bits.deBruijn32tab", laid_math_bits_deBruijn32tab), ("math/bits.deBruijn64tab", laid_math_bits_deBruijn64tab), ("internal/strconv.uint64pow10", laid_internal_strconv_uint64pow10), ("strconv.ErrRange", laid_strconv_ErrRange), ("strconv.ErrSyntax", laid_strconv_ErrSyntax), ("kibitzer/order.words", laid_kibitzer_order_words)] }
def BrokerEvictsSaid : Prop := brokerEvictsRow.holds Tryz.pinned (OpenSpec.ofChange brokerEvictsSpec)

/-- ITS FALSE NEIGHBOUR: 'it returns false'. Refute it at one input. -/
def brokerEvictsWrong : ChangeSpec := { name := "brokerEvicts", fn := fun _ => fun
  | [d1, d2] => { results := [.lit (.bool false)], args := [d1, d2] }
  | _ => none }
def BrokerEvictsWrongFalsely : Prop := brokerEvictsRow.holds Tryz.pinned (OpenSpec.ofChange brokerEvictsWrong)

/-- 'kibitzerlaw14.BrokerBounds': WHATEVER THE INPUT: true; the input reads as it did. -/
def brokerBoundsSpec : ChangeSpec := { name := "brokerBounds", fn := fun _ => fun
  | [d1, d2] => { results := [.lit (.bool true)], args := [d1, d2] }
  | _ => none }
def brokerBoundsRow : OpenClaim := { program := "ytjmdddhbdofppaagreatdoor", sum := "49be18445dc5be8831fde7dbffb77a3af7b95807370b48fe3f27148377f9ea66", func := "kibitzer/kibitzerlaw14.BrokerBounds", spec := "brokerBounds", inPlace := ["internal/bytealg.IndexByteString", "internal/bytealg.IndexString"], unfollowed := true, recurses := true, named := ["internal/strconv.uint64pow10", "math/bits.deBruijn32tab", "math/bits.deBruijn64tab", "internal/bytealg.MaxLen", "kibitzer/order.words", "strconv.ErrSyntax", "strconv.ErrRange"], apart := false, laid := [("math/bits.deBruijn32tab", laid_math_bits_deBruijn32tab), ("math/bits.deBruijn64tab", laid_math_bits_deBruijn64tab), ("internal/strconv.uint64pow10", laid_internal_strconv_uint64pow10), ("strconv.ErrRange", laid_strconv_ErrRange), ("strconv.ErrSyntax", laid_strconv_ErrSyntax), ("kibitzer/order.words", laid_kibitzer_order_words)] }
def BrokerBoundsSaid : Prop := brokerBoundsRow.holds Tryz.pinned (OpenSpec.ofChange brokerBoundsSpec)

/-- ITS FALSE NEIGHBOUR: 'it returns false'. Refute it at one input. -/
def brokerBoundsWrong : ChangeSpec := { name := "brokerBounds", fn := fun _ => fun
  | [d1, d2] => { results := [.lit (.bool false)], args := [d1, d2] }
  | _ => none }
def BrokerBoundsWrongFalsely : Prop := brokerBoundsRow.holds Tryz.pinned (OpenSpec.ofChange brokerBoundsWrong)

/-- 'kibitzerlaw14.BrokerDenied': WHATEVER THE INPUT: true; the input reads as it did. -/
def brokerDeniedSpec : ChangeSpec := { name := "brokerDenied", fn := fun _ => fun
  | [d1, d2, d3] => { results := [.lit (.bool true)], args := [d1, d2, d3] }
  | _ => none }
def brokerDeniedRow : OpenClaim := { program := "ytjmdddhbdofppaagreatdoor", sum := "49be18445dc5be8831fde7dbffb77a3af7b95807370b48fe3f27148377f9ea66", func := "kibitzer/kibitzerlaw14.BrokerDenied", spec := "brokerDenied", inPlace := ["internal/bytealg.IndexByteString", "internal/bytealg.IndexString"], unfollowed := true, recurses := true, named := ["internal/strconv.uint64pow10", "math/bits.deBruijn32tab", "math/bits.deBruijn64tab", "internal/bytealg.MaxLen", "kibitzer/order.words", "strconv.ErrSyntax", "strconv.ErrRange"], apart := false, laid := [("math/bits.deBruijn32tab", laid_math_bits_deBruijn32tab), ("math/bits.deBruijn64tab", laid_math_bits_deBruijn64tab), ("internal/strconv.uint64pow10", laid_internal_strconv_uint64pow10), ("strconv.ErrRange", laid_strconv_ErrRange), ("strconv.ErrSyntax", laid_strconv_ErrSyntax), ("kibitzer/order.words", laid_kibitzer_order_words)] }
def BrokerDeniedSaid : Prop := brokerDeniedRow.holds Tryz.pinned (OpenSpec.ofChange brokerDeniedSpec)

/-- ITS FALSE NEIGHBOUR: 'it returns false'. Refute it at one input. -/
def brokerDeniedWrong : ChangeSpec := { name := "brokerDenied", fn := fun _ => fun
  | [d1, d2, d3] => { results := [.lit (.bool false)], args := [d1, d2, d3] }
  | _ => none }
def BrokerDeniedWrongFalsely : Prop := brokerDeniedRow.holds Tryz.pinned (OpenSpec.ofChange brokerDeniedWrong)

/-- 'kibitzerlaw14.BrokerChunks': WHATEVER THE INPUT: true; the input reads as it did. -/
def brokerChunksSpec : ChangeSpec := { name := "brokerChunks", fn := fun _ => fun
  | [d1, d2] => { results := [.lit (.bool true)], args := [d1, d2] }
  | _ => none }
def brokerChunksRow : OpenClaim := { program := "ytjmdddhbdofppaagreatdoor", sum := "49be18445dc5be8831fde7dbffb77a3af7b95807370b48fe3f27148377f9ea66", func := "kibitzer/kibitzerlaw14.BrokerChunks", spec := "brokerChunks", inPlace := ["internal/bytealg.IndexByteString", "internal/bytealg.IndexString"], unfollowed := true, recurses := true, named := ["internal/strconv.uint64pow10", "math/bits.deBruijn32tab", "math/bits.deBruijn64tab", "internal/bytealg.MaxLen", "kibitzer/order.words", "strconv.ErrSyntax", "strconv.ErrRange"], apart := false, laid := [("math/bits.deBruijn32tab", laid_math_bits_deBruijn32tab), ("math/bits.deBruijn64tab", laid_math_bits_deBruijn64tab), ("internal/strconv.uint64pow10", laid_internal_strconv_uint64pow10), ("strconv.ErrRange", laid_strconv_ErrRange), ("strconv.ErrSyntax", laid_strconv_ErrSyntax), ("kibitzer/order.words", laid_kibitzer_order_words)] }
def BrokerChunksSaid : Prop := brokerChunksRow.holds Tryz.pinned (OpenSpec.ofChange brokerChunksSpec)

/-- ITS FALSE NEIGHBOUR: 'it returns false'. Refute it at one input. -/
def brokerChunksWrong : ChangeSpec := { name := "brokerChunks", fn := fun _ => fun
  | [d1, d2] => { results := [.lit (.bool false)], args := [d1, d2] }
  | _ => none }
def BrokerChunksWrongFalsely : Prop := brokerChunksRow.holds Tryz.pinned (OpenSpec.ofChange brokerChunksWrong)

/-- 'kibitzerlaw14.BrokerWaits': WHATEVER THE INPUT: true; the input reads as it did. -/
def brokerWaitsSpec : ChangeSpec := { name := "brokerWaits", fn := fun _ => fun
  | [d1, d2] => { results := [.lit (.bool true)], args := [d1, d2] }
  | _ => none }
def brokerWaitsRow : OpenClaim := { program := "ytjmdddhbdofppaagreatdoor", sum := "49be18445dc5be8831fde7dbffb77a3af7b95807370b48fe3f27148377f9ea66", func := "kibitzer/kibitzerlaw14.BrokerWaits", spec := "brokerWaits", inPlace := ["internal/bytealg.IndexByteString", "internal/bytealg.IndexString"], unfollowed := true, recurses := true, named := ["internal/strconv.uint64pow10", "math/bits.deBruijn32tab", "math/bits.deBruijn64tab", "internal/bytealg.MaxLen", "kibitzer/order.words", "strconv.ErrSyntax", "strconv.ErrRange"], apart := false, laid := [("math/bits.deBruijn32tab", laid_math_bits_deBruijn32tab), ("math/bits.deBruijn64tab", laid_math_bits_deBruijn64tab), ("internal/strconv.uint64pow10", laid_internal_strconv_uint64pow10), ("strconv.ErrRange", laid_strconv_ErrRange), ("strconv.ErrSyntax", laid_strconv_ErrSyntax), ("kibitzer/order.words", laid_kibitzer_order_words)] }
def BrokerWaitsSaid : Prop := brokerWaitsRow.holds Tryz.pinned (OpenSpec.ofChange brokerWaitsSpec)

/-- ITS FALSE NEIGHBOUR: 'it returns false'. Refute it at one input. -/
def brokerWaitsWrong : ChangeSpec := { name := "brokerWaits", fn := fun _ => fun
  | [d1, d2] => { results := [.lit (.bool false)], args := [d1, d2] }
  | _ => none }
def BrokerWaitsWrongFalsely : Prop := brokerWaitsRow.holds Tryz.pinned (OpenSpec.ofChange brokerWaitsWrong)

/-- 'kibitzerlaw14.BrokerIdle': WHATEVER THE INPUT: true; the input reads as it did. -/
def brokerIdleSpec : ChangeSpec := { name := "brokerIdle", fn := fun _ => fun
  | [d1, d2] => { results := [.lit (.bool true)], args := [d1, d2] }
  | _ => none }
def brokerIdleRow : OpenClaim := { program := "ytjmdddhbdofppaagreatdoor", sum := "49be18445dc5be8831fde7dbffb77a3af7b95807370b48fe3f27148377f9ea66", func := "kibitzer/kibitzerlaw14.BrokerIdle", spec := "brokerIdle", inPlace := ["internal/bytealg.IndexByteString", "internal/bytealg.IndexString"], unfollowed := true, recurses := true, named := ["internal/strconv.uint64pow10", "math/bits.deBruijn32tab", "math/bits.deBruijn64tab", "internal/bytealg.MaxLen", "kibitzer/order.words", "strconv.ErrSyntax", "strconv.ErrRange"], apart := false, laid := [("math/bits.deBruijn32tab", laid_math_bits_deBruijn32tab), ("math/bits.deBruijn64tab", laid_math_bits_deBruijn64tab), ("internal/strconv.uint64pow10", laid_internal_strconv_uint64pow10), ("strconv.ErrRange", laid_strconv_ErrRange), ("strconv.ErrSyntax", laid_strconv_ErrSyntax), ("kibitzer/order.words", laid_kibitzer_order_words)] }
def BrokerIdleSaid : Prop := brokerIdleRow.holds Tryz.pinned (OpenSpec.ofChange brokerIdleSpec)

/-- ITS FALSE NEIGHBOUR: 'it returns false'. Refute it at one input. -/
def brokerIdleWrong : ChangeSpec := { name := "brokerIdle", fn := fun _ => fun
  | [d1, d2] => { results := [.lit (.bool false)], args := [d1, d2] }
  | _ => none }
def BrokerIdleWrongFalsely : Prop := brokerIdleRow.holds Tryz.pinned (OpenSpec.ofChange brokerIdleWrong)

/-- 'kibitzerlaw14.BrokerRoles': WHATEVER THE INPUT: true; the input reads as it did. -/
def brokerRolesSpec : ChangeSpec := { name := "brokerRoles", fn := fun _ => fun
  | [d1, d2] => { results := [.lit (.bool true)], args := [d1, d2] }
  | _ => none }
def brokerRolesRow : OpenClaim := { program := "ytjmdddhbdofppaagreatdoor", sum := "49be18445dc5be8831fde7dbffb77a3af7b95807370b48fe3f27148377f9ea66", func := "kibitzer/kibitzerlaw14.BrokerRoles", spec := "brokerRoles", inPlace := ["internal/bytealg.IndexByteString", "internal/bytealg.IndexString"], unfollowed := true, recurses := true, named := ["internal/strconv.uint64pow10", "math/bits.deBruijn32tab", "math/bits.deBruijn64tab", "internal/bytealg.MaxLen", "kibitzer/order.words", "strconv.ErrSyntax", "strconv.ErrRange"], apart := false, laid := [("math/bits.deBruijn32tab", laid_math_bits_deBruijn32tab), ("math/bits.deBruijn64tab", laid_math_bits_deBruijn64tab), ("internal/strconv.uint64pow10", laid_internal_strconv_uint64pow10), ("strconv.ErrRange", laid_strconv_ErrRange), ("strconv.ErrSyntax", laid_strconv_ErrSyntax), ("kibitzer/order.words", laid_kibitzer_order_words)] }
def BrokerRolesSaid : Prop := brokerRolesRow.holds Tryz.pinned (OpenSpec.ofChange brokerRolesSpec)

/-- ITS FALSE NEIGHBOUR: 'it returns false'. Refute it at one input. -/
def brokerRolesWrong : ChangeSpec := { name := "brokerRoles", fn := fun _ => fun
  | [d1, d2] => { results := [.lit (.bool false)], args := [d1, d2] }
  | _ => none }
def BrokerRolesWrongFalsely : Prop := brokerRolesRow.holds Tryz.pinned (OpenSpec.ofChange brokerRolesWrong)

/-- 'kibitzerlaw14.BrokerExit': WHATEVER THE INPUT: true; the input reads as it did. -/
def brokerExitSpec : ChangeSpec := { name := "brokerExit", fn := fun _ => fun
  | [d1, d2] => { results := [.lit (.bool true)], args := [d1, d2] }
  | _ => none }
def brokerExitRow : OpenClaim := { program := "ytjmdddhbdofppaagreatdoor", sum := "49be18445dc5be8831fde7dbffb77a3af7b95807370b48fe3f27148377f9ea66", func := "kibitzer/kibitzerlaw14.BrokerExit", spec := "brokerExit", inPlace := ["internal/bytealg.IndexByteString", "internal/bytealg.IndexString"], unfollowed := true, recurses := true, named := ["internal/strconv.uint64pow10", "math/bits.deBruijn32tab", "math/bits.deBruijn64tab", "internal/bytealg.MaxLen", "kibitzer/order.words", "strconv.ErrSyntax", "strconv.ErrRange"], apart := false, laid := [("math/bits.deBruijn32tab", laid_math_bits_deBruijn32tab), ("math/bits.deBruijn64tab", laid_math_bits_deBruijn64tab), ("internal/strconv.uint64pow10", laid_internal_strconv_uint64pow10), ("strconv.ErrRange", laid_strconv_ErrRange), ("strconv.ErrSyntax", laid_strconv_ErrSyntax), ("kibitzer/order.words", laid_kibitzer_order_words)] }
def BrokerExitSaid : Prop := brokerExitRow.holds Tryz.pinned (OpenSpec.ofChange brokerExitSpec)

/-- ITS FALSE NEIGHBOUR: 'it returns false'. Refute it at one input. -/
def brokerExitWrong : ChangeSpec := { name := "brokerExit", fn := fun _ => fun
  | [d1, d2] => { results := [.lit (.bool false)], args := [d1, d2] }
  | _ => none }
def BrokerExitWrongFalsely : Prop := brokerExitRow.holds Tryz.pinned (OpenSpec.ofChange brokerExitWrong)

/-- 'kibitzerlaw14.BrokerReplay': WHATEVER THE INPUT: true; the input reads as it did. -/
def brokerReplaySpec : ChangeSpec := { name := "brokerReplay", fn := fun _ => fun
  | [d1, d2] => { results := [.lit (.bool true)], args := [d1, d2] }
  | _ => none }
def brokerReplayRow : OpenClaim := { program := "ytjmdddhbdofppaagreatdoor", sum := "49be18445dc5be8831fde7dbffb77a3af7b95807370b48fe3f27148377f9ea66", func := "kibitzer/kibitzerlaw14.BrokerReplay", spec := "brokerReplay", inPlace := ["internal/bytealg.IndexByteString", "internal/bytealg.IndexString"], unfollowed := true, recurses := true, named := ["internal/strconv.uint64pow10", "math/bits.deBruijn32tab", "math/bits.deBruijn64tab", "internal/bytealg.MaxLen", "kibitzer/order.words", "strconv.ErrSyntax", "strconv.ErrRange"], apart := false, laid := [("math/bits.deBruijn32tab", laid_math_bits_deBruijn32tab), ("math/bits.deBruijn64tab", laid_math_bits_deBruijn64tab), ("internal/strconv.uint64pow10", laid_internal_strconv_uint64pow10), ("strconv.ErrRange", laid_strconv_ErrRange), ("strconv.ErrSyntax", laid_strconv_ErrSyntax), ("kibitzer/order.words", laid_kibitzer_order_words)] }
def BrokerReplaySaid : Prop := brokerReplayRow.holds Tryz.pinned (OpenSpec.ofChange brokerReplaySpec)

/-- ITS FALSE NEIGHBOUR: 'it returns false'. Refute it at one input. -/
def brokerReplayWrong : ChangeSpec := { name := "brokerReplay", fn := fun _ => fun
  | [d1, d2] => { results := [.lit (.bool false)], args := [d1, d2] }
  | _ => none }
def BrokerReplayWrongFalsely : Prop := brokerReplayRow.holds Tryz.pinned (OpenSpec.ofChange brokerReplayWrong)

/-- 'kibitzerlaw14.BrokerFresh': WHATEVER THE INPUT: true; the input reads as it did. -/
def brokerFreshSpec : ChangeSpec := { name := "brokerFresh", fn := fun _ => fun
  | [d] => { results := [.lit (.bool true)], args := [d] }
  | _ => none }
def brokerFreshRow : OpenClaim := { program := "ytjmdddhbdofppaagreatdoor", sum := "49be18445dc5be8831fde7dbffb77a3af7b95807370b48fe3f27148377f9ea66", func := "kibitzer/kibitzerlaw14.BrokerFresh", spec := "brokerFresh", inPlace := ["internal/bytealg.IndexByteString", "internal/bytealg.IndexString"], unfollowed := true, recurses := true, named := ["internal/strconv.uint64pow10", "math/bits.deBruijn32tab", "math/bits.deBruijn64tab", "internal/bytealg.MaxLen", "kibitzer/order.words", "strconv.ErrSyntax", "strconv.ErrRange"], apart := false, laid := [("math/bits.deBruijn32tab", laid_math_bits_deBruijn32tab), ("math/bits.deBruijn64tab", laid_math_bits_deBruijn64tab), ("internal/strconv.uint64pow10", laid_internal_strconv_uint64pow10), ("strconv.ErrRange", laid_strconv_ErrRange), ("strconv.ErrSyntax", laid_strconv_ErrSyntax), ("kibitzer/order.words", laid_kibitzer_order_words)] }
def BrokerFreshSaid : Prop := brokerFreshRow.holds Tryz.pinned (OpenSpec.ofChange brokerFreshSpec)

/-- ITS FALSE NEIGHBOUR: 'it returns false'. Refute it at one input. -/
def brokerFreshWrong : ChangeSpec := { name := "brokerFresh", fn := fun _ => fun
  | [d] => { results := [.lit (.bool false)], args := [d] }
  | _ => none }
def BrokerFreshWrongFalsely : Prop := brokerFreshRow.holds Tryz.pinned (OpenSpec.ofChange brokerFreshWrong)

/- THE SECOND FORM. 'bulk': how many values and letters a reading holds, each counted each time it is reached (what is shared counts as often as it is met; a slice's spare places count too). A statement '..UptoSaid' is the law's where the arguments, and the package variables that the reading takes, are together of bulk at most 1048576: NARROWER than '..Said'. Prove '..Said' where nothing that the law and all that it calls make is longer than what came in: it says more and counts as full. Else prove '..UptoSaid'. A law counts once. -/
mutual
def uptoBulk {H : Type} : DataW H → Nat
  | .lit (.string bytes) => bytes.length + 1
  | .lit _ => 1
  | .nil => 1
  | .ptr d => uptoBulk d + 1
  | .slice elems spare => uptoBulkAll elems + uptoBulkAll spare + 1
  | .agg parts => uptoBulkAll parts + 1
  | .iface _ d => uptoBulk d + 1
  | .map entries => uptoBulkEntries entries + 1
  | .held _ => 1
def uptoBulkAll {H : Type} : List (DataW H) → Nat
  | [] => 0
  | d :: r => uptoBulk d + uptoBulkAll r
def uptoBulkEntries {H : Type} : List (Lit × DataW H) → Nat
  | [] => 0
  | x :: r => uptoBulkEntry x + uptoBulkEntries r
def uptoBulkEntry {H : Type} : Lit × DataW H → Nat
  | (.string bytes, d) => bytes.length + uptoBulk d + 1
  | (_, d) => uptoBulk d + 1
 end
def uptoSmall : (H : Type) → List (DataW H) → Bool := fun _ ds => decide (uptoBulkAll ds ≤ 1048576)
def OpenSpec.upto (s : _root_.Go.ChangeSpec) : _root_.Go.OpenSpec := { _root_.Go.OpenSpec.ofChange s with cond := some uptoSmall }

/-- 'kibitzerlaw14.BrokerEvents', WHERE WHAT IT READS IS OF BULK AT MOST 1048576: true; the input reads as it did. -/
def brokerEventsUptoRow : OpenClaim := { program := "ytjmdddhbdofppaagreatdoor", sum := "49be18445dc5be8831fde7dbffb77a3af7b95807370b48fe3f27148377f9ea66", func := "kibitzer/kibitzerlaw14.BrokerEvents", spec := "brokerEvents", inPlace := ["internal/bytealg.IndexByteString", "internal/bytealg.IndexString"], unfollowed := true, recurses := true, named := ["internal/strconv.uint64pow10", "math/bits.deBruijn32tab", "math/bits.deBruijn64tab", "internal/bytealg.MaxLen", "kibitzer/order.words", "strconv.ErrSyntax", "strconv.ErrRange"], apart := false, laid := [("math/bits.deBruijn32tab", laid_math_bits_deBruijn32tab), ("math/bits.deBruijn64tab", laid_math_bits_deBruijn64tab), ("internal/strconv.uint64pow10", laid_internal_strconv_uint64pow10), ("strconv.ErrRange", laid_strconv_ErrRange), ("strconv.ErrSyntax", laid_strconv_ErrSyntax), ("kibitzer/order.words", laid_kibitzer_order_words)], narrowed := true }
def BrokerEventsUptoSaid : Prop := brokerEventsUptoRow.holds Tryz.pinned (OpenSpec.upto brokerEventsSpec)

/-- 'kibitzerlaw14.BrokerTiles', WHERE WHAT IT READS IS OF BULK AT MOST 1048576: true; the input reads as it did. -/
def brokerTilesUptoRow : OpenClaim := { program := "ytjmdddhbdofppaagreatdoor", sum := "49be18445dc5be8831fde7dbffb77a3af7b95807370b48fe3f27148377f9ea66", func := "kibitzer/kibitzerlaw14.BrokerTiles", spec := "brokerTiles", inPlace := ["internal/bytealg.IndexByteString", "internal/bytealg.IndexString"], unfollowed := true, recurses := true, named := ["internal/strconv.uint64pow10", "math/bits.deBruijn32tab", "math/bits.deBruijn64tab", "internal/bytealg.MaxLen", "kibitzer/order.words", "strconv.ErrSyntax", "strconv.ErrRange"], apart := false, laid := [("math/bits.deBruijn32tab", laid_math_bits_deBruijn32tab), ("math/bits.deBruijn64tab", laid_math_bits_deBruijn64tab), ("internal/strconv.uint64pow10", laid_internal_strconv_uint64pow10), ("strconv.ErrRange", laid_strconv_ErrRange), ("strconv.ErrSyntax", laid_strconv_ErrSyntax), ("kibitzer/order.words", laid_kibitzer_order_words)], narrowed := true }
def BrokerTilesUptoSaid : Prop := brokerTilesUptoRow.holds Tryz.pinned (OpenSpec.upto brokerTilesSpec)

/-- 'kibitzerlaw14.BrokerInput', WHERE WHAT IT READS IS OF BULK AT MOST 1048576: true; the input reads as it did. -/
def brokerInputUptoRow : OpenClaim := { program := "ytjmdddhbdofppaagreatdoor", sum := "49be18445dc5be8831fde7dbffb77a3af7b95807370b48fe3f27148377f9ea66", func := "kibitzer/kibitzerlaw14.BrokerInput", spec := "brokerInput", inPlace := ["internal/bytealg.IndexByteString", "internal/bytealg.IndexString"], unfollowed := true, recurses := true, named := ["internal/strconv.uint64pow10", "math/bits.deBruijn32tab", "math/bits.deBruijn64tab", "internal/bytealg.MaxLen", "kibitzer/order.words", "strconv.ErrSyntax", "strconv.ErrRange"], apart := false, laid := [("math/bits.deBruijn32tab", laid_math_bits_deBruijn32tab), ("math/bits.deBruijn64tab", laid_math_bits_deBruijn64tab), ("internal/strconv.uint64pow10", laid_internal_strconv_uint64pow10), ("strconv.ErrRange", laid_strconv_ErrRange), ("strconv.ErrSyntax", laid_strconv_ErrSyntax), ("kibitzer/order.words", laid_kibitzer_order_words)], narrowed := true }
def BrokerInputUptoSaid : Prop := brokerInputUptoRow.holds Tryz.pinned (OpenSpec.upto brokerInputSpec)

/-- 'kibitzerlaw14.BrokerFloor', WHERE WHAT IT READS IS OF BULK AT MOST 1048576: true; the input reads as it did. -/
def brokerFloorUptoRow : OpenClaim := { program := "ytjmdddhbdofppaagreatdoor", sum := "49be18445dc5be8831fde7dbffb77a3af7b95807370b48fe3f27148377f9ea66", func := "kibitzer/kibitzerlaw14.BrokerFloor", spec := "brokerFloor", inPlace := ["internal/bytealg.IndexByteString", "internal/bytealg.IndexString"], unfollowed := true, recurses := true, named := ["internal/strconv.uint64pow10", "math/bits.deBruijn32tab", "math/bits.deBruijn64tab", "internal/bytealg.MaxLen", "kibitzer/order.words", "strconv.ErrSyntax", "strconv.ErrRange"], apart := false, laid := [("math/bits.deBruijn32tab", laid_math_bits_deBruijn32tab), ("math/bits.deBruijn64tab", laid_math_bits_deBruijn64tab), ("internal/strconv.uint64pow10", laid_internal_strconv_uint64pow10), ("strconv.ErrRange", laid_strconv_ErrRange), ("strconv.ErrSyntax", laid_strconv_ErrSyntax), ("kibitzer/order.words", laid_kibitzer_order_words)], narrowed := true }
def BrokerFloorUptoSaid : Prop := brokerFloorUptoRow.holds Tryz.pinned (OpenSpec.upto brokerFloorSpec)

/-- 'kibitzerlaw14.BrokerApart', WHERE WHAT IT READS IS OF BULK AT MOST 1048576: true; the input reads as it did. -/
def brokerApartUptoRow : OpenClaim := { program := "ytjmdddhbdofppaagreatdoor", sum := "49be18445dc5be8831fde7dbffb77a3af7b95807370b48fe3f27148377f9ea66", func := "kibitzer/kibitzerlaw14.BrokerApart", spec := "brokerApart", inPlace := ["internal/bytealg.IndexByteString", "internal/bytealg.IndexString"], unfollowed := true, recurses := true, named := ["internal/strconv.uint64pow10", "math/bits.deBruijn32tab", "math/bits.deBruijn64tab", "internal/bytealg.MaxLen", "kibitzer/order.words", "strconv.ErrSyntax", "strconv.ErrRange"], apart := false, laid := [("math/bits.deBruijn32tab", laid_math_bits_deBruijn32tab), ("math/bits.deBruijn64tab", laid_math_bits_deBruijn64tab), ("internal/strconv.uint64pow10", laid_internal_strconv_uint64pow10), ("strconv.ErrRange", laid_strconv_ErrRange), ("strconv.ErrSyntax", laid_strconv_ErrSyntax), ("kibitzer/order.words", laid_kibitzer_order_words)], narrowed := true }
def BrokerApartUptoSaid : Prop := brokerApartUptoRow.holds Tryz.pinned (OpenSpec.upto brokerApartSpec)

/-- 'kibitzerlaw14.BrokerCatches', WHERE WHAT IT READS IS OF BULK AT MOST 1048576: true; the input reads as it did. -/
def brokerCatchesUptoRow : OpenClaim := { program := "ytjmdddhbdofppaagreatdoor", sum := "49be18445dc5be8831fde7dbffb77a3af7b95807370b48fe3f27148377f9ea66", func := "kibitzer/kibitzerlaw14.BrokerCatches", spec := "brokerCatches", inPlace := ["internal/bytealg.IndexByteString", "internal/bytealg.IndexString"], unfollowed := true, recurses := true, named := ["internal/strconv.uint64pow10", "math/bits.deBruijn32tab", "math/bits.deBruijn64tab", "internal/bytealg.MaxLen", "kibitzer/order.words", "strconv.ErrSyntax", "strconv.ErrRange"], apart := false, laid := [("math/bits.deBruijn32tab", laid_math_bits_deBruijn32tab), ("math/bits.deBruijn64tab", laid_math_bits_deBruijn64tab), ("internal/strconv.uint64pow10", laid_internal_strconv_uint64pow10), ("strconv.ErrRange", laid_strconv_ErrRange), ("strconv.ErrSyntax", laid_strconv_ErrSyntax), ("kibitzer/order.words", laid_kibitzer_order_words)], narrowed := true }
def BrokerCatchesUptoSaid : Prop := brokerCatchesUptoRow.holds Tryz.pinned (OpenSpec.upto brokerCatchesSpec)

/-- 'kibitzerlaw14.BrokerEvicts', WHERE WHAT IT READS IS OF BULK AT MOST 1048576: true; the input reads as it did. -/
def brokerEvictsUptoRow : OpenClaim := { program := "ytjmdddhbdofppaagreatdoor", sum := "49be18445dc5be8831fde7dbffb77a3af7b95807370b48fe3f27148377f9ea66", func := "kibitzer/kibitzerlaw14.BrokerEvicts", spec := "brokerEvicts", inPlace := ["internal/bytealg.IndexByteString", "internal/bytealg.IndexString"], unfollowed := true, recurses := true, named := ["internal/strconv.uint64pow10", "math/bits.deBruijn32tab", "math/bits.deBruijn64tab", "internal/bytealg.MaxLen", "kibitzer/order.words", "strconv.ErrSyntax", "strconv.ErrRange"], apart := false, laid := [("math/bits.deBruijn32tab", laid_math_bits_deBruijn32tab), ("math/bits.deBruijn64tab", laid_math_bits_deBruijn64tab), ("internal/strconv.uint64pow10", laid_internal_strconv_uint64pow10), ("strconv.ErrRange", laid_strconv_ErrRange), ("strconv.ErrSyntax", laid_strconv_ErrSyntax), ("kibitzer/order.words", laid_kibitzer_order_words)], narrowed := true }
def BrokerEvictsUptoSaid : Prop := brokerEvictsUptoRow.holds Tryz.pinned (OpenSpec.upto brokerEvictsSpec)

/-- 'kibitzerlaw14.BrokerBounds', WHERE WHAT IT READS IS OF BULK AT MOST 1048576: true; the input reads as it did. -/
def brokerBoundsUptoRow : OpenClaim := { program := "ytjmdddhbdofppaagreatdoor", sum := "49be18445dc5be8831fde7dbffb77a3af7b95807370b48fe3f27148377f9ea66", func := "kibitzer/kibitzerlaw14.BrokerBounds", spec := "brokerBounds", inPlace := ["internal/bytealg.IndexByteString", "internal/bytealg.IndexString"], unfollowed := true, recurses := true, named := ["internal/strconv.uint64pow10", "math/bits.deBruijn32tab", "math/bits.deBruijn64tab", "internal/bytealg.MaxLen", "kibitzer/order.words", "strconv.ErrSyntax", "strconv.ErrRange"], apart := false, laid := [("math/bits.deBruijn32tab", laid_math_bits_deBruijn32tab), ("math/bits.deBruijn64tab", laid_math_bits_deBruijn64tab), ("internal/strconv.uint64pow10", laid_internal_strconv_uint64pow10), ("strconv.ErrRange", laid_strconv_ErrRange), ("strconv.ErrSyntax", laid_strconv_ErrSyntax), ("kibitzer/order.words", laid_kibitzer_order_words)], narrowed := true }
def BrokerBoundsUptoSaid : Prop := brokerBoundsUptoRow.holds Tryz.pinned (OpenSpec.upto brokerBoundsSpec)

/-- 'kibitzerlaw14.BrokerDenied', WHERE WHAT IT READS IS OF BULK AT MOST 1048576: true; the input reads as it did. -/
def brokerDeniedUptoRow : OpenClaim := { program := "ytjmdddhbdofppaagreatdoor", sum := "49be18445dc5be8831fde7dbffb77a3af7b95807370b48fe3f27148377f9ea66", func := "kibitzer/kibitzerlaw14.BrokerDenied", spec := "brokerDenied", inPlace := ["internal/bytealg.IndexByteString", "internal/bytealg.IndexString"], unfollowed := true, recurses := true, named := ["internal/strconv.uint64pow10", "math/bits.deBruijn32tab", "math/bits.deBruijn64tab", "internal/bytealg.MaxLen", "kibitzer/order.words", "strconv.ErrSyntax", "strconv.ErrRange"], apart := false, laid := [("math/bits.deBruijn32tab", laid_math_bits_deBruijn32tab), ("math/bits.deBruijn64tab", laid_math_bits_deBruijn64tab), ("internal/strconv.uint64pow10", laid_internal_strconv_uint64pow10), ("strconv.ErrRange", laid_strconv_ErrRange), ("strconv.ErrSyntax", laid_strconv_ErrSyntax), ("kibitzer/order.words", laid_kibitzer_order_words)], narrowed := true }
def BrokerDeniedUptoSaid : Prop := brokerDeniedUptoRow.holds Tryz.pinned (OpenSpec.upto brokerDeniedSpec)

/-- 'kibitzerlaw14.BrokerChunks', WHERE WHAT IT READS IS OF BULK AT MOST 1048576: true; the input reads as it did. -/
def brokerChunksUptoRow : OpenClaim := { program := "ytjmdddhbdofppaagreatdoor", sum := "49be18445dc5be8831fde7dbffb77a3af7b95807370b48fe3f27148377f9ea66", func := "kibitzer/kibitzerlaw14.BrokerChunks", spec := "brokerChunks", inPlace := ["internal/bytealg.IndexByteString", "internal/bytealg.IndexString"], unfollowed := true, recurses := true, named := ["internal/strconv.uint64pow10", "math/bits.deBruijn32tab", "math/bits.deBruijn64tab", "internal/bytealg.MaxLen", "kibitzer/order.words", "strconv.ErrSyntax", "strconv.ErrRange"], apart := false, laid := [("math/bits.deBruijn32tab", laid_math_bits_deBruijn32tab), ("math/bits.deBruijn64tab", laid_math_bits_deBruijn64tab), ("internal/strconv.uint64pow10", laid_internal_strconv_uint64pow10), ("strconv.ErrRange", laid_strconv_ErrRange), ("strconv.ErrSyntax", laid_strconv_ErrSyntax), ("kibitzer/order.words", laid_kibitzer_order_words)], narrowed := true }
def BrokerChunksUptoSaid : Prop := brokerChunksUptoRow.holds Tryz.pinned (OpenSpec.upto brokerChunksSpec)

/-- 'kibitzerlaw14.BrokerWaits', WHERE WHAT IT READS IS OF BULK AT MOST 1048576: true; the input reads as it did. -/
def brokerWaitsUptoRow : OpenClaim := { program := "ytjmdddhbdofppaagreatdoor", sum := "49be18445dc5be8831fde7dbffb77a3af7b95807370b48fe3f27148377f9ea66", func := "kibitzer/kibitzerlaw14.BrokerWaits", spec := "brokerWaits", inPlace := ["internal/bytealg.IndexByteString", "internal/bytealg.IndexString"], unfollowed := true, recurses := true, named := ["internal/strconv.uint64pow10", "math/bits.deBruijn32tab", "math/bits.deBruijn64tab", "internal/bytealg.MaxLen", "kibitzer/order.words", "strconv.ErrSyntax", "strconv.ErrRange"], apart := false, laid := [("math/bits.deBruijn32tab", laid_math_bits_deBruijn32tab), ("math/bits.deBruijn64tab", laid_math_bits_deBruijn64tab), ("internal/strconv.uint64pow10", laid_internal_strconv_uint64pow10), ("strconv.ErrRange", laid_strconv_ErrRange), ("strconv.ErrSyntax", laid_strconv_ErrSyntax), ("kibitzer/order.words", laid_kibitzer_order_words)], narrowed := true }
def BrokerWaitsUptoSaid : Prop := brokerWaitsUptoRow.holds Tryz.pinned (OpenSpec.upto brokerWaitsSpec)

/-- 'kibitzerlaw14.BrokerIdle', WHERE WHAT IT READS IS OF BULK AT MOST 1048576: true; the input reads as it did. -/
def brokerIdleUptoRow : OpenClaim := { program := "ytjmdddhbdofppaagreatdoor", sum := "49be18445dc5be8831fde7dbffb77a3af7b95807370b48fe3f27148377f9ea66", func := "kibitzer/kibitzerlaw14.BrokerIdle", spec := "brokerIdle", inPlace := ["internal/bytealg.IndexByteString", "internal/bytealg.IndexString"], unfollowed := true, recurses := true, named := ["internal/strconv.uint64pow10", "math/bits.deBruijn32tab", "math/bits.deBruijn64tab", "internal/bytealg.MaxLen", "kibitzer/order.words", "strconv.ErrSyntax", "strconv.ErrRange"], apart := false, laid := [("math/bits.deBruijn32tab", laid_math_bits_deBruijn32tab), ("math/bits.deBruijn64tab", laid_math_bits_deBruijn64tab), ("internal/strconv.uint64pow10", laid_internal_strconv_uint64pow10), ("strconv.ErrRange", laid_strconv_ErrRange), ("strconv.ErrSyntax", laid_strconv_ErrSyntax), ("kibitzer/order.words", laid_kibitzer_order_words)], narrowed := true }
def BrokerIdleUptoSaid : Prop := brokerIdleUptoRow.holds Tryz.pinned (OpenSpec.upto brokerIdleSpec)

/-- 'kibitzerlaw14.BrokerRoles', WHERE WHAT IT READS IS OF BULK AT MOST 1048576: true; the input reads as it did. -/
def brokerRolesUptoRow : OpenClaim := { program := "ytjmdddhbdofppaagreatdoor", sum := "49be18445dc5be8831fde7dbffb77a3af7b95807370b48fe3f27148377f9ea66", func := "kibitzer/kibitzerlaw14.BrokerRoles", spec := "brokerRoles", inPlace := ["internal/bytealg.IndexByteString", "internal/bytealg.IndexString"], unfollowed := true, recurses := true, named := ["internal/strconv.uint64pow10", "math/bits.deBruijn32tab", "math/bits.deBruijn64tab", "internal/bytealg.MaxLen", "kibitzer/order.words", "strconv.ErrSyntax", "strconv.ErrRange"], apart := false, laid := [("math/bits.deBruijn32tab", laid_math_bits_deBruijn32tab), ("math/bits.deBruijn64tab", laid_math_bits_deBruijn64tab), ("internal/strconv.uint64pow10", laid_internal_strconv_uint64pow10), ("strconv.ErrRange", laid_strconv_ErrRange), ("strconv.ErrSyntax", laid_strconv_ErrSyntax), ("kibitzer/order.words", laid_kibitzer_order_words)], narrowed := true }
def BrokerRolesUptoSaid : Prop := brokerRolesUptoRow.holds Tryz.pinned (OpenSpec.upto brokerRolesSpec)

/-- 'kibitzerlaw14.BrokerExit', WHERE WHAT IT READS IS OF BULK AT MOST 1048576: true; the input reads as it did. -/
def brokerExitUptoRow : OpenClaim := { program := "ytjmdddhbdofppaagreatdoor", sum := "49be18445dc5be8831fde7dbffb77a3af7b95807370b48fe3f27148377f9ea66", func := "kibitzer/kibitzerlaw14.BrokerExit", spec := "brokerExit", inPlace := ["internal/bytealg.IndexByteString", "internal/bytealg.IndexString"], unfollowed := true, recurses := true, named := ["internal/strconv.uint64pow10", "math/bits.deBruijn32tab", "math/bits.deBruijn64tab", "internal/bytealg.MaxLen", "kibitzer/order.words", "strconv.ErrSyntax", "strconv.ErrRange"], apart := false, laid := [("math/bits.deBruijn32tab", laid_math_bits_deBruijn32tab), ("math/bits.deBruijn64tab", laid_math_bits_deBruijn64tab), ("internal/strconv.uint64pow10", laid_internal_strconv_uint64pow10), ("strconv.ErrRange", laid_strconv_ErrRange), ("strconv.ErrSyntax", laid_strconv_ErrSyntax), ("kibitzer/order.words", laid_kibitzer_order_words)], narrowed := true }
def BrokerExitUptoSaid : Prop := brokerExitUptoRow.holds Tryz.pinned (OpenSpec.upto brokerExitSpec)

/-- 'kibitzerlaw14.BrokerReplay', WHERE WHAT IT READS IS OF BULK AT MOST 1048576: true; the input reads as it did. -/
def brokerReplayUptoRow : OpenClaim := { program := "ytjmdddhbdofppaagreatdoor", sum := "49be18445dc5be8831fde7dbffb77a3af7b95807370b48fe3f27148377f9ea66", func := "kibitzer/kibitzerlaw14.BrokerReplay", spec := "brokerReplay", inPlace := ["internal/bytealg.IndexByteString", "internal/bytealg.IndexString"], unfollowed := true, recurses := true, named := ["internal/strconv.uint64pow10", "math/bits.deBruijn32tab", "math/bits.deBruijn64tab", "internal/bytealg.MaxLen", "kibitzer/order.words", "strconv.ErrSyntax", "strconv.ErrRange"], apart := false, laid := [("math/bits.deBruijn32tab", laid_math_bits_deBruijn32tab), ("math/bits.deBruijn64tab", laid_math_bits_deBruijn64tab), ("internal/strconv.uint64pow10", laid_internal_strconv_uint64pow10), ("strconv.ErrRange", laid_strconv_ErrRange), ("strconv.ErrSyntax", laid_strconv_ErrSyntax), ("kibitzer/order.words", laid_kibitzer_order_words)], narrowed := true }
def BrokerReplayUptoSaid : Prop := brokerReplayUptoRow.holds Tryz.pinned (OpenSpec.upto brokerReplaySpec)

/-- 'kibitzerlaw14.BrokerFresh', WHERE WHAT IT READS IS OF BULK AT MOST 1048576: true; the input reads as it did. -/
def brokerFreshUptoRow : OpenClaim := { program := "ytjmdddhbdofppaagreatdoor", sum := "49be18445dc5be8831fde7dbffb77a3af7b95807370b48fe3f27148377f9ea66", func := "kibitzer/kibitzerlaw14.BrokerFresh", spec := "brokerFresh", inPlace := ["internal/bytealg.IndexByteString", "internal/bytealg.IndexString"], unfollowed := true, recurses := true, named := ["internal/strconv.uint64pow10", "math/bits.deBruijn32tab", "math/bits.deBruijn64tab", "internal/bytealg.MaxLen", "kibitzer/order.words", "strconv.ErrSyntax", "strconv.ErrRange"], apart := false, laid := [("math/bits.deBruijn32tab", laid_math_bits_deBruijn32tab), ("math/bits.deBruijn64tab", laid_math_bits_deBruijn64tab), ("internal/strconv.uint64pow10", laid_internal_strconv_uint64pow10), ("strconv.ErrRange", laid_strconv_ErrRange), ("strconv.ErrSyntax", laid_strconv_ErrSyntax), ("kibitzer/order.words", laid_kibitzer_order_words)], narrowed := true }
def BrokerFreshUptoSaid : Prop := brokerFreshUptoRow.holds Tryz.pinned (OpenSpec.upto brokerFreshSpec)

end Rows
end Go.Proofs.YtjmdddhbdofppaaGreatDoor
