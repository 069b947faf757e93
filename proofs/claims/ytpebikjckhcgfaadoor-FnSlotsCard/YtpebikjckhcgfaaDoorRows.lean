/-
  NARROWER THAN 'FOR EVERY INPUT', by the rows' own cells (each row's printed sentence says how): FnSlots: laid · FnExactMaySlot: laid · FnExactSlotPoints: laid · FnExactEncodeSlots: laid · FnExactDecodeSlots: laid · FnExactTurnOfRows: laid · FnExactTurnOfSwap: laid · FnExactMovedSlots: laid · FnExactMulRows: laid · FnExactScaleRows: laid · FnExactAheadRows: laid · FnExactBackRows: laid.
  DERIVED. THE GIVEN ROWS OF THIS SEAT. 12 by the template 'for every input the law returns true; each argument reads behind the call as it read before'; 0 by the template 'total and deterministic' (their statements: YtpebikjckhcgfaaDoorTotals.lean).
  GIVEN WITH THE SEED: the statements are not yours to turn. If you find one false, say at which input.
  Laid BY PROGRAM, IN A SANDBOX (cutbox-rows.mjs): the forced cells as the released guide's own fill.sh prints them over the translation eb219da8064772bc… (all of the seat's roots in one cut). By AI agents, Wed Nov 11 2026. No macro, syntax, notation, axiom, sorry.
-/
import Derived.Test.YtpebikjckhcgfaaDoorChecked
import GoSem.Claim
import GoSem.ClaimJoined
import GoSem.ClaimMapViews
import Derived.JoinedTies
import Derived.KernelRfl
namespace Go.Proofs.YtpebikjckhcgfaaDoor
/- THE CELL 'sum', in the pinned program and in every row, IS THE sha256 OF THE DUMP (.gsa) THAT YtpebikjckhcgfaaDoorProg.lean LOADS. Nothing in Lean hashes anything: it is a label: what it is worth is what the hold of that sum in a sandbox is worth. -/
noncomputable def Tryd.pinned : Pinned := { name := "ytpebikjckhcgfaadoor", sum := "eb219da8064772bcfb26c57f4a4df8332614df6482239926a36f546778a67927", checked := Tryd.checked }
namespace Rows
def none {H : Type} : Left H := { results := [], args := [] }

/- WHAT THE LISTED PACKAGE-LEVEL VARIABLES READ AS WHEN THE CALL BEGINS. Each datum BY PROGRAM (the guide's laid-datum.mjs) off the statement by which the dump's own 'gosem.cut.vars' lays the variable. In a bare row this is a premise. The card (YtpebikjckhcgfaaDoorCards.lean) ties it to the program's text. -/
def laid_math_bits_deBruijn64tab {H : Type} : DataW H := .agg [.lit (.int .u8 0), .lit (.int .u8 1), .lit (.int .u8 56), .lit (.int .u8 2), .lit (.int .u8 57), .lit (.int .u8 49), .lit (.int .u8 28), .lit (.int .u8 3), .lit (.int .u8 61), .lit (.int .u8 58), .lit (.int .u8 42), .lit (.int .u8 50), .lit (.int .u8 38), .lit (.int .u8 29), .lit (.int .u8 17), .lit (.int .u8 4), .lit (.int .u8 62), .lit (.int .u8 47), .lit (.int .u8 59), .lit (.int .u8 36), .lit (.int .u8 45), .lit (.int .u8 43), .lit (.int .u8 51), .lit (.int .u8 22), .lit (.int .u8 53), .lit (.int .u8 39), .lit (.int .u8 33), .lit (.int .u8 30), .lit (.int .u8 24), .lit (.int .u8 18), .lit (.int .u8 12), .lit (.int .u8 5), .lit (.int .u8 63), .lit (.int .u8 55), .lit (.int .u8 48), .lit (.int .u8 27), .lit (.int .u8 60), .lit (.int .u8 41), .lit (.int .u8 37), .lit (.int .u8 16), .lit (.int .u8 46), .lit (.int .u8 35), .lit (.int .u8 44), .lit (.int .u8 21), .lit (.int .u8 52), .lit (.int .u8 32), .lit (.int .u8 23), .lit (.int .u8 11), .lit (.int .u8 54), .lit (.int .u8 26), .lit (.int .u8 40), .lit (.int .u8 15), .lit (.int .u8 34), .lit (.int .u8 20), .lit (.int .u8 31), .lit (.int .u8 10), .lit (.int .u8 25), .lit (.int .u8 14), .lit (.int .u8 19), .lit (.int .u8 9), .lit (.int .u8 13), .lit (.int .u8 8), .lit (.int .u8 7), .lit (.int .u8 6)]
def laid_loop_example_g00133_impl_smallPrimes {H : Type} : DataW H := .agg [.lit (.int .u64 2), .lit (.int .u64 3), .lit (.int .u64 5), .lit (.int .u64 7), .lit (.int .u64 11), .lit (.int .u64 13), .lit (.int .u64 17), .lit (.int .u64 19), .lit (.int .u64 23), .lit (.int .u64 29), .lit (.int .u64 31), .lit (.int .u64 37)]

/-- 'laws.FnSlots': WHATEVER THE INPUT: true; the input reads as it did. -/
def fnSlotsSpec : ChangeSpec := { name := "fnSlots", vars := ["loop.example/g00133/impl.smallPrimes"], fn := fun _ => fun
  | [d1, d2, g1] => { results := [.lit (.bool true)], args := [d1, d2], vars := [g1] }
  | _ => none }
def fnSlotsRow : OpenClaim := { program := "ytpebikjckhcgfaadoor", sum := "eb219da8064772bcfb26c57f4a4df8332614df6482239926a36f546778a67927", func := "loop.example/g00133/laws.FnSlots", spec := "fnSlots", unfollowed := true, recurses := true, named := ["loop.example/g00133/impl.smallPrimes", "math/bits.deBruijn64tab", "math/bits.divideError", "math/bits.overflowError"], apart := false, laid := [("math/bits.deBruijn64tab", laid_math_bits_deBruijn64tab), ("loop.example/g00133/impl.smallPrimes", laid_loop_example_g00133_impl_smallPrimes)] }
def FnSlotsSaid : Prop := fnSlotsRow.holds Tryd.pinned (OpenSpec.ofChange fnSlotsSpec)

/-- ITS FALSE NEIGHBOUR: 'it returns false'. Refute it at one input. -/
def fnSlotsWrong : ChangeSpec := { name := "fnSlots", vars := ["loop.example/g00133/impl.smallPrimes"], fn := fun _ => fun
  | [d1, d2, g1] => { results := [.lit (.bool false)], args := [d1, d2], vars := [g1] }
  | _ => none }
def FnSlotsWrongFalsely : Prop := fnSlotsRow.holds Tryd.pinned (OpenSpec.ofChange fnSlotsWrong)

/-- 'laws.FnExactMaySlot': WHATEVER THE INPUT: true; the input reads as it did. -/
def fnExactMaySlotSpec : ChangeSpec := { name := "fnExactMaySlot", vars := ["loop.example/g00133/impl.smallPrimes"], fn := fun _ => fun
  | [d1, d2, g1] => { results := [.lit (.bool true)], args := [d1, d2], vars := [g1] }
  | _ => none }
def fnExactMaySlotRow : OpenClaim := { program := "ytpebikjckhcgfaadoor", sum := "eb219da8064772bcfb26c57f4a4df8332614df6482239926a36f546778a67927", func := "loop.example/g00133/laws.FnExactMaySlot", spec := "fnExactMaySlot", unfollowed := true, recurses := true, named := ["loop.example/g00133/impl.smallPrimes", "math/bits.deBruijn64tab", "math/bits.divideError", "math/bits.overflowError"], apart := false, laid := [("math/bits.deBruijn64tab", laid_math_bits_deBruijn64tab), ("loop.example/g00133/impl.smallPrimes", laid_loop_example_g00133_impl_smallPrimes)] }
def FnExactMaySlotSaid : Prop := fnExactMaySlotRow.holds Tryd.pinned (OpenSpec.ofChange fnExactMaySlotSpec)

/-- ITS FALSE NEIGHBOUR: 'it returns false'. Refute it at one input. -/
def fnExactMaySlotWrong : ChangeSpec := { name := "fnExactMaySlot", vars := ["loop.example/g00133/impl.smallPrimes"], fn := fun _ => fun
  | [d1, d2, g1] => { results := [.lit (.bool false)], args := [d1, d2], vars := [g1] }
  | _ => none }
def FnExactMaySlotWrongFalsely : Prop := fnExactMaySlotRow.holds Tryd.pinned (OpenSpec.ofChange fnExactMaySlotWrong)

/-- 'laws.FnExactSlotPoints': WHATEVER THE INPUT: true; the input reads as it did. -/
def fnExactSlotPointsSpec : ChangeSpec := { name := "fnExactSlotPoints", fn := fun _ => fun
  | [d] => { results := [.lit (.bool true)], args := [d] }
  | _ => none }
def fnExactSlotPointsRow : OpenClaim := { program := "ytpebikjckhcgfaadoor", sum := "eb219da8064772bcfb26c57f4a4df8332614df6482239926a36f546778a67927", func := "loop.example/g00133/laws.FnExactSlotPoints", spec := "fnExactSlotPoints", unfollowed := true, recurses := true, named := ["math/bits.deBruijn64tab"], apart := false, laid := [("math/bits.deBruijn64tab", laid_math_bits_deBruijn64tab)] }
def FnExactSlotPointsSaid : Prop := fnExactSlotPointsRow.holds Tryd.pinned (OpenSpec.ofChange fnExactSlotPointsSpec)

/-- ITS FALSE NEIGHBOUR: 'it returns false'. Refute it at one input. -/
def fnExactSlotPointsWrong : ChangeSpec := { name := "fnExactSlotPoints", fn := fun _ => fun
  | [d] => { results := [.lit (.bool false)], args := [d] }
  | _ => none }
def FnExactSlotPointsWrongFalsely : Prop := fnExactSlotPointsRow.holds Tryd.pinned (OpenSpec.ofChange fnExactSlotPointsWrong)

/-- 'laws.FnExactEncodeSlots': WHATEVER THE INPUT: true; the input reads as it did. -/
def fnExactEncodeSlotsSpec : ChangeSpec := { name := "fnExactEncodeSlots", vars := ["loop.example/g00133/impl.smallPrimes"], fn := fun _ => fun
  | [d1, d2, d3, g1] => { results := [.lit (.bool true)], args := [d1, d2, d3], vars := [g1] }
  | _ => none }
def fnExactEncodeSlotsRow : OpenClaim := { program := "ytpebikjckhcgfaadoor", sum := "eb219da8064772bcfb26c57f4a4df8332614df6482239926a36f546778a67927", func := "loop.example/g00133/laws.FnExactEncodeSlots", spec := "fnExactEncodeSlots", unfollowed := true, recurses := true, named := ["loop.example/g00133/impl.smallPrimes", "math/bits.deBruijn64tab", "math/bits.divideError", "math/bits.overflowError"], apart := false, laid := [("math/bits.deBruijn64tab", laid_math_bits_deBruijn64tab), ("loop.example/g00133/impl.smallPrimes", laid_loop_example_g00133_impl_smallPrimes)] }
def FnExactEncodeSlotsSaid : Prop := fnExactEncodeSlotsRow.holds Tryd.pinned (OpenSpec.ofChange fnExactEncodeSlotsSpec)

/-- ITS FALSE NEIGHBOUR: 'it returns false'. Refute it at one input. -/
def fnExactEncodeSlotsWrong : ChangeSpec := { name := "fnExactEncodeSlots", vars := ["loop.example/g00133/impl.smallPrimes"], fn := fun _ => fun
  | [d1, d2, d3, g1] => { results := [.lit (.bool false)], args := [d1, d2, d3], vars := [g1] }
  | _ => none }
def FnExactEncodeSlotsWrongFalsely : Prop := fnExactEncodeSlotsRow.holds Tryd.pinned (OpenSpec.ofChange fnExactEncodeSlotsWrong)

/-- 'laws.FnExactDecodeSlots': WHATEVER THE INPUT: true; the input reads as it did. -/
def fnExactDecodeSlotsSpec : ChangeSpec := { name := "fnExactDecodeSlots", vars := ["loop.example/g00133/impl.smallPrimes"], fn := fun _ => fun
  | [d1, d2, d3, g1] => { results := [.lit (.bool true)], args := [d1, d2, d3], vars := [g1] }
  | _ => none }
def fnExactDecodeSlotsRow : OpenClaim := { program := "ytpebikjckhcgfaadoor", sum := "eb219da8064772bcfb26c57f4a4df8332614df6482239926a36f546778a67927", func := "loop.example/g00133/laws.FnExactDecodeSlots", spec := "fnExactDecodeSlots", unfollowed := true, recurses := true, named := ["loop.example/g00133/impl.smallPrimes", "math/bits.deBruijn64tab", "math/bits.divideError", "math/bits.overflowError"], apart := false, laid := [("math/bits.deBruijn64tab", laid_math_bits_deBruijn64tab), ("loop.example/g00133/impl.smallPrimes", laid_loop_example_g00133_impl_smallPrimes)] }
def FnExactDecodeSlotsSaid : Prop := fnExactDecodeSlotsRow.holds Tryd.pinned (OpenSpec.ofChange fnExactDecodeSlotsSpec)

/-- ITS FALSE NEIGHBOUR: 'it returns false'. Refute it at one input. -/
def fnExactDecodeSlotsWrong : ChangeSpec := { name := "fnExactDecodeSlots", vars := ["loop.example/g00133/impl.smallPrimes"], fn := fun _ => fun
  | [d1, d2, d3, g1] => { results := [.lit (.bool false)], args := [d1, d2, d3], vars := [g1] }
  | _ => none }
def FnExactDecodeSlotsWrongFalsely : Prop := fnExactDecodeSlotsRow.holds Tryd.pinned (OpenSpec.ofChange fnExactDecodeSlotsWrong)

/-- 'laws.FnExactTurnOfRows': WHATEVER THE INPUT: true; the input reads as it did. -/
def fnExactTurnOfRowsSpec : ChangeSpec := { name := "fnExactTurnOfRows", fn := fun _ => fun
  | [d1, d2] => { results := [.lit (.bool true)], args := [d1, d2] }
  | _ => none }
def fnExactTurnOfRowsRow : OpenClaim := { program := "ytpebikjckhcgfaadoor", sum := "eb219da8064772bcfb26c57f4a4df8332614df6482239926a36f546778a67927", func := "loop.example/g00133/laws.FnExactTurnOfRows", spec := "fnExactTurnOfRows", unfollowed := true, recurses := true, named := ["math/bits.deBruijn64tab"], apart := false, laid := [("math/bits.deBruijn64tab", laid_math_bits_deBruijn64tab)] }
def FnExactTurnOfRowsSaid : Prop := fnExactTurnOfRowsRow.holds Tryd.pinned (OpenSpec.ofChange fnExactTurnOfRowsSpec)

/-- ITS FALSE NEIGHBOUR: 'it returns false'. Refute it at one input. -/
def fnExactTurnOfRowsWrong : ChangeSpec := { name := "fnExactTurnOfRows", fn := fun _ => fun
  | [d1, d2] => { results := [.lit (.bool false)], args := [d1, d2] }
  | _ => none }
def FnExactTurnOfRowsWrongFalsely : Prop := fnExactTurnOfRowsRow.holds Tryd.pinned (OpenSpec.ofChange fnExactTurnOfRowsWrong)

/-- 'laws.FnExactTurnOfSwap': WHATEVER THE INPUT: true; the input reads as it did. -/
def fnExactTurnOfSwapSpec : ChangeSpec := { name := "fnExactTurnOfSwap", fn := fun _ => fun
  | [d] => { results := [.lit (.bool true)], args := [d] }
  | _ => none }
def fnExactTurnOfSwapRow : OpenClaim := { program := "ytpebikjckhcgfaadoor", sum := "eb219da8064772bcfb26c57f4a4df8332614df6482239926a36f546778a67927", func := "loop.example/g00133/laws.FnExactTurnOfSwap", spec := "fnExactTurnOfSwap", unfollowed := true, recurses := true, named := ["math/bits.deBruijn64tab"], apart := false, laid := [("math/bits.deBruijn64tab", laid_math_bits_deBruijn64tab)] }
def FnExactTurnOfSwapSaid : Prop := fnExactTurnOfSwapRow.holds Tryd.pinned (OpenSpec.ofChange fnExactTurnOfSwapSpec)

/-- ITS FALSE NEIGHBOUR: 'it returns false'. Refute it at one input. -/
def fnExactTurnOfSwapWrong : ChangeSpec := { name := "fnExactTurnOfSwap", fn := fun _ => fun
  | [d] => { results := [.lit (.bool false)], args := [d] }
  | _ => none }
def FnExactTurnOfSwapWrongFalsely : Prop := fnExactTurnOfSwapRow.holds Tryd.pinned (OpenSpec.ofChange fnExactTurnOfSwapWrong)

/-- 'laws.FnExactMovedSlots': WHATEVER THE INPUT: true; the input reads as it did. -/
def fnExactMovedSlotsSpec : ChangeSpec := { name := "fnExactMovedSlots", fn := fun _ => fun
  | [d1, d2, d3] => { results := [.lit (.bool true)], args := [d1, d2, d3] }
  | _ => none }
def fnExactMovedSlotsRow : OpenClaim := { program := "ytpebikjckhcgfaadoor", sum := "eb219da8064772bcfb26c57f4a4df8332614df6482239926a36f546778a67927", func := "loop.example/g00133/laws.FnExactMovedSlots", spec := "fnExactMovedSlots", unfollowed := true, recurses := true, named := ["math/bits.deBruijn64tab"], apart := false, laid := [("math/bits.deBruijn64tab", laid_math_bits_deBruijn64tab)] }
def FnExactMovedSlotsSaid : Prop := fnExactMovedSlotsRow.holds Tryd.pinned (OpenSpec.ofChange fnExactMovedSlotsSpec)

/-- ITS FALSE NEIGHBOUR: 'it returns false'. Refute it at one input. -/
def fnExactMovedSlotsWrong : ChangeSpec := { name := "fnExactMovedSlots", fn := fun _ => fun
  | [d1, d2, d3] => { results := [.lit (.bool false)], args := [d1, d2, d3] }
  | _ => none }
def FnExactMovedSlotsWrongFalsely : Prop := fnExactMovedSlotsRow.holds Tryd.pinned (OpenSpec.ofChange fnExactMovedSlotsWrong)

/-- 'laws.FnExactMulRows': WHATEVER THE INPUT: true; the input reads as it did. -/
def fnExactMulRowsSpec : ChangeSpec := { name := "fnExactMulRows", vars := ["loop.example/g00133/impl.smallPrimes"], fn := fun _ => fun
  | [d1, d2, d3, g1] => { results := [.lit (.bool true)], args := [d1, d2, d3], vars := [g1] }
  | _ => none }
def fnExactMulRowsRow : OpenClaim := { program := "ytpebikjckhcgfaadoor", sum := "eb219da8064772bcfb26c57f4a4df8332614df6482239926a36f546778a67927", func := "loop.example/g00133/laws.FnExactMulRows", spec := "fnExactMulRows", unfollowed := true, recurses := true, named := ["loop.example/g00133/impl.smallPrimes", "math/bits.deBruijn64tab", "math/bits.divideError", "math/bits.overflowError"], apart := false, laid := [("math/bits.deBruijn64tab", laid_math_bits_deBruijn64tab), ("loop.example/g00133/impl.smallPrimes", laid_loop_example_g00133_impl_smallPrimes)] }
def FnExactMulRowsSaid : Prop := fnExactMulRowsRow.holds Tryd.pinned (OpenSpec.ofChange fnExactMulRowsSpec)

/-- ITS FALSE NEIGHBOUR: 'it returns false'. Refute it at one input. -/
def fnExactMulRowsWrong : ChangeSpec := { name := "fnExactMulRows", vars := ["loop.example/g00133/impl.smallPrimes"], fn := fun _ => fun
  | [d1, d2, d3, g1] => { results := [.lit (.bool false)], args := [d1, d2, d3], vars := [g1] }
  | _ => none }
def FnExactMulRowsWrongFalsely : Prop := fnExactMulRowsRow.holds Tryd.pinned (OpenSpec.ofChange fnExactMulRowsWrong)

/-- 'laws.FnExactScaleRows': WHATEVER THE INPUT: true; the input reads as it did. -/
def fnExactScaleRowsSpec : ChangeSpec := { name := "fnExactScaleRows", vars := ["loop.example/g00133/impl.smallPrimes"], fn := fun _ => fun
  | [d1, d2, d3, g1] => { results := [.lit (.bool true)], args := [d1, d2, d3], vars := [g1] }
  | _ => none }
def fnExactScaleRowsRow : OpenClaim := { program := "ytpebikjckhcgfaadoor", sum := "eb219da8064772bcfb26c57f4a4df8332614df6482239926a36f546778a67927", func := "loop.example/g00133/laws.FnExactScaleRows", spec := "fnExactScaleRows", unfollowed := true, recurses := true, named := ["loop.example/g00133/impl.smallPrimes", "math/bits.deBruijn64tab", "math/bits.divideError", "math/bits.overflowError"], apart := false, laid := [("math/bits.deBruijn64tab", laid_math_bits_deBruijn64tab), ("loop.example/g00133/impl.smallPrimes", laid_loop_example_g00133_impl_smallPrimes)] }
def FnExactScaleRowsSaid : Prop := fnExactScaleRowsRow.holds Tryd.pinned (OpenSpec.ofChange fnExactScaleRowsSpec)

/-- ITS FALSE NEIGHBOUR: 'it returns false'. Refute it at one input. -/
def fnExactScaleRowsWrong : ChangeSpec := { name := "fnExactScaleRows", vars := ["loop.example/g00133/impl.smallPrimes"], fn := fun _ => fun
  | [d1, d2, d3, g1] => { results := [.lit (.bool false)], args := [d1, d2, d3], vars := [g1] }
  | _ => none }
def FnExactScaleRowsWrongFalsely : Prop := fnExactScaleRowsRow.holds Tryd.pinned (OpenSpec.ofChange fnExactScaleRowsWrong)

/-- 'laws.FnExactAheadRows': WHATEVER THE INPUT: true; the input reads as it did. -/
def fnExactAheadRowsSpec : ChangeSpec := { name := "fnExactAheadRows", vars := ["loop.example/g00133/impl.smallPrimes"], fn := fun _ => fun
  | [d1, d2, g1] => { results := [.lit (.bool true)], args := [d1, d2], vars := [g1] }
  | _ => none }
def fnExactAheadRowsRow : OpenClaim := { program := "ytpebikjckhcgfaadoor", sum := "eb219da8064772bcfb26c57f4a4df8332614df6482239926a36f546778a67927", func := "loop.example/g00133/laws.FnExactAheadRows", spec := "fnExactAheadRows", unfollowed := true, recurses := true, named := ["loop.example/g00133/impl.smallPrimes", "math/bits.deBruijn64tab", "math/bits.divideError", "math/bits.overflowError"], apart := false, laid := [("math/bits.deBruijn64tab", laid_math_bits_deBruijn64tab), ("loop.example/g00133/impl.smallPrimes", laid_loop_example_g00133_impl_smallPrimes)] }
def FnExactAheadRowsSaid : Prop := fnExactAheadRowsRow.holds Tryd.pinned (OpenSpec.ofChange fnExactAheadRowsSpec)

/-- ITS FALSE NEIGHBOUR: 'it returns false'. Refute it at one input. -/
def fnExactAheadRowsWrong : ChangeSpec := { name := "fnExactAheadRows", vars := ["loop.example/g00133/impl.smallPrimes"], fn := fun _ => fun
  | [d1, d2, g1] => { results := [.lit (.bool false)], args := [d1, d2], vars := [g1] }
  | _ => none }
def FnExactAheadRowsWrongFalsely : Prop := fnExactAheadRowsRow.holds Tryd.pinned (OpenSpec.ofChange fnExactAheadRowsWrong)

/-- 'laws.FnExactBackRows': WHATEVER THE INPUT: true; the input reads as it did. -/
def fnExactBackRowsSpec : ChangeSpec := { name := "fnExactBackRows", vars := ["loop.example/g00133/impl.smallPrimes"], fn := fun _ => fun
  | [d1, d2, g1] => { results := [.lit (.bool true)], args := [d1, d2], vars := [g1] }
  | _ => none }
def fnExactBackRowsRow : OpenClaim := { program := "ytpebikjckhcgfaadoor", sum := "eb219da8064772bcfb26c57f4a4df8332614df6482239926a36f546778a67927", func := "loop.example/g00133/laws.FnExactBackRows", spec := "fnExactBackRows", unfollowed := true, recurses := true, named := ["loop.example/g00133/impl.smallPrimes", "math/bits.deBruijn64tab", "math/bits.divideError", "math/bits.overflowError"], apart := false, laid := [("math/bits.deBruijn64tab", laid_math_bits_deBruijn64tab), ("loop.example/g00133/impl.smallPrimes", laid_loop_example_g00133_impl_smallPrimes)] }
def FnExactBackRowsSaid : Prop := fnExactBackRowsRow.holds Tryd.pinned (OpenSpec.ofChange fnExactBackRowsSpec)

/-- ITS FALSE NEIGHBOUR: 'it returns false'. Refute it at one input. -/
def fnExactBackRowsWrong : ChangeSpec := { name := "fnExactBackRows", vars := ["loop.example/g00133/impl.smallPrimes"], fn := fun _ => fun
  | [d1, d2, g1] => { results := [.lit (.bool false)], args := [d1, d2], vars := [g1] }
  | _ => none }
def FnExactBackRowsWrongFalsely : Prop := fnExactBackRowsRow.holds Tryd.pinned (OpenSpec.ofChange fnExactBackRowsWrong)

/- THE SECOND FORM. 'bulk': how many values and letters a reading holds, each counted each time it is reached (what is shared counts as often as it is met; a slice's spare places count too). A statement '..UptoSaid' is the law's where the arguments, and the package variables that the reading takes, are together of bulk at most 1048576: NARROWER than '..Said'. Prove '..Said' where nothing that the law and all that it calls make is longer than what came in: it says more and counts as full. Else prove '..UptoSaid'. A law counts once. -/
mutual
def uptoBulk {H : Type} : DataW H → Nat
  | .lit (.string bytes) => bytes.length + 1
  | .lit _ => 1
  | .nil => 1
  | .ptr d => uptoBulk d + 1
  | .slice elems spare => uptoBulkAll elems + uptoBulkAll spare + 1
  | .agg parts => uptoBulkAll parts + 1
  | .iface _ d => uptoBulk d + 1
  | .map entries => uptoBulkEntries entries + 1
  | .held _ => 1
def uptoBulkAll {H : Type} : List (DataW H) → Nat
  | [] => 0
  | d :: r => uptoBulk d + uptoBulkAll r
def uptoBulkEntries {H : Type} : List (Lit × DataW H) → Nat
  | [] => 0
  | x :: r => uptoBulkEntry x + uptoBulkEntries r
def uptoBulkEntry {H : Type} : Lit × DataW H → Nat
  | (.string bytes, d) => bytes.length + uptoBulk d + 1
  | (_, d) => uptoBulk d + 1
 end
def uptoSmall : (H : Type) → List (DataW H) → Bool := fun _ ds => decide (uptoBulkAll ds ≤ 1048576)
def OpenSpec.upto (s : _root_.Go.ChangeSpec) : _root_.Go.OpenSpec := { _root_.Go.OpenSpec.ofChange s with cond := some uptoSmall }

/-- 'laws.FnSlots', WHERE WHAT IT READS IS OF BULK AT MOST 1048576: true; the input reads as it did. -/
def fnSlotsUptoRow : OpenClaim := { program := "ytpebikjckhcgfaadoor", sum := "eb219da8064772bcfb26c57f4a4df8332614df6482239926a36f546778a67927", func := "loop.example/g00133/laws.FnSlots", spec := "fnSlots", unfollowed := true, recurses := true, named := ["loop.example/g00133/impl.smallPrimes", "math/bits.deBruijn64tab", "math/bits.divideError", "math/bits.overflowError"], apart := false, laid := [("math/bits.deBruijn64tab", laid_math_bits_deBruijn64tab), ("loop.example/g00133/impl.smallPrimes", laid_loop_example_g00133_impl_smallPrimes)], narrowed := true }
def FnSlotsUptoSaid : Prop := fnSlotsUptoRow.holds Tryd.pinned (OpenSpec.upto fnSlotsSpec)

/-- 'laws.FnExactMaySlot', WHERE WHAT IT READS IS OF BULK AT MOST 1048576: true; the input reads as it did. -/
def fnExactMaySlotUptoRow : OpenClaim := { program := "ytpebikjckhcgfaadoor", sum := "eb219da8064772bcfb26c57f4a4df8332614df6482239926a36f546778a67927", func := "loop.example/g00133/laws.FnExactMaySlot", spec := "fnExactMaySlot", unfollowed := true, recurses := true, named := ["loop.example/g00133/impl.smallPrimes", "math/bits.deBruijn64tab", "math/bits.divideError", "math/bits.overflowError"], apart := false, laid := [("math/bits.deBruijn64tab", laid_math_bits_deBruijn64tab), ("loop.example/g00133/impl.smallPrimes", laid_loop_example_g00133_impl_smallPrimes)], narrowed := true }
def FnExactMaySlotUptoSaid : Prop := fnExactMaySlotUptoRow.holds Tryd.pinned (OpenSpec.upto fnExactMaySlotSpec)

/-- 'laws.FnExactSlotPoints', WHERE WHAT IT READS IS OF BULK AT MOST 1048576: true; the input reads as it did. -/
def fnExactSlotPointsUptoRow : OpenClaim := { program := "ytpebikjckhcgfaadoor", sum := "eb219da8064772bcfb26c57f4a4df8332614df6482239926a36f546778a67927", func := "loop.example/g00133/laws.FnExactSlotPoints", spec := "fnExactSlotPoints", unfollowed := true, recurses := true, named := ["math/bits.deBruijn64tab"], apart := false, laid := [("math/bits.deBruijn64tab", laid_math_bits_deBruijn64tab)], narrowed := true }
def FnExactSlotPointsUptoSaid : Prop := fnExactSlotPointsUptoRow.holds Tryd.pinned (OpenSpec.upto fnExactSlotPointsSpec)

/-- 'laws.FnExactEncodeSlots', WHERE WHAT IT READS IS OF BULK AT MOST 1048576: true; the input reads as it did. -/
def fnExactEncodeSlotsUptoRow : OpenClaim := { program := "ytpebikjckhcgfaadoor", sum := "eb219da8064772bcfb26c57f4a4df8332614df6482239926a36f546778a67927", func := "loop.example/g00133/laws.FnExactEncodeSlots", spec := "fnExactEncodeSlots", unfollowed := true, recurses := true, named := ["loop.example/g00133/impl.smallPrimes", "math/bits.deBruijn64tab", "math/bits.divideError", "math/bits.overflowError"], apart := false, laid := [("math/bits.deBruijn64tab", laid_math_bits_deBruijn64tab), ("loop.example/g00133/impl.smallPrimes", laid_loop_example_g00133_impl_smallPrimes)], narrowed := true }
def FnExactEncodeSlotsUptoSaid : Prop := fnExactEncodeSlotsUptoRow.holds Tryd.pinned (OpenSpec.upto fnExactEncodeSlotsSpec)

/-- 'laws.FnExactDecodeSlots', WHERE WHAT IT READS IS OF BULK AT MOST 1048576: true; the input reads as it did. -/
def fnExactDecodeSlotsUptoRow : OpenClaim := { program := "ytpebikjckhcgfaadoor", sum := "eb219da8064772bcfb26c57f4a4df8332614df6482239926a36f546778a67927", func := "loop.example/g00133/laws.FnExactDecodeSlots", spec := "fnExactDecodeSlots", unfollowed := true, recurses := true, named := ["loop.example/g00133/impl.smallPrimes", "math/bits.deBruijn64tab", "math/bits.divideError", "math/bits.overflowError"], apart := false, laid := [("math/bits.deBruijn64tab", laid_math_bits_deBruijn64tab), ("loop.example/g00133/impl.smallPrimes", laid_loop_example_g00133_impl_smallPrimes)], narrowed := true }
def FnExactDecodeSlotsUptoSaid : Prop := fnExactDecodeSlotsUptoRow.holds Tryd.pinned (OpenSpec.upto fnExactDecodeSlotsSpec)

/-- 'laws.FnExactTurnOfRows', WHERE WHAT IT READS IS OF BULK AT MOST 1048576: true; the input reads as it did. -/
def fnExactTurnOfRowsUptoRow : OpenClaim := { program := "ytpebikjckhcgfaadoor", sum := "eb219da8064772bcfb26c57f4a4df8332614df6482239926a36f546778a67927", func := "loop.example/g00133/laws.FnExactTurnOfRows", spec := "fnExactTurnOfRows", unfollowed := true, recurses := true, named := ["math/bits.deBruijn64tab"], apart := false, laid := [("math/bits.deBruijn64tab", laid_math_bits_deBruijn64tab)], narrowed := true }
def FnExactTurnOfRowsUptoSaid : Prop := fnExactTurnOfRowsUptoRow.holds Tryd.pinned (OpenSpec.upto fnExactTurnOfRowsSpec)

/-- 'laws.FnExactTurnOfSwap', WHERE WHAT IT READS IS OF BULK AT MOST 1048576: true; the input reads as it did. -/
def fnExactTurnOfSwapUptoRow : OpenClaim := { program := "ytpebikjckhcgfaadoor", sum := "eb219da8064772bcfb26c57f4a4df8332614df6482239926a36f546778a67927", func := "loop.example/g00133/laws.FnExactTurnOfSwap", spec := "fnExactTurnOfSwap", unfollowed := true, recurses := true, named := ["math/bits.deBruijn64tab"], apart := false, laid := [("math/bits.deBruijn64tab", laid_math_bits_deBruijn64tab)], narrowed := true }
def FnExactTurnOfSwapUptoSaid : Prop := fnExactTurnOfSwapUptoRow.holds Tryd.pinned (OpenSpec.upto fnExactTurnOfSwapSpec)

/-- 'laws.FnExactMovedSlots', WHERE WHAT IT READS IS OF BULK AT MOST 1048576: true; the input reads as it did. -/
def fnExactMovedSlotsUptoRow : OpenClaim := { program := "ytpebikjckhcgfaadoor", sum := "eb219da8064772bcfb26c57f4a4df8332614df6482239926a36f546778a67927", func := "loop.example/g00133/laws.FnExactMovedSlots", spec := "fnExactMovedSlots", unfollowed := true, recurses := true, named := ["math/bits.deBruijn64tab"], apart := false, laid := [("math/bits.deBruijn64tab", laid_math_bits_deBruijn64tab)], narrowed := true }
def FnExactMovedSlotsUptoSaid : Prop := fnExactMovedSlotsUptoRow.holds Tryd.pinned (OpenSpec.upto fnExactMovedSlotsSpec)

/-- 'laws.FnExactMulRows', WHERE WHAT IT READS IS OF BULK AT MOST 1048576: true; the input reads as it did. -/
def fnExactMulRowsUptoRow : OpenClaim := { program := "ytpebikjckhcgfaadoor", sum := "eb219da8064772bcfb26c57f4a4df8332614df6482239926a36f546778a67927", func := "loop.example/g00133/laws.FnExactMulRows", spec := "fnExactMulRows", unfollowed := true, recurses := true, named := ["loop.example/g00133/impl.smallPrimes", "math/bits.deBruijn64tab", "math/bits.divideError", "math/bits.overflowError"], apart := false, laid := [("math/bits.deBruijn64tab", laid_math_bits_deBruijn64tab), ("loop.example/g00133/impl.smallPrimes", laid_loop_example_g00133_impl_smallPrimes)], narrowed := true }
def FnExactMulRowsUptoSaid : Prop := fnExactMulRowsUptoRow.holds Tryd.pinned (OpenSpec.upto fnExactMulRowsSpec)

/-- 'laws.FnExactScaleRows', WHERE WHAT IT READS IS OF BULK AT MOST 1048576: true; the input reads as it did. -/
def fnExactScaleRowsUptoRow : OpenClaim := { program := "ytpebikjckhcgfaadoor", sum := "eb219da8064772bcfb26c57f4a4df8332614df6482239926a36f546778a67927", func := "loop.example/g00133/laws.FnExactScaleRows", spec := "fnExactScaleRows", unfollowed := true, recurses := true, named := ["loop.example/g00133/impl.smallPrimes", "math/bits.deBruijn64tab", "math/bits.divideError", "math/bits.overflowError"], apart := false, laid := [("math/bits.deBruijn64tab", laid_math_bits_deBruijn64tab), ("loop.example/g00133/impl.smallPrimes", laid_loop_example_g00133_impl_smallPrimes)], narrowed := true }
def FnExactScaleRowsUptoSaid : Prop := fnExactScaleRowsUptoRow.holds Tryd.pinned (OpenSpec.upto fnExactScaleRowsSpec)

/-- 'laws.FnExactAheadRows', WHERE WHAT IT READS IS OF BULK AT MOST 1048576: true; the input reads as it did. -/
def fnExactAheadRowsUptoRow : OpenClaim := { program := "ytpebikjckhcgfaadoor", sum := "eb219da8064772bcfb26c57f4a4df8332614df6482239926a36f546778a67927", func := "loop.example/g00133/laws.FnExactAheadRows", spec := "fnExactAheadRows", unfollowed := true, recurses := true, named := ["loop.example/g00133/impl.smallPrimes", "math/bits.deBruijn64tab", "math/bits.divideError", "math/bits.overflowError"], apart := false, laid := [("math/bits.deBruijn64tab", laid_math_bits_deBruijn64tab), ("loop.example/g00133/impl.smallPrimes", laid_loop_example_g00133_impl_smallPrimes)], narrowed := true }
def FnExactAheadRowsUptoSaid : Prop := fnExactAheadRowsUptoRow.holds Tryd.pinned (OpenSpec.upto fnExactAheadRowsSpec)

/-- 'laws.FnExactBackRows', WHERE WHAT IT READS IS OF BULK AT MOST 1048576: true; the input reads as it did. -/
def fnExactBackRowsUptoRow : OpenClaim := { program := "ytpebikjckhcgfaadoor", sum := "eb219da8064772bcfb26c57f4a4df8332614df6482239926a36f546778a67927", func := "loop.example/g00133/laws.FnExactBackRows", spec := "fnExactBackRows", unfollowed := true, recurses := true, named := ["loop.example/g00133/impl.smallPrimes", "math/bits.deBruijn64tab", "math/bits.divideError", "math/bits.overflowError"], apart := false, laid := [("math/bits.deBruijn64tab", laid_math_bits_deBruijn64tab), ("loop.example/g00133/impl.smallPrimes", laid_loop_example_g00133_impl_smallPrimes)], narrowed := true }
def FnExactBackRowsUptoSaid : Prop := fnExactBackRowsUptoRow.holds Tryd.pinned (OpenSpec.upto fnExactBackRowsSpec)

end Rows
end Go.Proofs.YtpebikjckhcgfaaDoor
