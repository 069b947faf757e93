/-
  NARROWER THAN 'FOR EVERY INPUT', by the rows' own cells (each row's printed sentence says how): FnWholes: laid · FnTransforms: laid · FnTurned: laid · FnExactWholeText: laid · FnExactForward: laid · FnExactInverse: laid · FnExactMulRing: laid · FnExactGoodBasis: laid · FnExactProductOf: laid · FnExactResiduesOf: laid · FnExactComposeWhole: laid · FnExactCentredWhole: laid · FnExactPuncturedOf: laid · FnExactInversesOf: laid.
  DERIVED. THE GIVEN ROWS OF THIS SEAT. 14 by the template 'for every input the law returns true; each argument reads behind the call as it read before'; 0 by the template 'total and deterministic' (their statements: YtplaaglckbfklaaDoorTotals.lean).
  GIVEN WITH THE SEED: the statements are not yours to turn. If you find one false, say at which input.
  Laid BY PROGRAM, IN A SANDBOX (cutbox-rows.mjs): the forced cells as the released guide's own fill.sh prints them over the translation 613c41c69990d434… (all of the seat's roots in one cut). By AI agents, Wed Nov 11 2026. No macro, syntax, notation, axiom, sorry.
-/
import Derived.Test.YtplaaglckbfklaaDoorChecked
import GoSem.Claim
import GoSem.ClaimJoined
import GoSem.ClaimMapViews
import Derived.JoinedTies
import Derived.KernelRfl
namespace Go.Proofs.YtplaaglckbfklaaDoor
/- THE CELL 'sum', in the pinned program and in every row, IS THE sha256 OF THE DUMP (.gsa) THAT YtplaaglckbfklaaDoorProg.lean LOADS. Nothing in Lean hashes anything: it is a label: what it is worth is what the hold of that sum in a sandbox is worth. -/
noncomputable def Tryd.pinned : Pinned := { name := "ytplaaglckbfklaadoor", sum := "613c41c69990d434983bde246a827a55cb955a7f1f5bc3ebea8b4e1049365385", checked := Tryd.checked }
namespace Rows
def none {H : Type} : Left H := { results := [], args := [] }

/- WHAT THE LISTED PACKAGE-LEVEL VARIABLES READ AS WHEN THE CALL BEGINS. Each datum BY PROGRAM (the guide's laid-datum.mjs) off the statement by which the dump's own 'gosem.cut.vars' lays the variable. In a bare row this is a premise. The card (YtplaaglckbfklaaDoorCards.lean) ties it to the program's text. -/
def laid_math_bits_deBruijn32tab {H : Type} : DataW H := .agg [.lit (.int .u8 0), .lit (.int .u8 1), .lit (.int .u8 28), .lit (.int .u8 2), .lit (.int .u8 29), .lit (.int .u8 14), .lit (.int .u8 24), .lit (.int .u8 3), .lit (.int .u8 30), .lit (.int .u8 22), .lit (.int .u8 20), .lit (.int .u8 15), .lit (.int .u8 25), .lit (.int .u8 17), .lit (.int .u8 4), .lit (.int .u8 8), .lit (.int .u8 31), .lit (.int .u8 27), .lit (.int .u8 13), .lit (.int .u8 23), .lit (.int .u8 21), .lit (.int .u8 19), .lit (.int .u8 16), .lit (.int .u8 7), .lit (.int .u8 26), .lit (.int .u8 12), .lit (.int .u8 18), .lit (.int .u8 6), .lit (.int .u8 11), .lit (.int .u8 5), .lit (.int .u8 10), .lit (.int .u8 9)]
def laid_math_bits_deBruijn64tab {H : Type} : DataW H := .agg [.lit (.int .u8 0), .lit (.int .u8 1), .lit (.int .u8 56), .lit (.int .u8 2), .lit (.int .u8 57), .lit (.int .u8 49), .lit (.int .u8 28), .lit (.int .u8 3), .lit (.int .u8 61), .lit (.int .u8 58), .lit (.int .u8 42), .lit (.int .u8 50), .lit (.int .u8 38), .lit (.int .u8 29), .lit (.int .u8 17), .lit (.int .u8 4), .lit (.int .u8 62), .lit (.int .u8 47), .lit (.int .u8 59), .lit (.int .u8 36), .lit (.int .u8 45), .lit (.int .u8 43), .lit (.int .u8 51), .lit (.int .u8 22), .lit (.int .u8 53), .lit (.int .u8 39), .lit (.int .u8 33), .lit (.int .u8 30), .lit (.int .u8 24), .lit (.int .u8 18), .lit (.int .u8 12), .lit (.int .u8 5), .lit (.int .u8 63), .lit (.int .u8 55), .lit (.int .u8 48), .lit (.int .u8 27), .lit (.int .u8 60), .lit (.int .u8 41), .lit (.int .u8 37), .lit (.int .u8 16), .lit (.int .u8 46), .lit (.int .u8 35), .lit (.int .u8 44), .lit (.int .u8 21), .lit (.int .u8 52), .lit (.int .u8 32), .lit (.int .u8 23), .lit (.int .u8 11), .lit (.int .u8 54), .lit (.int .u8 26), .lit (.int .u8 40), .lit (.int .u8 15), .lit (.int .u8 34), .lit (.int .u8 20), .lit (.int .u8 31), .lit (.int .u8 10), .lit (.int .u8 25), .lit (.int .u8 14), .lit (.int .u8 19), .lit (.int .u8 9), .lit (.int .u8 13), .lit (.int .u8 8), .lit (.int .u8 7), .lit (.int .u8 6)]
def laid_internal_strconv_uint64pow10 {H : Type} : DataW H := .agg [.lit (.int .u64 1), .lit (.int .u64 10), .lit (.int .u64 100), .lit (.int .u64 1000), .lit (.int .u64 10000), .lit (.int .u64 100000), .lit (.int .u64 1000000), .lit (.int .u64 10000000), .lit (.int .u64 100000000), .lit (.int .u64 1000000000), .lit (.int .u64 10000000000), .lit (.int .u64 100000000000), .lit (.int .u64 1000000000000), .lit (.int .u64 10000000000000), .lit (.int .u64 100000000000000), .lit (.int .u64 1000000000000000), .lit (.int .u64 10000000000000000), .lit (.int .u64 100000000000000000), .lit (.int .u64 1000000000000000000), .lit (.int .u64 10000000000000000000)]
def laid_loop_example_g00133_impl_smallPrimes {H : Type} : DataW H := .agg [.lit (.int .u64 2), .lit (.int .u64 3), .lit (.int .u64 5), .lit (.int .u64 7), .lit (.int .u64 11), .lit (.int .u64 13), .lit (.int .u64 17), .lit (.int .u64 19), .lit (.int .u64 23), .lit (.int .u64 29), .lit (.int .u64 31), .lit (.int .u64 37)]

/-- 'laws.FnWholes': WHATEVER THE INPUT: true; the input reads as it did. -/
def fnWholesSpec : ChangeSpec := { name := "fnWholes", fn := fun _ => fun
  | [d1, d2] => { results := [.lit (.bool true)], args := [d1, d2] }
  | _ => none }
def fnWholesRow : OpenClaim := { program := "ytplaaglckbfklaadoor", sum := "613c41c69990d434983bde246a827a55cb955a7f1f5bc3ebea8b4e1049365385", func := "loop.example/g00133/laws.FnWholes", spec := "fnWholes", inPlace := ["internal/abi.NoEscape", "internal/bytealg.MakeNoZero"], recurses := true, named := ["internal/strconv.uint64pow10", "math/bits.deBruijn32tab", "math/bits.deBruijn64tab"], apart := false, laid := [("math/bits.deBruijn32tab", laid_math_bits_deBruijn32tab), ("math/bits.deBruijn64tab", laid_math_bits_deBruijn64tab), ("internal/strconv.uint64pow10", laid_internal_strconv_uint64pow10)] }
def FnWholesSaid : Prop := fnWholesRow.holds Tryd.pinned (OpenSpec.ofChange fnWholesSpec)

/-- ITS FALSE NEIGHBOUR: 'it returns false'. Refute it at one input. -/
def fnWholesWrong : ChangeSpec := { name := "fnWholes", fn := fun _ => fun
  | [d1, d2] => { results := [.lit (.bool false)], args := [d1, d2] }
  | _ => none }
def FnWholesWrongFalsely : Prop := fnWholesRow.holds Tryd.pinned (OpenSpec.ofChange fnWholesWrong)

/-- 'laws.FnTransforms': WHATEVER THE INPUT: true; the input reads as it did. -/
def fnTransformsSpec : ChangeSpec := { name := "fnTransforms", vars := ["loop.example/g00133/impl.smallPrimes"], fn := fun _ => fun
  | [d, g1] => { results := [.lit (.bool true)], args := [d], vars := [g1] }
  | _ => none }
def fnTransformsRow : OpenClaim := { program := "ytplaaglckbfklaadoor", sum := "613c41c69990d434983bde246a827a55cb955a7f1f5bc3ebea8b4e1049365385", func := "loop.example/g00133/laws.FnTransforms", spec := "fnTransforms", unfollowed := true, recurses := true, named := ["loop.example/g00133/impl.smallPrimes", "math/bits.deBruijn64tab", "math/bits.divideError", "math/bits.overflowError"], apart := false, laid := [("math/bits.deBruijn64tab", laid_math_bits_deBruijn64tab), ("loop.example/g00133/impl.smallPrimes", laid_loop_example_g00133_impl_smallPrimes)] }
def FnTransformsSaid : Prop := fnTransformsRow.holds Tryd.pinned (OpenSpec.ofChange fnTransformsSpec)

/-- ITS FALSE NEIGHBOUR: 'it returns false'. Refute it at one input. -/
def fnTransformsWrong : ChangeSpec := { name := "fnTransforms", vars := ["loop.example/g00133/impl.smallPrimes"], fn := fun _ => fun
  | [d, g1] => { results := [.lit (.bool false)], args := [d], vars := [g1] }
  | _ => none }
def FnTransformsWrongFalsely : Prop := fnTransformsRow.holds Tryd.pinned (OpenSpec.ofChange fnTransformsWrong)

/-- 'laws.FnTurned': WHATEVER THE INPUT: true; the input reads as it did. -/
def fnTurnedSpec : ChangeSpec := { name := "fnTurned", vars := ["loop.example/g00133/impl.smallPrimes"], fn := fun _ => fun
  | [d, g1] => { results := [.lit (.bool true)], args := [d], vars := [g1] }
  | _ => none }
def fnTurnedRow : OpenClaim := { program := "ytplaaglckbfklaadoor", sum := "613c41c69990d434983bde246a827a55cb955a7f1f5bc3ebea8b4e1049365385", func := "loop.example/g00133/laws.FnTurned", spec := "fnTurned", unfollowed := true, recurses := true, named := ["loop.example/g00133/impl.smallPrimes", "math/bits.deBruijn64tab", "math/bits.divideError", "math/bits.overflowError"], apart := false, laid := [("math/bits.deBruijn64tab", laid_math_bits_deBruijn64tab), ("loop.example/g00133/impl.smallPrimes", laid_loop_example_g00133_impl_smallPrimes)] }
def FnTurnedSaid : Prop := fnTurnedRow.holds Tryd.pinned (OpenSpec.ofChange fnTurnedSpec)

/-- ITS FALSE NEIGHBOUR: 'it returns false'. Refute it at one input. -/
def fnTurnedWrong : ChangeSpec := { name := "fnTurned", vars := ["loop.example/g00133/impl.smallPrimes"], fn := fun _ => fun
  | [d, g1] => { results := [.lit (.bool false)], args := [d], vars := [g1] }
  | _ => none }
def FnTurnedWrongFalsely : Prop := fnTurnedRow.holds Tryd.pinned (OpenSpec.ofChange fnTurnedWrong)

/-- 'laws.FnExactWholeText': WHATEVER THE INPUT: true; the input reads as it did. -/
def fnExactWholeTextSpec : ChangeSpec := { name := "fnExactWholeText", fn := fun _ => fun
  | [d] => { results := [.lit (.bool true)], args := [d] }
  | _ => none }
def fnExactWholeTextRow : OpenClaim := { program := "ytplaaglckbfklaadoor", sum := "613c41c69990d434983bde246a827a55cb955a7f1f5bc3ebea8b4e1049365385", func := "loop.example/g00133/laws.FnExactWholeText", spec := "fnExactWholeText", inPlace := ["internal/abi.NoEscape", "internal/bytealg.MakeNoZero"], recurses := true, named := ["internal/strconv.uint64pow10", "math/bits.deBruijn32tab", "math/bits.deBruijn64tab"], apart := false, laid := [("math/bits.deBruijn32tab", laid_math_bits_deBruijn32tab), ("math/bits.deBruijn64tab", laid_math_bits_deBruijn64tab), ("internal/strconv.uint64pow10", laid_internal_strconv_uint64pow10)] }
def FnExactWholeTextSaid : Prop := fnExactWholeTextRow.holds Tryd.pinned (OpenSpec.ofChange fnExactWholeTextSpec)

/-- ITS FALSE NEIGHBOUR: 'it returns false'. Refute it at one input. -/
def fnExactWholeTextWrong : ChangeSpec := { name := "fnExactWholeText", fn := fun _ => fun
  | [d] => { results := [.lit (.bool false)], args := [d] }
  | _ => none }
def FnExactWholeTextWrongFalsely : Prop := fnExactWholeTextRow.holds Tryd.pinned (OpenSpec.ofChange fnExactWholeTextWrong)

/-- 'laws.FnExactForward': WHATEVER THE INPUT: true; the input reads as it did. -/
def fnExactForwardSpec : ChangeSpec := { name := "fnExactForward", vars := ["loop.example/g00133/impl.smallPrimes"], fn := fun _ => fun
  | [d1, d2, g1] => { results := [.lit (.bool true)], args := [d1, d2], vars := [g1] }
  | _ => none }
def fnExactForwardRow : OpenClaim := { program := "ytplaaglckbfklaadoor", sum := "613c41c69990d434983bde246a827a55cb955a7f1f5bc3ebea8b4e1049365385", func := "loop.example/g00133/laws.FnExactForward", spec := "fnExactForward", unfollowed := true, recurses := true, named := ["loop.example/g00133/impl.smallPrimes", "math/bits.deBruijn64tab", "math/bits.divideError", "math/bits.overflowError"], apart := false, laid := [("math/bits.deBruijn64tab", laid_math_bits_deBruijn64tab), ("loop.example/g00133/impl.smallPrimes", laid_loop_example_g00133_impl_smallPrimes)] }
def FnExactForwardSaid : Prop := fnExactForwardRow.holds Tryd.pinned (OpenSpec.ofChange fnExactForwardSpec)

/-- ITS FALSE NEIGHBOUR: 'it returns false'. Refute it at one input. -/
def fnExactForwardWrong : ChangeSpec := { name := "fnExactForward", vars := ["loop.example/g00133/impl.smallPrimes"], fn := fun _ => fun
  | [d1, d2, g1] => { results := [.lit (.bool false)], args := [d1, d2], vars := [g1] }
  | _ => none }
def FnExactForwardWrongFalsely : Prop := fnExactForwardRow.holds Tryd.pinned (OpenSpec.ofChange fnExactForwardWrong)

/-- 'laws.FnExactInverse': WHATEVER THE INPUT: true; the input reads as it did. -/
def fnExactInverseSpec : ChangeSpec := { name := "fnExactInverse", vars := ["loop.example/g00133/impl.smallPrimes"], fn := fun _ => fun
  | [d1, d2, g1] => { results := [.lit (.bool true)], args := [d1, d2], vars := [g1] }
  | _ => none }
def fnExactInverseRow : OpenClaim := { program := "ytplaaglckbfklaadoor", sum := "613c41c69990d434983bde246a827a55cb955a7f1f5bc3ebea8b4e1049365385", func := "loop.example/g00133/laws.FnExactInverse", spec := "fnExactInverse", unfollowed := true, recurses := true, named := ["loop.example/g00133/impl.smallPrimes", "math/bits.deBruijn64tab", "math/bits.divideError", "math/bits.overflowError"], apart := false, laid := [("math/bits.deBruijn64tab", laid_math_bits_deBruijn64tab), ("loop.example/g00133/impl.smallPrimes", laid_loop_example_g00133_impl_smallPrimes)] }
def FnExactInverseSaid : Prop := fnExactInverseRow.holds Tryd.pinned (OpenSpec.ofChange fnExactInverseSpec)

/-- ITS FALSE NEIGHBOUR: 'it returns false'. Refute it at one input. -/
def fnExactInverseWrong : ChangeSpec := { name := "fnExactInverse", vars := ["loop.example/g00133/impl.smallPrimes"], fn := fun _ => fun
  | [d1, d2, g1] => { results := [.lit (.bool false)], args := [d1, d2], vars := [g1] }
  | _ => none }
def FnExactInverseWrongFalsely : Prop := fnExactInverseRow.holds Tryd.pinned (OpenSpec.ofChange fnExactInverseWrong)

/-- 'laws.FnExactMulRing': WHATEVER THE INPUT: true; the input reads as it did. -/
def fnExactMulRingSpec : ChangeSpec := { name := "fnExactMulRing", vars := ["loop.example/g00133/impl.smallPrimes"], fn := fun _ => fun
  | [d1, d2, d3, g1] => { results := [.lit (.bool true)], args := [d1, d2, d3], vars := [g1] }
  | _ => none }
def fnExactMulRingRow : OpenClaim := { program := "ytplaaglckbfklaadoor", sum := "613c41c69990d434983bde246a827a55cb955a7f1f5bc3ebea8b4e1049365385", func := "loop.example/g00133/laws.FnExactMulRing", spec := "fnExactMulRing", unfollowed := true, recurses := true, named := ["loop.example/g00133/impl.smallPrimes", "math/bits.deBruijn64tab", "math/bits.divideError", "math/bits.overflowError"], apart := false, laid := [("math/bits.deBruijn64tab", laid_math_bits_deBruijn64tab), ("loop.example/g00133/impl.smallPrimes", laid_loop_example_g00133_impl_smallPrimes)] }
def FnExactMulRingSaid : Prop := fnExactMulRingRow.holds Tryd.pinned (OpenSpec.ofChange fnExactMulRingSpec)

/-- ITS FALSE NEIGHBOUR: 'it returns false'. Refute it at one input. -/
def fnExactMulRingWrong : ChangeSpec := { name := "fnExactMulRing", vars := ["loop.example/g00133/impl.smallPrimes"], fn := fun _ => fun
  | [d1, d2, d3, g1] => { results := [.lit (.bool false)], args := [d1, d2, d3], vars := [g1] }
  | _ => none }
def FnExactMulRingWrongFalsely : Prop := fnExactMulRingRow.holds Tryd.pinned (OpenSpec.ofChange fnExactMulRingWrong)

/-- 'laws.FnExactGoodBasis': WHATEVER THE INPUT: true; the input reads as it did. -/
def fnExactGoodBasisSpec : ChangeSpec := { name := "fnExactGoodBasis", vars := ["loop.example/g00133/impl.smallPrimes"], fn := fun _ => fun
  | [d, g1] => { results := [.lit (.bool true)], args := [d], vars := [g1] }
  | _ => none }
def fnExactGoodBasisRow : OpenClaim := { program := "ytplaaglckbfklaadoor", sum := "613c41c69990d434983bde246a827a55cb955a7f1f5bc3ebea8b4e1049365385", func := "loop.example/g00133/laws.FnExactGoodBasis", spec := "fnExactGoodBasis", unfollowed := true, recurses := true, named := ["loop.example/g00133/impl.smallPrimes", "math/bits.deBruijn64tab", "math/bits.divideError", "math/bits.overflowError"], apart := false, laid := [("math/bits.deBruijn64tab", laid_math_bits_deBruijn64tab), ("loop.example/g00133/impl.smallPrimes", laid_loop_example_g00133_impl_smallPrimes)] }
def FnExactGoodBasisSaid : Prop := fnExactGoodBasisRow.holds Tryd.pinned (OpenSpec.ofChange fnExactGoodBasisSpec)

/-- ITS FALSE NEIGHBOUR: 'it returns false'. Refute it at one input. -/
def fnExactGoodBasisWrong : ChangeSpec := { name := "fnExactGoodBasis", vars := ["loop.example/g00133/impl.smallPrimes"], fn := fun _ => fun
  | [d, g1] => { results := [.lit (.bool false)], args := [d], vars := [g1] }
  | _ => none }
def FnExactGoodBasisWrongFalsely : Prop := fnExactGoodBasisRow.holds Tryd.pinned (OpenSpec.ofChange fnExactGoodBasisWrong)

/-- 'laws.FnExactProductOf': WHATEVER THE INPUT: true; the input reads as it did. -/
def fnExactProductOfSpec : ChangeSpec := { name := "fnExactProductOf", vars := ["loop.example/g00133/impl.smallPrimes"], fn := fun _ => fun
  | [d, g1] => { results := [.lit (.bool true)], args := [d], vars := [g1] }
  | _ => none }
def fnExactProductOfRow : OpenClaim := { program := "ytplaaglckbfklaadoor", sum := "613c41c69990d434983bde246a827a55cb955a7f1f5bc3ebea8b4e1049365385", func := "loop.example/g00133/laws.FnExactProductOf", spec := "fnExactProductOf", unfollowed := true, recurses := true, named := ["loop.example/g00133/impl.smallPrimes", "math/bits.deBruijn64tab", "math/bits.divideError", "math/bits.overflowError"], apart := false, laid := [("math/bits.deBruijn64tab", laid_math_bits_deBruijn64tab), ("loop.example/g00133/impl.smallPrimes", laid_loop_example_g00133_impl_smallPrimes)] }
def FnExactProductOfSaid : Prop := fnExactProductOfRow.holds Tryd.pinned (OpenSpec.ofChange fnExactProductOfSpec)

/-- ITS FALSE NEIGHBOUR: 'it returns false'. Refute it at one input. -/
def fnExactProductOfWrong : ChangeSpec := { name := "fnExactProductOf", vars := ["loop.example/g00133/impl.smallPrimes"], fn := fun _ => fun
  | [d, g1] => { results := [.lit (.bool false)], args := [d], vars := [g1] }
  | _ => none }
def FnExactProductOfWrongFalsely : Prop := fnExactProductOfRow.holds Tryd.pinned (OpenSpec.ofChange fnExactProductOfWrong)

/-- 'laws.FnExactResiduesOf': WHATEVER THE INPUT: true; the input reads as it did. -/
def fnExactResiduesOfSpec : ChangeSpec := { name := "fnExactResiduesOf", vars := ["loop.example/g00133/impl.smallPrimes"], fn := fun _ => fun
  | [d1, d2, g1] => { results := [.lit (.bool true)], args := [d1, d2], vars := [g1] }
  | _ => none }
def fnExactResiduesOfRow : OpenClaim := { program := "ytplaaglckbfklaadoor", sum := "613c41c69990d434983bde246a827a55cb955a7f1f5bc3ebea8b4e1049365385", func := "loop.example/g00133/laws.FnExactResiduesOf", spec := "fnExactResiduesOf", unfollowed := true, recurses := true, named := ["loop.example/g00133/impl.smallPrimes", "math/bits.deBruijn64tab", "math/bits.divideError", "math/bits.overflowError"], apart := false, laid := [("math/bits.deBruijn64tab", laid_math_bits_deBruijn64tab), ("loop.example/g00133/impl.smallPrimes", laid_loop_example_g00133_impl_smallPrimes)] }
def FnExactResiduesOfSaid : Prop := fnExactResiduesOfRow.holds Tryd.pinned (OpenSpec.ofChange fnExactResiduesOfSpec)

/-- ITS FALSE NEIGHBOUR: 'it returns false'. Refute it at one input. -/
def fnExactResiduesOfWrong : ChangeSpec := { name := "fnExactResiduesOf", vars := ["loop.example/g00133/impl.smallPrimes"], fn := fun _ => fun
  | [d1, d2, g1] => { results := [.lit (.bool false)], args := [d1, d2], vars := [g1] }
  | _ => none }
def FnExactResiduesOfWrongFalsely : Prop := fnExactResiduesOfRow.holds Tryd.pinned (OpenSpec.ofChange fnExactResiduesOfWrong)

/-- 'laws.FnExactComposeWhole': WHATEVER THE INPUT: true; the input reads as it did. -/
def fnExactComposeWholeSpec : ChangeSpec := { name := "fnExactComposeWhole", vars := ["loop.example/g00133/impl.smallPrimes"], fn := fun _ => fun
  | [d1, d2, g1] => { results := [.lit (.bool true)], args := [d1, d2], vars := [g1] }
  | _ => none }
def fnExactComposeWholeRow : OpenClaim := { program := "ytplaaglckbfklaadoor", sum := "613c41c69990d434983bde246a827a55cb955a7f1f5bc3ebea8b4e1049365385", func := "loop.example/g00133/laws.FnExactComposeWhole", spec := "fnExactComposeWhole", unfollowed := true, recurses := true, named := ["loop.example/g00133/impl.smallPrimes", "math/bits.deBruijn64tab", "math/bits.divideError", "math/bits.overflowError"], apart := false, laid := [("math/bits.deBruijn64tab", laid_math_bits_deBruijn64tab), ("loop.example/g00133/impl.smallPrimes", laid_loop_example_g00133_impl_smallPrimes)] }
def FnExactComposeWholeSaid : Prop := fnExactComposeWholeRow.holds Tryd.pinned (OpenSpec.ofChange fnExactComposeWholeSpec)

/-- ITS FALSE NEIGHBOUR: 'it returns false'. Refute it at one input. -/
def fnExactComposeWholeWrong : ChangeSpec := { name := "fnExactComposeWhole", vars := ["loop.example/g00133/impl.smallPrimes"], fn := fun _ => fun
  | [d1, d2, g1] => { results := [.lit (.bool false)], args := [d1, d2], vars := [g1] }
  | _ => none }
def FnExactComposeWholeWrongFalsely : Prop := fnExactComposeWholeRow.holds Tryd.pinned (OpenSpec.ofChange fnExactComposeWholeWrong)

/-- 'laws.FnExactCentredWhole': WHATEVER THE INPUT: true; the input reads as it did. -/
def fnExactCentredWholeSpec : ChangeSpec := { name := "fnExactCentredWhole", vars := ["loop.example/g00133/impl.smallPrimes"], fn := fun _ => fun
  | [d1, d2, g1] => { results := [.lit (.bool true)], args := [d1, d2], vars := [g1] }
  | _ => none }
def fnExactCentredWholeRow : OpenClaim := { program := "ytplaaglckbfklaadoor", sum := "613c41c69990d434983bde246a827a55cb955a7f1f5bc3ebea8b4e1049365385", func := "loop.example/g00133/laws.FnExactCentredWhole", spec := "fnExactCentredWhole", unfollowed := true, recurses := true, named := ["loop.example/g00133/impl.smallPrimes", "math/bits.deBruijn64tab", "math/bits.divideError", "math/bits.overflowError"], apart := false, laid := [("math/bits.deBruijn64tab", laid_math_bits_deBruijn64tab), ("loop.example/g00133/impl.smallPrimes", laid_loop_example_g00133_impl_smallPrimes)] }
def FnExactCentredWholeSaid : Prop := fnExactCentredWholeRow.holds Tryd.pinned (OpenSpec.ofChange fnExactCentredWholeSpec)

/-- ITS FALSE NEIGHBOUR: 'it returns false'. Refute it at one input. -/
def fnExactCentredWholeWrong : ChangeSpec := { name := "fnExactCentredWhole", vars := ["loop.example/g00133/impl.smallPrimes"], fn := fun _ => fun
  | [d1, d2, g1] => { results := [.lit (.bool false)], args := [d1, d2], vars := [g1] }
  | _ => none }
def FnExactCentredWholeWrongFalsely : Prop := fnExactCentredWholeRow.holds Tryd.pinned (OpenSpec.ofChange fnExactCentredWholeWrong)

/-- 'laws.FnExactPuncturedOf': WHATEVER THE INPUT: true; the input reads as it did. -/
def fnExactPuncturedOfSpec : ChangeSpec := { name := "fnExactPuncturedOf", vars := ["loop.example/g00133/impl.smallPrimes"], fn := fun _ => fun
  | [d, g1] => { results := [.lit (.bool true)], args := [d], vars := [g1] }
  | _ => none }
def fnExactPuncturedOfRow : OpenClaim := { program := "ytplaaglckbfklaadoor", sum := "613c41c69990d434983bde246a827a55cb955a7f1f5bc3ebea8b4e1049365385", func := "loop.example/g00133/laws.FnExactPuncturedOf", spec := "fnExactPuncturedOf", unfollowed := true, recurses := true, named := ["loop.example/g00133/impl.smallPrimes", "math/bits.deBruijn64tab", "math/bits.divideError", "math/bits.overflowError"], apart := false, laid := [("math/bits.deBruijn64tab", laid_math_bits_deBruijn64tab), ("loop.example/g00133/impl.smallPrimes", laid_loop_example_g00133_impl_smallPrimes)] }
def FnExactPuncturedOfSaid : Prop := fnExactPuncturedOfRow.holds Tryd.pinned (OpenSpec.ofChange fnExactPuncturedOfSpec)

/-- ITS FALSE NEIGHBOUR: 'it returns false'. Refute it at one input. -/
def fnExactPuncturedOfWrong : ChangeSpec := { name := "fnExactPuncturedOf", vars := ["loop.example/g00133/impl.smallPrimes"], fn := fun _ => fun
  | [d, g1] => { results := [.lit (.bool false)], args := [d], vars := [g1] }
  | _ => none }
def FnExactPuncturedOfWrongFalsely : Prop := fnExactPuncturedOfRow.holds Tryd.pinned (OpenSpec.ofChange fnExactPuncturedOfWrong)

/-- 'laws.FnExactInversesOf': WHATEVER THE INPUT: true; the input reads as it did. -/
def fnExactInversesOfSpec : ChangeSpec := { name := "fnExactInversesOf", vars := ["loop.example/g00133/impl.smallPrimes"], fn := fun _ => fun
  | [d, g1] => { results := [.lit (.bool true)], args := [d], vars := [g1] }
  | _ => none }
def fnExactInversesOfRow : OpenClaim := { program := "ytplaaglckbfklaadoor", sum := "613c41c69990d434983bde246a827a55cb955a7f1f5bc3ebea8b4e1049365385", func := "loop.example/g00133/laws.FnExactInversesOf", spec := "fnExactInversesOf", unfollowed := true, recurses := true, named := ["loop.example/g00133/impl.smallPrimes", "math/bits.deBruijn64tab", "math/bits.divideError", "math/bits.overflowError"], apart := false, laid := [("math/bits.deBruijn64tab", laid_math_bits_deBruijn64tab), ("loop.example/g00133/impl.smallPrimes", laid_loop_example_g00133_impl_smallPrimes)] }
def FnExactInversesOfSaid : Prop := fnExactInversesOfRow.holds Tryd.pinned (OpenSpec.ofChange fnExactInversesOfSpec)

/-- ITS FALSE NEIGHBOUR: 'it returns false'. Refute it at one input. -/
def fnExactInversesOfWrong : ChangeSpec := { name := "fnExactInversesOf", vars := ["loop.example/g00133/impl.smallPrimes"], fn := fun _ => fun
  | [d, g1] => { results := [.lit (.bool false)], args := [d], vars := [g1] }
  | _ => none }
def FnExactInversesOfWrongFalsely : Prop := fnExactInversesOfRow.holds Tryd.pinned (OpenSpec.ofChange fnExactInversesOfWrong)

/- THE SECOND FORM. 'bulk': how many values and letters a reading holds, each counted each time it is reached (what is shared counts as often as it is met; a slice's spare places count too). A statement '..UptoSaid' is the law's where the arguments, and the package variables that the reading takes, are together of bulk at most 1048576: NARROWER than '..Said'. Prove '..Said' where nothing that the law and all that it calls make is longer than what came in: it says more and counts as full. Else prove '..UptoSaid'. A law counts once. -/
mutual
def uptoBulk {H : Type} : DataW H → Nat
  | .lit (.string bytes) => bytes.length + 1
  | .lit _ => 1
  | .nil => 1
  | .ptr d => uptoBulk d + 1
  | .slice elems spare => uptoBulkAll elems + uptoBulkAll spare + 1
  | .agg parts => uptoBulkAll parts + 1
  | .iface _ d => uptoBulk d + 1
  | .map entries => uptoBulkEntries entries + 1
  | .held _ => 1
def uptoBulkAll {H : Type} : List (DataW H) → Nat
  | [] => 0
  | d :: r => uptoBulk d + uptoBulkAll r
def uptoBulkEntries {H : Type} : List (Lit × DataW H) → Nat
  | [] => 0
  | x :: r => uptoBulkEntry x + uptoBulkEntries r
def uptoBulkEntry {H : Type} : Lit × DataW H → Nat
  | (.string bytes, d) => bytes.length + uptoBulk d + 1
  | (_, d) => uptoBulk d + 1
 end
def uptoSmall : (H : Type) → List (DataW H) → Bool := fun _ ds => decide (uptoBulkAll ds ≤ 1048576)
def OpenSpec.upto (s : _root_.Go.ChangeSpec) : _root_.Go.OpenSpec := { _root_.Go.OpenSpec.ofChange s with cond := some uptoSmall }

/-- 'laws.FnWholes', WHERE WHAT IT READS IS OF BULK AT MOST 1048576: true; the input reads as it did. -/
def fnWholesUptoRow : OpenClaim := { program := "ytplaaglckbfklaadoor", sum := "613c41c69990d434983bde246a827a55cb955a7f1f5bc3ebea8b4e1049365385", func := "loop.example/g00133/laws.FnWholes", spec := "fnWholes", inPlace := ["internal/abi.NoEscape", "internal/bytealg.MakeNoZero"], recurses := true, named := ["internal/strconv.uint64pow10", "math/bits.deBruijn32tab", "math/bits.deBruijn64tab"], apart := false, laid := [("math/bits.deBruijn32tab", laid_math_bits_deBruijn32tab), ("math/bits.deBruijn64tab", laid_math_bits_deBruijn64tab), ("internal/strconv.uint64pow10", laid_internal_strconv_uint64pow10)], narrowed := true }
def FnWholesUptoSaid : Prop := fnWholesUptoRow.holds Tryd.pinned (OpenSpec.upto fnWholesSpec)

/-- 'laws.FnTransforms', WHERE WHAT IT READS IS OF BULK AT MOST 1048576: true; the input reads as it did. -/
def fnTransformsUptoRow : OpenClaim := { program := "ytplaaglckbfklaadoor", sum := "613c41c69990d434983bde246a827a55cb955a7f1f5bc3ebea8b4e1049365385", func := "loop.example/g00133/laws.FnTransforms", spec := "fnTransforms", unfollowed := true, recurses := true, named := ["loop.example/g00133/impl.smallPrimes", "math/bits.deBruijn64tab", "math/bits.divideError", "math/bits.overflowError"], apart := false, laid := [("math/bits.deBruijn64tab", laid_math_bits_deBruijn64tab), ("loop.example/g00133/impl.smallPrimes", laid_loop_example_g00133_impl_smallPrimes)], narrowed := true }
def FnTransformsUptoSaid : Prop := fnTransformsUptoRow.holds Tryd.pinned (OpenSpec.upto fnTransformsSpec)

/-- 'laws.FnTurned', WHERE WHAT IT READS IS OF BULK AT MOST 1048576: true; the input reads as it did. -/
def fnTurnedUptoRow : OpenClaim := { program := "ytplaaglckbfklaadoor", sum := "613c41c69990d434983bde246a827a55cb955a7f1f5bc3ebea8b4e1049365385", func := "loop.example/g00133/laws.FnTurned", spec := "fnTurned", unfollowed := true, recurses := true, named := ["loop.example/g00133/impl.smallPrimes", "math/bits.deBruijn64tab", "math/bits.divideError", "math/bits.overflowError"], apart := false, laid := [("math/bits.deBruijn64tab", laid_math_bits_deBruijn64tab), ("loop.example/g00133/impl.smallPrimes", laid_loop_example_g00133_impl_smallPrimes)], narrowed := true }
def FnTurnedUptoSaid : Prop := fnTurnedUptoRow.holds Tryd.pinned (OpenSpec.upto fnTurnedSpec)

/-- 'laws.FnExactWholeText', WHERE WHAT IT READS IS OF BULK AT MOST 1048576: true; the input reads as it did. -/
def fnExactWholeTextUptoRow : OpenClaim := { program := "ytplaaglckbfklaadoor", sum := "613c41c69990d434983bde246a827a55cb955a7f1f5bc3ebea8b4e1049365385", func := "loop.example/g00133/laws.FnExactWholeText", spec := "fnExactWholeText", inPlace := ["internal/abi.NoEscape", "internal/bytealg.MakeNoZero"], recurses := true, named := ["internal/strconv.uint64pow10", "math/bits.deBruijn32tab", "math/bits.deBruijn64tab"], apart := false, laid := [("math/bits.deBruijn32tab", laid_math_bits_deBruijn32tab), ("math/bits.deBruijn64tab", laid_math_bits_deBruijn64tab), ("internal/strconv.uint64pow10", laid_internal_strconv_uint64pow10)], narrowed := true }
def FnExactWholeTextUptoSaid : Prop := fnExactWholeTextUptoRow.holds Tryd.pinned (OpenSpec.upto fnExactWholeTextSpec)

/-- 'laws.FnExactForward', WHERE WHAT IT READS IS OF BULK AT MOST 1048576: true; the input reads as it did. -/
def fnExactForwardUptoRow : OpenClaim := { program := "ytplaaglckbfklaadoor", sum := "613c41c69990d434983bde246a827a55cb955a7f1f5bc3ebea8b4e1049365385", func := "loop.example/g00133/laws.FnExactForward", spec := "fnExactForward", unfollowed := true, recurses := true, named := ["loop.example/g00133/impl.smallPrimes", "math/bits.deBruijn64tab", "math/bits.divideError", "math/bits.overflowError"], apart := false, laid := [("math/bits.deBruijn64tab", laid_math_bits_deBruijn64tab), ("loop.example/g00133/impl.smallPrimes", laid_loop_example_g00133_impl_smallPrimes)], narrowed := true }
def FnExactForwardUptoSaid : Prop := fnExactForwardUptoRow.holds Tryd.pinned (OpenSpec.upto fnExactForwardSpec)

/-- 'laws.FnExactInverse', WHERE WHAT IT READS IS OF BULK AT MOST 1048576: true; the input reads as it did. -/
def fnExactInverseUptoRow : OpenClaim := { program := "ytplaaglckbfklaadoor", sum := "613c41c69990d434983bde246a827a55cb955a7f1f5bc3ebea8b4e1049365385", func := "loop.example/g00133/laws.FnExactInverse", spec := "fnExactInverse", unfollowed := true, recurses := true, named := ["loop.example/g00133/impl.smallPrimes", "math/bits.deBruijn64tab", "math/bits.divideError", "math/bits.overflowError"], apart := false, laid := [("math/bits.deBruijn64tab", laid_math_bits_deBruijn64tab), ("loop.example/g00133/impl.smallPrimes", laid_loop_example_g00133_impl_smallPrimes)], narrowed := true }
def FnExactInverseUptoSaid : Prop := fnExactInverseUptoRow.holds Tryd.pinned (OpenSpec.upto fnExactInverseSpec)

/-- 'laws.FnExactMulRing', WHERE WHAT IT READS IS OF BULK AT MOST 1048576: true; the input reads as it did. -/
def fnExactMulRingUptoRow : OpenClaim := { program := "ytplaaglckbfklaadoor", sum := "613c41c69990d434983bde246a827a55cb955a7f1f5bc3ebea8b4e1049365385", func := "loop.example/g00133/laws.FnExactMulRing", spec := "fnExactMulRing", unfollowed := true, recurses := true, named := ["loop.example/g00133/impl.smallPrimes", "math/bits.deBruijn64tab", "math/bits.divideError", "math/bits.overflowError"], apart := false, laid := [("math/bits.deBruijn64tab", laid_math_bits_deBruijn64tab), ("loop.example/g00133/impl.smallPrimes", laid_loop_example_g00133_impl_smallPrimes)], narrowed := true }
def FnExactMulRingUptoSaid : Prop := fnExactMulRingUptoRow.holds Tryd.pinned (OpenSpec.upto fnExactMulRingSpec)

/-- 'laws.FnExactGoodBasis', WHERE WHAT IT READS IS OF BULK AT MOST 1048576: true; the input reads as it did. -/
def fnExactGoodBasisUptoRow : OpenClaim := { program := "ytplaaglckbfklaadoor", sum := "613c41c69990d434983bde246a827a55cb955a7f1f5bc3ebea8b4e1049365385", func := "loop.example/g00133/laws.FnExactGoodBasis", spec := "fnExactGoodBasis", unfollowed := true, recurses := true, named := ["loop.example/g00133/impl.smallPrimes", "math/bits.deBruijn64tab", "math/bits.divideError", "math/bits.overflowError"], apart := false, laid := [("math/bits.deBruijn64tab", laid_math_bits_deBruijn64tab), ("loop.example/g00133/impl.smallPrimes", laid_loop_example_g00133_impl_smallPrimes)], narrowed := true }
def FnExactGoodBasisUptoSaid : Prop := fnExactGoodBasisUptoRow.holds Tryd.pinned (OpenSpec.upto fnExactGoodBasisSpec)

/-- 'laws.FnExactProductOf', WHERE WHAT IT READS IS OF BULK AT MOST 1048576: true; the input reads as it did. -/
def fnExactProductOfUptoRow : OpenClaim := { program := "ytplaaglckbfklaadoor", sum := "613c41c69990d434983bde246a827a55cb955a7f1f5bc3ebea8b4e1049365385", func := "loop.example/g00133/laws.FnExactProductOf", spec := "fnExactProductOf", unfollowed := true, recurses := true, named := ["loop.example/g00133/impl.smallPrimes", "math/bits.deBruijn64tab", "math/bits.divideError", "math/bits.overflowError"], apart := false, laid := [("math/bits.deBruijn64tab", laid_math_bits_deBruijn64tab), ("loop.example/g00133/impl.smallPrimes", laid_loop_example_g00133_impl_smallPrimes)], narrowed := true }
def FnExactProductOfUptoSaid : Prop := fnExactProductOfUptoRow.holds Tryd.pinned (OpenSpec.upto fnExactProductOfSpec)

/-- 'laws.FnExactResiduesOf', WHERE WHAT IT READS IS OF BULK AT MOST 1048576: true; the input reads as it did. -/
def fnExactResiduesOfUptoRow : OpenClaim := { program := "ytplaaglckbfklaadoor", sum := "613c41c69990d434983bde246a827a55cb955a7f1f5bc3ebea8b4e1049365385", func := "loop.example/g00133/laws.FnExactResiduesOf", spec := "fnExactResiduesOf", unfollowed := true, recurses := true, named := ["loop.example/g00133/impl.smallPrimes", "math/bits.deBruijn64tab", "math/bits.divideError", "math/bits.overflowError"], apart := false, laid := [("math/bits.deBruijn64tab", laid_math_bits_deBruijn64tab), ("loop.example/g00133/impl.smallPrimes", laid_loop_example_g00133_impl_smallPrimes)], narrowed := true }
def FnExactResiduesOfUptoSaid : Prop := fnExactResiduesOfUptoRow.holds Tryd.pinned (OpenSpec.upto fnExactResiduesOfSpec)

/-- 'laws.FnExactComposeWhole', WHERE WHAT IT READS IS OF BULK AT MOST 1048576: true; the input reads as it did. -/
def fnExactComposeWholeUptoRow : OpenClaim := { program := "ytplaaglckbfklaadoor", sum := "613c41c69990d434983bde246a827a55cb955a7f1f5bc3ebea8b4e1049365385", func := "loop.example/g00133/laws.FnExactComposeWhole", spec := "fnExactComposeWhole", unfollowed := true, recurses := true, named := ["loop.example/g00133/impl.smallPrimes", "math/bits.deBruijn64tab", "math/bits.divideError", "math/bits.overflowError"], apart := false, laid := [("math/bits.deBruijn64tab", laid_math_bits_deBruijn64tab), ("loop.example/g00133/impl.smallPrimes", laid_loop_example_g00133_impl_smallPrimes)], narrowed := true }
def FnExactComposeWholeUptoSaid : Prop := fnExactComposeWholeUptoRow.holds Tryd.pinned (OpenSpec.upto fnExactComposeWholeSpec)

/-- 'laws.FnExactCentredWhole', WHERE WHAT IT READS IS OF BULK AT MOST 1048576: true; the input reads as it did. -/
def fnExactCentredWholeUptoRow : OpenClaim := { program := "ytplaaglckbfklaadoor", sum := "613c41c69990d434983bde246a827a55cb955a7f1f5bc3ebea8b4e1049365385", func := "loop.example/g00133/laws.FnExactCentredWhole", spec := "fnExactCentredWhole", unfollowed := true, recurses := true, named := ["loop.example/g00133/impl.smallPrimes", "math/bits.deBruijn64tab", "math/bits.divideError", "math/bits.overflowError"], apart := false, laid := [("math/bits.deBruijn64tab", laid_math_bits_deBruijn64tab), ("loop.example/g00133/impl.smallPrimes", laid_loop_example_g00133_impl_smallPrimes)], narrowed := true }
def FnExactCentredWholeUptoSaid : Prop := fnExactCentredWholeUptoRow.holds Tryd.pinned (OpenSpec.upto fnExactCentredWholeSpec)

/-- 'laws.FnExactPuncturedOf', WHERE WHAT IT READS IS OF BULK AT MOST 1048576: true; the input reads as it did. -/
def fnExactPuncturedOfUptoRow : OpenClaim := { program := "ytplaaglckbfklaadoor", sum := "613c41c69990d434983bde246a827a55cb955a7f1f5bc3ebea8b4e1049365385", func := "loop.example/g00133/laws.FnExactPuncturedOf", spec := "fnExactPuncturedOf", unfollowed := true, recurses := true, named := ["loop.example/g00133/impl.smallPrimes", "math/bits.deBruijn64tab", "math/bits.divideError", "math/bits.overflowError"], apart := false, laid := [("math/bits.deBruijn64tab", laid_math_bits_deBruijn64tab), ("loop.example/g00133/impl.smallPrimes", laid_loop_example_g00133_impl_smallPrimes)], narrowed := true }
def FnExactPuncturedOfUptoSaid : Prop := fnExactPuncturedOfUptoRow.holds Tryd.pinned (OpenSpec.upto fnExactPuncturedOfSpec)

/-- 'laws.FnExactInversesOf', WHERE WHAT IT READS IS OF BULK AT MOST 1048576: true; the input reads as it did. -/
def fnExactInversesOfUptoRow : OpenClaim := { program := "ytplaaglckbfklaadoor", sum := "613c41c69990d434983bde246a827a55cb955a7f1f5bc3ebea8b4e1049365385", func := "loop.example/g00133/laws.FnExactInversesOf", spec := "fnExactInversesOf", unfollowed := true, recurses := true, named := ["loop.example/g00133/impl.smallPrimes", "math/bits.deBruijn64tab", "math/bits.divideError", "math/bits.overflowError"], apart := false, laid := [("math/bits.deBruijn64tab", laid_math_bits_deBruijn64tab), ("loop.example/g00133/impl.smallPrimes", laid_loop_example_g00133_impl_smallPrimes)], narrowed := true }
def FnExactInversesOfUptoSaid : Prop := fnExactInversesOfUptoRow.holds Tryd.pinned (OpenSpec.upto fnExactInversesOfSpec)

end Rows
end Go.Proofs.YtplaaglckbfklaaDoor
