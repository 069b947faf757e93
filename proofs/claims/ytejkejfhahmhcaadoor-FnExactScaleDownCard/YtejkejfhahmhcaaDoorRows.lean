/-
  NARROWER THAN 'FOR EVERY INPUT', by the rows' own cells (each row's printed sentence says how): FnExactComposeWhole: laid · FnExactCentredWhole: laid · FnExactFastConvert: laid · FnExactOverOf: laid · FnExactExactConvert: laid · FnExactSmallMont: laid · FnExactFloorConvert: laid · FnExactScaleDown: laid.
  DERIVED. THE GIVEN ROWS OF THIS SEAT. 8 by the template 'for every input the law returns true; each argument reads behind the call as it read before'; 0 by the template 'total and deterministic' (their statements: YtejkejfhahmhcaaDoorTotals.lean).
  GIVEN WITH THE SEED: the statements are not yours to turn. If you find one false, say at which input.
  Laid BY PROGRAM, IN A SANDBOX (cutbox-rows.mjs): the forced cells as the released guide's own fill.sh prints them over the translation 2a48608a0f0e3e6b… (all of the seat's roots in one cut). By AI agents, Wed Nov 11 2026. No macro, syntax, notation, axiom, sorry.
-/
import Derived.Test.YtejkejfhahmhcaaDoorChecked
import GoSem.Claim
import GoSem.ClaimJoined
import GoSem.ClaimMapViews
import Derived.JoinedTies
import Derived.KernelRfl
namespace Go.Proofs.YtejkejfhahmhcaaDoor
/- THE CELL 'sum', in the pinned program and in every row, IS THE sha256 OF THE DUMP (.gsa) THAT YtejkejfhahmhcaaDoorProg.lean LOADS. Nothing in Lean hashes anything: it is a label: what it is worth is what the hold of that sum in a sandbox is worth. -/
noncomputable def Tryd.pinned : Pinned := { name := "ytejkejfhahmhcaadoor", sum := "2a48608a0f0e3e6bcbc90aa6dc57cba529a4ed18011bf9325e78ded55b0c7b0a", checked := Tryd.checked }
namespace Rows
def none {H : Type} : Left H := { results := [], args := [] }

/- WHAT THE LISTED PACKAGE-LEVEL VARIABLES READ AS WHEN THE CALL BEGINS. Each datum BY PROGRAM (the guide's laid-datum.mjs) off the statement by which the dump's own 'gosem.cut.vars' lays the variable. In a bare row this is a premise. The card (YtejkejfhahmhcaaDoorCards.lean) ties it to the program's text. -/
def laid_math_bits_deBruijn64tab {H : Type} : DataW H := .agg [.lit (.int .u8 0), .lit (.int .u8 1), .lit (.int .u8 56), .lit (.int .u8 2), .lit (.int .u8 57), .lit (.int .u8 49), .lit (.int .u8 28), .lit (.int .u8 3), .lit (.int .u8 61), .lit (.int .u8 58), .lit (.int .u8 42), .lit (.int .u8 50), .lit (.int .u8 38), .lit (.int .u8 29), .lit (.int .u8 17), .lit (.int .u8 4), .lit (.int .u8 62), .lit (.int .u8 47), .lit (.int .u8 59), .lit (.int .u8 36), .lit (.int .u8 45), .lit (.int .u8 43), .lit (.int .u8 51), .lit (.int .u8 22), .lit (.int .u8 53), .lit (.int .u8 39), .lit (.int .u8 33), .lit (.int .u8 30), .lit (.int .u8 24), .lit (.int .u8 18), .lit (.int .u8 12), .lit (.int .u8 5), .lit (.int .u8 63), .lit (.int .u8 55), .lit (.int .u8 48), .lit (.int .u8 27), .lit (.int .u8 60), .lit (.int .u8 41), .lit (.int .u8 37), .lit (.int .u8 16), .lit (.int .u8 46), .lit (.int .u8 35), .lit (.int .u8 44), .lit (.int .u8 21), .lit (.int .u8 52), .lit (.int .u8 32), .lit (.int .u8 23), .lit (.int .u8 11), .lit (.int .u8 54), .lit (.int .u8 26), .lit (.int .u8 40), .lit (.int .u8 15), .lit (.int .u8 34), .lit (.int .u8 20), .lit (.int .u8 31), .lit (.int .u8 10), .lit (.int .u8 25), .lit (.int .u8 14), .lit (.int .u8 19), .lit (.int .u8 9), .lit (.int .u8 13), .lit (.int .u8 8), .lit (.int .u8 7), .lit (.int .u8 6)]
def laid_loop_example_g00133_impl_smallPrimes {H : Type} : DataW H := .agg [.lit (.int .u64 2), .lit (.int .u64 3), .lit (.int .u64 5), .lit (.int .u64 7), .lit (.int .u64 11), .lit (.int .u64 13), .lit (.int .u64 17), .lit (.int .u64 19), .lit (.int .u64 23), .lit (.int .u64 29), .lit (.int .u64 31), .lit (.int .u64 37)]

/-- 'laws.FnExactComposeWhole': WHATEVER THE INPUT: true; the input reads as it did. -/
def fnExactComposeWholeSpec : ChangeSpec := { name := "fnExactComposeWhole", vars := ["loop.example/g00133/impl.smallPrimes"], fn := fun _ => fun
  | [d1, d2, g1] => { results := [.lit (.bool true)], args := [d1, d2], vars := [g1] }
  | _ => none }
def fnExactComposeWholeRow : OpenClaim := { program := "ytejkejfhahmhcaadoor", sum := "2a48608a0f0e3e6bcbc90aa6dc57cba529a4ed18011bf9325e78ded55b0c7b0a", func := "loop.example/g00133/laws.FnExactComposeWhole", spec := "fnExactComposeWhole", unfollowed := true, recurses := true, named := ["loop.example/g00133/impl.smallPrimes", "math/bits.deBruijn64tab", "math/bits.divideError", "math/bits.overflowError"], apart := false, laid := [("math/bits.deBruijn64tab", laid_math_bits_deBruijn64tab), ("loop.example/g00133/impl.smallPrimes", laid_loop_example_g00133_impl_smallPrimes)] }
def FnExactComposeWholeSaid : Prop := fnExactComposeWholeRow.holds Tryd.pinned (OpenSpec.ofChange fnExactComposeWholeSpec)

/-- ITS FALSE NEIGHBOUR: 'it returns false'. Refute it at one input. -/
def fnExactComposeWholeWrong : ChangeSpec := { name := "fnExactComposeWhole", vars := ["loop.example/g00133/impl.smallPrimes"], fn := fun _ => fun
  | [d1, d2, g1] => { results := [.lit (.bool false)], args := [d1, d2], vars := [g1] }
  | _ => none }
def FnExactComposeWholeWrongFalsely : Prop := fnExactComposeWholeRow.holds Tryd.pinned (OpenSpec.ofChange fnExactComposeWholeWrong)

/-- 'laws.FnExactCentredWhole': WHATEVER THE INPUT: true; the input reads as it did. -/
def fnExactCentredWholeSpec : ChangeSpec := { name := "fnExactCentredWhole", vars := ["loop.example/g00133/impl.smallPrimes"], fn := fun _ => fun
  | [d1, d2, g1] => { results := [.lit (.bool true)], args := [d1, d2], vars := [g1] }
  | _ => none }
def fnExactCentredWholeRow : OpenClaim := { program := "ytejkejfhahmhcaadoor", sum := "2a48608a0f0e3e6bcbc90aa6dc57cba529a4ed18011bf9325e78ded55b0c7b0a", func := "loop.example/g00133/laws.FnExactCentredWhole", spec := "fnExactCentredWhole", unfollowed := true, recurses := true, named := ["loop.example/g00133/impl.smallPrimes", "math/bits.deBruijn64tab", "math/bits.divideError", "math/bits.overflowError"], apart := false, laid := [("math/bits.deBruijn64tab", laid_math_bits_deBruijn64tab), ("loop.example/g00133/impl.smallPrimes", laid_loop_example_g00133_impl_smallPrimes)] }
def FnExactCentredWholeSaid : Prop := fnExactCentredWholeRow.holds Tryd.pinned (OpenSpec.ofChange fnExactCentredWholeSpec)

/-- ITS FALSE NEIGHBOUR: 'it returns false'. Refute it at one input. -/
def fnExactCentredWholeWrong : ChangeSpec := { name := "fnExactCentredWhole", vars := ["loop.example/g00133/impl.smallPrimes"], fn := fun _ => fun
  | [d1, d2, g1] => { results := [.lit (.bool false)], args := [d1, d2], vars := [g1] }
  | _ => none }
def FnExactCentredWholeWrongFalsely : Prop := fnExactCentredWholeRow.holds Tryd.pinned (OpenSpec.ofChange fnExactCentredWholeWrong)

/-- 'laws.FnExactFastConvert': WHATEVER THE INPUT: true; the input reads as it did. -/
def fnExactFastConvertSpec : ChangeSpec := { name := "fnExactFastConvert", vars := ["loop.example/g00133/impl.smallPrimes"], fn := fun _ => fun
  | [d1, d2, d3, g1] => { results := [.lit (.bool true)], args := [d1, d2, d3], vars := [g1] }
  | _ => none }
def fnExactFastConvertRow : OpenClaim := { program := "ytejkejfhahmhcaadoor", sum := "2a48608a0f0e3e6bcbc90aa6dc57cba529a4ed18011bf9325e78ded55b0c7b0a", func := "loop.example/g00133/laws.FnExactFastConvert", spec := "fnExactFastConvert", unfollowed := true, recurses := true, named := ["loop.example/g00133/impl.smallPrimes", "math/bits.deBruijn64tab", "math/bits.divideError", "math/bits.overflowError"], apart := false, laid := [("math/bits.deBruijn64tab", laid_math_bits_deBruijn64tab), ("loop.example/g00133/impl.smallPrimes", laid_loop_example_g00133_impl_smallPrimes)] }
def FnExactFastConvertSaid : Prop := fnExactFastConvertRow.holds Tryd.pinned (OpenSpec.ofChange fnExactFastConvertSpec)

/-- ITS FALSE NEIGHBOUR: 'it returns false'. Refute it at one input. -/
def fnExactFastConvertWrong : ChangeSpec := { name := "fnExactFastConvert", vars := ["loop.example/g00133/impl.smallPrimes"], fn := fun _ => fun
  | [d1, d2, d3, g1] => { results := [.lit (.bool false)], args := [d1, d2, d3], vars := [g1] }
  | _ => none }
def FnExactFastConvertWrongFalsely : Prop := fnExactFastConvertRow.holds Tryd.pinned (OpenSpec.ofChange fnExactFastConvertWrong)

/-- 'laws.FnExactOverOf': WHATEVER THE INPUT: true; the input reads as it did. -/
def fnExactOverOfSpec : ChangeSpec := { name := "fnExactOverOf", vars := ["loop.example/g00133/impl.smallPrimes"], fn := fun _ => fun
  | [d1, d2, g1] => { results := [.lit (.bool true)], args := [d1, d2], vars := [g1] }
  | _ => none }
def fnExactOverOfRow : OpenClaim := { program := "ytejkejfhahmhcaadoor", sum := "2a48608a0f0e3e6bcbc90aa6dc57cba529a4ed18011bf9325e78ded55b0c7b0a", func := "loop.example/g00133/laws.FnExactOverOf", spec := "fnExactOverOf", unfollowed := true, recurses := true, named := ["loop.example/g00133/impl.smallPrimes", "math/bits.deBruijn64tab", "math/bits.divideError", "math/bits.overflowError"], apart := false, laid := [("math/bits.deBruijn64tab", laid_math_bits_deBruijn64tab), ("loop.example/g00133/impl.smallPrimes", laid_loop_example_g00133_impl_smallPrimes)] }
def FnExactOverOfSaid : Prop := fnExactOverOfRow.holds Tryd.pinned (OpenSpec.ofChange fnExactOverOfSpec)

/-- ITS FALSE NEIGHBOUR: 'it returns false'. Refute it at one input. -/
def fnExactOverOfWrong : ChangeSpec := { name := "fnExactOverOf", vars := ["loop.example/g00133/impl.smallPrimes"], fn := fun _ => fun
  | [d1, d2, g1] => { results := [.lit (.bool false)], args := [d1, d2], vars := [g1] }
  | _ => none }
def FnExactOverOfWrongFalsely : Prop := fnExactOverOfRow.holds Tryd.pinned (OpenSpec.ofChange fnExactOverOfWrong)

/-- 'laws.FnExactExactConvert': WHATEVER THE INPUT: true; the input reads as it did. -/
def fnExactExactConvertSpec : ChangeSpec := { name := "fnExactExactConvert", vars := ["loop.example/g00133/impl.smallPrimes"], fn := fun _ => fun
  | [d1, d2, d3, d4, d5, g1] => { results := [.lit (.bool true)], args := [d1, d2, d3, d4, d5], vars := [g1] }
  | _ => none }
def fnExactExactConvertRow : OpenClaim := { program := "ytejkejfhahmhcaadoor", sum := "2a48608a0f0e3e6bcbc90aa6dc57cba529a4ed18011bf9325e78ded55b0c7b0a", func := "loop.example/g00133/laws.FnExactExactConvert", spec := "fnExactExactConvert", unfollowed := true, recurses := true, named := ["loop.example/g00133/impl.smallPrimes", "math/bits.deBruijn64tab", "math/bits.divideError", "math/bits.overflowError"], apart := false, laid := [("math/bits.deBruijn64tab", laid_math_bits_deBruijn64tab), ("loop.example/g00133/impl.smallPrimes", laid_loop_example_g00133_impl_smallPrimes)] }
def FnExactExactConvertSaid : Prop := fnExactExactConvertRow.holds Tryd.pinned (OpenSpec.ofChange fnExactExactConvertSpec)

/-- ITS FALSE NEIGHBOUR: 'it returns false'. Refute it at one input. -/
def fnExactExactConvertWrong : ChangeSpec := { name := "fnExactExactConvert", vars := ["loop.example/g00133/impl.smallPrimes"], fn := fun _ => fun
  | [d1, d2, d3, d4, d5, g1] => { results := [.lit (.bool false)], args := [d1, d2, d3, d4, d5], vars := [g1] }
  | _ => none }
def FnExactExactConvertWrongFalsely : Prop := fnExactExactConvertRow.holds Tryd.pinned (OpenSpec.ofChange fnExactExactConvertWrong)

/-- 'laws.FnExactSmallMont': WHATEVER THE INPUT: true; the input reads as it did. -/
def fnExactSmallMontSpec : ChangeSpec := { name := "fnExactSmallMont", vars := ["loop.example/g00133/impl.smallPrimes"], fn := fun _ => fun
  | [d1, d2, d3, d4, d5, g1] => { results := [.lit (.bool true)], args := [d1, d2, d3, d4, d5], vars := [g1] }
  | _ => none }
def fnExactSmallMontRow : OpenClaim := { program := "ytejkejfhahmhcaadoor", sum := "2a48608a0f0e3e6bcbc90aa6dc57cba529a4ed18011bf9325e78ded55b0c7b0a", func := "loop.example/g00133/laws.FnExactSmallMont", spec := "fnExactSmallMont", unfollowed := true, recurses := true, named := ["loop.example/g00133/impl.smallPrimes", "math/bits.deBruijn64tab", "math/bits.divideError", "math/bits.overflowError"], apart := false, laid := [("math/bits.deBruijn64tab", laid_math_bits_deBruijn64tab), ("loop.example/g00133/impl.smallPrimes", laid_loop_example_g00133_impl_smallPrimes)] }
def FnExactSmallMontSaid : Prop := fnExactSmallMontRow.holds Tryd.pinned (OpenSpec.ofChange fnExactSmallMontSpec)

/-- ITS FALSE NEIGHBOUR: 'it returns false'. Refute it at one input. -/
def fnExactSmallMontWrong : ChangeSpec := { name := "fnExactSmallMont", vars := ["loop.example/g00133/impl.smallPrimes"], fn := fun _ => fun
  | [d1, d2, d3, d4, d5, g1] => { results := [.lit (.bool false)], args := [d1, d2, d3, d4, d5], vars := [g1] }
  | _ => none }
def FnExactSmallMontWrongFalsely : Prop := fnExactSmallMontRow.holds Tryd.pinned (OpenSpec.ofChange fnExactSmallMontWrong)

/-- 'laws.FnExactFloorConvert': WHATEVER THE INPUT: true; the input reads as it did. -/
def fnExactFloorConvertSpec : ChangeSpec := { name := "fnExactFloorConvert", vars := ["loop.example/g00133/impl.smallPrimes"], fn := fun _ => fun
  | [d1, d2, d3, d4, g1] => { results := [.lit (.bool true)], args := [d1, d2, d3, d4], vars := [g1] }
  | _ => none }
def fnExactFloorConvertRow : OpenClaim := { program := "ytejkejfhahmhcaadoor", sum := "2a48608a0f0e3e6bcbc90aa6dc57cba529a4ed18011bf9325e78ded55b0c7b0a", func := "loop.example/g00133/laws.FnExactFloorConvert", spec := "fnExactFloorConvert", unfollowed := true, recurses := true, named := ["loop.example/g00133/impl.smallPrimes", "math/bits.deBruijn64tab", "math/bits.divideError", "math/bits.overflowError"], apart := false, laid := [("math/bits.deBruijn64tab", laid_math_bits_deBruijn64tab), ("loop.example/g00133/impl.smallPrimes", laid_loop_example_g00133_impl_smallPrimes)] }
def FnExactFloorConvertSaid : Prop := fnExactFloorConvertRow.holds Tryd.pinned (OpenSpec.ofChange fnExactFloorConvertSpec)

/-- ITS FALSE NEIGHBOUR: 'it returns false'. Refute it at one input. -/
def fnExactFloorConvertWrong : ChangeSpec := { name := "fnExactFloorConvert", vars := ["loop.example/g00133/impl.smallPrimes"], fn := fun _ => fun
  | [d1, d2, d3, d4, g1] => { results := [.lit (.bool false)], args := [d1, d2, d3, d4], vars := [g1] }
  | _ => none }
def FnExactFloorConvertWrongFalsely : Prop := fnExactFloorConvertRow.holds Tryd.pinned (OpenSpec.ofChange fnExactFloorConvertWrong)

/-- 'laws.FnExactScaleDown': WHATEVER THE INPUT: true; the input reads as it did. -/
def fnExactScaleDownSpec : ChangeSpec := { name := "fnExactScaleDown", vars := ["loop.example/g00133/impl.smallPrimes"], fn := fun _ => fun
  | [d1, d2, d3, d4, g1] => { results := [.lit (.bool true)], args := [d1, d2, d3, d4], vars := [g1] }
  | _ => none }
def fnExactScaleDownRow : OpenClaim := { program := "ytejkejfhahmhcaadoor", sum := "2a48608a0f0e3e6bcbc90aa6dc57cba529a4ed18011bf9325e78ded55b0c7b0a", func := "loop.example/g00133/laws.FnExactScaleDown", spec := "fnExactScaleDown", unfollowed := true, recurses := true, named := ["loop.example/g00133/impl.smallPrimes", "math/bits.deBruijn64tab", "math/bits.divideError", "math/bits.overflowError"], apart := false, laid := [("math/bits.deBruijn64tab", laid_math_bits_deBruijn64tab), ("loop.example/g00133/impl.smallPrimes", laid_loop_example_g00133_impl_smallPrimes)] }
def FnExactScaleDownSaid : Prop := fnExactScaleDownRow.holds Tryd.pinned (OpenSpec.ofChange fnExactScaleDownSpec)

/-- ITS FALSE NEIGHBOUR: 'it returns false'. Refute it at one input. -/
def fnExactScaleDownWrong : ChangeSpec := { name := "fnExactScaleDown", vars := ["loop.example/g00133/impl.smallPrimes"], fn := fun _ => fun
  | [d1, d2, d3, d4, g1] => { results := [.lit (.bool false)], args := [d1, d2, d3, d4], vars := [g1] }
  | _ => none }
def FnExactScaleDownWrongFalsely : Prop := fnExactScaleDownRow.holds Tryd.pinned (OpenSpec.ofChange fnExactScaleDownWrong)

/- THE SECOND FORM. 'bulk': how many values and letters a reading holds, each counted each time it is reached (what is shared counts as often as it is met; a slice's spare places count too). A statement '..UptoSaid' is the law's where the arguments, and the package variables that the reading takes, are together of bulk at most 1048576: NARROWER than '..Said'. Prove '..Said' where nothing that the law and all that it calls make is longer than what came in: it says more and counts as full. Else prove '..UptoSaid'. A law counts once. -/
mutual
def uptoBulk {H : Type} : DataW H → Nat
  | .lit (.string bytes) => bytes.length + 1
  | .lit _ => 1
  | .nil => 1
  | .ptr d => uptoBulk d + 1
  | .slice elems spare => uptoBulkAll elems + uptoBulkAll spare + 1
  | .agg parts => uptoBulkAll parts + 1
  | .iface _ d => uptoBulk d + 1
  | .map entries => uptoBulkEntries entries + 1
  | .held _ => 1
def uptoBulkAll {H : Type} : List (DataW H) → Nat
  | [] => 0
  | d :: r => uptoBulk d + uptoBulkAll r
def uptoBulkEntries {H : Type} : List (Lit × DataW H) → Nat
  | [] => 0
  | x :: r => uptoBulkEntry x + uptoBulkEntries r
def uptoBulkEntry {H : Type} : Lit × DataW H → Nat
  | (.string bytes, d) => bytes.length + uptoBulk d + 1
  | (_, d) => uptoBulk d + 1
 end
def uptoSmall : (H : Type) → List (DataW H) → Bool := fun _ ds => decide (uptoBulkAll ds ≤ 1048576)
def OpenSpec.upto (s : _root_.Go.ChangeSpec) : _root_.Go.OpenSpec := { _root_.Go.OpenSpec.ofChange s with cond := some uptoSmall }

/-- 'laws.FnExactComposeWhole', WHERE WHAT IT READS IS OF BULK AT MOST 1048576: true; the input reads as it did. -/
def fnExactComposeWholeUptoRow : OpenClaim := { program := "ytejkejfhahmhcaadoor", sum := "2a48608a0f0e3e6bcbc90aa6dc57cba529a4ed18011bf9325e78ded55b0c7b0a", func := "loop.example/g00133/laws.FnExactComposeWhole", spec := "fnExactComposeWhole", unfollowed := true, recurses := true, named := ["loop.example/g00133/impl.smallPrimes", "math/bits.deBruijn64tab", "math/bits.divideError", "math/bits.overflowError"], apart := false, laid := [("math/bits.deBruijn64tab", laid_math_bits_deBruijn64tab), ("loop.example/g00133/impl.smallPrimes", laid_loop_example_g00133_impl_smallPrimes)], narrowed := true }
def FnExactComposeWholeUptoSaid : Prop := fnExactComposeWholeUptoRow.holds Tryd.pinned (OpenSpec.upto fnExactComposeWholeSpec)

/-- 'laws.FnExactCentredWhole', WHERE WHAT IT READS IS OF BULK AT MOST 1048576: true; the input reads as it did. -/
def fnExactCentredWholeUptoRow : OpenClaim := { program := "ytejkejfhahmhcaadoor", sum := "2a48608a0f0e3e6bcbc90aa6dc57cba529a4ed18011bf9325e78ded55b0c7b0a", func := "loop.example/g00133/laws.FnExactCentredWhole", spec := "fnExactCentredWhole", unfollowed := true, recurses := true, named := ["loop.example/g00133/impl.smallPrimes", "math/bits.deBruijn64tab", "math/bits.divideError", "math/bits.overflowError"], apart := false, laid := [("math/bits.deBruijn64tab", laid_math_bits_deBruijn64tab), ("loop.example/g00133/impl.smallPrimes", laid_loop_example_g00133_impl_smallPrimes)], narrowed := true }
def FnExactCentredWholeUptoSaid : Prop := fnExactCentredWholeUptoRow.holds Tryd.pinned (OpenSpec.upto fnExactCentredWholeSpec)

/-- 'laws.FnExactFastConvert', WHERE WHAT IT READS IS OF BULK AT MOST 1048576: true; the input reads as it did. -/
def fnExactFastConvertUptoRow : OpenClaim := { program := "ytejkejfhahmhcaadoor", sum := "2a48608a0f0e3e6bcbc90aa6dc57cba529a4ed18011bf9325e78ded55b0c7b0a", func := "loop.example/g00133/laws.FnExactFastConvert", spec := "fnExactFastConvert", unfollowed := true, recurses := true, named := ["loop.example/g00133/impl.smallPrimes", "math/bits.deBruijn64tab", "math/bits.divideError", "math/bits.overflowError"], apart := false, laid := [("math/bits.deBruijn64tab", laid_math_bits_deBruijn64tab), ("loop.example/g00133/impl.smallPrimes", laid_loop_example_g00133_impl_smallPrimes)], narrowed := true }
def FnExactFastConvertUptoSaid : Prop := fnExactFastConvertUptoRow.holds Tryd.pinned (OpenSpec.upto fnExactFastConvertSpec)

/-- 'laws.FnExactOverOf', WHERE WHAT IT READS IS OF BULK AT MOST 1048576: true; the input reads as it did. -/
def fnExactOverOfUptoRow : OpenClaim := { program := "ytejkejfhahmhcaadoor", sum := "2a48608a0f0e3e6bcbc90aa6dc57cba529a4ed18011bf9325e78ded55b0c7b0a", func := "loop.example/g00133/laws.FnExactOverOf", spec := "fnExactOverOf", unfollowed := true, recurses := true, named := ["loop.example/g00133/impl.smallPrimes", "math/bits.deBruijn64tab", "math/bits.divideError", "math/bits.overflowError"], apart := false, laid := [("math/bits.deBruijn64tab", laid_math_bits_deBruijn64tab), ("loop.example/g00133/impl.smallPrimes", laid_loop_example_g00133_impl_smallPrimes)], narrowed := true }
def FnExactOverOfUptoSaid : Prop := fnExactOverOfUptoRow.holds Tryd.pinned (OpenSpec.upto fnExactOverOfSpec)

/-- 'laws.FnExactExactConvert', WHERE WHAT IT READS IS OF BULK AT MOST 1048576: true; the input reads as it did. -/
def fnExactExactConvertUptoRow : OpenClaim := { program := "ytejkejfhahmhcaadoor", sum := "2a48608a0f0e3e6bcbc90aa6dc57cba529a4ed18011bf9325e78ded55b0c7b0a", func := "loop.example/g00133/laws.FnExactExactConvert", spec := "fnExactExactConvert", unfollowed := true, recurses := true, named := ["loop.example/g00133/impl.smallPrimes", "math/bits.deBruijn64tab", "math/bits.divideError", "math/bits.overflowError"], apart := false, laid := [("math/bits.deBruijn64tab", laid_math_bits_deBruijn64tab), ("loop.example/g00133/impl.smallPrimes", laid_loop_example_g00133_impl_smallPrimes)], narrowed := true }
def FnExactExactConvertUptoSaid : Prop := fnExactExactConvertUptoRow.holds Tryd.pinned (OpenSpec.upto fnExactExactConvertSpec)

/-- 'laws.FnExactSmallMont', WHERE WHAT IT READS IS OF BULK AT MOST 1048576: true; the input reads as it did. -/
def fnExactSmallMontUptoRow : OpenClaim := { program := "ytejkejfhahmhcaadoor", sum := "2a48608a0f0e3e6bcbc90aa6dc57cba529a4ed18011bf9325e78ded55b0c7b0a", func := "loop.example/g00133/laws.FnExactSmallMont", spec := "fnExactSmallMont", unfollowed := true, recurses := true, named := ["loop.example/g00133/impl.smallPrimes", "math/bits.deBruijn64tab", "math/bits.divideError", "math/bits.overflowError"], apart := false, laid := [("math/bits.deBruijn64tab", laid_math_bits_deBruijn64tab), ("loop.example/g00133/impl.smallPrimes", laid_loop_example_g00133_impl_smallPrimes)], narrowed := true }
def FnExactSmallMontUptoSaid : Prop := fnExactSmallMontUptoRow.holds Tryd.pinned (OpenSpec.upto fnExactSmallMontSpec)

/-- 'laws.FnExactFloorConvert', WHERE WHAT IT READS IS OF BULK AT MOST 1048576: true; the input reads as it did. -/
def fnExactFloorConvertUptoRow : OpenClaim := { program := "ytejkejfhahmhcaadoor", sum := "2a48608a0f0e3e6bcbc90aa6dc57cba529a4ed18011bf9325e78ded55b0c7b0a", func := "loop.example/g00133/laws.FnExactFloorConvert", spec := "fnExactFloorConvert", unfollowed := true, recurses := true, named := ["loop.example/g00133/impl.smallPrimes", "math/bits.deBruijn64tab", "math/bits.divideError", "math/bits.overflowError"], apart := false, laid := [("math/bits.deBruijn64tab", laid_math_bits_deBruijn64tab), ("loop.example/g00133/impl.smallPrimes", laid_loop_example_g00133_impl_smallPrimes)], narrowed := true }
def FnExactFloorConvertUptoSaid : Prop := fnExactFloorConvertUptoRow.holds Tryd.pinned (OpenSpec.upto fnExactFloorConvertSpec)

/-- 'laws.FnExactScaleDown', WHERE WHAT IT READS IS OF BULK AT MOST 1048576: true; the input reads as it did. -/
def fnExactScaleDownUptoRow : OpenClaim := { program := "ytejkejfhahmhcaadoor", sum := "2a48608a0f0e3e6bcbc90aa6dc57cba529a4ed18011bf9325e78ded55b0c7b0a", func := "loop.example/g00133/laws.FnExactScaleDown", spec := "fnExactScaleDown", unfollowed := true, recurses := true, named := ["loop.example/g00133/impl.smallPrimes", "math/bits.deBruijn64tab", "math/bits.divideError", "math/bits.overflowError"], apart := false, laid := [("math/bits.deBruijn64tab", laid_math_bits_deBruijn64tab), ("loop.example/g00133/impl.smallPrimes", laid_loop_example_g00133_impl_smallPrimes)], narrowed := true }
def FnExactScaleDownUptoSaid : Prop := fnExactScaleDownUptoRow.holds Tryd.pinned (OpenSpec.upto fnExactScaleDownSpec)

end Rows
end Go.Proofs.YtejkejfhahmhcaaDoor
