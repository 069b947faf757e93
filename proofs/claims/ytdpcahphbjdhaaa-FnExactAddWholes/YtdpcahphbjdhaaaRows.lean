/-
  No cell of these rows narrows 'for every input' (looked for: loops, veiled, ifaces, maps, wideKeys, modest, calm, conditions, laid).
  DERIVED. THE GIVEN ROWS OF THIS SEAT. 11 by the template 'for every input the law returns true; each argument reads behind the call as it read before'; 0 by the template 'total and deterministic' (their statements: YtdpcahphbjdhaaaTotals.lean).
  GIVEN WITH THE SEED: the statements are not yours to turn. If you find one false, say at which input.
  Laid BY PROGRAM, IN A SANDBOX (cutbox-rows.mjs): the forced cells as the released guide's own fill.sh prints them over the translation b2fd5fcfe02a59e6… (all of the seat's roots in one cut). By AI agents, Wed Nov 11 2026. No macro, syntax, notation, axiom, sorry.
-/
import Derived.Test.YtdpcahphbjdhaaaChecked
import GoSem.Claim
import GoSem.ClaimJoined
import GoSem.ClaimMapViews
import Derived.JoinedTies
import Derived.KernelRfl
namespace Go.Proofs.Ytdpcahphbjdhaaa
/- THE CELL 'sum', in the pinned program and in every row, IS THE sha256 OF THE DUMP (.gsa) THAT YtdpcahphbjdhaaaProg.lean LOADS. Nothing in Lean hashes anything: it is a label: what it is worth is what the hold of that sum in a sandbox is worth. -/
noncomputable def Try.pinned : Pinned := { name := "ytdpcahphbjdhaaa", sum := "b2fd5fcfe02a59e648b3fbd87335996b78d8458864e44110213038ef9dc21c4e", checked := Try.checked }
namespace Rows
def none {H : Type} : Left H := { results := [], args := [] }

/-- 'laws.FnRounded': WHATEVER THE INPUT: true; the input reads as it did. -/
def fnRoundedSpec : ChangeSpec := { name := "fnRounded", fn := fun _ => fun
  | [d] => { results := [.lit (.bool true)], args := [d] }
  | _ => none }
def fnRoundedRow : OpenClaim := { program := "ytdpcahphbjdhaaa", sum := "b2fd5fcfe02a59e648b3fbd87335996b78d8458864e44110213038ef9dc21c4e", func := "loop.example/g00133/laws.FnRounded", spec := "fnRounded", apart := false }
def FnRoundedSaid : Prop := fnRoundedRow.holds Try.pinned (OpenSpec.ofChange fnRoundedSpec)

/-- ITS FALSE NEIGHBOUR: 'it returns false'. Refute it at one input. -/
def fnRoundedWrong : ChangeSpec := { name := "fnRounded", fn := fun _ => fun
  | [d] => { results := [.lit (.bool false)], args := [d] }
  | _ => none }
def FnRoundedWrongFalsely : Prop := fnRoundedRow.holds Try.pinned (OpenSpec.ofChange fnRoundedWrong)

/-- 'laws.FnExactGoodWhole': WHATEVER THE INPUT: true; the input reads as it did. -/
def fnExactGoodWholeSpec : ChangeSpec := { name := "fnExactGoodWhole", fn := fun _ => fun
  | [d] => { results := [.lit (.bool true)], args := [d] }
  | _ => none }
def fnExactGoodWholeRow : OpenClaim := { program := "ytdpcahphbjdhaaa", sum := "b2fd5fcfe02a59e648b3fbd87335996b78d8458864e44110213038ef9dc21c4e", func := "loop.example/g00133/laws.FnExactGoodWhole", spec := "fnExactGoodWhole", apart := false }
def FnExactGoodWholeSaid : Prop := fnExactGoodWholeRow.holds Try.pinned (OpenSpec.ofChange fnExactGoodWholeSpec)

/-- ITS FALSE NEIGHBOUR: 'it returns false'. Refute it at one input. -/
def fnExactGoodWholeWrong : ChangeSpec := { name := "fnExactGoodWhole", fn := fun _ => fun
  | [d] => { results := [.lit (.bool false)], args := [d] }
  | _ => none }
def FnExactGoodWholeWrongFalsely : Prop := fnExactGoodWholeRow.holds Try.pinned (OpenSpec.ofChange fnExactGoodWholeWrong)

/-- 'laws.FnExactWholeOf': WHATEVER THE INPUT: true; the input reads as it did. -/
def fnExactWholeOfSpec : ChangeSpec := { name := "fnExactWholeOf", fn := fun _ => fun
  | [d] => { results := [.lit (.bool true)], args := [d] }
  | _ => none }
def fnExactWholeOfRow : OpenClaim := { program := "ytdpcahphbjdhaaa", sum := "b2fd5fcfe02a59e648b3fbd87335996b78d8458864e44110213038ef9dc21c4e", func := "loop.example/g00133/laws.FnExactWholeOf", spec := "fnExactWholeOf", apart := false }
def FnExactWholeOfSaid : Prop := fnExactWholeOfRow.holds Try.pinned (OpenSpec.ofChange fnExactWholeOfSpec)

/-- ITS FALSE NEIGHBOUR: 'it returns false'. Refute it at one input. -/
def fnExactWholeOfWrong : ChangeSpec := { name := "fnExactWholeOf", fn := fun _ => fun
  | [d] => { results := [.lit (.bool false)], args := [d] }
  | _ => none }
def FnExactWholeOfWrongFalsely : Prop := fnExactWholeOfRow.holds Try.pinned (OpenSpec.ofChange fnExactWholeOfWrong)

/-- 'laws.FnExactAddWholes': WHATEVER THE INPUT: true; the input reads as it did. -/
def fnExactAddWholesSpec : ChangeSpec := { name := "fnExactAddWholes", fn := fun _ => fun
  | [d1, d2] => { results := [.lit (.bool true)], args := [d1, d2] }
  | _ => none }
def fnExactAddWholesRow : OpenClaim := { program := "ytdpcahphbjdhaaa", sum := "b2fd5fcfe02a59e648b3fbd87335996b78d8458864e44110213038ef9dc21c4e", func := "loop.example/g00133/laws.FnExactAddWholes", spec := "fnExactAddWholes", apart := false }
def FnExactAddWholesSaid : Prop := fnExactAddWholesRow.holds Try.pinned (OpenSpec.ofChange fnExactAddWholesSpec)

/-- ITS FALSE NEIGHBOUR: 'it returns false'. Refute it at one input. -/
def fnExactAddWholesWrong : ChangeSpec := { name := "fnExactAddWholes", fn := fun _ => fun
  | [d1, d2] => { results := [.lit (.bool false)], args := [d1, d2] }
  | _ => none }
def FnExactAddWholesWrongFalsely : Prop := fnExactAddWholesRow.holds Try.pinned (OpenSpec.ofChange fnExactAddWholesWrong)

/-- 'laws.FnExactMulWholes': WHATEVER THE INPUT: true; the input reads as it did. -/
def fnExactMulWholesSpec : ChangeSpec := { name := "fnExactMulWholes", fn := fun _ => fun
  | [d1, d2] => { results := [.lit (.bool true)], args := [d1, d2] }
  | _ => none }
def fnExactMulWholesRow : OpenClaim := { program := "ytdpcahphbjdhaaa", sum := "b2fd5fcfe02a59e648b3fbd87335996b78d8458864e44110213038ef9dc21c4e", func := "loop.example/g00133/laws.FnExactMulWholes", spec := "fnExactMulWholes", apart := false }
def FnExactMulWholesSaid : Prop := fnExactMulWholesRow.holds Try.pinned (OpenSpec.ofChange fnExactMulWholesSpec)

/-- ITS FALSE NEIGHBOUR: 'it returns false'. Refute it at one input. -/
def fnExactMulWholesWrong : ChangeSpec := { name := "fnExactMulWholes", fn := fun _ => fun
  | [d1, d2] => { results := [.lit (.bool false)], args := [d1, d2] }
  | _ => none }
def FnExactMulWholesWrongFalsely : Prop := fnExactMulWholesRow.holds Try.pinned (OpenSpec.ofChange fnExactMulWholesWrong)

/-- 'laws.FnExactCmpWholes': WHATEVER THE INPUT: true; the input reads as it did. -/
def fnExactCmpWholesSpec : ChangeSpec := { name := "fnExactCmpWholes", fn := fun _ => fun
  | [d1, d2] => { results := [.lit (.bool true)], args := [d1, d2] }
  | _ => none }
def fnExactCmpWholesRow : OpenClaim := { program := "ytdpcahphbjdhaaa", sum := "b2fd5fcfe02a59e648b3fbd87335996b78d8458864e44110213038ef9dc21c4e", func := "loop.example/g00133/laws.FnExactCmpWholes", spec := "fnExactCmpWholes", apart := false }
def FnExactCmpWholesSaid : Prop := fnExactCmpWholesRow.holds Try.pinned (OpenSpec.ofChange fnExactCmpWholesSpec)

/-- ITS FALSE NEIGHBOUR: 'it returns false'. Refute it at one input. -/
def fnExactCmpWholesWrong : ChangeSpec := { name := "fnExactCmpWholes", fn := fun _ => fun
  | [d1, d2] => { results := [.lit (.bool false)], args := [d1, d2] }
  | _ => none }
def FnExactCmpWholesWrongFalsely : Prop := fnExactCmpWholesRow.holds Try.pinned (OpenSpec.ofChange fnExactCmpWholesWrong)

/-- 'laws.FnExactDivWholes': WHATEVER THE INPUT: true; the input reads as it did. -/
def fnExactDivWholesSpec : ChangeSpec := { name := "fnExactDivWholes", fn := fun _ => fun
  | [d1, d2] => { results := [.lit (.bool true)], args := [d1, d2] }
  | _ => none }
def fnExactDivWholesRow : OpenClaim := { program := "ytdpcahphbjdhaaa", sum := "b2fd5fcfe02a59e648b3fbd87335996b78d8458864e44110213038ef9dc21c4e", func := "loop.example/g00133/laws.FnExactDivWholes", spec := "fnExactDivWholes", apart := false }
def FnExactDivWholesSaid : Prop := fnExactDivWholesRow.holds Try.pinned (OpenSpec.ofChange fnExactDivWholesSpec)

/-- ITS FALSE NEIGHBOUR: 'it returns false'. Refute it at one input. -/
def fnExactDivWholesWrong : ChangeSpec := { name := "fnExactDivWholes", fn := fun _ => fun
  | [d1, d2] => { results := [.lit (.bool false)], args := [d1, d2] }
  | _ => none }
def FnExactDivWholesWrongFalsely : Prop := fnExactDivWholesRow.holds Try.pinned (OpenSpec.ofChange fnExactDivWholesWrong)

/-- 'laws.FnExactRoundWholes': WHATEVER THE INPUT: true; the input reads as it did. -/
def fnExactRoundWholesSpec : ChangeSpec := { name := "fnExactRoundWholes", fn := fun _ => fun
  | [d1, d2] => { results := [.lit (.bool true)], args := [d1, d2] }
  | _ => none }
def fnExactRoundWholesRow : OpenClaim := { program := "ytdpcahphbjdhaaa", sum := "b2fd5fcfe02a59e648b3fbd87335996b78d8458864e44110213038ef9dc21c4e", func := "loop.example/g00133/laws.FnExactRoundWholes", spec := "fnExactRoundWholes", apart := false }
def FnExactRoundWholesSaid : Prop := fnExactRoundWholesRow.holds Try.pinned (OpenSpec.ofChange fnExactRoundWholesSpec)

/-- ITS FALSE NEIGHBOUR: 'it returns false'. Refute it at one input. -/
def fnExactRoundWholesWrong : ChangeSpec := { name := "fnExactRoundWholes", fn := fun _ => fun
  | [d1, d2] => { results := [.lit (.bool false)], args := [d1, d2] }
  | _ => none }
def FnExactRoundWholesWrongFalsely : Prop := fnExactRoundWholesRow.holds Try.pinned (OpenSpec.ofChange fnExactRoundWholesWrong)

/-- 'laws.FnExactBitsOf': WHATEVER THE INPUT: true; the input reads as it did. -/
def fnExactBitsOfSpec : ChangeSpec := { name := "fnExactBitsOf", fn := fun _ => fun
  | [d] => { results := [.lit (.bool true)], args := [d] }
  | _ => none }
def fnExactBitsOfRow : OpenClaim := { program := "ytdpcahphbjdhaaa", sum := "b2fd5fcfe02a59e648b3fbd87335996b78d8458864e44110213038ef9dc21c4e", func := "loop.example/g00133/laws.FnExactBitsOf", spec := "fnExactBitsOf", apart := false }
def FnExactBitsOfSaid : Prop := fnExactBitsOfRow.holds Try.pinned (OpenSpec.ofChange fnExactBitsOfSpec)

/-- ITS FALSE NEIGHBOUR: 'it returns false'. Refute it at one input. -/
def fnExactBitsOfWrong : ChangeSpec := { name := "fnExactBitsOf", fn := fun _ => fun
  | [d] => { results := [.lit (.bool false)], args := [d] }
  | _ => none }
def FnExactBitsOfWrongFalsely : Prop := fnExactBitsOfRow.holds Try.pinned (OpenSpec.ofChange fnExactBitsOfWrong)

/-- 'laws.FnExactModWord': WHATEVER THE INPUT: true; the input reads as it did. -/
def fnExactModWordSpec : ChangeSpec := { name := "fnExactModWord", fn := fun _ => fun
  | [d1, d2] => { results := [.lit (.bool true)], args := [d1, d2] }
  | _ => none }
def fnExactModWordRow : OpenClaim := { program := "ytdpcahphbjdhaaa", sum := "b2fd5fcfe02a59e648b3fbd87335996b78d8458864e44110213038ef9dc21c4e", func := "loop.example/g00133/laws.FnExactModWord", spec := "fnExactModWord", apart := false }
def FnExactModWordSaid : Prop := fnExactModWordRow.holds Try.pinned (OpenSpec.ofChange fnExactModWordSpec)

/-- ITS FALSE NEIGHBOUR: 'it returns false'. Refute it at one input. -/
def fnExactModWordWrong : ChangeSpec := { name := "fnExactModWord", fn := fun _ => fun
  | [d1, d2] => { results := [.lit (.bool false)], args := [d1, d2] }
  | _ => none }
def FnExactModWordWrongFalsely : Prop := fnExactModWordRow.holds Try.pinned (OpenSpec.ofChange fnExactModWordWrong)

/-- 'laws.FnExactReadWhole': WHATEVER THE INPUT: true; the input reads as it did. -/
def fnExactReadWholeSpec : ChangeSpec := { name := "fnExactReadWhole", fn := fun _ => fun
  | [d] => { results := [.lit (.bool true)], args := [d] }
  | _ => none }
def fnExactReadWholeRow : OpenClaim := { program := "ytdpcahphbjdhaaa", sum := "b2fd5fcfe02a59e648b3fbd87335996b78d8458864e44110213038ef9dc21c4e", func := "loop.example/g00133/laws.FnExactReadWhole", spec := "fnExactReadWhole", apart := false }
def FnExactReadWholeSaid : Prop := fnExactReadWholeRow.holds Try.pinned (OpenSpec.ofChange fnExactReadWholeSpec)

/-- ITS FALSE NEIGHBOUR: 'it returns false'. Refute it at one input. -/
def fnExactReadWholeWrong : ChangeSpec := { name := "fnExactReadWhole", fn := fun _ => fun
  | [d] => { results := [.lit (.bool false)], args := [d] }
  | _ => none }
def FnExactReadWholeWrongFalsely : Prop := fnExactReadWholeRow.holds Try.pinned (OpenSpec.ofChange fnExactReadWholeWrong)

/- THE SECOND FORM. 'bulk': how many values and letters a reading holds, each counted each time it is reached (what is shared counts as often as it is met; a slice's spare places count too). A statement '..UptoSaid' is the law's where the arguments, and the package variables that the reading takes, are together of bulk at most 1048576: NARROWER than '..Said'. Prove '..Said' where nothing that the law and all that it calls make is longer than what came in: it says more and counts as full. Else prove '..UptoSaid'. A law counts once. -/
mutual
def uptoBulk {H : Type} : DataW H → Nat
  | .lit (.string bytes) => bytes.length + 1
  | .lit _ => 1
  | .nil => 1
  | .ptr d => uptoBulk d + 1
  | .slice elems spare => uptoBulkAll elems + uptoBulkAll spare + 1
  | .agg parts => uptoBulkAll parts + 1
  | .iface _ d => uptoBulk d + 1
  | .map entries => uptoBulkEntries entries + 1
  | .held _ => 1
def uptoBulkAll {H : Type} : List (DataW H) → Nat
  | [] => 0
  | d :: r => uptoBulk d + uptoBulkAll r
def uptoBulkEntries {H : Type} : List (Lit × DataW H) → Nat
  | [] => 0
  | x :: r => uptoBulkEntry x + uptoBulkEntries r
def uptoBulkEntry {H : Type} : Lit × DataW H → Nat
  | (.string bytes, d) => bytes.length + uptoBulk d + 1
  | (_, d) => uptoBulk d + 1
 end
def uptoSmall : (H : Type) → List (DataW H) → Bool := fun _ ds => decide (uptoBulkAll ds ≤ 1048576)
def OpenSpec.upto (s : _root_.Go.ChangeSpec) : _root_.Go.OpenSpec := { _root_.Go.OpenSpec.ofChange s with cond := some uptoSmall }

/-- 'laws.FnRounded', WHERE WHAT IT READS IS OF BULK AT MOST 1048576: true; the input reads as it did. -/
def fnRoundedUptoRow : OpenClaim := { program := "ytdpcahphbjdhaaa", sum := "b2fd5fcfe02a59e648b3fbd87335996b78d8458864e44110213038ef9dc21c4e", func := "loop.example/g00133/laws.FnRounded", spec := "fnRounded", apart := false, narrowed := true }
def FnRoundedUptoSaid : Prop := fnRoundedUptoRow.holds Try.pinned (OpenSpec.upto fnRoundedSpec)

/-- 'laws.FnExactGoodWhole', WHERE WHAT IT READS IS OF BULK AT MOST 1048576: true; the input reads as it did. -/
def fnExactGoodWholeUptoRow : OpenClaim := { program := "ytdpcahphbjdhaaa", sum := "b2fd5fcfe02a59e648b3fbd87335996b78d8458864e44110213038ef9dc21c4e", func := "loop.example/g00133/laws.FnExactGoodWhole", spec := "fnExactGoodWhole", apart := false, narrowed := true }
def FnExactGoodWholeUptoSaid : Prop := fnExactGoodWholeUptoRow.holds Try.pinned (OpenSpec.upto fnExactGoodWholeSpec)

/-- 'laws.FnExactWholeOf', WHERE WHAT IT READS IS OF BULK AT MOST 1048576: true; the input reads as it did. -/
def fnExactWholeOfUptoRow : OpenClaim := { program := "ytdpcahphbjdhaaa", sum := "b2fd5fcfe02a59e648b3fbd87335996b78d8458864e44110213038ef9dc21c4e", func := "loop.example/g00133/laws.FnExactWholeOf", spec := "fnExactWholeOf", apart := false, narrowed := true }
def FnExactWholeOfUptoSaid : Prop := fnExactWholeOfUptoRow.holds Try.pinned (OpenSpec.upto fnExactWholeOfSpec)

/-- 'laws.FnExactAddWholes', WHERE WHAT IT READS IS OF BULK AT MOST 1048576: true; the input reads as it did. -/
def fnExactAddWholesUptoRow : OpenClaim := { program := "ytdpcahphbjdhaaa", sum := "b2fd5fcfe02a59e648b3fbd87335996b78d8458864e44110213038ef9dc21c4e", func := "loop.example/g00133/laws.FnExactAddWholes", spec := "fnExactAddWholes", apart := false, narrowed := true }
def FnExactAddWholesUptoSaid : Prop := fnExactAddWholesUptoRow.holds Try.pinned (OpenSpec.upto fnExactAddWholesSpec)

/-- 'laws.FnExactMulWholes', WHERE WHAT IT READS IS OF BULK AT MOST 1048576: true; the input reads as it did. -/
def fnExactMulWholesUptoRow : OpenClaim := { program := "ytdpcahphbjdhaaa", sum := "b2fd5fcfe02a59e648b3fbd87335996b78d8458864e44110213038ef9dc21c4e", func := "loop.example/g00133/laws.FnExactMulWholes", spec := "fnExactMulWholes", apart := false, narrowed := true }
def FnExactMulWholesUptoSaid : Prop := fnExactMulWholesUptoRow.holds Try.pinned (OpenSpec.upto fnExactMulWholesSpec)

/-- 'laws.FnExactCmpWholes', WHERE WHAT IT READS IS OF BULK AT MOST 1048576: true; the input reads as it did. -/
def fnExactCmpWholesUptoRow : OpenClaim := { program := "ytdpcahphbjdhaaa", sum := "b2fd5fcfe02a59e648b3fbd87335996b78d8458864e44110213038ef9dc21c4e", func := "loop.example/g00133/laws.FnExactCmpWholes", spec := "fnExactCmpWholes", apart := false, narrowed := true }
def FnExactCmpWholesUptoSaid : Prop := fnExactCmpWholesUptoRow.holds Try.pinned (OpenSpec.upto fnExactCmpWholesSpec)

/-- 'laws.FnExactDivWholes', WHERE WHAT IT READS IS OF BULK AT MOST 1048576: true; the input reads as it did. -/
def fnExactDivWholesUptoRow : OpenClaim := { program := "ytdpcahphbjdhaaa", sum := "b2fd5fcfe02a59e648b3fbd87335996b78d8458864e44110213038ef9dc21c4e", func := "loop.example/g00133/laws.FnExactDivWholes", spec := "fnExactDivWholes", apart := false, narrowed := true }
def FnExactDivWholesUptoSaid : Prop := fnExactDivWholesUptoRow.holds Try.pinned (OpenSpec.upto fnExactDivWholesSpec)

/-- 'laws.FnExactRoundWholes', WHERE WHAT IT READS IS OF BULK AT MOST 1048576: true; the input reads as it did. -/
def fnExactRoundWholesUptoRow : OpenClaim := { program := "ytdpcahphbjdhaaa", sum := "b2fd5fcfe02a59e648b3fbd87335996b78d8458864e44110213038ef9dc21c4e", func := "loop.example/g00133/laws.FnExactRoundWholes", spec := "fnExactRoundWholes", apart := false, narrowed := true }
def FnExactRoundWholesUptoSaid : Prop := fnExactRoundWholesUptoRow.holds Try.pinned (OpenSpec.upto fnExactRoundWholesSpec)

/-- 'laws.FnExactBitsOf', WHERE WHAT IT READS IS OF BULK AT MOST 1048576: true; the input reads as it did. -/
def fnExactBitsOfUptoRow : OpenClaim := { program := "ytdpcahphbjdhaaa", sum := "b2fd5fcfe02a59e648b3fbd87335996b78d8458864e44110213038ef9dc21c4e", func := "loop.example/g00133/laws.FnExactBitsOf", spec := "fnExactBitsOf", apart := false, narrowed := true }
def FnExactBitsOfUptoSaid : Prop := fnExactBitsOfUptoRow.holds Try.pinned (OpenSpec.upto fnExactBitsOfSpec)

/-- 'laws.FnExactModWord', WHERE WHAT IT READS IS OF BULK AT MOST 1048576: true; the input reads as it did. -/
def fnExactModWordUptoRow : OpenClaim := { program := "ytdpcahphbjdhaaa", sum := "b2fd5fcfe02a59e648b3fbd87335996b78d8458864e44110213038ef9dc21c4e", func := "loop.example/g00133/laws.FnExactModWord", spec := "fnExactModWord", apart := false, narrowed := true }
def FnExactModWordUptoSaid : Prop := fnExactModWordUptoRow.holds Try.pinned (OpenSpec.upto fnExactModWordSpec)

/-- 'laws.FnExactReadWhole', WHERE WHAT IT READS IS OF BULK AT MOST 1048576: true; the input reads as it did. -/
def fnExactReadWholeUptoRow : OpenClaim := { program := "ytdpcahphbjdhaaa", sum := "b2fd5fcfe02a59e648b3fbd87335996b78d8458864e44110213038ef9dc21c4e", func := "loop.example/g00133/laws.FnExactReadWhole", spec := "fnExactReadWhole", apart := false, narrowed := true }
def FnExactReadWholeUptoSaid : Prop := fnExactReadWholeUptoRow.holds Try.pinned (OpenSpec.upto fnExactReadWholeSpec)

end Rows
end Go.Proofs.Ytdpcahphbjdhaaa
