/-
  No cell of these rows narrows 'for every input' (looked for: loops, veiled, ifaces, maps, wideKeys, modest, calm, conditions, laid).
  DERIVED. THE GIVEN ROWS OF THIS SEAT. 4 by the template 'for every input the law returns true; each argument reads behind the call as it read before'; 0 by the template 'total and deterministic' (their statements: YtafcffnpobdhgaaTotals.lean).
  GIVEN WITH THE SEED: the statements are not yours to turn. If you find one false, say at which input.
  Laid BY PROGRAM, IN A SANDBOX (cutbox-rows.mjs): the forced cells as the released guide's own fill.sh prints them over the translation 8b732aa41848cbf4… (all of the seat's roots in one cut). By AI agents, Wed Nov 11 2026. No macro, syntax, notation, axiom, sorry.
-/
import Derived.Test.YtafcffnpobdhgaaChecked
import GoSem.Claim
import GoSem.ClaimJoined
import GoSem.ClaimMapViews
import Derived.JoinedTies
import Derived.KernelRfl
namespace Go.Proofs.Ytafcffnpobdhgaa
/- THE CELL 'sum', in the pinned program and in every row, IS THE sha256 OF THE DUMP (.gsa) THAT YtafcffnpobdhgaaProg.lean LOADS. Nothing in Lean hashes anything: it is a label: what it is worth is what the hold of that sum in a sandbox is worth. -/
noncomputable def Try.pinned : Pinned := { name := "ytafcffnpobdhgaa", sum := "8b732aa41848cbf460e0207f02ae11ae4e6565eeca581e868a820566a2b26e37", checked := Try.checked }
namespace Rows
def none {H : Type} : Left H := { results := [], args := [] }

/-- 'laws.FnRounded': WHATEVER THE INPUT: true; the input reads as it did. -/
def fnRoundedSpec : ChangeSpec := { name := "fnRounded", fn := fun _ => fun
  | [d] => { results := [.lit (.bool true)], args := [d] }
  | _ => none }
def fnRoundedRow : OpenClaim := { program := "ytafcffnpobdhgaa", sum := "8b732aa41848cbf460e0207f02ae11ae4e6565eeca581e868a820566a2b26e37", func := "loop.example/g00133/laws.FnRounded", spec := "fnRounded", apart := false }
def FnRoundedSaid : Prop := fnRoundedRow.holds Try.pinned (OpenSpec.ofChange fnRoundedSpec)

/-- ITS FALSE NEIGHBOUR: 'it returns false'. Refute it at one input. -/
def fnRoundedWrong : ChangeSpec := { name := "fnRounded", fn := fun _ => fun
  | [d] => { results := [.lit (.bool false)], args := [d] }
  | _ => none }
def FnRoundedWrongFalsely : Prop := fnRoundedRow.holds Try.pinned (OpenSpec.ofChange fnRoundedWrong)

/-- 'laws.FnExactDivWholes': WHATEVER THE INPUT: true; the input reads as it did. -/
def fnExactDivWholesSpec : ChangeSpec := { name := "fnExactDivWholes", fn := fun _ => fun
  | [d1, d2] => { results := [.lit (.bool true)], args := [d1, d2] }
  | _ => none }
def fnExactDivWholesRow : OpenClaim := { program := "ytafcffnpobdhgaa", sum := "8b732aa41848cbf460e0207f02ae11ae4e6565eeca581e868a820566a2b26e37", func := "loop.example/g00133/laws.FnExactDivWholes", spec := "fnExactDivWholes", apart := false }
def FnExactDivWholesSaid : Prop := fnExactDivWholesRow.holds Try.pinned (OpenSpec.ofChange fnExactDivWholesSpec)

/-- ITS FALSE NEIGHBOUR: 'it returns false'. Refute it at one input. -/
def fnExactDivWholesWrong : ChangeSpec := { name := "fnExactDivWholes", fn := fun _ => fun
  | [d1, d2] => { results := [.lit (.bool false)], args := [d1, d2] }
  | _ => none }
def FnExactDivWholesWrongFalsely : Prop := fnExactDivWholesRow.holds Try.pinned (OpenSpec.ofChange fnExactDivWholesWrong)

/-- 'laws.FnExactRoundWholes': WHATEVER THE INPUT: true; the input reads as it did. -/
def fnExactRoundWholesSpec : ChangeSpec := { name := "fnExactRoundWholes", fn := fun _ => fun
  | [d1, d2] => { results := [.lit (.bool true)], args := [d1, d2] }
  | _ => none }
def fnExactRoundWholesRow : OpenClaim := { program := "ytafcffnpobdhgaa", sum := "8b732aa41848cbf460e0207f02ae11ae4e6565eeca581e868a820566a2b26e37", func := "loop.example/g00133/laws.FnExactRoundWholes", spec := "fnExactRoundWholes", apart := false }
def FnExactRoundWholesSaid : Prop := fnExactRoundWholesRow.holds Try.pinned (OpenSpec.ofChange fnExactRoundWholesSpec)

/-- ITS FALSE NEIGHBOUR: 'it returns false'. Refute it at one input. -/
def fnExactRoundWholesWrong : ChangeSpec := { name := "fnExactRoundWholes", fn := fun _ => fun
  | [d1, d2] => { results := [.lit (.bool false)], args := [d1, d2] }
  | _ => none }
def FnExactRoundWholesWrongFalsely : Prop := fnExactRoundWholesRow.holds Try.pinned (OpenSpec.ofChange fnExactRoundWholesWrong)

/-- 'laws.FnExactReadWhole': WHATEVER THE INPUT: true; the input reads as it did. -/
def fnExactReadWholeSpec : ChangeSpec := { name := "fnExactReadWhole", fn := fun _ => fun
  | [d] => { results := [.lit (.bool true)], args := [d] }
  | _ => none }
def fnExactReadWholeRow : OpenClaim := { program := "ytafcffnpobdhgaa", sum := "8b732aa41848cbf460e0207f02ae11ae4e6565eeca581e868a820566a2b26e37", func := "loop.example/g00133/laws.FnExactReadWhole", spec := "fnExactReadWhole", apart := false }
def FnExactReadWholeSaid : Prop := fnExactReadWholeRow.holds Try.pinned (OpenSpec.ofChange fnExactReadWholeSpec)

/-- ITS FALSE NEIGHBOUR: 'it returns false'. Refute it at one input. -/
def fnExactReadWholeWrong : ChangeSpec := { name := "fnExactReadWhole", fn := fun _ => fun
  | [d] => { results := [.lit (.bool false)], args := [d] }
  | _ => none }
def FnExactReadWholeWrongFalsely : Prop := fnExactReadWholeRow.holds Try.pinned (OpenSpec.ofChange fnExactReadWholeWrong)

/- THE SECOND FORM. 'bulk': how many values and letters a reading holds, each counted each time it is reached (what is shared counts as often as it is met; a slice's spare places count too). A statement '..UptoSaid' is the law's where the arguments, and the package variables that the reading takes, are together of bulk at most 1048576: NARROWER than '..Said'. Prove '..Said' where nothing that the law and all that it calls make is longer than what came in: it says more and counts as full. Else prove '..UptoSaid'. A law counts once. -/
mutual
def uptoBulk {H : Type} : DataW H → Nat
  | .lit (.string bytes) => bytes.length + 1
  | .lit _ => 1
  | .nil => 1
  | .ptr d => uptoBulk d + 1
  | .slice elems spare => uptoBulkAll elems + uptoBulkAll spare + 1
  | .agg parts => uptoBulkAll parts + 1
  | .iface _ d => uptoBulk d + 1
  | .map entries => uptoBulkEntries entries + 1
  | .held _ => 1
def uptoBulkAll {H : Type} : List (DataW H) → Nat
  | [] => 0
  | d :: r => uptoBulk d + uptoBulkAll r
def uptoBulkEntries {H : Type} : List (Lit × DataW H) → Nat
  | [] => 0
  | x :: r => uptoBulkEntry x + uptoBulkEntries r
def uptoBulkEntry {H : Type} : Lit × DataW H → Nat
  | (.string bytes, d) => bytes.length + uptoBulk d + 1
  | (_, d) => uptoBulk d + 1
 end
def uptoSmall : (H : Type) → List (DataW H) → Bool := fun _ ds => decide (uptoBulkAll ds ≤ 1048576)
def OpenSpec.upto (s : _root_.Go.ChangeSpec) : _root_.Go.OpenSpec := { _root_.Go.OpenSpec.ofChange s with cond := some uptoSmall }

/-- 'laws.FnRounded', WHERE WHAT IT READS IS OF BULK AT MOST 1048576: true; the input reads as it did. -/
def fnRoundedUptoRow : OpenClaim := { program := "ytafcffnpobdhgaa", sum := "8b732aa41848cbf460e0207f02ae11ae4e6565eeca581e868a820566a2b26e37", func := "loop.example/g00133/laws.FnRounded", spec := "fnRounded", apart := false, narrowed := true }
def FnRoundedUptoSaid : Prop := fnRoundedUptoRow.holds Try.pinned (OpenSpec.upto fnRoundedSpec)

/-- 'laws.FnExactDivWholes', WHERE WHAT IT READS IS OF BULK AT MOST 1048576: true; the input reads as it did. -/
def fnExactDivWholesUptoRow : OpenClaim := { program := "ytafcffnpobdhgaa", sum := "8b732aa41848cbf460e0207f02ae11ae4e6565eeca581e868a820566a2b26e37", func := "loop.example/g00133/laws.FnExactDivWholes", spec := "fnExactDivWholes", apart := false, narrowed := true }
def FnExactDivWholesUptoSaid : Prop := fnExactDivWholesUptoRow.holds Try.pinned (OpenSpec.upto fnExactDivWholesSpec)

/-- 'laws.FnExactRoundWholes', WHERE WHAT IT READS IS OF BULK AT MOST 1048576: true; the input reads as it did. -/
def fnExactRoundWholesUptoRow : OpenClaim := { program := "ytafcffnpobdhgaa", sum := "8b732aa41848cbf460e0207f02ae11ae4e6565eeca581e868a820566a2b26e37", func := "loop.example/g00133/laws.FnExactRoundWholes", spec := "fnExactRoundWholes", apart := false, narrowed := true }
def FnExactRoundWholesUptoSaid : Prop := fnExactRoundWholesUptoRow.holds Try.pinned (OpenSpec.upto fnExactRoundWholesSpec)

/-- 'laws.FnExactReadWhole', WHERE WHAT IT READS IS OF BULK AT MOST 1048576: true; the input reads as it did. -/
def fnExactReadWholeUptoRow : OpenClaim := { program := "ytafcffnpobdhgaa", sum := "8b732aa41848cbf460e0207f02ae11ae4e6565eeca581e868a820566a2b26e37", func := "loop.example/g00133/laws.FnExactReadWhole", spec := "fnExactReadWhole", apart := false, narrowed := true }
def FnExactReadWholeUptoSaid : Prop := fnExactReadWholeUptoRow.holds Try.pinned (OpenSpec.upto fnExactReadWholeSpec)

end Rows
end Go.Proofs.Ytafcffnpobdhgaa
