/-
  No cell of these rows narrows 'for every input' (looked for: loops, veiled, ifaces, maps, wideKeys, modest, calm, conditions, laid).
  DERIVED. THE GIVEN ROWS OF THIS SEAT. 5 by the template 'for every input the law returns true; each argument reads behind the call as it read before'; 0 by the template 'total and deterministic' (their statements: YtonbimgdkafnjaaTotals.lean).
  GIVEN WITH THE SEED: the statements are not yours to turn. If you find one false, say at which input.
  Laid BY PROGRAM, IN A SANDBOX (cutbox-rows.mjs): the forced cells as the released guide's own fill.sh prints them over the translation cd1898666af84166… (all of the seat's roots in one cut). By AI agents, Wed Nov 11 2026. No macro, syntax, notation, axiom, sorry.
-/
import Derived.Test.YtonbimgdkafnjaaChecked
import GoSem.Claim
import GoSem.ClaimJoined
import GoSem.ClaimMapViews
import Derived.JoinedTies
import Derived.KernelRfl
namespace Go.Proofs.Ytonbimgdkafnjaa
/- THE CELL 'sum', in the pinned program and in every row, IS THE sha256 OF THE DUMP (.gsa) THAT YtonbimgdkafnjaaProg.lean LOADS. Nothing in Lean hashes anything: it is a label: what it is worth is what the hold of that sum in a sandbox is worth. -/
noncomputable def Try.pinned : Pinned := { name := "ytonbimgdkafnjaa", sum := "cd1898666af8416618d20bd4be4cb501a6e7d3aa88f9f6c1ec276ad5412f0888", checked := Try.checked }
namespace Rows
def none {H : Type} : Left H := { results := [], args := [] }

/-- 'laws.FnRounded': WHATEVER THE INPUT: true; the input reads as it did. -/
def fnRoundedSpec : ChangeSpec := { name := "fnRounded", fn := fun _ => fun
  | [d] => { results := [.lit (.bool true)], args := [d] }
  | _ => none }
def fnRoundedRow : OpenClaim := { program := "ytonbimgdkafnjaa", sum := "cd1898666af8416618d20bd4be4cb501a6e7d3aa88f9f6c1ec276ad5412f0888", func := "loop.example/g00133/laws.FnRounded", spec := "fnRounded", apart := false }
def FnRoundedSaid : Prop := fnRoundedRow.holds Try.pinned (OpenSpec.ofChange fnRoundedSpec)

/-- ITS FALSE NEIGHBOUR: 'it returns false'. Refute it at one input. -/
def fnRoundedWrong : ChangeSpec := { name := "fnRounded", fn := fun _ => fun
  | [d] => { results := [.lit (.bool false)], args := [d] }
  | _ => none }
def FnRoundedWrongFalsely : Prop := fnRoundedRow.holds Try.pinned (OpenSpec.ofChange fnRoundedWrong)

/-- 'laws.FnDrawn': WHATEVER THE INPUT: true; the input reads as it did. -/
def fnDrawnSpec : ChangeSpec := { name := "fnDrawn", fn := fun _ => fun
  | [d] => { results := [.lit (.bool true)], args := [d] }
  | _ => none }
def fnDrawnRow : OpenClaim := { program := "ytonbimgdkafnjaa", sum := "cd1898666af8416618d20bd4be4cb501a6e7d3aa88f9f6c1ec276ad5412f0888", func := "loop.example/g00133/laws.FnDrawn", spec := "fnDrawn", unfollowed := true, recurses := true, apart := false }
def FnDrawnSaid : Prop := fnDrawnRow.holds Try.pinned (OpenSpec.ofChange fnDrawnSpec)

/-- ITS FALSE NEIGHBOUR: 'it returns false'. Refute it at one input. -/
def fnDrawnWrong : ChangeSpec := { name := "fnDrawn", fn := fun _ => fun
  | [d] => { results := [.lit (.bool false)], args := [d] }
  | _ => none }
def FnDrawnWrongFalsely : Prop := fnDrawnRow.holds Try.pinned (OpenSpec.ofChange fnDrawnWrong)

/-- 'laws.FnExactReadWhole': WHATEVER THE INPUT: true; the input reads as it did. -/
def fnExactReadWholeSpec : ChangeSpec := { name := "fnExactReadWhole", fn := fun _ => fun
  | [d] => { results := [.lit (.bool true)], args := [d] }
  | _ => none }
def fnExactReadWholeRow : OpenClaim := { program := "ytonbimgdkafnjaa", sum := "cd1898666af8416618d20bd4be4cb501a6e7d3aa88f9f6c1ec276ad5412f0888", func := "loop.example/g00133/laws.FnExactReadWhole", spec := "fnExactReadWhole", apart := false }
def FnExactReadWholeSaid : Prop := fnExactReadWholeRow.holds Try.pinned (OpenSpec.ofChange fnExactReadWholeSpec)

/-- ITS FALSE NEIGHBOUR: 'it returns false'. Refute it at one input. -/
def fnExactReadWholeWrong : ChangeSpec := { name := "fnExactReadWhole", fn := fun _ => fun
  | [d] => { results := [.lit (.bool false)], args := [d] }
  | _ => none }
def FnExactReadWholeWrongFalsely : Prop := fnExactReadWholeRow.holds Try.pinned (OpenSpec.ofChange fnExactReadWholeWrong)

/-- 'laws.FnExactNoiseFrom': WHATEVER THE INPUT: true; the input reads as it did. -/
def fnExactNoiseFromSpec : ChangeSpec := { name := "fnExactNoiseFrom", fn := fun _ => fun
  | [d1, d2, d3] => { results := [.lit (.bool true)], args := [d1, d2, d3] }
  | _ => none }
def fnExactNoiseFromRow : OpenClaim := { program := "ytonbimgdkafnjaa", sum := "cd1898666af8416618d20bd4be4cb501a6e7d3aa88f9f6c1ec276ad5412f0888", func := "loop.example/g00133/laws.FnExactNoiseFrom", spec := "fnExactNoiseFrom", unfollowed := true, recurses := true, apart := false }
def FnExactNoiseFromSaid : Prop := fnExactNoiseFromRow.holds Try.pinned (OpenSpec.ofChange fnExactNoiseFromSpec)

/-- ITS FALSE NEIGHBOUR: 'it returns false'. Refute it at one input. -/
def fnExactNoiseFromWrong : ChangeSpec := { name := "fnExactNoiseFrom", fn := fun _ => fun
  | [d1, d2, d3] => { results := [.lit (.bool false)], args := [d1, d2, d3] }
  | _ => none }
def FnExactNoiseFromWrongFalsely : Prop := fnExactNoiseFromRow.holds Try.pinned (OpenSpec.ofChange fnExactNoiseFromWrong)

/-- 'laws.FnExactNoiseRow': WHATEVER THE INPUT: true; the input reads as it did. -/
def fnExactNoiseRowSpec : ChangeSpec := { name := "fnExactNoiseRow", fn := fun _ => fun
  | [d1, d2, d3, d4] => { results := [.lit (.bool true)], args := [d1, d2, d3, d4] }
  | _ => none }
def fnExactNoiseRowRow : OpenClaim := { program := "ytonbimgdkafnjaa", sum := "cd1898666af8416618d20bd4be4cb501a6e7d3aa88f9f6c1ec276ad5412f0888", func := "loop.example/g00133/laws.FnExactNoiseRow", spec := "fnExactNoiseRow", unfollowed := true, recurses := true, apart := false }
def FnExactNoiseRowSaid : Prop := fnExactNoiseRowRow.holds Try.pinned (OpenSpec.ofChange fnExactNoiseRowSpec)

/-- ITS FALSE NEIGHBOUR: 'it returns false'. Refute it at one input. -/
def fnExactNoiseRowWrong : ChangeSpec := { name := "fnExactNoiseRow", fn := fun _ => fun
  | [d1, d2, d3, d4] => { results := [.lit (.bool false)], args := [d1, d2, d3, d4] }
  | _ => none }
def FnExactNoiseRowWrongFalsely : Prop := fnExactNoiseRowRow.holds Try.pinned (OpenSpec.ofChange fnExactNoiseRowWrong)

/- THE SECOND FORM. 'bulk': how many values and letters a reading holds, each counted each time it is reached (what is shared counts as often as it is met; a slice's spare places count too). A statement '..UptoSaid' is the law's where the arguments, and the package variables that the reading takes, are together of bulk at most 1048576: NARROWER than '..Said'. Prove '..Said' where nothing that the law and all that it calls make is longer than what came in: it says more and counts as full. Else prove '..UptoSaid'. A law counts once. -/
mutual
def uptoBulk {H : Type} : DataW H → Nat
  | .lit (.string bytes) => bytes.length + 1
  | .lit _ => 1
  | .nil => 1
  | .ptr d => uptoBulk d + 1
  | .slice elems spare => uptoBulkAll elems + uptoBulkAll spare + 1
  | .agg parts => uptoBulkAll parts + 1
  | .iface _ d => uptoBulk d + 1
  | .map entries => uptoBulkEntries entries + 1
  | .held _ => 1
def uptoBulkAll {H : Type} : List (DataW H) → Nat
  | [] => 0
  | d :: r => uptoBulk d + uptoBulkAll r
def uptoBulkEntries {H : Type} : List (Lit × DataW H) → Nat
  | [] => 0
  | x :: r => uptoBulkEntry x + uptoBulkEntries r
def uptoBulkEntry {H : Type} : Lit × DataW H → Nat
  | (.string bytes, d) => bytes.length + uptoBulk d + 1
  | (_, d) => uptoBulk d + 1
 end
def uptoSmall : (H : Type) → List (DataW H) → Bool := fun _ ds => decide (uptoBulkAll ds ≤ 1048576)
def OpenSpec.upto (s : _root_.Go.ChangeSpec) : _root_.Go.OpenSpec := { _root_.Go.OpenSpec.ofChange s with cond := some uptoSmall }

/-- 'laws.FnRounded', WHERE WHAT IT READS IS OF BULK AT MOST 1048576: true; the input reads as it did. -/
def fnRoundedUptoRow : OpenClaim := { program := "ytonbimgdkafnjaa", sum := "cd1898666af8416618d20bd4be4cb501a6e7d3aa88f9f6c1ec276ad5412f0888", func := "loop.example/g00133/laws.FnRounded", spec := "fnRounded", apart := false, narrowed := true }
def FnRoundedUptoSaid : Prop := fnRoundedUptoRow.holds Try.pinned (OpenSpec.upto fnRoundedSpec)

/-- 'laws.FnDrawn', WHERE WHAT IT READS IS OF BULK AT MOST 1048576: true; the input reads as it did. -/
def fnDrawnUptoRow : OpenClaim := { program := "ytonbimgdkafnjaa", sum := "cd1898666af8416618d20bd4be4cb501a6e7d3aa88f9f6c1ec276ad5412f0888", func := "loop.example/g00133/laws.FnDrawn", spec := "fnDrawn", unfollowed := true, recurses := true, apart := false, narrowed := true }
def FnDrawnUptoSaid : Prop := fnDrawnUptoRow.holds Try.pinned (OpenSpec.upto fnDrawnSpec)

/-- 'laws.FnExactReadWhole', WHERE WHAT IT READS IS OF BULK AT MOST 1048576: true; the input reads as it did. -/
def fnExactReadWholeUptoRow : OpenClaim := { program := "ytonbimgdkafnjaa", sum := "cd1898666af8416618d20bd4be4cb501a6e7d3aa88f9f6c1ec276ad5412f0888", func := "loop.example/g00133/laws.FnExactReadWhole", spec := "fnExactReadWhole", apart := false, narrowed := true }
def FnExactReadWholeUptoSaid : Prop := fnExactReadWholeUptoRow.holds Try.pinned (OpenSpec.upto fnExactReadWholeSpec)

/-- 'laws.FnExactNoiseFrom', WHERE WHAT IT READS IS OF BULK AT MOST 1048576: true; the input reads as it did. -/
def fnExactNoiseFromUptoRow : OpenClaim := { program := "ytonbimgdkafnjaa", sum := "cd1898666af8416618d20bd4be4cb501a6e7d3aa88f9f6c1ec276ad5412f0888", func := "loop.example/g00133/laws.FnExactNoiseFrom", spec := "fnExactNoiseFrom", unfollowed := true, recurses := true, apart := false, narrowed := true }
def FnExactNoiseFromUptoSaid : Prop := fnExactNoiseFromUptoRow.holds Try.pinned (OpenSpec.upto fnExactNoiseFromSpec)

/-- 'laws.FnExactNoiseRow', WHERE WHAT IT READS IS OF BULK AT MOST 1048576: true; the input reads as it did. -/
def fnExactNoiseRowUptoRow : OpenClaim := { program := "ytonbimgdkafnjaa", sum := "cd1898666af8416618d20bd4be4cb501a6e7d3aa88f9f6c1ec276ad5412f0888", func := "loop.example/g00133/laws.FnExactNoiseRow", spec := "fnExactNoiseRow", unfollowed := true, recurses := true, apart := false, narrowed := true }
def FnExactNoiseRowUptoSaid : Prop := fnExactNoiseRowUptoRow.holds Try.pinned (OpenSpec.upto fnExactNoiseRowSpec)

end Rows
end Go.Proofs.Ytonbimgdkafnjaa
