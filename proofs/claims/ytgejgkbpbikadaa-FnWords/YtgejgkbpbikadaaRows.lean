/-
  No cell of these rows narrows 'for every input' (looked for: loops, veiled, ifaces, maps, wideKeys, modest, calm, conditions, laid).
  DERIVED. THE GIVEN ROWS OF THIS SEAT. 9 by the template 'for every input the law returns true; each argument reads behind the call as it read before'; 0 by the template 'total and deterministic' (their statements: YtgejgkbpbikadaaTotals.lean).
  GIVEN WITH THE SEED: the statements are not yours to turn. If you find one false, say at which input.
  Laid BY PROGRAM, IN A SANDBOX (cutbox-rows.mjs): the forced cells as the released guide's own fill.sh prints them over the translation 30cba6905f9076dd… (all of the seat's roots in one cut). By AI agents, Wed Nov 11 2026. No macro, syntax, notation, axiom, sorry.
-/
import Derived.Test.YtgejgkbpbikadaaChecked
import GoSem.Claim
import GoSem.ClaimJoined
import GoSem.ClaimMapViews
import Derived.JoinedTies
import Derived.KernelRfl
namespace Go.Proofs.Ytgejgkbpbikadaa
/- THE CELL 'sum', in the pinned program and in every row, IS THE sha256 OF THE DUMP (.gsa) THAT YtgejgkbpbikadaaProg.lean LOADS. Nothing in Lean hashes anything: it is a label: what it is worth is what the hold of that sum in a sandbox is worth. -/
noncomputable def Try.pinned : Pinned := { name := "ytgejgkbpbikadaa", sum := "30cba6905f9076dd6d6b02e1d0703603806766d06fb40642b84647351dce7ab4", checked := Try.checked }
namespace Rows
def none {H : Type} : Left H := { results := [], args := [] }

/-- 'laws.FnWords': WHATEVER THE INPUT: true; the input reads as it did. -/
def fnWordsSpec : ChangeSpec := { name := "fnWords", fn := fun _ => fun
  | [d1, d2] => { results := [.lit (.bool true)], args := [d1, d2] }
  | _ => none }
def fnWordsRow : OpenClaim := { program := "ytgejgkbpbikadaa", sum := "30cba6905f9076dd6d6b02e1d0703603806766d06fb40642b84647351dce7ab4", func := "loop.example/g00133/laws.FnWords", spec := "fnWords", unfollowed := true, recurses := true, apart := false }
def FnWordsSaid : Prop := fnWordsRow.holds Try.pinned (OpenSpec.ofChange fnWordsSpec)

/-- ITS FALSE NEIGHBOUR: 'it returns false'. Refute it at one input. -/
def fnWordsWrong : ChangeSpec := { name := "fnWords", fn := fun _ => fun
  | [d1, d2] => { results := [.lit (.bool false)], args := [d1, d2] }
  | _ => none }
def FnWordsWrongFalsely : Prop := fnWordsRow.holds Try.pinned (OpenSpec.ofChange fnWordsWrong)

/-- 'laws.FnExactPowMod': WHATEVER THE INPUT: true; the input reads as it did. -/
def fnExactPowModSpec : ChangeSpec := { name := "fnExactPowMod", fn := fun _ => fun
  | [d1, d2, d3] => { results := [.lit (.bool true)], args := [d1, d2, d3] }
  | _ => none }
def fnExactPowModRow : OpenClaim := { program := "ytgejgkbpbikadaa", sum := "30cba6905f9076dd6d6b02e1d0703603806766d06fb40642b84647351dce7ab4", func := "loop.example/g00133/laws.FnExactPowMod", spec := "fnExactPowMod", unfollowed := true, recurses := true, apart := false }
def FnExactPowModSaid : Prop := fnExactPowModRow.holds Try.pinned (OpenSpec.ofChange fnExactPowModSpec)

/-- ITS FALSE NEIGHBOUR: 'it returns false'. Refute it at one input. -/
def fnExactPowModWrong : ChangeSpec := { name := "fnExactPowMod", fn := fun _ => fun
  | [d1, d2, d3] => { results := [.lit (.bool false)], args := [d1, d2, d3] }
  | _ => none }
def FnExactPowModWrongFalsely : Prop := fnExactPowModRow.holds Try.pinned (OpenSpec.ofChange fnExactPowModWrong)

/-- 'laws.FnExactInvMod': WHATEVER THE INPUT: true; the input reads as it did. -/
def fnExactInvModSpec : ChangeSpec := { name := "fnExactInvMod", fn := fun _ => fun
  | [d1, d2] => { results := [.lit (.bool true)], args := [d1, d2] }
  | _ => none }
def fnExactInvModRow : OpenClaim := { program := "ytgejgkbpbikadaa", sum := "30cba6905f9076dd6d6b02e1d0703603806766d06fb40642b84647351dce7ab4", func := "loop.example/g00133/laws.FnExactInvMod", spec := "fnExactInvMod", apart := false }
def FnExactInvModSaid : Prop := fnExactInvModRow.holds Try.pinned (OpenSpec.ofChange fnExactInvModSpec)

/-- ITS FALSE NEIGHBOUR: 'it returns false'. Refute it at one input. -/
def fnExactInvModWrong : ChangeSpec := { name := "fnExactInvMod", fn := fun _ => fun
  | [d1, d2] => { results := [.lit (.bool false)], args := [d1, d2] }
  | _ => none }
def FnExactInvModWrongFalsely : Prop := fnExactInvModRow.holds Try.pinned (OpenSpec.ofChange fnExactInvModWrong)

/-- 'laws.FnExactBarrettOf': WHATEVER THE INPUT: true; the input reads as it did. -/
def fnExactBarrettOfSpec : ChangeSpec := { name := "fnExactBarrettOf", fn := fun _ => fun
  | [d] => { results := [.lit (.bool true)], args := [d] }
  | _ => none }
def fnExactBarrettOfRow : OpenClaim := { program := "ytgejgkbpbikadaa", sum := "30cba6905f9076dd6d6b02e1d0703603806766d06fb40642b84647351dce7ab4", func := "loop.example/g00133/laws.FnExactBarrettOf", spec := "fnExactBarrettOf", apart := false }
def FnExactBarrettOfSaid : Prop := fnExactBarrettOfRow.holds Try.pinned (OpenSpec.ofChange fnExactBarrettOfSpec)

/-- ITS FALSE NEIGHBOUR: 'it returns false'. Refute it at one input. -/
def fnExactBarrettOfWrong : ChangeSpec := { name := "fnExactBarrettOf", fn := fun _ => fun
  | [d] => { results := [.lit (.bool false)], args := [d] }
  | _ => none }
def FnExactBarrettOfWrongFalsely : Prop := fnExactBarrettOfRow.holds Try.pinned (OpenSpec.ofChange fnExactBarrettOfWrong)

/-- 'laws.FnExactBarrettMul': WHATEVER THE INPUT: true; the input reads as it did. -/
def fnExactBarrettMulSpec : ChangeSpec := { name := "fnExactBarrettMul", fn := fun _ => fun
  | [d1, d2, d3] => { results := [.lit (.bool true)], args := [d1, d2, d3] }
  | _ => none }
def fnExactBarrettMulRow : OpenClaim := { program := "ytgejgkbpbikadaa", sum := "30cba6905f9076dd6d6b02e1d0703603806766d06fb40642b84647351dce7ab4", func := "loop.example/g00133/laws.FnExactBarrettMul", spec := "fnExactBarrettMul", unfollowed := true, recurses := true, apart := false }
def FnExactBarrettMulSaid : Prop := fnExactBarrettMulRow.holds Try.pinned (OpenSpec.ofChange fnExactBarrettMulSpec)

/-- ITS FALSE NEIGHBOUR: 'it returns false'. Refute it at one input. -/
def fnExactBarrettMulWrong : ChangeSpec := { name := "fnExactBarrettMul", fn := fun _ => fun
  | [d1, d2, d3] => { results := [.lit (.bool false)], args := [d1, d2, d3] }
  | _ => none }
def FnExactBarrettMulWrongFalsely : Prop := fnExactBarrettMulRow.holds Try.pinned (OpenSpec.ofChange fnExactBarrettMulWrong)

/-- 'laws.FnExactMontOf': WHATEVER THE INPUT: true; the input reads as it did. -/
def fnExactMontOfSpec : ChangeSpec := { name := "fnExactMontOf", fn := fun _ => fun
  | [d] => { results := [.lit (.bool true)], args := [d] }
  | _ => none }
def fnExactMontOfRow : OpenClaim := { program := "ytgejgkbpbikadaa", sum := "30cba6905f9076dd6d6b02e1d0703603806766d06fb40642b84647351dce7ab4", func := "loop.example/g00133/laws.FnExactMontOf", spec := "fnExactMontOf", apart := false }
def FnExactMontOfSaid : Prop := fnExactMontOfRow.holds Try.pinned (OpenSpec.ofChange fnExactMontOfSpec)

/-- ITS FALSE NEIGHBOUR: 'it returns false'. Refute it at one input. -/
def fnExactMontOfWrong : ChangeSpec := { name := "fnExactMontOf", fn := fun _ => fun
  | [d] => { results := [.lit (.bool false)], args := [d] }
  | _ => none }
def FnExactMontOfWrongFalsely : Prop := fnExactMontOfRow.holds Try.pinned (OpenSpec.ofChange fnExactMontOfWrong)

/-- 'laws.FnExactMontMul': WHATEVER THE INPUT: true; the input reads as it did. -/
def fnExactMontMulSpec : ChangeSpec := { name := "fnExactMontMul", fn := fun _ => fun
  | [d1, d2, d3] => { results := [.lit (.bool true)], args := [d1, d2, d3] }
  | _ => none }
def fnExactMontMulRow : OpenClaim := { program := "ytgejgkbpbikadaa", sum := "30cba6905f9076dd6d6b02e1d0703603806766d06fb40642b84647351dce7ab4", func := "loop.example/g00133/laws.FnExactMontMul", spec := "fnExactMontMul", unfollowed := true, recurses := true, apart := false }
def FnExactMontMulSaid : Prop := fnExactMontMulRow.holds Try.pinned (OpenSpec.ofChange fnExactMontMulSpec)

/-- ITS FALSE NEIGHBOUR: 'it returns false'. Refute it at one input. -/
def fnExactMontMulWrong : ChangeSpec := { name := "fnExactMontMul", fn := fun _ => fun
  | [d1, d2, d3] => { results := [.lit (.bool false)], args := [d1, d2, d3] }
  | _ => none }
def FnExactMontMulWrongFalsely : Prop := fnExactMontMulRow.holds Try.pinned (OpenSpec.ofChange fnExactMontMulWrong)

/-- 'laws.FnExactShoupOf': WHATEVER THE INPUT: true; the input reads as it did. -/
def fnExactShoupOfSpec : ChangeSpec := { name := "fnExactShoupOf", fn := fun _ => fun
  | [d1, d2] => { results := [.lit (.bool true)], args := [d1, d2] }
  | _ => none }
def fnExactShoupOfRow : OpenClaim := { program := "ytgejgkbpbikadaa", sum := "30cba6905f9076dd6d6b02e1d0703603806766d06fb40642b84647351dce7ab4", func := "loop.example/g00133/laws.FnExactShoupOf", spec := "fnExactShoupOf", apart := false }
def FnExactShoupOfSaid : Prop := fnExactShoupOfRow.holds Try.pinned (OpenSpec.ofChange fnExactShoupOfSpec)

/-- ITS FALSE NEIGHBOUR: 'it returns false'. Refute it at one input. -/
def fnExactShoupOfWrong : ChangeSpec := { name := "fnExactShoupOf", fn := fun _ => fun
  | [d1, d2] => { results := [.lit (.bool false)], args := [d1, d2] }
  | _ => none }
def FnExactShoupOfWrongFalsely : Prop := fnExactShoupOfRow.holds Try.pinned (OpenSpec.ofChange fnExactShoupOfWrong)

/-- 'laws.FnExactShoupMul': WHATEVER THE INPUT: true; the input reads as it did. -/
def fnExactShoupMulSpec : ChangeSpec := { name := "fnExactShoupMul", fn := fun _ => fun
  | [d1, d2, d3, d4] => { results := [.lit (.bool true)], args := [d1, d2, d3, d4] }
  | _ => none }
def fnExactShoupMulRow : OpenClaim := { program := "ytgejgkbpbikadaa", sum := "30cba6905f9076dd6d6b02e1d0703603806766d06fb40642b84647351dce7ab4", func := "loop.example/g00133/laws.FnExactShoupMul", spec := "fnExactShoupMul", unfollowed := true, recurses := true, apart := false }
def FnExactShoupMulSaid : Prop := fnExactShoupMulRow.holds Try.pinned (OpenSpec.ofChange fnExactShoupMulSpec)

/-- ITS FALSE NEIGHBOUR: 'it returns false'. Refute it at one input. -/
def fnExactShoupMulWrong : ChangeSpec := { name := "fnExactShoupMul", fn := fun _ => fun
  | [d1, d2, d3, d4] => { results := [.lit (.bool false)], args := [d1, d2, d3, d4] }
  | _ => none }
def FnExactShoupMulWrongFalsely : Prop := fnExactShoupMulRow.holds Try.pinned (OpenSpec.ofChange fnExactShoupMulWrong)

/- THE SECOND FORM. 'bulk': how many values and letters a reading holds, each counted each time it is reached (what is shared counts as often as it is met; a slice's spare places count too). A statement '..UptoSaid' is the law's where the arguments, and the package variables that the reading takes, are together of bulk at most 1048576: NARROWER than '..Said'. Prove '..Said' where nothing that the law and all that it calls make is longer than what came in: it says more and counts as full. Else prove '..UptoSaid'. A law counts once. -/
mutual
def uptoBulk {H : Type} : DataW H → Nat
  | .lit (.string bytes) => bytes.length + 1
  | .lit _ => 1
  | .nil => 1
  | .ptr d => uptoBulk d + 1
  | .slice elems spare => uptoBulkAll elems + uptoBulkAll spare + 1
  | .agg parts => uptoBulkAll parts + 1
  | .iface _ d => uptoBulk d + 1
  | .map entries => uptoBulkEntries entries + 1
  | .held _ => 1
def uptoBulkAll {H : Type} : List (DataW H) → Nat
  | [] => 0
  | d :: r => uptoBulk d + uptoBulkAll r
def uptoBulkEntries {H : Type} : List (Lit × DataW H) → Nat
  | [] => 0
  | x :: r => uptoBulkEntry x + uptoBulkEntries r
def uptoBulkEntry {H : Type} : Lit × DataW H → Nat
  | (.string bytes, d) => bytes.length + uptoBulk d + 1
  | (_, d) => uptoBulk d + 1
 end
def uptoSmall : (H : Type) → List (DataW H) → Bool := fun _ ds => decide (uptoBulkAll ds ≤ 1048576)
def OpenSpec.upto (s : _root_.Go.ChangeSpec) : _root_.Go.OpenSpec := { _root_.Go.OpenSpec.ofChange s with cond := some uptoSmall }

/-- 'laws.FnWords', WHERE WHAT IT READS IS OF BULK AT MOST 1048576: true; the input reads as it did. -/
def fnWordsUptoRow : OpenClaim := { program := "ytgejgkbpbikadaa", sum := "30cba6905f9076dd6d6b02e1d0703603806766d06fb40642b84647351dce7ab4", func := "loop.example/g00133/laws.FnWords", spec := "fnWords", unfollowed := true, recurses := true, apart := false, narrowed := true }
def FnWordsUptoSaid : Prop := fnWordsUptoRow.holds Try.pinned (OpenSpec.upto fnWordsSpec)

/-- 'laws.FnExactPowMod', WHERE WHAT IT READS IS OF BULK AT MOST 1048576: true; the input reads as it did. -/
def fnExactPowModUptoRow : OpenClaim := { program := "ytgejgkbpbikadaa", sum := "30cba6905f9076dd6d6b02e1d0703603806766d06fb40642b84647351dce7ab4", func := "loop.example/g00133/laws.FnExactPowMod", spec := "fnExactPowMod", unfollowed := true, recurses := true, apart := false, narrowed := true }
def FnExactPowModUptoSaid : Prop := fnExactPowModUptoRow.holds Try.pinned (OpenSpec.upto fnExactPowModSpec)

/-- 'laws.FnExactInvMod', WHERE WHAT IT READS IS OF BULK AT MOST 1048576: true; the input reads as it did. -/
def fnExactInvModUptoRow : OpenClaim := { program := "ytgejgkbpbikadaa", sum := "30cba6905f9076dd6d6b02e1d0703603806766d06fb40642b84647351dce7ab4", func := "loop.example/g00133/laws.FnExactInvMod", spec := "fnExactInvMod", apart := false, narrowed := true }
def FnExactInvModUptoSaid : Prop := fnExactInvModUptoRow.holds Try.pinned (OpenSpec.upto fnExactInvModSpec)

/-- 'laws.FnExactBarrettOf', WHERE WHAT IT READS IS OF BULK AT MOST 1048576: true; the input reads as it did. -/
def fnExactBarrettOfUptoRow : OpenClaim := { program := "ytgejgkbpbikadaa", sum := "30cba6905f9076dd6d6b02e1d0703603806766d06fb40642b84647351dce7ab4", func := "loop.example/g00133/laws.FnExactBarrettOf", spec := "fnExactBarrettOf", apart := false, narrowed := true }
def FnExactBarrettOfUptoSaid : Prop := fnExactBarrettOfUptoRow.holds Try.pinned (OpenSpec.upto fnExactBarrettOfSpec)

/-- 'laws.FnExactBarrettMul', WHERE WHAT IT READS IS OF BULK AT MOST 1048576: true; the input reads as it did. -/
def fnExactBarrettMulUptoRow : OpenClaim := { program := "ytgejgkbpbikadaa", sum := "30cba6905f9076dd6d6b02e1d0703603806766d06fb40642b84647351dce7ab4", func := "loop.example/g00133/laws.FnExactBarrettMul", spec := "fnExactBarrettMul", unfollowed := true, recurses := true, apart := false, narrowed := true }
def FnExactBarrettMulUptoSaid : Prop := fnExactBarrettMulUptoRow.holds Try.pinned (OpenSpec.upto fnExactBarrettMulSpec)

/-- 'laws.FnExactMontOf', WHERE WHAT IT READS IS OF BULK AT MOST 1048576: true; the input reads as it did. -/
def fnExactMontOfUptoRow : OpenClaim := { program := "ytgejgkbpbikadaa", sum := "30cba6905f9076dd6d6b02e1d0703603806766d06fb40642b84647351dce7ab4", func := "loop.example/g00133/laws.FnExactMontOf", spec := "fnExactMontOf", apart := false, narrowed := true }
def FnExactMontOfUptoSaid : Prop := fnExactMontOfUptoRow.holds Try.pinned (OpenSpec.upto fnExactMontOfSpec)

/-- 'laws.FnExactMontMul', WHERE WHAT IT READS IS OF BULK AT MOST 1048576: true; the input reads as it did. -/
def fnExactMontMulUptoRow : OpenClaim := { program := "ytgejgkbpbikadaa", sum := "30cba6905f9076dd6d6b02e1d0703603806766d06fb40642b84647351dce7ab4", func := "loop.example/g00133/laws.FnExactMontMul", spec := "fnExactMontMul", unfollowed := true, recurses := true, apart := false, narrowed := true }
def FnExactMontMulUptoSaid : Prop := fnExactMontMulUptoRow.holds Try.pinned (OpenSpec.upto fnExactMontMulSpec)

/-- 'laws.FnExactShoupOf', WHERE WHAT IT READS IS OF BULK AT MOST 1048576: true; the input reads as it did. -/
def fnExactShoupOfUptoRow : OpenClaim := { program := "ytgejgkbpbikadaa", sum := "30cba6905f9076dd6d6b02e1d0703603806766d06fb40642b84647351dce7ab4", func := "loop.example/g00133/laws.FnExactShoupOf", spec := "fnExactShoupOf", apart := false, narrowed := true }
def FnExactShoupOfUptoSaid : Prop := fnExactShoupOfUptoRow.holds Try.pinned (OpenSpec.upto fnExactShoupOfSpec)

/-- 'laws.FnExactShoupMul', WHERE WHAT IT READS IS OF BULK AT MOST 1048576: true; the input reads as it did. -/
def fnExactShoupMulUptoRow : OpenClaim := { program := "ytgejgkbpbikadaa", sum := "30cba6905f9076dd6d6b02e1d0703603806766d06fb40642b84647351dce7ab4", func := "loop.example/g00133/laws.FnExactShoupMul", spec := "fnExactShoupMul", unfollowed := true, recurses := true, apart := false, narrowed := true }
def FnExactShoupMulUptoSaid : Prop := fnExactShoupMulUptoRow.holds Try.pinned (OpenSpec.upto fnExactShoupMulSpec)

end Rows
end Go.Proofs.Ytgejgkbpbikadaa
