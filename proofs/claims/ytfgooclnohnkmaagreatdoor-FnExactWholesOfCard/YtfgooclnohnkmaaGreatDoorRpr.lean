/- Proved: the modulus of a good ring is a prime. -/
import Derived.Test.YtfgooclnohnkmaaGreatDoorKB
import Derived.Test.YtfgooclnohnkmaaGreatDoorTab
namespace Go.Proofs.YtfgooclnohnkmaaGreatDoor
open Go.ChangeShapes Go.WideShapes Go.ChangeAt Go.RowKit
set_option linter.unusedVariables false
theorem no_28 : isP 268435456 = false := by decide +kernel
theorem ring_pr {P N : Nat} (h : RingOk P N) : F1.Pr P := by
  have h1 := modB_yes h.md
  have h2 := h.pr
  rw [Int.toNat_natCast] at h2
  refine F1.pr_of_isP P h2 ?_
  have hn : P ≠ 268435456 := fun e => by
    rw [e, no_28] at h2
    cases h2
  omega
theorem GR.bounds2 {p n r : Int} {P N R : Nat} (h : GR p n r P N R) : (2 ≤ p ∧ p ≤ 268435456) ∧ (2 ≤ n ∧ n ≤ 16) := by
  have h1 := modB_yes h.ok.md
  have h2 := h.ok.sz
  have := h.ep
  have := h.en
  omega
end Go.Proofs.YtfgooclnohnkmaaGreatDoor
