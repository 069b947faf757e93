/- Proved: several texts in one: what each proves is said ahead of it. -/
import Derived.Test.YtkggfljdbdfonaaGreatDoorWo02
import Derived.Test.YtkggfljdbdfonaaGreatDoorWo34
import Derived.Test.YtkggfljdbdfonaaGreatDoorWo03
import Derived.Test.YtkggfljdbdfonaaGreatDoorWo09
/- Proved: the modulus of a good ring is a prime. -/
namespace Go.Proofs.YtkggfljdbdfonaaGreatDoor
open Go.ChangeShapes Go.WideShapes Go.ChangeAt Go.RowKit
set_option linter.unusedVariables false
theorem no_28 : isP 268435456 = false := by decide +kernel
theorem ring_pr {P N : Nat} (h : RingOk P N) : F1.Pr P := by
  have h1 := modB_yes h.md
  have h2 := h.pr
  rw [Int.toNat_natCast] at h2
  refine F1.pr_of_isP P h2 ?_
  have hn : P ≠ 268435456 := fun e => by
    rw [e, no_28] at h2
    cases h2
  omega
end Go.Proofs.YtkggfljdbdfonaaGreatDoor
/- Proved: whether numbers are residues of a basis, of the program and of the model. -/
namespace Go.Proofs.YtkggfljdbdfonaaGreatDoor
open Go.ChangeShapes Go.WideShapes Go.ChangeAt Go.RowKit
set_option linter.unusedVariables false
set_option linter.unusedSimpArgs false
theorem Row.cells {w : World} {v : Value} {xs : List Int} (h : Row w v xs) (h0 : 0 < xs.length) : ∃ b o cap, v = .slice (some ⟨b, o, none⟩) xs.length cap ∧ b < w.heap.size ∧ ∀ j, j < xs.length → w.cell? ⟨b, o + j, none⟩ = some (.int .i64 (xs.getD j 0)) := by
  rcases h with ⟨a, cap, rfl, rfl⟩ | ⟨b, o, cap, e, hb, _, hc⟩
  · simp at h0
  · exact ⟨b, o, cap, e, hb, hc⟩
end Go.Proofs.YtkggfljdbdfonaaGreatDoor
