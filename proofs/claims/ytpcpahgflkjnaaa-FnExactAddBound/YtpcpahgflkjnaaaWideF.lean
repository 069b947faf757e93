/- Proved: contracts of the model's whole number of a word and of its nearest quotient, by what the numbers are worth. -/
import Derived.Test.YtpcpahgflkjnaaaWideE
namespace Go.Proofs.Ytpcpahgflkjnaaa
open Go.ChangeShapes Go.WideShapes Go.ChangeAt Go.RowKit
open M2
set_option linter.unusedVariables false
set_option linter.unusedSimpArgs false
theorem two_row (w : World) (t : TypeId) : Row (w.alloc (.cells #[.int .i64 2] t)) (.slice (some ⟨w.heap.size, 0, none⟩) 1 1) (toI [2]) :=
  Or.inr ⟨w.heap.size, 0, 1, rfl, by simp, by simp [toI], fun j hj => by
    have : j = 0 := by simp [toI] at hj; omega
    subst this
    rw [cell_at _ _ _ _ _ (by simp)]
    rfl⟩
theorem dg_len {z : Int} {k : Nat} (h : z.natAbs < LB ^ k) : (dg z).length ≤ k := dig_len_le h
theorem sv_abs (n : Bool) (xs : List Nat) : (sv n xs).natAbs = val xs := by cases n <;> simp [sv]
end Go.Proofs.Ytpcpahgflkjnaaa
