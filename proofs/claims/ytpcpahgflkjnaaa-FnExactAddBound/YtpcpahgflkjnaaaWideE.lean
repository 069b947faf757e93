/- Proved: contracts of the model's nearest quotient, of words as whole numbers, of what is left by a word and of comparing, by what the numbers are worth. -/
import Derived.Test.YtpcpahgflkjnaaaWideD
namespace Go.Proofs.Ytpcpahgflkjnaaa
open Go.ChangeShapes Go.WideShapes Go.ChangeAt Go.RowKit
open M2
set_option linter.unusedVariables false
set_option linter.unusedSimpArgs false
theorem nrm_pos {ys : List Nat} (hb : Nrm ys) (hl : ys ≠ []) : 0 < val ys := by
  rcases Nat.eq_zero_or_pos (val ys) with h | h
  · exact absurd (val_zero_of hb h) hl
  · exact h
/-- how two whole numbers lie, as -1, 0, 1 -/
def cmpI (x y : Int) : Int := if x < y then -1 else if y < x then 1 else 0
end Go.Proofs.Ytpcpahgflkjnaaa
