/- Proved: rows of the call's own that are filled one by one, rows of numbers read, rows appended to. -/
import Derived.Test.YtakleianimcmdaaDoorZ13
import Derived.RegionTactic
import Derived.ChangeAlike
import Derived.Deep.RegionLaw
import Derived.Deep.AppendLies
namespace Go.Proofs.YtakleianimcmdaaDoor
open Go.ChangeShapes Go.WideShapes Go.ChangeAt Go.RowKit
set_option linter.unusedVariables false
theorem toZ_len (xs : List Nat) : (toZ xs).length = xs.length := by simp
theorem toZ_get (xs : List Nat) (j : Nat) : (toZ xs).getD j 0 = ((xs.getD j 0 : Nat) : Int) := by
  simp [List.getD, List.getElem?_map]
  cases xs[j]? <;> rfl
end Go.Proofs.YtakleianimcmdaaDoor
