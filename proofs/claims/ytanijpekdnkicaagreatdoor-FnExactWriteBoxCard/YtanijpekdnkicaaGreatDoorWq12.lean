/- Proved: several texts in one: what each proves is said ahead of it. -/
import Derived.Test.YtanijpekdnkicaaGreatDoorWq10
import Derived.RegionTactic
import Derived.ChangeAlike
import Derived.Deep.RegionLaw
import Derived.Deep.AppendLies
/- Proved: rows of the call's own that are filled one by one, rows of numbers read, rows appended to. -/
namespace Go.Proofs.YtanijpekdnkicaaGreatDoor
open Go.ChangeShapes Go.WideShapes Go.ChangeAt Go.RowKit
set_option linter.unusedVariables false
theorem toZ_len (xs : List Nat) : (toZ xs).length = xs.length := by simp
theorem toZ_get (xs : List Nat) (j : Nat) : (toZ xs).getD j 0 = ((xs.getD j 0 : Nat) : Int) := by
  simp [List.getD, List.getElem?_map]
  cases xs[j]? <;> rfl
end Go.Proofs.YtanijpekdnkicaaGreatDoor
/- Proved: how many noughts a ring's size has, the exponents of its points and their places, by the program and by the model. -/
namespace Go.Proofs.YtanijpekdnkicaaGreatDoor
open Go.ChangeShapes Go.WideShapes Go.ChangeAt Go.RowKit
set_option linter.unusedVariables false
set_option linter.unusedSimpArgs false
def lg (N : Nat) : Nat := if N = 2 then 1 else if N = 4 then 2 else if N = 8 then 3 else 4
end Go.Proofs.YtanijpekdnkicaaGreatDoor
