/- Proved: rows times a number, as the model makes them. -/
import Derived.Test.YtfgooclnohnkmaaGreatDoorSbn
namespace Go.Proofs.YtfgooclnohnkmaaGreatDoor
open Go.ChangeShapes Go.WideShapes Go.ChangeAt Go.RowKit
open M1
set_option linter.unusedVariables false
set_option linter.unusedSimpArgs false
def mulF (m : Int → Int) (p x y : Int) : Int := x * m p % p
end Go.Proofs.YtfgooclnohnkmaaGreatDoor
