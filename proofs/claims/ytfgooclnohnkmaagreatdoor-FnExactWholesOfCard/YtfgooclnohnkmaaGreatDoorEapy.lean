/- Proved: the program's eachPair where both rows are good. -/
import Derived.Test.YtfgooclnohnkmaaGreatDoorEapn
namespace Go.Proofs.YtfgooclnohnkmaaGreatDoor
open Go.ChangeShapes Go.WideShapes Go.ChangeAt Go.RowKit
open M1
set_option linter.unusedVariables false
set_option linter.unusedSimpArgs false
end Go.Proofs.YtfgooclnohnkmaaGreatDoor
