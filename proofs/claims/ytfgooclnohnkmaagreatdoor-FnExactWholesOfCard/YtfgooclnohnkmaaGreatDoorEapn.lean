/- Proved: the program's eachPair. -/
import Derived.Test.YtfgooclnohnkmaaGreatDoorMks
import Derived.Test.YtfgooclnohnkmaaGreatDoorAdn
import Derived.Test.YtfgooclnohnkmaaGreatDoorRRs2
import Derived.Deep.RegionHeld3
namespace Go.Proofs.YtfgooclnohnkmaaGreatDoor
open Go.ChangeShapes Go.WideShapes Go.ChangeAt Go.RowKit
open M1
set_option linter.unusedVariables false
set_option linter.unusedSimpArgs false
end Go.Proofs.YtfgooclnohnkmaaGreatDoor
