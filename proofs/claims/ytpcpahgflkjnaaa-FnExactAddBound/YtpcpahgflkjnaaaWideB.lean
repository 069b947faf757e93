/- Proved: contracts of the model's sum of whole numbers of two signs. -/
import Derived.Test.YtpcpahgflkjnaaaWide
namespace Go.Proofs.Ytpcpahgflkjnaaa
open Go.ChangeShapes Go.WideShapes Go.ChangeAt Go.RowKit
open M2
set_option linter.unusedVariables false
set_option linter.unusedSimpArgs false
end Go.Proofs.Ytpcpahgflkjnaaa
