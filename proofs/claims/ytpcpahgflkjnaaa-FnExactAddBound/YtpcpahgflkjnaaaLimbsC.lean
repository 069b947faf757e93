/- Proved: the contract of the model's function that takes limbs away from limbs. -/
import Derived.Test.YtpcpahgflkjnaaaLimbsB
namespace Go.Proofs.Ytpcpahgflkjnaaa
open Go.ChangeShapes Go.WideShapes Go.ChangeAt Go.RowKit
open M2
set_option linter.unusedVariables false
set_option linter.unusedSimpArgs false
end Go.Proofs.Ytpcpahgflkjnaaa
