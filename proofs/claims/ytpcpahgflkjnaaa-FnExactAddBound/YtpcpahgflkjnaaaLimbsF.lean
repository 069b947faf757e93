/- Proved: the contract of the model's division of limbs by one limb. -/
import Derived.Test.YtpcpahgflkjnaaaLimbsE
import Derived.Test.YtpcpahgflkjnaaaMtwod
namespace Go.Proofs.Ytpcpahgflkjnaaa
open Go.ChangeShapes Go.WideShapes Go.ChangeAt Go.RowKit
open M2
set_option linter.unusedVariables false
set_option linter.unusedSimpArgs false
end Go.Proofs.Ytpcpahgflkjnaaa
