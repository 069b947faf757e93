/- Proved: the walk of the statement on TurnRing, under the contracts of the model's and of the program's function. -/
import Derived.Test.YtlnfjgdjhjkioaaDoorKB
namespace Go.Proofs.YtlnfjgdjhjkioaaDoor
open Go.ChangeShapes Go.WideShapes Go.ChangeAt Go.RowKit
open M1
set_option linter.unusedVariables false
set_option linter.unusedSimpArgs false
end Go.Proofs.YtlnfjgdjhjkioaaDoor
