/- Proved: the two drawn regions of the model's product in a ring: a number is added to one place, or taken away. -/
import Derived.Test.YtakleianimcmdaaDoorZ05
import Derived.KernelRfl
namespace Go.Proofs.YtakleianimcmdaaDoor
open Go.ChangeShapes Go.WideShapes Go.ChangeAt Go.RowKit
set_option linter.unusedVariables false
set_option linter.unusedSimpArgs false
def regionAtmul (n : Nat) : Code → Option Code
  | .region i ops b => if i = n then some (.region i ops b) else none
  | .seq a b => match regionAtmul n a with
    | some c => some c
    | none => regionAtmul n b
  | .block _ c => regionAtmul n c
  | .loop c => regionAtmul n c
  | .cond _ a b => match regionAtmul n a with
    | some c => some c
    | none => regionAtmul n b
  | _ => none
end Go.Proofs.YtakleianimcmdaaDoor
