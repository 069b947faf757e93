/- Proved: what the model's product answers. -/
import Derived.Test.YtpcpahgflkjnaaaExpA
namespace Go.Proofs.Ytpcpahgflkjnaaa
open Go.ChangeShapes Go.WideShapes Go.ChangeAt Go.RowKit
open M2
set_option linter.unusedVariables false
set_option linter.unusedSimpArgs false
/-- what MulWholes answers -/
def mulW (n m : Bool) (xs ys : List Int) : Bool × List Nat × Bool := if Good n xs ∧ Good m ys then told (sv n (nat xs) * sv m (nat ys)) else nought
end Go.Proofs.Ytpcpahgflkjnaaa
