/- Proved: what the model answers, as functions of the numbers: comparing, what is left by a word, the whole number of a word. -/
import Derived.Test.YtakleianimcmdaaGreatDoorExpA
import Derived.Test.YtakleianimcmdaaGreatDoorP02
import Derived.Deep.RegionHeld3
namespace Go.Proofs.YtakleianimcmdaaGreatDoor
open Go.ChangeShapes Go.WideShapes Go.ChangeAt Go.RowKit
open M2
set_option linter.unusedVariables false
set_option linter.unusedSimpArgs false
def modW (n : Bool) (xs : List Int) (k : Int) : Int := if Good n xs ∧ (2 ≤ k ∧ k ≤ 268435456) then sv n (nat xs) % k else 0
end Go.Proofs.YtakleianimcmdaaGreatDoor
