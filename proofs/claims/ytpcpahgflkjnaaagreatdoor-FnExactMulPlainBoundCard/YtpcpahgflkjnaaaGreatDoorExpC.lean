/- Proved: what the model answers, as functions of the numbers: comparing, what is left by a word, the whole number of a word. -/
import Derived.Test.YtpcpahgflkjnaaaGreatDoorB22
import Derived.Test.YtpcpahgflkjnaaaGreatDoorB02
import Derived.Test.YtpcpahgflkjnaaaGreatDoorB00
import Derived.Deep.RegionHeld3
namespace Go.Proofs.YtpcpahgflkjnaaaGreatDoor
open Go.ChangeShapes Go.WideShapes Go.ChangeAt Go.RowKit
open M2
set_option linter.unusedVariables false
set_option linter.unusedSimpArgs false
def modW (n : Bool) (xs : List Int) (k : Int) : Int := if Good n xs ∧ (2 ≤ k ∧ k ≤ 268435456) then sv n (nat xs) % k else 0
end Go.Proofs.YtpcpahgflkjnaaaGreatDoor
