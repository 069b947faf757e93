/- Proved: rows added, as the model makes them. -/
import Derived.Test.YtakleianimcmdaaGreatDoorM17
import Derived.Test.YtakleianimcmdaaGreatDoorM23
import Derived.Deep.AppendLies
import Derived.Maps.AppendAt
namespace Go.Proofs.YtakleianimcmdaaGreatDoor
open Go.ChangeShapes Go.WideShapes Go.ChangeAt Go.RowKit
open M1
set_option linter.unusedVariables false
set_option linter.unusedSimpArgs false
theorem one_sl (a : Option Addr) (n c : Nat) : ∀ u ∈ [Value.slice a n c], u.oneCell' = true := by simp [Value.oneCell']
end Go.Proofs.YtakleianimcmdaaGreatDoor
