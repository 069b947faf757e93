/- Proved: a row copied by the program, and its changes madeAhead and madeBack. -/
import Derived.Test.YtakleianimcmdaaGreatDoorCopy
import Derived.Test.YtakleianimcmdaaGreatDoorM23
import Derived.Test.YtakleianimcmdaaGreatDoorM12
import Derived.Test.YtakleianimcmdaaGreatDoorM18
import Derived.Test.YtakleianimcmdaaGreatDoorAdl2
namespace Go.Proofs.YtakleianimcmdaaGreatDoor
open Go.ChangeShapes Go.WideShapes Go.ChangeAt Go.RowKit
set_option linter.unusedVariables false
set_option linter.unusedSimpArgs false
theorem own_some {W : World} {base : Nat} {v : Value} {zs : List Int} (h : Own W base v zs) (h0 : 0 < zs.length) : ∃ g rc, v = .slice (some ⟨g, 0, none⟩) zs.length rc ∧ zs.length ≤ rc := by
  rcases h.2 with ⟨e, hn⟩ | ⟨_, _, _, e, _, _, hn, _⟩
  · omega
  · exact ⟨_, _, e, hn⟩
end Go.Proofs.YtakleianimcmdaaGreatDoor
