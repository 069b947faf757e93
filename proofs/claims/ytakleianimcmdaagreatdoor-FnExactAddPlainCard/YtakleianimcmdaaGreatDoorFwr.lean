/- Proved: the two drawn regions of the program's forward. -/
import Derived.Test.YtakleianimcmdaaGreatDoorPows
import Derived.Test.YtakleianimcmdaaGreatDoorSlB
import Derived.BigRegion
import Derived.Deep.RegionHeld3
namespace Go.Proofs.YtakleianimcmdaaGreatDoor
open Go.ChangeShapes Go.WideShapes Go.ChangeAt Go.RowKit
set_option linter.unusedVariables false
set_option linter.unusedSimpArgs false
theorem Pw.drw {w : World} {g : Nat} {ls : List Nat} (h : Pw w g ls) : Pw w.drew g ls := ⟨h.blk, h.len⟩
end Go.Proofs.YtakleianimcmdaaGreatDoor
