/- Proved: several texts in one: what each proves is said ahead of it. -/
import Derived.Test.YtpebikjckhcgfaaDoorQ15
import Derived.Test.YtpebikjckhcgfaaDoorQ16
import Derived.Deep.AppendLies
import Derived.Maps.AppendAt
/- Proved: rows added, as the model makes them. -/
namespace Go.Proofs.YtpebikjckhcgfaaDoor
open Go.ChangeShapes Go.WideShapes Go.ChangeAt Go.RowKit
open M1
set_option linter.unusedVariables false
set_option linter.unusedSimpArgs false
theorem one_sl (a : Option Addr) (n c : Nat) : ∀ u ∈ [Value.slice a n c], u.oneCell' = true := by simp [Value.oneCell']
end Go.Proofs.YtpebikjckhcgfaaDoor
