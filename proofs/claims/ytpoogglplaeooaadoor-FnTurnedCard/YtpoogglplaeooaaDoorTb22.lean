/- Proved: several texts in one: what each proves is said ahead of it. -/
import Derived.Test.YtpoogglplaeooaaDoorTb19
import Derived.Test.YtpoogglplaeooaaDoorTb21
import Derived.Test.YtpoogglplaeooaaDoorTb04
/- Proved: the contract of the program's product in a ring: it is the model's. -/
namespace Go.Proofs.YtpoogglplaeooaaDoor
open Go.ChangeShapes Go.WideShapes Go.ChangeAt Go.RowKit
set_option linter.unusedVariables false
set_option linter.unusedSimpArgs false
theorem fwdS_lt (P N R : Nat) (xs : List Nat) (hP : 0 < P) : ∀ z ∈ fwdS P N R xs, z < P := by
  intro z hz
  unfold fwdS at hz
  obtain ⟨k, _, rfl⟩ := List.mem_map.1 hz
  exact horS_lt P _ xs N hP N
end Go.Proofs.YtpoogglplaeooaaDoor
