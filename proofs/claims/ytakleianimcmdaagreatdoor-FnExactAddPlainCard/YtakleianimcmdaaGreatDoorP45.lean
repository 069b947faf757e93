/- Proved: several texts in one: what each proves is said ahead of it. -/
import Derived.Test.YtakleianimcmdaaGreatDoorSlB
import Derived.BigRegion
import Derived.Test.YtakleianimcmdaaGreatDoorP12
import Derived.Test.YtakleianimcmdaaGreatDoorP01
/- Proved: splitting again and again gives a polynomial's values at the points; no program in sight but its lists. -/
namespace Go.Proofs.YtakleianimcmdaaGreatDoor
set_option linter.unusedVariables false
def Cg (P a b : Int) : Prop := ∃ c : Int, a = b + P * c
theorem Cg.refl (P a : Int) : Cg P a a := ⟨0, by simp⟩
theorem Cg.symm {P a b : Int} (h : Cg P a b) : Cg P b a := by
  obtain ⟨c, h⟩ := h
  exact ⟨-c, by rw [h]; grind⟩
theorem Cg.trans {P a b c : Int} (h : Cg P a b) (k : Cg P b c) : Cg P a c := by
  obtain ⟨x, h⟩ := h
  obtain ⟨y, k⟩ := k
  exact ⟨x + y, by rw [h, k]; grind⟩
theorem Cg.add {P a b c d : Int} (h : Cg P a b) (k : Cg P c d) : Cg P (a + c) (b + d) := by
  obtain ⟨x, h⟩ := h
  obtain ⟨y, k⟩ := k
  exact ⟨x + y, by rw [h, k]; grind⟩
theorem Cg.mul {P a b c d : Int} (h : Cg P a b) (k : Cg P c d) : Cg P (a * c) (b * d) := by
  obtain ⟨x, h⟩ := h
  obtain ⟨y, k⟩ := k
  exact ⟨x * d + b * y + P * x * y, by rw [h, k]; grind⟩
theorem Cg.neg {P a b : Int} (h : Cg P a b) : Cg P (-a) (-b) := by
  obtain ⟨x, h⟩ := h
  exact ⟨-x, by rw [h]; grind⟩
end Go.Proofs.YtakleianimcmdaaGreatDoor
/- Proved: after all steps of splitting there stands at each place the polynomial's value at the place's point. -/
namespace Go.Proofs.YtakleianimcmdaaGreatDoor
set_option linter.unusedVariables false
theorem dv {m D J : Nat} (h1 : J * D ≤ m) (h2 : m < J * D + D) : m / D = J := by
  have hD : 0 < D := by omega
  apply Nat.div_eq_of_lt_le
  · exact h1
  · rw [Nat.add_mul, Nat.one_mul]; exact h2
end Go.Proofs.YtakleianimcmdaaGreatDoor
