/- Proved: what the model answers: how many bits a whole number has. -/
import Derived.Test.YtfebajajejepbaaGreatDoorExpA
import Derived.Test.YtfebajajejepbaaGreatDoorAp01
import Derived.Lib.BitFns
namespace Go.Proofs.YtfebajajejepbaaGreatDoor
open Go.ChangeShapes Go.WideShapes Go.ChangeAt Go.RowKit
open M2
set_option linter.unusedVariables false
set_option linter.unusedSimpArgs false
theorem bitLen_lt : ∀ (k x : Nat), x < 2 ^ k → k ≤ 64 → Lib.bitLen x ≤ k ∧ x < 2 ^ Lib.bitLen x
  | 0, x, h, _ => by
    have : x = 0 := by simpa using h
    subst this; decide
  | k + 1, x, h, hk => by
    by_cases h0 : x = 0
    · subst h0; exact ⟨by have : Lib.bitLen 0 = 0 := by decide
                          omega, by decide⟩
    · have hp : 2 ^ (k + 1) ≤ 2 ^ 64 := Nat.pow_le_pow_right (by omega) hk
      rw [Lib.bitLen_half x h0 (by omega)]
      rw [Nat.pow_succ] at h
      obtain ⟨i1, i2⟩ := bitLen_lt k (x / 2) (by omega) (by omega)
      refine ⟨by omega, ?_⟩
      rw [Nat.pow_add]
      omega
theorem bitLen_p (p : Nat) (h : p < 268435456) : Lib.bitLen p ≤ 28 ∧ p < 2 ^ Lib.bitLen p := bitLen_lt 28 p (by omega) (by omega)
end Go.Proofs.YtfebajajejepbaaGreatDoor
