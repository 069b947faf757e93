/- Proved: contracts of the model's functions on whole numbers of any length. -/
import Derived.Test.YtpcpahgflkjnaaaLimbsG
import Derived.Deep.RegionWith
namespace Go.Proofs.Ytpcpahgflkjnaaa
open Go.ChangeShapes Go.WideShapes Go.ChangeAt Go.RowKit
open M2
set_option linter.unusedVariables false
set_option linter.unusedSimpArgs false
/-- what a sign and limbs are worth -/
def sv (neg : Bool) (xs : List Nat) : Int := if neg then -(val xs : Int) else (val xs : Int)
/-- a sign and limbs as they should be -/
def Gw (neg : Bool) (xs : List Nat) : Prop := Nrm xs ∧ (neg = true → xs ≠ [])
def ng (z : Int) : Bool := decide (z < 0)
def dg (z : Int) : List Nat := dig z.natAbs
theorem Gw.pos {neg : Bool} {xs : List Nat} (h : Gw neg xs) (hn : neg = true) : 0 < val xs := by
  rcases Nat.eq_zero_or_pos (val xs) with h0 | h0
  · exact absurd (val_zero_of h.1 h0) (h.2 hn)
  · exact h0
theorem gw_of (z : Int) : Gw (ng z) (dg z) := by
  refine ⟨dig_nrm _, fun h => dig_ne ?_⟩
  simp [ng] at h
  omega
theorem sv_of (z : Int) : sv (ng z) (dg z) = z := by
  unfold sv ng dg
  rw [val_dig]
  by_cases h : z < 0
  · simp [h]; omega
  · simp [h]; omega
theorem of_sv {neg : Bool} {xs : List Nat} (h : Gw neg xs) : ng (sv neg xs) = neg ∧ dg (sv neg xs) = xs := by
  cases neg
  · unfold sv ng dg
    simp
    exact dig_val h.1
  · have := h.pos rfl
    unfold sv ng dg
    simp
    exact ⟨by omega, dig_val h.1⟩
end Go.Proofs.Ytpcpahgflkjnaaa
