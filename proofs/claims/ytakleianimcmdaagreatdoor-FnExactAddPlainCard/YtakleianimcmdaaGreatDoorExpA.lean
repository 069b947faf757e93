/- Proved: what the model answers, as functions of the numbers: sums and products of whole numbers. -/
import Derived.Test.YtakleianimcmdaaGreatDoorP02
import Derived.Test.YtakleianimcmdaaGreatDoorP00
import Derived.Deep.RegionLawGrows
namespace Go.Proofs.YtakleianimcmdaaGreatDoor
open Go.ChangeShapes Go.WideShapes Go.ChangeAt Go.RowKit
open M2
set_option linter.unusedVariables false
set_option linter.unusedSimpArgs false
def nat (xs : List Int) : List Nat := xs.map Int.toNat
theorem nat_len (xs : List Int) : (nat xs).length = xs.length := by simp [nat]
theorem nat_get (xs : List Int) (j : Nat) : (nat xs).getD j 0 = (xs.getD j 0).toNat := by
  simp only [nat, List.getD, List.getElem?_map]
  cases xs[j]? <;> rfl
theorem toI_nat {xs : List Int} (h : ∀ j, j < xs.length → 0 ≤ xs.getD j 0) : toI (nat xs) = xs := by
  apply List.ext_getElem
  · simp [toI, nat]
  · intro i h1 h2
    have := h i h2
    simp only [toI, nat, List.map_map, List.getElem_map, Function.comp]
    have e : xs.getD i 0 = xs[i] := by simp [List.getD, h2]
    rw [e] at this
    omega
theorem good_gw {n : Bool} {xs : List Int} (h : Good n xs) : toI (nat xs) = xs ∧ Gw n (nat xs) ∧ (nat xs).length ≤ 40 := by
  have hr : ∀ j, j < xs.length → 0 ≤ xs.getD j 0 := fun j hj => (h.2.2 j hj).1.1
  refine ⟨toI_nat hr, ⟨⟨?_, ?_⟩, ?_⟩, by rw [nat_len]; exact h.1⟩
  · intro x hx
    obtain ⟨j, hj, e⟩ := List.getElem_of_mem hx
    rw [nat_len] at hj
    have h2 := (h.2.2 j hj).1
    have h3 := nat_get xs j
    have e2 : (nat xs).getD j 0 = x := by rw [← e]; simp [List.getD, nat_len, hj]
    rw [e2] at h3
    unfold LB
    omega
  · intro hne h0
    have hl : 0 < xs.length := by
      rcases Nat.eq_zero_or_pos xs.length with h1 | h1
      · exact absurd (List.length_eq_zero_iff.1 (by rw [nat_len]; exact h1)) hne
      · exact h1
    rw [List.getLast_eq_getElem] at h0
    have hj : xs.length - 1 < xs.length := by omega
    have h2 := h.2.2 (xs.length - 1) hj
    have h3 := nat_get xs (xs.length - 1)
    have e2 : (nat xs).getD (xs.length - 1) 0 = 0 := by
      rw [← h0]
      simp [List.getD, nat_len, hj]
    rw [e2] at h3
    exact h2.2 ⟨by have := h2.1; omega, by omega⟩
  · intro hn he
    have : xs.length = 0 := by rw [← nat_len, he]; rfl
    exact h.2.1 ⟨this, hn⟩
end Go.Proofs.YtakleianimcmdaaGreatDoor
