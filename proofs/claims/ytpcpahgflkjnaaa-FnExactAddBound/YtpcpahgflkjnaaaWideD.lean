/- Proved: contracts of the model's quotients down, of the nearest quotient, of words and of what is left, by what the numbers are worth. -/
import Derived.Test.YtpcpahgflkjnaaaWideC
namespace Go.Proofs.Ytpcpahgflkjnaaa
open Go.ChangeShapes Go.WideShapes Go.ChangeAt Go.RowKit
open M2
set_option linter.unusedVariables false
set_option linter.unusedSimpArgs false
theorem one_row (w : World) (t : TypeId) : Row (w.alloc (.cells #[.int .i64 1] t)) (.slice (some ⟨w.heap.size, 0, none⟩) 1 1) (toI [1]) :=
  Or.inr ⟨w.heap.size, 0, 1, rfl, by simp, by simp [toI], fun j hj => by
    have : j = 0 := by simp [toI] at hj; omega
    subst this
    rw [cell_at _ _ _ _ _ (by simp)]
    rfl⟩
theorem div_unique (a : Int) (b : Nat) (q : Int) (r : Nat) (hr : r < b) (h : (r : Int) + (b : Int) * q = a) : a / (b : Int) = q ∧ a % (b : Int) = (r : Int) :=
  (Int.ediv_emod_unique (by omega)).2 ⟨h, by omega, by omega⟩
theorem down_pos_eq (xs : List Nat) (D : Nat) (hD : 0 < D) : false = ng (sv false xs / (D : Int)) ∧ dig (val xs / D) = dg (sv false xs / (D : Int)) ∧ val xs % D = (sv false xs % (D : Int)).toNat := by
  obtain ⟨e1, e2⟩ := div_unique (sv false xs) D ((val xs / D : Nat) : Int) (val xs % D) (Nat.mod_lt _ hD) (by
    have := Nat.mod_add_div (val xs) D
    unfold sv
    simp only [Bool.false_eq_true, if_false]
    rw [← Int.natCast_mul]
    omega)
  rw [e1, e2]
  refine ⟨?_, ?_, (Int.toNat_natCast _).symm⟩
  · generalize val xs / D = k
    simp only [ng]; symm; apply decide_eq_false; omega
  · simp only [dg, Int.natAbs_natCast]
theorem down_exact_eq (xs : List Nat) (D : Nat) (hD : 0 < D) (h0 : val xs % D = 0) : decide (0 < (dig (val xs / D)).length) = ng (sv true xs / (D : Int)) ∧ dig (val xs / D) = dg (sv true xs / (D : Int)) ∧ 0 = (sv true xs % (D : Int)).toNat := by
  obtain ⟨e1, e2⟩ := div_unique (sv true xs) D (-((val xs / D : Nat) : Int)) 0 hD (by
    have := Nat.mod_add_div (val xs) D
    rw [h0] at this
    unfold sv
    simp only [if_true]
    rw [Int.mul_neg, ← Int.natCast_mul]
    omega)
  rw [e1, e2]
  refine ⟨?_, by simp only [dg, Int.natAbs_neg, Int.natAbs_natCast], by simp⟩
  unfold ng
  rw [decide_eq_decide]
  constructor
  · intro h
    rcases Nat.eq_zero_or_pos (val xs / D) with h1 | h1
    · rw [h1, dig_zero] at h; simp at h
    · omega
  · intro h
    have := dig_ne (n := val xs / D) (by omega)
    rcases Nat.eq_zero_or_pos (dig (val xs / D)).length with h2 | h2
    · exact absurd (List.length_eq_zero_iff.1 h2) this
    · exact h2
theorem down_up_eq (xs : List Nat) (D : Nat) (hD : 0 < D) (h0 : 0 < val xs % D) : true = ng (sv true xs / (D : Int)) ∧ dig (val xs / D + 1) = dg (sv true xs / (D : Int)) ∧ D - val xs % D = (sv true xs % (D : Int)).toNat := by
  have hm := Nat.mod_lt (val xs) hD
  obtain ⟨e1, e2⟩ := div_unique (sv true xs) D (-((val xs / D + 1 : Nat) : Int)) (D - val xs % D) (by omega) (by
    have := Nat.mod_add_div (val xs) D
    have e : D * (val xs / D + 1) = D * (val xs / D) + D := by rw [Nat.mul_add, Nat.mul_one]
    unfold sv
    simp only [if_true]
    rw [Int.mul_neg, ← Int.natCast_mul, e]
    omega)
  rw [e1, e2]
  refine ⟨?_, by simp only [dg, Int.natAbs_neg, Int.natAbs_natCast], (Int.toNat_natCast _).symm⟩
  generalize val xs / D = k
  simp only [ng]; symm; apply decide_eq_true; omega
end Go.Proofs.Ytpcpahgflkjnaaa
