/- Proved: contracts of the model's sums, products and quotients of whole numbers, by what the numbers are worth. -/
import Derived.Test.YtpcpahgflkjnaaaWideB
namespace Go.Proofs.Ytpcpahgflkjnaaa
open Go.ChangeShapes Go.WideShapes Go.ChangeAt Go.RowKit
open M2
set_option linter.unusedVariables false
set_option linter.unusedSimpArgs false
theorem ng_plus (n : Bool) (xs ys : List Nat) (ha : Gw n xs) (hb : Gw n ys) : n = ng (sv n xs + sv n ys) ∧ dig (val xs + val ys) = dg (sv n xs + sv n ys) := by
  cases n
  · unfold sv ng dg
    refine ⟨by simp; omega, ?_⟩
    congr 1
  · have := ha.pos rfl
    unfold sv ng dg
    refine ⟨by simp; omega, ?_⟩
    congr 1
    simp
    omega
theorem ng_more (n m : Bool) (xs ys : List Nat) (h : (n == m) = false) (hc : val ys < val xs) : n = ng (sv n xs + sv m ys) ∧ dig (val xs - val ys) = dg (sv n xs + sv m ys) := by
  cases n <;> cases m <;> simp at h
  · unfold sv ng dg
    refine ⟨by simp; omega, ?_⟩
    congr 1
    simp
    omega
  · unfold sv ng dg
    refine ⟨by simp; omega, ?_⟩
    congr 1
    simp
    omega
theorem ng_less (n m : Bool) (xs ys : List Nat) (h : (n == m) = false) (hc : val xs < val ys) : m = ng (sv n xs + sv m ys) ∧ dig (val ys - val xs) = dg (sv n xs + sv m ys) := by
  have := ng_more m n ys xs (by cases n <;> cases m <;> simp_all) hc
  rw [Int.add_comm] at this
  exact this
theorem ng_zero (n m : Bool) (xs ys : List Nat) (h : (n == m) = false) (hc : val xs = val ys) : false = ng (sv n xs + sv m ys) ∧ dig 0 = dg (sv n xs + sv m ys) := by
  have e : sv n xs + sv m ys = 0 := by
    cases n <;> cases m <;> simp at h <;> unfold sv <;> simp <;> omega
  rw [e]
  exact ⟨rfl, rfl⟩
theorem ng_times (n m : Bool) (xs ys : List Nat) : (decide (0 < (dig (val xs * val ys)).length) && (n != m)) = ng (sv n xs * sv m ys) ∧ dig (val xs * val ys) = dg (sv n xs * sv m ys) := by
  have e : (sv n xs * sv m ys).natAbs = val xs * val ys := by
    rw [Int.natAbs_mul]
    congr 1
    · cases n <;> simp [sv]
    · cases m <;> simp [sv]
  have e2 : dig (val xs * val ys) = dg (sv n xs * sv m ys) := by unfold dg; rw [e]
  refine ⟨?_, e2⟩
  have hl : 0 < (dig (val xs * val ys)).length ↔ 0 < val xs * val ys := by
    constructor
    · intro h
      rcases Nat.eq_zero_or_pos (val xs * val ys) with h0 | h0
      · rw [h0, dig_zero] at h; simp at h
      · exact h0
    · intro h
      have := dig_ne (n := val xs * val ys) (by omega)
      rcases Nat.eq_zero_or_pos (dig (val xs * val ys)).length with h0 | h0
      · exact absurd (List.length_eq_zero_iff.1 h0) this
      · exact h0
  have hp : (0 : Int) ≤ (val xs : Int) * (val ys : Int) := Int.mul_nonneg (by omega) (by omega)
  have hp2 : ((val xs * val ys : Nat) : Int) = (val xs : Int) * (val ys : Int) := by simp
  have hd : decide (0 < (dig (val xs * val ys)).length) = decide (0 < val xs * val ys) := by rw [decide_eq_decide]; exact hl
  rw [hd]
  cases n <;> cases m <;> simp only [sv, ng, Bool.false_eq_true, if_false, if_true, Int.neg_mul, Int.mul_neg, Int.neg_neg, bne_self_eq_false, Bool.and_false, Bool.false_bne, Bool.true_bne, Bool.not_false, Bool.and_true] <;> rw [← hp2]
  · simp; exact hp
  · rw [decide_eq_decide]; omega
  · rw [decide_eq_decide]; omega
  · simp; exact hp
end Go.Proofs.Ytpcpahgflkjnaaa
