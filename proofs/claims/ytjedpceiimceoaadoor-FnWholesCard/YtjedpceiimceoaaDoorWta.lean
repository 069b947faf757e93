/- Proved: the digits of a number, cut in groups: those of the quotient, then those of what is left with noughts ahead. -/
import Derived.Lib.ItoaNum
namespace Go.Proofs.YtjedpceiimceoaaDoor
open Go.Lib
set_option linter.unusedVariables false
set_option linter.unusedSimpArgs false
def padD : Nat → Nat → List UInt8
  | 0, _ => []
  | k + 1, r => padD k (r / 10) ++ [UInt8.ofNat (48 + r % 10)]
theorem dec_lt {u : Nat} (h : u < 10) : decDigits u = [UInt8.ofNat (48 + u)] := by rw [decDigits, dif_pos h]
theorem dec_ge {u : Nat} (h : ¬ u < 10) : decDigits u = decDigits (u / 10) ++ [UInt8.ofNat (48 + u % 10)] := by
  conv => lhs; rw [decDigits, dif_neg h]
theorem dec_split : ∀ (k n : Nat), 0 < n / 10 ^ k → decDigits n = decDigits (n / 10 ^ k) ++ padD k n
  | 0, n, h => by simp [padD]
  | k + 1, n, h => by
    have e : n / 10 ^ (k + 1) = n / 10 / 10 ^ k := by rw [Nat.pow_succ, Nat.mul_comm, Nat.div_div_eq_div_mul]
    have h10 : ¬ n < 10 := by
      intro hn
      have : n / 10 = 0 := Nat.div_eq_of_lt hn
      rw [e, this] at h
      simp at h
    rw [dec_ge h10, dec_split k (n / 10) (by rw [← e]; exact h), e]
    simp [padD]
theorem padD_mod : ∀ (k n : Nat), padD k (n % 10 ^ k) = padD k n
  | 0, n => rfl
  | k + 1, n => by
    have e1 : n % 10 ^ (k + 1) / 10 = n / 10 % 10 ^ k := by
      rw [Nat.pow_succ, Nat.mul_comm (10 ^ k) 10, Nat.mod_mul_right_div_self]
    have e2 : n % 10 ^ (k + 1) % 10 = n % 10 := by
      rw [Nat.pow_succ, Nat.mul_comm (10 ^ k) 10, Nat.mod_mul_right_mod]
    simp only [padD]
    rw [e1, e2, padD_mod k]
theorem dec_len_pos (n : Nat) : 0 < (decDigits n).length := by
  by_cases h : n < 10
  · rw [dec_lt h]; simp
  · rw [dec_ge h]; simp
theorem dec_len : ∀ (k n : Nat), n < 10 ^ (k + 1) → (decDigits n).length ≤ k + 1
  | 0, n, h => by
    rw [dec_lt (by simpa using h)]
    simp
  | k + 1, n, h => by
    by_cases h10 : n < 10
    · rw [dec_lt h10]; simp
    · rw [dec_ge h10]
      have := dec_len k (n / 10) (by rw [Nat.pow_succ] at h; omega)
      simp
      omega
theorem zeros_snoc (k : Nat) (l : List UInt8) (x : UInt8) : (List.replicate k 48 ++ l) ++ [x] = List.replicate k 48 ++ (l ++ [x]) := by simp
theorem padD_eq : ∀ (k r : Nat), r < 10 ^ (k + 1) → padD (k + 1) r = List.replicate (k + 1 - (decDigits r).length) (48 : UInt8) ++ decDigits r
  | 0, r, h => by
    have h10 : r < 10 := by simpa using h
    rw [dec_lt h10]
    simp [padD, Nat.mod_eq_of_lt h10]
  | k + 1, r, h => by
    have hr : r / 10 < 10 ^ (k + 1) := by rw [Nat.pow_succ] at h; omega
    rw [padD, padD_eq k (r / 10) hr, zeros_snoc]
    by_cases h10 : r < 10
    · have e0 : r / 10 = 0 := Nat.div_eq_of_lt h10
      rw [e0, dec_lt (by omega : 0 < 10), dec_lt h10, Nat.mod_eq_of_lt h10]
      simp only [List.length_singleton]
      have e2 : k + 1 + 1 - 1 = (k + 1 - 1) + 1 := by omega
      rw [e2, List.replicate_succ']
      simp
    · rw [dec_ge h10]
      have l1 := dec_len k (r / 10) hr
      have e : k + 1 + 1 - (decDigits (r / 10) ++ [UInt8.ofNat (48 + r % 10)]).length = k + 1 - (decDigits (r / 10)).length := by
        simp
      rw [e]
theorem dec_group (k n : Nat) (h : 0 < n / 10 ^ (k + 1)) : decDigits n = decDigits (n / 10 ^ (k + 1)) ++ (List.replicate (k + 1 - (decDigits (n % 10 ^ (k + 1))).length) (48 : UInt8) ++ decDigits (n % 10 ^ (k + 1))) := by
  rw [← padD_eq k _ (Nat.mod_lt _ (Nat.pow_pos (by omega))), padD_mod]
  exact dec_split (k + 1) n h
theorem dec_last (k n : Nat) (h : n / 10 ^ k = 0) : decDigits (n % 10 ^ k) = decDigits n := by
  have hp : 0 < 10 ^ k := Nat.pow_pos (by omega)
  rw [Nat.mod_eq_of_lt]
  have := Nat.div_add_mod n (10 ^ k)
  rw [h] at this
  have h2 := Nat.mod_lt n hp
  omega
end Go.Proofs.YtjedpceiimceoaaDoor
