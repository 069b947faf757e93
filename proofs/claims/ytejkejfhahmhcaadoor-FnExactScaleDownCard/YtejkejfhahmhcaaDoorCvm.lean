/- Proved: the mathematics of conversions from one basis to another; no function of the program. -/
import Derived.Test.YtejkejfhahmhcaaDoorCvb
import Derived.Test.YtejkejfhahmhcaaDoorCompS
import Derived.Test.YtejkejfhahmhcaaDoorResI
namespace Go.Proofs.YtejkejfhahmhcaaDoor
open Go.ChangeShapes Go.WideShapes Go.ChangeAt Go.RowKit
open M2
set_option linter.unusedVariables false
set_option linter.unusedSimpArgs false
theorem nat_toI6 (xs : List Nat) : nat (toI xs) = xs := by
  apply List.ext_getElem
  · simp [nat, toI]
  · intro i h1 h2
    simp [nat, toI]
theorem gw_good6 {n : Bool} {xs : List Nat} (h : Nrm xs) (h2 : n = true → xs ≠ []) (hl : xs.length ≤ 40) : Good n (toI xs) := by
  refine ⟨by rw [toI_len]; exact hl, ?_, ?_⟩
  · rintro ⟨h0, hn⟩
    exact h2 hn (List.length_eq_zero_iff.1 (by rw [← toI_len]; exact h0))
  · intro j hj
    rw [toI_len] at hj
    have hm : xs.getD j 0 ∈ xs := by simp [List.getD, hj]
    have hb := h.1 _ hm
    unfold LB at hb
    refine ⟨?_, ?_⟩
    · rw [toI_get]
      omega
    · rw [toI_get, toI_len]
      rintro ⟨h0, h1⟩
      have hne : xs ≠ [] := by rintro rfl; simp at hj
      apply h.2 hne
      rw [List.getLast_eq_getElem]
      have h2 : xs.getD j 0 = 0 := by omega
      have e : xs.length - 1 = j := by omega
      simp only [e]
      rw [← h2]
      simp [List.getD, hj]
theorem foldl_mod (m : Nat) : ∀ (l : List Nat) (a b : Nat), a % m = b % m → l.foldl (fun a p => a * p % m) a % m = l.foldl (fun a p => a * p) b % m
  | [], a, b, h => h
  | p :: l, a, b, h => by
    refine foldl_mod m l _ _ ?_
    rw [Nat.mod_mod, Nat.mul_mod, h, ← Nat.mul_mod]
theorem pm_mod (m : Nat) (l : List Nat) (hm : 2 ≤ m) : pmN m l = prodN l % m := by
  have h : pmN m l % m = prodN l % m := foldl_mod m l 1 1 rfl
  rw [← h]
  exact (Nat.mod_eq_of_lt (pmN_lt m l hm)).symm
theorem sb_mod (m : Nat) (rs ps : List Nat) (hm : 2 ≤ m) : ∀ k, k ≤ ps.length → sbS m ps (yL rs ps) k % m = sumN rs ps k % m
  | 0, _ => rfl
  | k + 1, h => by
    rw [sbS, sumN, yL_get _ _ _ (by omega), pm_mod _ _ hm, Nat.add_mod, sb_mod m rs ps hm k (by omega), Nat.mul_mod, Nat.mod_mod, ← Nat.mul_mod, ← Nat.add_mod, Nat.mul_comm]
theorem plusS_eq (m : Nat) (rs ps : List Nat) (x : Nat) (hm : 2 ≤ m) : plusS m ps (yL rs ps) x = (x + sumN rs ps ps.length) % m := by
  unfold plusS
  rw [sb_mod m rs ps hm _ (Nat.le_refl _), Nat.add_mod, Nat.mod_mod, ← Nat.add_mod]
theorem inv_cases (a m : Nat) : (M1.invM a m = 0 ∧ ∀ i, i < m → a * i % m ≠ 1) ∨ (M1.invM a m < m ∧ a * M1.invM a m % m = 1) := by
  unfold M1.invM
  cases h : (List.range m).find? (fun i => a * i % m == 1) with
  | none =>
    left
    refine ⟨rfl, fun i hi e => ?_⟩
    have := List.find?_eq_none.1 h i (by simpa using hi)
    simp [e] at this
  | some i =>
    right
    have h1 := List.mem_of_find?_eq_some h
    have h2 := List.find?_some h
    simp at h1 h2
    exact ⟨h1, h2⟩
theorem neg_toNat (a m : Nat) (hm : 2 ≤ m) (ha : a < m) : ((-(a : Int)) % (m : Int)).toNat = (m - a) % m := by
  have e : (-(a : Int)) % (m : Int) = ((m - a : Nat) : Int) % (m : Int) := by
    rw [show ((m - a : Nat) : Int) = -(a : Int) + (m : Int) by omega, Int.add_emod_right]
  rw [e, ← Int.natCast_emod, Int.toNat_natCast]
theorem neg_one (a i m : Nat) (hm : 2 ≤ m) (ha : a < m) (hi : i < m) (h : a * i % m = 1) : (m - a) % m * (m - i) % m = 1 := by
  have h3 : (((m - a) % m * (m - i) % m : Nat) : Int) = ((1 : Nat) : Int) := by
    have e1 : (((m - a) % m * (m - i) % m : Nat) : Int) = ((m : Int) - a) * ((m : Int) - i) % m := by
      rw [Int.natCast_emod, Int.natCast_mul, Int.natCast_emod, Int.natCast_sub (by omega), Int.natCast_sub (by omega), Int.mul_emod, Int.emod_emod, ← Int.mul_emod]
    have e2 : ((m : Int) - a) * ((m : Int) - i) = (a : Int) * i + ((m : Int) - a - i) * m := by
      rw [Int.sub_mul, Int.mul_sub, Int.mul_sub, Int.sub_mul, Int.sub_mul, Int.mul_comm (m : Int) i]
      omega
    rw [e1, e2, Int.add_mul_emod_self_right, ← Int.natCast_mul, ← Int.natCast_emod, h]
  exact Int.ofNat.inj h3
theorem inv_neg (a m : Nat) (hm : 2 ≤ m) (ha : a < m) : (M1.invM ((-(a : Int)) % (m : Int)).toNat m + M1.invM a m) % m = 0 := by
  rw [neg_toNat a m hm ha]
  rcases inv_cases a m with ⟨h1, h2⟩ | ⟨h1, h2⟩
  · rcases inv_cases ((m - a) % m) m with ⟨h3, h4⟩ | ⟨h3, h4⟩
    · rw [h1, h3]
      exact Nat.zero_mod _
    · exfalso
      have hp : 0 < M1.invM ((m - a) % m) m := by
        rcases Nat.eq_zero_or_pos (M1.invM ((m - a) % m) m) with e | e
        · rw [e, Nat.mul_zero, Nat.zero_mod] at h4
          cases h4
        · exact e
      have h5 := neg_one ((m - a) % m) _ m hm (Nat.mod_lt _ (by omega)) h3 h4
      have e : (m - (m - a) % m) % m = a := by
        rcases Nat.eq_zero_or_pos a with e0 | e0
        · subst e0
          simp
        · rw [Nat.mod_eq_of_lt (show m - a < m by omega), show m - (m - a) = a by omega, Nat.mod_eq_of_lt ha]
      rw [e] at h5
      exact h2 _ (by omega) h5
  · have hp : 0 < M1.invM a m := by
      rcases Nat.eq_zero_or_pos (M1.invM a m) with e | e
      · rw [e, Nat.mul_zero, Nat.zero_mod] at h2
        cases h2
      · exact e
    have h5 := neg_one a _ m hm ha h1 h2
    rw [M1.invM_of ((m - a) % m) (m - M1.invM a m) m (by omega) h5, show m - M1.invM a m + M1.invM a m = m by omega, Nat.mod_self]
/-- what is left times an inverse, both turned round -/
theorem turn_eq (m L n1 n2 : Nat) (D : Int) (hm : 2 ≤ m) (h : (n1 + n2) % m = 0) (hL : ((L : Int) + D) % (m : Int) = 0) : ((L * n1 % m : Nat) : Int) = (D * (n2 : Int)) % (m : Int) := by
  rw [Int.natCast_emod, Int.natCast_mul]
  have d1 : (m : Int) ∣ (n1 : Int) + n2 := Int.dvd_of_emod_eq_zero (by rw [← Int.natCast_add, ← Int.natCast_emod, h]; rfl)
  have d2 : (m : Int) ∣ (L : Int) + D := Int.dvd_of_emod_eq_zero hL
  refine (Int.emod_eq_emod_iff_emod_sub_eq_zero).2 (Int.emod_eq_zero_of_dvd ?_)
  have e : (L : Int) * n1 - D * n2 = (L : Int) * ((n1 : Int) + n2) - ((L : Int) + D) * n2 := by
    rw [Int.mul_add, Int.add_mul]
    omega
  rw [e]
  exact Int.dvd_sub (Int.dvd_trans d1 (Int.dvd_mul_left _ _)) (Int.dvd_trans d2 (Int.dvd_mul_right _ _))
end Go.Proofs.YtejkejfhahmhcaaDoor
