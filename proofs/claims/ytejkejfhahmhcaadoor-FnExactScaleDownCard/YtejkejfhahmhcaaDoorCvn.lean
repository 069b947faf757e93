/- Proved: lengths and values of what is reckoned in great numbers on the way from one basis to another; no function of the program. -/
import Derived.Test.YtejkejfhahmhcaaDoorCvm
import Derived.Test.YtejkejfhahmhcaaDoorCompB
import Derived.Test.YtejkejfhahmhcaaDoorKD
namespace Go.Proofs.YtejkejfhahmhcaaDoor
open Go.ChangeShapes Go.WideShapes Go.ChangeAt Go.RowKit
open M2
set_option linter.unusedVariables false
set_option linter.unusedSimpArgs false
theorem dg_len6 {z : Int} {k : Nat} (h : z.natAbs < LB ^ k) : (dg z).length ≤ k := dig_len_le h
theorem dg_lim6 (z : Int) : Lim (dg z) := dig_lim _
theorem abs_cQ {c : Int} (hc : -268435456 ≤ c ∧ c ≤ 268435456) {ps : List Nat} (hb : Bas ps) : (c * ((prodN ps : Nat) : Int)).natAbs ≤ LB ^ 7 := by
  rw [Int.natAbs_mul, Int.natAbs_natCast, Nat.pow_succ LB 6, Nat.mul_comm]
  refine Nat.mul_le_mul ?_ (show c.natAbs ≤ 268435456 by omega)
  exact Nat.le_trans (prodN_all ps hb.hi) (Nat.pow_le_pow_right LB_pos hb.len6)
theorem lt_8 {n : Nat} (h : n ≤ LB ^ 7 + 6 * LB ^ 6) : n < LB ^ 8 := by
  have h1 : LB ^ 7 = LB ^ 6 * LB := Nat.pow_succ LB 6
  have h2 : LB ^ 8 = LB ^ 7 * LB := Nat.pow_succ LB 7
  have h3 : 0 < LB ^ 6 := pw 6
  have h4 : LB = 268435456 := rfl
  rw [h4] at h1 h2 h h3 ⊢
  omega
theorem cQ_len {c : Int} (hc : -268435456 ≤ c ∧ c ≤ 268435456) {ps : List Nat} (hb : Bas ps) : (dg (c * ((prodN ps : Nat) : Int))).length ≤ 8 :=
  dg_len6 (lt_8 (Nat.le_trans (abs_cQ hc hb) (Nat.le_add_right _ _)))
theorem sum_le {rs ps : List Nat} (hb : Bas ps) : sumN rs ps ps.length ≤ 6 * LB ^ 6 := Nat.le_trans (sumN_le hb _ (Nat.le_refl _)) (Nat.mul_le_mul_right _ hb.len6)
theorem X_len {c : Int} (hc : -268435456 ≤ c ∧ c ≤ 268435456) {rs ps : List Nat} (hb : Bas ps) : (dg (((sumN rs ps ps.length : Nat) : Int) + c * ((prodN ps : Nat) : Int))).length ≤ 8 := by
  refine dg_len6 (lt_8 ?_)
  have h1 := abs_cQ hc hb
  have h2 := sum_le (rs := rs) hb
  have h3 := Int.natAbs_add_le ((sumN rs ps ps.length : Nat) : Int) (c * ((prodN ps : Nat) : Int))
  rw [Int.natAbs_natCast] at h3
  omega
/-- what is left, and the sum, and o products, is what is left of the sum and o products -/
theorem plusPS_eq (b : Nat) (rs ps : List Nat) (o : Int) (hb : 2 ≤ b) : ((plusP b ps o (plusS b ps (yL rs ps) 0) : Nat) : Int) = (((sumN rs ps ps.length : Nat) : Int) + o * ((prodN ps : Nat) : Int)) % (b : Int) := by
  rw [plusS_eq b rs ps 0 hb, Nat.zero_add]
  unfold plusP
  rw [pm_mod b ps hb, Int.toNat_of_nonneg (Int.emod_nonneg _ (by omega)), Int.natCast_emod, Int.natCast_emod]
  rw [Int.add_emod, Int.emod_emod, Int.mul_emod, Int.emod_emod, ← Int.mul_emod, ← Int.add_emod]
theorem sv_nat (n : Nat) : sv false (dig n) = (n : Int) := by simp [sv, val_dig]
end Go.Proofs.YtejkejfhahmhcaaDoor
