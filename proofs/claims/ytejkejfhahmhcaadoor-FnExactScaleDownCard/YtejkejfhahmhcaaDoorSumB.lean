/- Proved: the sum of the parts, its mathematics. -/
import Derived.Test.YtejkejfhahmhcaaDoorKI
import Derived.Test.YtejkejfhahmhcaaDoorKG
namespace Go.Proofs.YtejkejfhahmhcaaDoor
open Go.ChangeShapes Go.WideShapes Go.ChangeAt Go.RowKit
open M2
set_option linter.unusedVariables false
set_option linter.unusedSimpArgs false
/-- how often the product of all others is taken -/
def yN (rs ps : List Nat) (i : Nat) : Nat := rs.getD i 0 * ivN ps i % ps.getD i 0
/-- the parts of the first k primes -/
def sumN (rs ps : List Nat) : Nat → Nat
  | 0 => 0
  | k + 1 => sumN rs ps k + prodN (oth ps k) * yN rs ps k
theorem oth_len' (ps : List Nat) (i : Nat) (h : i < ps.length) : (oth ps i).length = ps.length - 1 := by simp [oth]; omega
theorem prodN_all (ps : List Nat) (hb : ∀ p ∈ ps, p ≤ 268435456) : prodN ps ≤ LB ^ ps.length := by
  have := prodN_le ps hb ps.length (Nat.le_refl _)
  rwa [List.take_length] at this
theorem oth_le {ps : List Nat} (hb : Bas ps) {i : Nat} (hi : i < ps.length) : prodN (oth ps i) ≤ LB ^ 5 := by
  have h1 := prodN_all (oth ps i) (fun p hp => hb.hi p (oth_mem hp))
  rw [oth_len' ps i hi] at h1
  exact Nat.le_trans h1 (Nat.pow_le_pow_right LB_pos (by have := hb.len6; omega))
theorem yN_lt {rs ps : List Nat} (hb : Bas ps) {i : Nat} (hi : i < ps.length) : yN rs ps i < ps.getD i 0 ∧ ps.getD i 0 ≤ 268435456 := by
  have hm : ps.getD i 0 ∈ ps := by simp [List.getD, hi]
  have := hb.lo _ hm
  exact ⟨Nat.mod_lt _ (by omega), hb.hi _ hm⟩
theorem part_le {rs ps : List Nat} (hb : Bas ps) {i : Nat} (hi : i < ps.length) : prodN (oth ps i) * yN rs ps i ≤ LB ^ 6 := by
  have h1 := oth_le hb hi
  have h2 := yN_lt (rs := rs) hb hi
  have h3 : yN rs ps i ≤ LB := by show _ ≤ 268435456; omega
  rw [Nat.pow_succ LB 5]
  exact Nat.mul_le_mul h1 h3
theorem sumN_le {rs ps : List Nat} (hb : Bas ps) : ∀ k, k ≤ ps.length → sumN rs ps k ≤ k * LB ^ 6
  | 0, _ => by simp [sumN]
  | k + 1, h => by
    have h1 := sumN_le (rs := rs) hb k (by omega)
    have h2 := part_le (rs := rs) hb (show k < ps.length by omega)
    rw [sumN, Nat.add_mul, Nat.one_mul]
    omega
theorem cnt_six {n : Nat} (h : n ≤ 6 * LB ^ 6) : cnt n ≤ 7 := by
  refine cnt_le (Nat.lt_of_le_of_lt h ?_)
  rw [Nat.pow_succ LB 6, Nat.mul_comm]
  exact Nat.mul_lt_mul_of_pos_left (by decide) (pw 6)
theorem sumN_cnt {rs ps : List Nat} (hb : Bas ps) (k : Nat) (h : k ≤ ps.length) : cnt (sumN rs ps k) ≤ 7 := by
  refine cnt_six (Nat.le_trans (sumN_le hb k h) (Nat.mul_le_mul_right _ (by have := hb.len6; omega)))
theorem oth_cnt {ps : List Nat} (hb : Bas ps) {i : Nat} (hi : i < ps.length) : cnt (prodN (oth ps i)) ≤ 7 := by
  refine cnt_six (Nat.le_trans (oth_le hb hi) ?_)
  rw [Nat.pow_succ LB 5]
  have := pw 5
  have h2 : LB ^ 5 * 1 ≤ LB ^ 5 * LB := Nat.mul_le_mul_left _ (by decide)
  omega
theorem part_cnt {rs ps : List Nat} (hb : Bas ps) {i : Nat} (hi : i < ps.length) : cnt (prodN (oth ps i) * yN rs ps i) ≤ 7 := by
  refine cnt_six (Nat.le_trans (part_le hb hi) ?_)
  have := pw 6
  omega
theorem invM_lt (a m : Nat) (hm : 0 < m) : M1.invM a m < m := by
  unfold M1.invM
  cases h : (List.range m).find? (fun i => a * i % m == 1) with
  | none => exact hm
  | some i =>
    have := List.mem_of_find?_eq_some h
    simpa using this
def yL (rs ps : List Nat) : List Nat := (List.range ps.length).map (fun i => yN rs ps i)
theorem yL_len (rs ps : List Nat) : (yL rs ps).length = ps.length := by simp [yL]
theorem yL_get (rs ps : List Nat) (k : Nat) (h : k < ps.length) : (yL rs ps).getD k 0 = yN rs ps k := by simp [yL, List.getD, h]
end Go.Proofs.YtejkejfhahmhcaaDoor
