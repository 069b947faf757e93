/- Proved: the mathematics of a turn of a row that is ahead: the transform takes back the inverse transform, and what a turned polynomial is worth at a point is what the polynomial is worth at another point; no function of the program. -/
import Derived.Test.YtglbegbhekcddaaDoorMlm
import Derived.Test.YtglbegbhekcddaaDoorRw35
import Derived.Test.YtglbegbhekcddaaDoorRw16
import Derived.Deep.RegionWith
namespace Go.Proofs.YtglbegbhekcddaaDoor
open M1
set_option linter.unusedVariables false
set_option linter.unusedSimpArgs false
theorem ev_sum (f : Nat → Int) (x : Int) : ∀ n, evI f x n = sumK (fun i => f i * x ^ i) 0 n
  | 0 => by simp [evI, sumK]
  | n + 1 => by
    rw [evI, sumK, ev_sum f x n, Nat.zero_add]
theorem sumK_zero (a : Nat) : ∀ n, sumK (fun _ => (0 : Int)) a n = 0
  | 0 => rfl
  | n + 1 => by rw [sumK, sumK_zero a n]; rfl
theorem sumK_swap (g : Nat → Nat → Int) (m : Nat) : ∀ n, sumK (fun i => sumK (fun j => g i j) 0 m) 0 n = sumK (fun j => sumK (fun i => g i j) 0 n) 0 m
  | 0 => by
    have : (fun j => sumK (fun i => g i j) 0 0) = fun _ => (0 : Int) := rfl
    rw [this, sumK_zero]
    rfl
  | n + 1 => by
    rw [sumK, sumK_swap g m n]
    have : (fun j => sumK (fun i => g i j) 0 (n + 1)) = fun j => sumK (fun i => g i j) 0 n + g (0 + n) j := rfl
    rw [this, sumK_plus]
theorem sumK_delta (c : Nat → Int) (k : Nat) : ∀ n, sumK (fun j => if j = k then c j else 0) 0 n = if k < n then c k else 0
  | 0 => by simp [sumK]
  | n + 1 => by
    rw [sumK, sumK_delta c k n, Nat.zero_add]
    by_cases h : n = k
    · subst h
      rw [if_neg (by omega), if_pos rfl, if_pos (by omega), Int.zero_add]
    · rw [if_neg h, Int.add_zero]
      by_cases h1 : k < n
      · rw [if_pos h1, if_pos (by omega)]
      · rw [if_neg h1, if_neg (by omega)]
theorem sumK_mulL (f : Nat → Int) (c : Int) (a : Nat) : ∀ n, sumK (fun k => c * f k) a n = c * sumK f a n
  | 0 => by simp [sumK]
  | n + 1 => by rw [sumK, sumK_mulL f c a n, sumK, Int.mul_add]
theorem geo {P N T : Nat} (t1 : Cg P ((T : Int) ^ (2 * N)) 1) (t2 : Cg P ((T : Int) ^ N) (-1)) (E h : Nat) (h0 : 0 < h) (hm : N % (2 * h) = 0) (he : E * h % (2 * N) = N) : Cg P (sumK (fun i => (T : Int) ^ (E * i)) 0 N) 0 := by
  have e : N = N / (2 * h) * (2 * h) := by
    have := Nat.div_add_mod N (2 * h)
    rw [hm, Nat.add_zero, Nat.mul_comm] at this
    exact this.symm
  have c0 : Cg P ((T : Int) ^ (E * h)) (-1) := (pow_per t1 _ _ he).trans t2
  have key := sumK_pairs (P := P) (fun i => (T : Int) ^ (E * i)) h (N / (2 * h)) (fun J i hJ hi => by
    show Cg P ((T : Int) ^ (E * (J * (2 * h) + h + i))) (-((T : Int) ^ (E * (J * (2 * h) + i))))
    rw [show E * (J * (2 * h) + h + i) = E * (J * (2 * h) + i) + E * h by rw [← Nat.mul_add]; congr 1; omega, Int.pow_add]
    have := (Cg.refl (P : Int) ((T : Int) ^ (E * (J * (2 * h) + i)))).mul c0
    rw [Int.mul_neg, Int.mul_one] at this
    exact this) (N / (2 * h)) (Nat.le_refl _)
  rw [← e] at key
  exact key
def hhN (N E : Nat) : Nat := if E * 1 % (2 * N) = N then 1 else if E * 2 % (2 * N) = N then 2 else if E * 4 % (2 * N) = N then 4 else 8
def ejk (N j k : Nat) : Nat := (2 * N - 1) * (2 * backN (lg N) j 0 + 1) + (2 * backN (lg N) k 0 + 1)
def geoB (N j k : Nat) : Bool := decide (N % (2 * hhN N (ejk N j k)) = 0) && decide (ejk N j k * hhN N (ejk N j k) % (2 * N) = N)
theorem geo2 : ∀ j, j < 2 → ∀ k, k < 2 → j ≠ k → geoB 2 j k = true := by decide +kernel
theorem geo4 : ∀ j, j < 4 → ∀ k, k < 4 → j ≠ k → geoB 4 j k = true := by decide +kernel
theorem geo8 : ∀ j, j < 8 → ∀ k, k < 8 → j ≠ k → geoB 8 j k = true := by decide +kernel
theorem geo16 : ∀ j, j < 16 → ∀ k, k < 16 → j ≠ k → geoB 16 j k = true := by decide +kernel
theorem geo_all {N : Nat} (h : Sz4 N) (j k : Nat) (hj : j < N) (hk : k < N) (hn : j ≠ k) : geoB N j k = true := by
  rcases h with rfl | rfl | rfl | rfl
  · exact geo2 j hj k hk hn
  · exact geo4 j hj k hk hn
  · exact geo8 j hj k hk hn
  · exact geo16 j hj k hk hn
theorem hhN_pos (N E : Nat) : 0 < hhN N E := by unfold hhN; split <;> (try split) <;> (try split) <;> omega
theorem inv_as_pow {P N R B : Nat} (hN : 1 ≤ N) (r1 : Cg P ((R : Int) ^ (2 * N)) 1) (hB : Cg P ((R : Int) * (B : Int)) 1) : Cg P (B : Int) ((R : Int) ^ (2 * N - 1)) := by
  have h1 := hB.mul (Cg.refl (P : Int) ((R : Int) ^ (2 * N - 1)))
  rw [Int.one_mul] at h1
  have h2 := r1.mul (Cg.refl (P : Int) (B : Int))
  rw [Int.one_mul] at h2
  refine h2.symm.trans (Cg.trans ?_ h1)
  have e : (R : Int) ^ (2 * N) = (R : Int) ^ (2 * N - 1) * R := by
    rw [← Int.pow_succ]
    congr 1
    omega
  rw [e]
  exact ⟨0, by grind⟩
theorem col_sum {P N R B : Nat} (hS : Sz4 N) (r1 : Cg P ((R : Int) ^ (2 * N)) 1) (r2 : Cg P ((R : Int) ^ N) (-1)) (hB : Cg P ((R : Int) * (B : Int)) 1) (j k : Nat) (hj : j < N) (hk : k < N) :
    Cg P (sumK (fun i => (B : Int) ^ ((2 * backN (lg N) j 0 + 1) * i) * ((R : Int) ^ (2 * backN (lg N) k 0 + 1)) ^ i) 0 N) (if j = k then (N : Int) else 0) := by
  have hs := sz_bd hS
  have hb := inv_as_pow (by omega) r1 hB
  have h1 : Cg P (sumK (fun i => (B : Int) ^ ((2 * backN (lg N) j 0 + 1) * i) * ((R : Int) ^ (2 * backN (lg N) k 0 + 1)) ^ i) 0 N) (sumK (fun i => (R : Int) ^ (ejk N j k * i)) 0 N) := by
    refine sumK_cg 0 N (fun i hi => ?_)
    rw [Nat.zero_add]
    have h2 := (hb.pow ((2 * backN (lg N) j 0 + 1) * i)).mul (Cg.refl (P : Int) (((R : Int) ^ (2 * backN (lg N) k 0 + 1)) ^ i))
    have e : ((R : Int) ^ (2 * N - 1)) ^ ((2 * backN (lg N) j 0 + 1) * i) * ((R : Int) ^ (2 * backN (lg N) k 0 + 1)) ^ i = (R : Int) ^ (ejk N j k * i) := by
      rw [← Int.pow_mul, ← Int.pow_mul, ← Int.pow_add]
      congr 1
      unfold ejk
      generalize 2 * backN (lg N) j 0 + 1 = ej
      generalize 2 * backN (lg N) k 0 + 1 = ek
      rw [Nat.add_mul, Nat.mul_assoc]
    rw [e] at h2
    exact h2
  refine h1.trans ?_
  by_cases hjk : j = k
  · subst hjk
    rw [if_pos rfl]
    have h3 : Cg P (sumK (fun i => (R : Int) ^ (ejk N j j * i)) 0 N) (sumK (fun _ => (1 : Int)) 0 N) := by
      refine sumK_cg 0 N (fun i hi => ?_)
      rw [Nat.zero_add]
      have e : ejk N j j * i = 2 * N * ((2 * backN (lg N) j 0 + 1) * i) := by
        unfold ejk
        rw [show (2 * N - 1) * (2 * backN (lg N) j 0 + 1) + (2 * backN (lg N) j 0 + 1) = 2 * N * (2 * backN (lg N) j 0 + 1) by
          obtain ⟨M, hM⟩ : ∃ M, 2 * N = M + 1 := ⟨2 * N - 1, by omega⟩
          rw [hM, Nat.add_sub_cancel, Nat.add_mul, Nat.one_mul], Nat.mul_assoc]
      rw [e, Int.pow_mul]
      have := r1.pow ((2 * backN (lg N) j 0 + 1) * i)
      rw [Int.one_pow] at this
      exact this
    rw [sumK_const, Int.mul_one] at h3
    exact h3
  · rw [if_neg hjk]
    have hg := geo_all hS j k hj hk hjk
    unfold geoB at hg
    rw [Bool.and_eq_true] at hg
    exact geo r1 r2 (ejk N j k) (hhN N (ejk N j k)) (hhN_pos _ _) (of_decide_eq_true hg.1) (of_decide_eq_true hg.2)
theorem fwd_inv (P N R : Nat) (xs : List Nat) (hS : Sz4 N) (hl : xs.length = N) (hP : 2 ≤ P) (ho : P % 2 = 1) (hlt : ∀ x ∈ xs, x < P) (r1 : Cg P ((R : Int) ^ (2 * N)) 1) (r2 : Cg P ((R : Int) ^ N) (-1)) : fwdS P N R (invL P N R xs) = xs := by
  have hs := sz_bd hS
  refine list_eq (by rw [fwdS_len, hl]) (fun k hk => ?_)
  rw [hl] at hk
  have hB := inv_root (N := N) hP (by omega) r1
  generalize hBe : invM R P = B at hB
  generalize hMe : invM (N % P) P = M
  have hM := inv_size (P := P) hS hP ho
  rw [hMe] at hM
  have h1 := fwd_ev P N R (invL P N R xs) k hk
  have h2 : Cg P (evI (fun i => (((invL P N R xs).getD i 0 : Nat) : Int)) ((R : Int) ^ (2 * backN (lg N) k 0 + 1)) N) (evI (fun i => sumK (fun j => ((xs.getD j 0 : Nat) : Int) * (B : Int) ^ ((2 * backN (lg N) j 0 + 1) * i)) 0 N * (M : Int)) ((R : Int) ^ (2 * backN (lg N) k 0 + 1)) N) := by
    refine evI_cg _ N (fun i hi => ?_)
    rw [invL_get P N R xs i hi, hBe, hMe]
    refine (Cg.mod P _).trans ?_
    rw [Int.natCast_mul]
    refine Cg.mul ((invS_sum P B (ptsN N) xs i N).trans ?_) (Cg.refl _ _)
    refine sumK_cg 0 N (fun j hj => ?_)
    rw [Nat.zero_add, ptsN_get N j hj]
    exact Cg.refl _ _
  have h3 : evI (fun i => sumK (fun j => ((xs.getD j 0 : Nat) : Int) * (B : Int) ^ ((2 * backN (lg N) j 0 + 1) * i)) 0 N * (M : Int)) ((R : Int) ^ (2 * backN (lg N) k 0 + 1)) N = sumK (fun j => ((xs.getD j 0 : Nat) : Int) * (M : Int) * sumK (fun i => (B : Int) ^ ((2 * backN (lg N) j 0 + 1) * i) * ((R : Int) ^ (2 * backN (lg N) k 0 + 1)) ^ i) 0 N) 0 N := by
    rw [ev_sum]
    have e1 : (fun i => sumK (fun j => ((xs.getD j 0 : Nat) : Int) * (B : Int) ^ ((2 * backN (lg N) j 0 + 1) * i)) 0 N * (M : Int) * ((R : Int) ^ (2 * backN (lg N) k 0 + 1)) ^ i) = fun i => sumK (fun j => ((xs.getD j 0 : Nat) : Int) * (M : Int) * ((B : Int) ^ ((2 * backN (lg N) j 0 + 1) * i) * ((R : Int) ^ (2 * backN (lg N) k 0 + 1)) ^ i)) 0 N := by
      funext i
      rw [Int.mul_assoc, ← sumK_mul]
      congr 1
      funext j
      grind
    rw [e1, sumK_swap]
    congr 1
    funext j
    rw [sumK_mulL]
  rw [h3] at h2
  have h4 : Cg P (sumK (fun j => ((xs.getD j 0 : Nat) : Int) * (M : Int) * sumK (fun i => (B : Int) ^ ((2 * backN (lg N) j 0 + 1) * i) * ((R : Int) ^ (2 * backN (lg N) k 0 + 1)) ^ i) 0 N) 0 N) (sumK (fun j => if j = k then ((xs.getD j 0 : Nat) : Int) * (M : Int) * (N : Int) else 0) 0 N) := by
    refine sumK_cg 0 N (fun j hj => ?_)
    rw [Nat.zero_add]
    have := (Cg.refl (P : Int) (((xs.getD j 0 : Nat) : Int) * (M : Int))).mul (col_sum hS r1 r2 hB j k hj hk)
    refine this.trans ?_
    by_cases hjk : j = k
    · rw [if_pos hjk, if_pos hjk]
      exact Cg.refl _ _
    · rw [if_neg hjk, if_neg hjk, Int.mul_zero]
      exact Cg.refl _ _
  rw [sumK_delta, if_pos hk] at h4
  have h5 := hM.mul (Cg.refl (P : Int) ((xs.getD k 0 : Nat) : Int))
  rw [Int.one_mul] at h5
  have h6 : Cg P (((xs.getD k 0 : Nat) : Int) * (M : Int) * (N : Int)) ((xs.getD k 0 : Nat) : Int) := by
    refine Cg.trans ?_ h5
    exact ⟨0, by grind⟩
  exact Cg.eq_of_lt (((h1.trans h2).trans h4).trans h6) (getD_lt (fwdS_lt P N R _ (by omega)) (by omega) k) (getD_lt hlt (by omega) k)
end Go.Proofs.YtglbegbhekcddaaDoor
