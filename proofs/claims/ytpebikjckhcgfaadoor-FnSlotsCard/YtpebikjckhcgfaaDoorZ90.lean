/- Proved: several texts in one: what each proves is said ahead of it. -/
import Derived.Test.YtpebikjckhcgfaaDoorZ45
import Derived.Test.YtpebikjckhcgfaaDoorZ88
import Derived.Test.YtpebikjckhcgfaaDoorZ89
/- Proved: the mathematics of a turn of a row that is ahead: the transform takes back the inverse transform, and what a turned polynomial is worth at a point is what the polynomial is worth at another point; no function of the program. -/
namespace Go.Proofs.YtpebikjckhcgfaaDoor
open M1
set_option linter.unusedVariables false
set_option linter.unusedSimpArgs false
theorem ev_sum (f : Nat → Int) (x : Int) : ∀ n, evI f x n = sumK (fun i => f i * x ^ i) 0 n
  | 0 => by simp [evI, sumK]
  | n + 1 => by
    rw [evI, sumK, ev_sum f x n, Nat.zero_add]
theorem sumK_zero (a : Nat) : ∀ n, sumK (fun _ => (0 : Int)) a n = 0
  | 0 => rfl
  | n + 1 => by rw [sumK, sumK_zero a n]; rfl
theorem sumK_swap (g : Nat → Nat → Int) (m : Nat) : ∀ n, sumK (fun i => sumK (fun j => g i j) 0 m) 0 n = sumK (fun j => sumK (fun i => g i j) 0 n) 0 m
  | 0 => by
    have : (fun j => sumK (fun i => g i j) 0 0) = fun _ => (0 : Int) := rfl
    rw [this, sumK_zero]
    rfl
  | n + 1 => by
    rw [sumK, sumK_swap g m n]
    have : (fun j => sumK (fun i => g i j) 0 (n + 1)) = fun j => sumK (fun i => g i j) 0 n + g (0 + n) j := rfl
    rw [this, sumK_plus]
theorem sumK_delta (c : Nat → Int) (k : Nat) : ∀ n, sumK (fun j => if j = k then c j else 0) 0 n = if k < n then c k else 0
  | 0 => by simp [sumK]
  | n + 1 => by
    rw [sumK, sumK_delta c k n, Nat.zero_add]
    by_cases h : n = k
    · subst h
      rw [if_neg (by omega), if_pos rfl, if_pos (by omega), Int.zero_add]
    · rw [if_neg h, Int.add_zero]
      by_cases h1 : k < n
      · rw [if_pos h1, if_pos (by omega)]
      · rw [if_neg h1, if_neg (by omega)]
theorem sumK_mulL (f : Nat → Int) (c : Int) (a : Nat) : ∀ n, sumK (fun k => c * f k) a n = c * sumK f a n
  | 0 => by simp [sumK]
  | n + 1 => by rw [sumK, sumK_mulL f c a n, sumK, Int.mul_add]
/-- a row of powers whose terms take each other away -/
theorem geo {P N T : Nat} (t1 : Cg P ((T : Int) ^ (2 * N)) 1) (t2 : Cg P ((T : Int) ^ N) (-1)) (E h : Nat) (h0 : 0 < h) (hm : N % (2 * h) = 0) (he : E * h % (2 * N) = N) : Cg P (sumK (fun i => (T : Int) ^ (E * i)) 0 N) 0 := by
  have e : N = N / (2 * h) * (2 * h) := by
    have := Nat.div_add_mod N (2 * h)
    rw [hm, Nat.add_zero, Nat.mul_comm] at this
    exact this.symm
  have c0 : Cg P ((T : Int) ^ (E * h)) (-1) := (pow_per t1 _ _ he).trans t2
  have key := sumK_pairs (P := P) (fun i => (T : Int) ^ (E * i)) h (N / (2 * h)) (fun J i hJ hi => by
    show Cg P ((T : Int) ^ (E * (J * (2 * h) + h + i))) (-((T : Int) ^ (E * (J * (2 * h) + i))))
    rw [show E * (J * (2 * h) + h + i) = E * (J * (2 * h) + i) + E * h by rw [← Nat.mul_add]; congr 1; omega, Int.pow_add]
    have := (Cg.refl (P : Int) ((T : Int) ^ (E * (J * (2 * h) + i)))).mul c0
    rw [Int.mul_neg, Int.mul_one] at this
    exact this) (N / (2 * h)) (Nat.le_refl _)
  rw [← e] at key
  exact key
def hhN (N E : Nat) : Nat := if E * 1 % (2 * N) = N then 1 else if E * 2 % (2 * N) = N then 2 else if E * 4 % (2 * N) = N then 4 else 8
def ejk (N j k : Nat) : Nat := (2 * N - 1) * (2 * backN (lg N) j 0 + 1) + (2 * backN (lg N) k 0 + 1)
def geoB (N j k : Nat) : Bool := decide (N % (2 * hhN N (ejk N j k)) = 0) && decide (ejk N j k * hhN N (ejk N j k) % (2 * N) = N)
theorem geo2 : ∀ j, j < 2 → ∀ k, k < 2 → j ≠ k → geoB 2 j k = true := by decide +kernel
theorem geo4 : ∀ j, j < 4 → ∀ k, k < 4 → j ≠ k → geoB 4 j k = true := by decide +kernel
theorem geo8 : ∀ j, j < 8 → ∀ k, k < 8 → j ≠ k → geoB 8 j k = true := by decide +kernel
theorem geo16 : ∀ j, j < 16 → ∀ k, k < 16 → j ≠ k → geoB 16 j k = true := by decide +kernel
theorem geo_all {N : Nat} (h : Sz4 N) (j k : Nat) (hj : j < N) (hk : k < N) (hn : j ≠ k) : geoB N j k = true := by
  rcases h with rfl | rfl | rfl | rfl
  · exact geo2 j hj k hk hn
  · exact geo4 j hj k hk hn
  · exact geo8 j hj k hk hn
  · exact geo16 j hj k hk hn
theorem hhN_pos (N E : Nat) : 0 < hhN N E := by unfold hhN; split <;> (try split) <;> (try split) <;> omega
theorem inv_as_pow {P N R B : Nat} (hN : 1 ≤ N) (r1 : Cg P ((R : Int) ^ (2 * N)) 1) (hB : Cg P ((R : Int) * (B : Int)) 1) : Cg P (B : Int) ((R : Int) ^ (2 * N - 1)) := by
  have h1 := hB.mul (Cg.refl (P : Int) ((R : Int) ^ (2 * N - 1)))
  rw [Int.one_mul] at h1
  have h2 := r1.mul (Cg.refl (P : Int) (B : Int))
  rw [Int.one_mul] at h2
  refine h2.symm.trans (Cg.trans ?_ h1)
  have e : (R : Int) ^ (2 * N) = (R : Int) ^ (2 * N - 1) * R := by
    rw [← Int.pow_succ]
    congr 1
    omega
  rw [e]
  exact ⟨0, by grind⟩
/-- the sum over the numbers takes back the value at one point -/
theorem col_sum {P N R B : Nat} (hS : Sz4 N) (r1 : Cg P ((R : Int) ^ (2 * N)) 1) (r2 : Cg P ((R : Int) ^ N) (-1)) (hB : Cg P ((R : Int) * (B : Int)) 1) (j k : Nat) (hj : j < N) (hk : k < N) :
    Cg P (sumK (fun i => (B : Int) ^ ((2 * backN (lg N) j 0 + 1) * i) * ((R : Int) ^ (2 * backN (lg N) k 0 + 1)) ^ i) 0 N) (if j = k then (N : Int) else 0) := by
  have hs := sz_bd hS
  have hb := inv_as_pow (by omega) r1 hB
  have h1 : Cg P (sumK (fun i => (B : Int) ^ ((2 * backN (lg N) j 0 + 1) * i) * ((R : Int) ^ (2 * backN (lg N) k 0 + 1)) ^ i) 0 N) (sumK (fun i => (R : Int) ^ (ejk N j k * i)) 0 N) := by
    refine sumK_cg 0 N (fun i hi => ?_)
    rw [Nat.zero_add]
    have h2 := (hb.pow ((2 * backN (lg N) j 0 + 1) * i)).mul (Cg.refl (P : Int) (((R : Int) ^ (2 * backN (lg N) k 0 + 1)) ^ i))
    have e : ((R : Int) ^ (2 * N - 1)) ^ ((2 * backN (lg N) j 0 + 1) * i) * ((R : Int) ^ (2 * backN (lg N) k 0 + 1)) ^ i = (R : Int) ^ (ejk N j k * i) := by
      rw [← Int.pow_mul, ← Int.pow_mul, ← Int.pow_add]
      congr 1
      unfold ejk
      generalize 2 * backN (lg N) j 0 + 1 = ej
      generalize 2 * backN (lg N) k 0 + 1 = ek
      rw [Nat.add_mul, Nat.mul_assoc]
    rw [e] at h2
    exact h2
  refine h1.trans ?_
  by_cases hjk : j = k
  · subst hjk
    rw [if_pos rfl]
    have h3 : Cg P (sumK (fun i => (R : Int) ^ (ejk N j j * i)) 0 N) (sumK (fun _ => (1 : Int)) 0 N) := by
      refine sumK_cg 0 N (fun i hi => ?_)
      rw [Nat.zero_add]
      have e : ejk N j j * i = 2 * N * ((2 * backN (lg N) j 0 + 1) * i) := by
        unfold ejk
        rw [show (2 * N - 1) * (2 * backN (lg N) j 0 + 1) + (2 * backN (lg N) j 0 + 1) = 2 * N * (2 * backN (lg N) j 0 + 1) by
          obtain ⟨M, hM⟩ : ∃ M, 2 * N = M + 1 := ⟨2 * N - 1, by omega⟩
          rw [hM, Nat.add_sub_cancel, Nat.add_mul, Nat.one_mul], Nat.mul_assoc]
      rw [e, Int.pow_mul]
      have := r1.pow ((2 * backN (lg N) j 0 + 1) * i)
      rw [Int.one_pow] at this
      exact this
    rw [sumK_const, Int.mul_one] at h3
    exact h3
  · rw [if_neg hjk]
    have hg := geo_all hS j k hj hk hjk
    unfold geoB at hg
    rw [Bool.and_eq_true] at hg
    exact geo r1 r2 (ejk N j k) (hhN N (ejk N j k)) (hhN_pos _ _) (of_decide_eq_true hg.1) (of_decide_eq_true hg.2)
/-- the transform takes back the inverse -/
theorem fwd_inv (P N R : Nat) (xs : List Nat) (hS : Sz4 N) (hl : xs.length = N) (hP : 2 ≤ P) (ho : P % 2 = 1) (hlt : ∀ x ∈ xs, x < P) (r1 : Cg P ((R : Int) ^ (2 * N)) 1) (r2 : Cg P ((R : Int) ^ N) (-1)) : fwdS P N R (invL P N R xs) = xs := by
  have hs := sz_bd hS
  refine list_eq (by rw [fwdS_len, hl]) (fun k hk => ?_)
  rw [hl] at hk
  have hB := inv_root (N := N) hP (by omega) r1
  generalize hBe : invM R P = B at hB
  generalize hMe : invM (N % P) P = M
  have hM := inv_size (P := P) hS hP ho
  rw [hMe] at hM
  have h1 := fwd_ev P N R (invL P N R xs) k hk
  have h2 : Cg P (evI (fun i => (((invL P N R xs).getD i 0 : Nat) : Int)) ((R : Int) ^ (2 * backN (lg N) k 0 + 1)) N) (evI (fun i => sumK (fun j => ((xs.getD j 0 : Nat) : Int) * (B : Int) ^ ((2 * backN (lg N) j 0 + 1) * i)) 0 N * (M : Int)) ((R : Int) ^ (2 * backN (lg N) k 0 + 1)) N) := by
    refine evI_cg _ N (fun i hi => ?_)
    rw [invL_get P N R xs i hi, hBe, hMe]
    refine (Cg.mod P _).trans ?_
    rw [Int.natCast_mul]
    refine Cg.mul ((invS_sum P B (ptsN N) xs i N).trans ?_) (Cg.refl _ _)
    refine sumK_cg 0 N (fun j hj => ?_)
    rw [Nat.zero_add, ptsN_get N j hj]
    exact Cg.refl _ _
  have h3 : evI (fun i => sumK (fun j => ((xs.getD j 0 : Nat) : Int) * (B : Int) ^ ((2 * backN (lg N) j 0 + 1) * i)) 0 N * (M : Int)) ((R : Int) ^ (2 * backN (lg N) k 0 + 1)) N = sumK (fun j => ((xs.getD j 0 : Nat) : Int) * (M : Int) * sumK (fun i => (B : Int) ^ ((2 * backN (lg N) j 0 + 1) * i) * ((R : Int) ^ (2 * backN (lg N) k 0 + 1)) ^ i) 0 N) 0 N := by
    rw [ev_sum]
    have e1 : (fun i => sumK (fun j => ((xs.getD j 0 : Nat) : Int) * (B : Int) ^ ((2 * backN (lg N) j 0 + 1) * i)) 0 N * (M : Int) * ((R : Int) ^ (2 * backN (lg N) k 0 + 1)) ^ i) = fun i => sumK (fun j => ((xs.getD j 0 : Nat) : Int) * (M : Int) * ((B : Int) ^ ((2 * backN (lg N) j 0 + 1) * i) * ((R : Int) ^ (2 * backN (lg N) k 0 + 1)) ^ i)) 0 N := by
      funext i
      rw [Int.mul_assoc, ← sumK_mul]
      congr 1
      funext j
      grind
    rw [e1, sumK_swap]
    congr 1
    funext j
    rw [sumK_mulL]
  rw [h3] at h2
  have h4 : Cg P (sumK (fun j => ((xs.getD j 0 : Nat) : Int) * (M : Int) * sumK (fun i => (B : Int) ^ ((2 * backN (lg N) j 0 + 1) * i) * ((R : Int) ^ (2 * backN (lg N) k 0 + 1)) ^ i) 0 N) 0 N) (sumK (fun j => if j = k then ((xs.getD j 0 : Nat) : Int) * (M : Int) * (N : Int) else 0) 0 N) := by
    refine sumK_cg 0 N (fun j hj => ?_)
    rw [Nat.zero_add]
    have := (Cg.refl (P : Int) (((xs.getD j 0 : Nat) : Int) * (M : Int))).mul (col_sum hS r1 r2 hB j k hj hk)
    refine this.trans ?_
    by_cases hjk : j = k
    · rw [if_pos hjk, if_pos hjk]
      exact Cg.refl _ _
    · rw [if_neg hjk, if_neg hjk, Int.mul_zero]
      exact Cg.refl _ _
  rw [sumK_delta, if_pos hk] at h4
  have h5 := hM.mul (Cg.refl (P : Int) ((xs.getD k 0 : Nat) : Int))
  rw [Int.one_mul] at h5
  have h6 : Cg P (((xs.getD k 0 : Nat) : Int) * (M : Int) * (N : Int)) ((xs.getD k 0 : Nat) : Int) := by
    refine Cg.trans ?_ h5
    exact ⟨0, by grind⟩
  exact Cg.eq_of_lt (((h1.trans h2).trans h4).trans h6) (getD_lt (fwdS_lt P N R _ (by omega)) (by omega) k) (getD_lt hlt (by omega) k)
theorem gsetZ (l : List Int) (m : Nat) (v : Int) (h : Nat) (hm : m < l.length) : (l.set m v).getD h 0 = if h = m then v else l.getD h 0 := by
  simp only [List.getD, List.getElem?_set]
  by_cases e : m = h
  · subst e
    simp [hm]
  · rw [if_neg e, if_neg (fun h' => e h'.symm)]
theorem evZ_set (l : List Int) (m : Nat) (v : Int) (hm : m < l.length) (X : Int) : ∀ h, evI (fun i => (l.set m v).getD i 0) X h = evI (fun i => l.getD i 0) X h + (if m < h then (v - l.getD m 0) * X ^ m else 0)
  | 0 => by simp [evI]
  | h + 1 => by
    rw [evI, evZ_set l m v hm X h, evI, gsetZ l m v h hm]
    by_cases h1 : h = m
    · subst h1
      rw [if_pos rfl, if_neg (by omega), if_pos (by omega)]
      grind
    · rw [if_neg h1]
      by_cases h2 : m < h
      · rw [if_pos h2, if_pos (by omega)]; grind
      · rw [if_neg h2, if_neg (by omega)]; grind
/-- the place that number k is laid at, and what is laid there -/
def plT (N t k : Nat) : Nat := if k * t % (2 * N) < N then k * t % (2 * N) else k * t % (2 * N) - N
def vlN (P N t k c : Nat) : Int := if k * t % (2 * N) < N then (c : Int) else (-(c : Int)) % (P : Int)
theorem plN_lt (N t k : Nat) (hN : 0 < N) : plT N t k < N := by
  have := Nat.mod_lt (k * t) (show 0 < 2 * N by omega)
  unfold plT
  split <;> omega
theorem trnS_succ (P N t : Nat) (xs : List Nat) (k : Nat) : trnS P N t xs (k + 1) = (trnS P N t xs k).set (plT N t k) (vlN P N t k (xs.getD k 0)) := by
  rw [trnS]
  unfold plT vlN
  split <;> rfl
def plA (N : Nat) : Bool := (List.range (2 * N)).all fun t => !(t % 2 == 1) || (List.range N).all fun j => (List.range N).all fun k => (j == k) || !(plT N t j == plT N t k)
theorem pl2 : plA 2 = true := by decide +kernel
theorem pl4 : plA 4 = true := by decide +kernel
theorem pl8 : plA 8 = true := by decide +kernel
theorem pl16 : plA 16 = true := by decide +kernel
theorem pl_inj {N t : Nat} (h : Sz4 N) (ht : t < 2 * N) (ho : t % 2 = 1) (j k : Nat) (hj : j < N) (hk : k < N) (hn : j ≠ k) : plT N t j ≠ plT N t k := by
  have key : plA N = true := by
    rcases h with rfl | rfl | rfl | rfl
    · exact pl2
    · exact pl4
    · exact pl8
    · exact pl16
  have h1 := List.all_eq_true.1 key t (List.mem_range.2 ht)
  rw [ho] at h1
  simp only [beq_self_eq_true, Bool.not_true, Bool.false_or] at h1
  have h2 := List.all_eq_true.1 h1 j (List.mem_range.2 hj)
  have h3 := List.all_eq_true.1 h2 k (List.mem_range.2 hk)
  intro e
  rw [e] at h3
  simp [hn] at h3
def ptB (N t k : Nat) : Bool := decide (2 * backN (lg N) (backN (lg N) ((2 * backN (lg N) k 0 + 1) * t % (2 * N) / 2) 0) 0 + 1 = (2 * backN (lg N) k 0 + 1) * t % (2 * N))
theorem pt2 : ∀ t, t < 4 → t % 2 = 1 → ∀ k, k < 2 → ptB 2 t k = true := by decide +kernel
theorem pt4 : ∀ t, t < 8 → t % 2 = 1 → ∀ k, k < 4 → ptB 4 t k = true := by decide +kernel
theorem pt8 : ∀ t, t < 16 → t % 2 = 1 → ∀ k, k < 8 → ptB 8 t k = true := by decide +kernel
theorem pt16 : ∀ t, t < 32 → t % 2 = 1 → ∀ k, k < 16 → ptB 16 t k = true := by decide +kernel
theorem pt_all {N t : Nat} (h : Sz4 N) (ht : t < 2 * N) (ho : t % 2 = 1) (k : Nat) (hk : k < N) : 2 * backN (lg N) ((tabN N t).getD k 0) 0 + 1 = (2 * backN (lg N) k 0 + 1) * t % (2 * N) := by
  rw [tabN_get N t k hk]
  have key : ptB N t k = true := by
    rcases h with rfl | rfl | rfl | rfl
    · exact pt2 t ht ho k hk
    · exact pt4 t ht ho k hk
    · exact pt8 t ht ho k hk
    · exact pt16 t ht ho k hk
  exact of_decide_eq_true key
theorem vlN_bd (P N t k c : Nat) (hc : c < P) : 0 ≤ vlN P N t k c ∧ vlN P N t k c < P := by
  unfold vlN
  split
  · omega
  · have h1 := Int.emod_nonneg (-(c : Int)) (show (P : Int) ≠ 0 by omega)
    have h2 := Int.emod_lt_of_pos (-(c : Int)) (show (0 : Int) < P by omega)
    exact ⟨h1, h2⟩
theorem trn_bd (P N t : Nat) (xs : List Nat) (hN : 0 < N) (hP : 0 < P) (hx : ∀ x ∈ xs, x < P) : ∀ m i, 0 ≤ (trnS P N t xs m).getD i 0 ∧ (trnS P N t xs m).getD i 0 < P
  | 0, i => by
    have : (trnS P N t xs 0).getD i 0 = 0 := by
      rw [trnS]
      simp [List.getD, List.getElem?_replicate]
      split <;> rfl
    omega
  | m + 1, i => by
    rw [trnS_succ, gsetZ _ _ _ _ (by rw [trnS_len]; exact plN_lt N t m hN)]
    split
    · exact vlN_bd P N t m _ (getD_lt hx hP m)
    · exact trn_bd P N t xs hN hP hx m i
theorem trn_none (P N t : Nat) (xs : List Nat) (hN : 0 < N) : ∀ m p, (∀ j, j < m → plT N t j ≠ p) → (trnS P N t xs m).getD p 0 = 0
  | 0, p, _ => by
    rw [trnS]
    simp [List.getD, List.getElem?_replicate]
    split <;> rfl
  | m + 1, p, h => by
    rw [trnS_succ, gsetZ _ _ _ _ (by rw [trnS_len]; exact plN_lt N t m hN), if_neg (fun e => h m (by omega) e.symm)]
    exact trn_none P N t xs hN m p (fun j hj => h j (by omega))
theorem Cg.modI (P a : Int) : Cg P (a % P) a := ⟨-(a / P), by rw [Int.emod_def]; grind⟩
theorem evZ_zero (P N t : Nat) (xs : List Nat) (X : Int) : ∀ h, evI (fun i => (trnS P N t xs 0).getD i 0) X h = 0
  | 0 => rfl
  | h + 1 => by
    rw [evI, evZ_zero P N t xs X h]
    have : (trnS P N t xs 0).getD h 0 = 0 := by
      rw [trnS]
      simp [List.getD, List.getElem?_replicate]
      split <;> rfl
    rw [this]
    simp
/-- a turned polynomial at a point -/
theorem ev_trn {P N t X : Nat} (xs : List Nat) (hS : Sz4 N) (ht : t < 2 * N) (ho : t % 2 = 1) (x1 : Cg P ((X : Int) ^ (2 * N)) 1) (x2 : Cg P ((X : Int) ^ N) (-1)) : ∀ m, m ≤ N → Cg P (evI (fun i => (trnS P N t xs m).getD i 0) (X : Int) N) (evI (fun i => ((xs.getD i 0 : Nat) : Int)) ((X : Int) ^ t) m)
  | 0, _ => by
    rw [evZ_zero]
    exact Cg.refl _ _
  | m + 1, hm => by
    have hs := sz_bd hS
    have ih := ev_trn xs hS ht ho x1 x2 m (by omega)
    have hpl := plN_lt N t m (by omega)
    rw [trnS_succ, evZ_set _ _ _ (by rw [trnS_len]; exact hpl) _ N, if_pos hpl, trn_none P N t xs (by omega) m (plT N t m) (fun j hj => pl_inj hS ht ho j m (by omega) (by omega) (by omega)), Int.sub_zero, evI]
    refine ih.add ?_
    have key : Cg P (vlN P N t m (xs.getD m 0) * (X : Int) ^ plT N t m) (((xs.getD m 0 : Nat) : Int) * ((X : Int) ^ t) ^ m) := by
      rw [← Int.pow_mul, Nat.mul_comm t m]
      have hp := (pow_per x1 (m * t) _ rfl).symm
      unfold vlN plT
      by_cases h1 : m * t % (2 * N) < N
      · rw [if_pos h1, if_pos h1]
        exact (Cg.refl _ _).mul hp
      · rw [if_neg h1, if_neg h1]
        generalize m * t % (2 * N) = e at *
        have e1 : (X : Int) ^ e = (X : Int) ^ (e - N) * (X : Int) ^ N := by
          rw [← Int.pow_add]
          congr 1
          omega
        rw [e1] at hp
        have h3 := ((Cg.refl (P : Int) ((X : Int) ^ (e - N))).mul x2).symm.trans hp
        rw [Int.mul_neg, Int.mul_one] at h3
        have h4 := (Cg.modI P (-((xs.getD m 0 : Nat) : Int))).mul (Cg.refl (P : Int) ((X : Int) ^ (e - N)))
        refine h4.trans ?_
        rw [Int.neg_mul, ← Int.mul_neg]
        exact (Cg.refl _ _).mul h3
    first
    | exact key
    | (rw [Int.mul_comm (((X : Int) ^ t) ^ m)]; exact key)
theorem trn_nat (P N t : Nat) (xs : List Nat) (hN : 0 < N) (hP : 0 < P) (hx : ∀ x ∈ xs, x < P) (m i : Nat) : ((((trnS P N t xs m).map Int.toNat).getD i 0 : Nat) : Int) = (trnS P N t xs m).getD i 0 := by
  have h := trn_bd P N t xs hN hP hx m i
  simp only [List.getD, List.getElem?_map] at h ⊢
  cases e : (trnS P N t xs m)[i]? with
  | none => rfl
  | some z =>
    rw [e] at h
    simp at h ⊢
    omega
/-- a row that is ahead, turned: its numbers stand at other places -/
theorem turn_pick (P N R t : Nat) (xs : List Nat) (hS : Sz4 N) (hl : xs.length = N) (hP : 2 ≤ P) (hodd : P % 2 = 1) (hlt : ∀ x ∈ xs, x < P) (ht : t < 2 * N) (ho : t % 2 = 1) (r1 : Cg P ((R : Int) ^ (2 * N)) 1) (r2 : Cg P ((R : Int) ^ N) (-1)) :
    fwdS P N R ((trnS P N t (invL P N R xs) N).map Int.toNat) = (tabN N t).map (fun p => xs.getD p 0) := by
  have hs := sz_bd hS
  have hci : ∀ x ∈ invL P N R xs, x < P := fun x hx => by
    unfold invL at hx
    rw [List.mem_map] at hx
    obtain ⟨i, _, rfl⟩ := hx
    exact Nat.mod_lt _ (by omega)
  refine list_eq (by rw [fwdS_len, List.length_map, tabN_len]) (fun k hk => ?_)
  rw [List.length_map, tabN_len] at hk
  have hrt := fwd_inv P N R xs hS hl hP hodd hlt r1 r2
  generalize hcs : invL P N R xs = cs at *
  have h1 := fwd_ev P N R ((trnS P N t cs N).map Int.toNat) k hk
  have e1 : (fun i => ((((trnS P N t cs N).map Int.toNat).getD i 0 : Nat) : Int)) = fun i => (trnS P N t cs N).getD i 0 := by
    funext i
    exact trn_nat P N t cs (by omega) (by omega) hci N i
  rw [e1] at h1
  have c1 : Cg P (((R ^ (2 * backN (lg N) k 0 + 1) : Nat) : Int) ^ (2 * N)) 1 := by
    push_cast
    rw [← Int.pow_mul, Nat.mul_comm, Int.pow_mul]
    have := r1.pow (2 * backN (lg N) k 0 + 1)
    rw [Int.one_pow] at this
    exact this
  have c2 : Cg P (((R ^ (2 * backN (lg N) k 0 + 1) : Nat) : Int) ^ N) (-1) := by
    push_cast
    rw [← Int.pow_mul, Nat.mul_comm, Int.pow_mul]
    have := r2.pow (2 * backN (lg N) k 0 + 1)
    have e : ((-1 : Int)) ^ (2 * backN (lg N) k 0 + 1) = -1 := by
      rw [Int.pow_succ, Int.pow_mul, show ((-1 : Int) ^ 2) = 1 from rfl, Int.one_pow]
      rfl
    rw [e] at this
    exact this
  have h2 := ev_trn cs hS ht ho c1 c2 N (Nat.le_refl _)
  push_cast at h2
  have hpt := pt_all hS ht ho k hk
  have htk : (tabN N t).getD k 0 < N := by
    rw [tabN_get N t k hk]
    exact back_lt0 hS _
  have h3 : Cg P (((R : Int) ^ (2 * backN (lg N) k 0 + 1)) ^ t) ((R : Int) ^ (2 * backN (lg N) ((tabN N t).getD k 0) 0 + 1)) := by
    rw [← Int.pow_mul, hpt]
    exact pow_per r1 _ _ rfl
  have h4 := evI_x (fun i => ((cs.getD i 0 : Nat) : Int)) h3 N
  have h5 := fwd_ev P N R cs ((tabN N t).getD k 0) htk
  rw [hrt] at h5
  have e2 : ((tabN N t).map (fun p => xs.getD p 0)).getD k 0 = xs.getD ((tabN N t).getD k 0) 0 := by
    have : k < (tabN N t).length := by rw [tabN_len]; exact hk
    simp [List.getD, this]
  rw [e2]
  exact Cg.eq_of_lt (((h1.trans h2).trans h4).trans h5.symm) (getD_lt (fwdS_lt P N R _ (by omega)) (by omega) k) (getD_lt hlt (by omega) _)
end Go.Proofs.YtpebikjckhcgfaaDoor
/- Proved: turned by its inverse a polynomial comes back; no function of the program. -/
namespace Go.Proofs.YtpebikjckhcgfaaDoor
open M1
set_option linter.unusedVariables false
set_option linter.unusedSimpArgs false
/-- a polynomial turned -/
def tuN (P N t : Nat) (xs : List Nat) : List Nat := (trnS P N t xs N).map Int.toNat
theorem tuN_len (P N t : Nat) (xs : List Nat) : (tuN P N t xs).length = N := by unfold tuN; rw [List.length_map, trnS_len]
theorem fwd_tu (P N R t : Nat) (ys : List Nat) (hS : Sz4 N) (hl : ys.length = N) (hP : 2 ≤ P) (hodd : P % 2 = 1) (hlt : ∀ x ∈ ys, x < P) (ht : t < 2 * N) (ho : t % 2 = 1) (r1 : Cg P ((R : Int) ^ (2 * N)) 1) (r2 : Cg P ((R : Int) ^ N) (-1)) :
    fwdS P N R (tuN P N t ys) = (tabN N t).map (fun p => (fwdS P N R ys).getD p 0) := by
  have h := turn_pick P N R t (fwdS P N R ys) hS (fwdS_len P N R ys) hP hodd (fwdS_lt P N R ys (by omega)) ht ho r1 r2
  rw [inv_fwd P N R ys hS hl hP hodd hlt r1 r2] at h
  exact h
def tbB (N : Nat) : Bool := (List.range (2 * N)).all fun g => (List.range (2 * N)).all fun i => !(i * g % (2 * N) == 1) || (List.range N).all fun k => (tabN N g).getD ((tabN N i).getD k 0) 0 == k && decide ((tabN N i).getD k 0 < N)
theorem tb2 : tbB 2 = true := by decide +kernel
theorem tb4 : tbB 4 = true := by decide +kernel
theorem tb8 : tbB 8 = true := by decide +kernel
theorem tb16 : tbB 16 = true := by decide +kernel
theorem tab_back {N : Nat} (h : Sz4 N) (g i : Nat) (hg : g < 2 * N) (hi : i < 2 * N) (e : i * g % (2 * N) = 1) (k : Nat) (hk : k < N) : (tabN N g).getD ((tabN N i).getD k 0) 0 = k ∧ (tabN N i).getD k 0 < N := by
  have key : tbB N = true := by
    rcases h with rfl | rfl | rfl | rfl
    · exact tb2
    · exact tb4
    · exact tb8
    · exact tb16
  unfold tbB at key
  have h1 := List.all_eq_true.1 (List.all_eq_true.1 key g (by simpa using hg)) i (by simpa using hi)
  rw [e] at h1
  simp only [beq_self_eq_true, Bool.not_true, Bool.false_or] at h1
  have h2 := List.all_eq_true.1 h1 k (by simpa using hk)
  simpa using h2
theorem pick_get (N t : Nat) (zs : List Nat) (k : Nat) (hk : k < N) : ((tabN N t).map (fun p => zs.getD p 0)).getD k 0 = zs.getD ((tabN N t).getD k 0) 0 := by
  have : k < (tabN N t).length := by rw [tabN_len]; exact hk
  simp [List.getD, this]
theorem tu_toZ0 (P N t : Nat) (xs : List Nat) (hN : 0 < N) (hP : 0 < P) (hx : ∀ x ∈ xs, x < P) (m : Nat) : toZ ((trnS P N t xs m).map Int.toNat) = trnS P N t xs m := by
  rw [toZ, List.map_map]
  refine (List.map_congr_left fun x hx' => ?_).trans (List.map_id _)
  obtain ⟨i, hi, rfl⟩ := List.getElem_of_mem hx'
  have h := trn_bd P N t xs hN hP hx m i
  rw [show (trnS P N t xs m).getD i 0 = (trnS P N t xs m)[i] by simp [List.getD, hi]] at h
  show ((trnS P N t xs m)[i].toNat : Int) = (trnS P N t xs m)[i]
  omega
theorem tu_lt0 (P N t : Nat) (xs : List Nat) (hN : 0 < N) (hP : 0 < P) (hx : ∀ x ∈ xs, x < P) (m : Nat) : ∀ y ∈ (trnS P N t xs m).map Int.toNat, y < P := by
  intro y hy
  rw [List.mem_map] at hy
  obtain ⟨x, hx', rfl⟩ := hy
  obtain ⟨i, hi, rfl⟩ := List.getElem_of_mem hx'
  have h := trn_bd P N t xs hN hP hx m i
  rw [show (trnS P N t xs m).getD i 0 = (trnS P N t xs m)[i] by simp [List.getD, hi]] at h
  omega
theorem tu_lt (P N t : Nat) (xs : List Nat) (hP : 2 ≤ P) (hN : 2 ≤ N) (hlt : ∀ x ∈ xs, x < P) : ∀ z ∈ tuN P N t xs, z < P := tu_lt0 P N t xs (by omega) (by omega) hlt N
theorem tu_toZ (P N t : Nat) (xs : List Nat) (hP : 2 ≤ P) (hN : 2 ≤ N) (hlt : ∀ x ∈ xs, x < P) : trnS P N t xs N = toZ (tuN P N t xs) := (tu_toZ0 P N t xs (by omega) (by omega) hlt N).symm
theorem tu_back (P N R g i : Nat) (ys : List Nat) (hS : Sz4 N) (hl : ys.length = N) (hP : 2 ≤ P) (hodd : P % 2 = 1) (hlt : ∀ x ∈ ys, x < P) (hg : g < 2 * N) (hi : i < 2 * N) (og : g % 2 = 1) (oi : i % 2 = 1) (e : i * g % (2 * N) = 1) (r1 : Cg P ((R : Int) ^ (2 * N)) 1) (r2 : Cg P ((R : Int) ^ N) (-1)) :
    tuN P N i (tuN P N g ys) = ys := by
  have hs := sz_bd hS
  have b1 := tu_lt P N g ys hP (by omega) hlt
  have b2 := tu_lt P N i (tuN P N g ys) hP (by omega) b1
  have h1 := fwd_tu P N R g ys hS hl hP hodd hlt hg og r1 r2
  have h2 := fwd_tu P N R i (tuN P N g ys) hS (tuN_len P N g ys) hP hodd b1 hi oi r1 r2
  have h3 : fwdS P N R (tuN P N i (tuN P N g ys)) = fwdS P N R ys := by
    refine list_eq (by rw [fwdS_len, fwdS_len]) (fun k hk => ?_)
    rw [fwdS_len] at hk
    obtain ⟨t1, t2⟩ := tab_back hS g i hg hi e k hk
    rw [h2, pick_get N i _ k hk, h1, pick_get N g _ _ t2, t1]
  rw [← inv_fwd P N R (tuN P N i (tuN P N g ys)) hS (tuN_len _ _ _ _) hP hodd b2 r1 r2, h3]
  exact inv_fwd P N R ys hS hl hP hodd hlt r1 r2
end Go.Proofs.YtpebikjckhcgfaaDoor
