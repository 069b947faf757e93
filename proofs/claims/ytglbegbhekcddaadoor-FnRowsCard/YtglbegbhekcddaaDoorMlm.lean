/- Proved: the mathematics of a product in a ring: the inverse transform takes back the transform, and the transform of the model's product is the products of the transforms one by one; no function of the program. -/
import Derived.Test.YtglbegbhekcddaaDoorRw30
import Derived.Test.YtglbegbhekcddaaDoorRw16
namespace Go.Proofs.YtglbegbhekcddaaDoor
open M1
set_option linter.unusedVariables false
set_option linter.unusedSimpArgs false
theorem sumK_plus (f g : Nat → Int) (a : Nat) : ∀ n, sumK (fun k => f k + g k) a n = sumK f a n + sumK g a n
  | 0 => by simp [sumK]
  | n + 1 => by rw [sumK, sumK_plus f g a n, sumK, sumK]; omega
theorem sumK_const (c : Int) (a : Nat) : ∀ n : Nat, sumK (fun _ => c) a n = (n : Int) * c
  | 0 => by simp [sumK]
  | n + 1 => by rw [sumK, sumK_const c a n, Int.natCast_add, Int.add_mul]; simp
theorem sumK_shift {P : Int} (f : Nat → Int) (s h : Nat) : ∀ n, (∀ i, i < n → Cg P (f (s + h + i)) (-(f (s + i)))) → Cg P (sumK f (s + h) n) (-(sumK f s n))
  | 0, _ => by simp [sumK]; exact Cg.refl _ _
  | n + 1, H => by
    rw [sumK, sumK, Int.neg_add]
    exact (sumK_shift f s h n (fun i hi => H i (by omega))).add (H n (by omega))
theorem sumK_pairs {P : Int} (f : Nat → Int) (h Q : Nat) (hf : ∀ J i, J < Q → i < h → Cg P (f (J * (2 * h) + h + i)) (-(f (J * (2 * h) + i)))) : ∀ J, J ≤ Q → Cg P (sumK f 0 (J * (2 * h))) 0
  | 0, _ => by rw [Nat.zero_mul]; exact Cg.refl _ _
  | J + 1, hJ => by
    rw [Nat.add_mul, Nat.one_mul, sumK_add, Nat.zero_add, show 2 * h = h + h by omega, sumK_add, ← show 2 * h = h + h by omega]
    have h1 := sumK_pairs f h Q hf J (by omega)
    have h2 := sumK_shift f (J * (2 * h)) h h (fun i hi => hf J i (by omega) hi)
    have h3 := h1.add ((Cg.refl P (sumK f (J * (2 * h)) h)).add h2)
    rw [Int.add_right_neg, Int.add_zero] at h3
    exact h3
def pw2 (d : Nat) : Nat := if d % 2 = 1 then 1 else if d % 4 = 2 then 2 else if d % 8 = 4 then 4 else 8
def pairB (N d : Nat) : Bool := decide (N % (2 * pw2 d) = 0) && (List.range N).all (fun k => decide (¬ k % (2 * pw2 d) < pw2 d) || decide (((2 * backN (lg N) k 0 + 1) * d + N) % (2 * N) = ((2 * backN (lg N) (k + pw2 d) 0 + 1) * d) % (2 * N)))
theorem pair2 : ∀ d, d < 2 → 0 < d → pairB 2 d = true := by decide +kernel
theorem pair4 : ∀ d, d < 4 → 0 < d → pairB 4 d = true := by decide +kernel
theorem pair8 : ∀ d, d < 8 → 0 < d → pairB 8 d = true := by decide +kernel
theorem pair16 : ∀ d, d < 16 → 0 < d → pairB 16 d = true := by decide +kernel
theorem pairs {N : Nat} (h : Sz4 N) (d : Nat) (hd : d < N) (h0 : 0 < d) : N % (2 * pw2 d) = 0 ∧ ∀ k, k < N → k % (2 * pw2 d) < pw2 d → ((2 * backN (lg N) k 0 + 1) * d + N) % (2 * N) = ((2 * backN (lg N) (k + pw2 d) 0 + 1) * d) % (2 * N) := by
  have key : pairB N d = true := by
    rcases h with rfl | rfl | rfl | rfl
    · exact pair2 d hd h0
    · exact pair4 d hd h0
    · exact pair8 d hd h0
    · exact pair16 d hd h0
  unfold pairB at key
  rw [Bool.and_eq_true] at key
  refine ⟨of_decide_eq_true key.1, fun k hk hlt => ?_⟩
  have := List.all_eq_true.1 key.2 k (List.mem_range.2 hk)
  rw [Bool.or_eq_true] at this
  rcases this with h1 | h1
  · exact absurd hlt (of_decide_eq_true h1)
  · exact of_decide_eq_true h1
theorem pw2_pos (d : Nat) : 0 < pw2 d := by unfold pw2; split <;> (try split) <;> (try split) <;> omega
theorem orth {P N T : Nat} (hS : Sz4 N) (t1 : Cg P ((T : Int) ^ (2 * N)) 1) (t2 : Cg P ((T : Int) ^ N) (-1)) (d : Nat) (hd : d < N) (h0 : 0 < d) :
    Cg P (sumK (fun k => (T : Int) ^ ((2 * backN (lg N) k 0 + 1) * d)) 0 N) 0 := by
  obtain ⟨hm, hp⟩ := pairs hS d hd h0
  have hpos := pw2_pos d
  have e : N = N / (2 * pw2 d) * (2 * pw2 d) := by
    have := Nat.div_add_mod N (2 * pw2 d)
    rw [hm, Nat.add_zero, Nat.mul_comm] at this
    exact this.symm
  have key := sumK_pairs (P := P) (fun k => (T : Int) ^ ((2 * backN (lg N) k 0 + 1) * d)) (pw2 d) (N / (2 * pw2 d)) (fun J i hJ hi => by
    have hb : J * (2 * pw2 d) + 2 * pw2 d ≤ N := by
      have := Nat.mul_le_mul_right (2 * pw2 d) (show J + 1 ≤ N / (2 * pw2 d) by omega)
      rw [← e, Nat.add_mul, Nat.one_mul] at this
      exact this
    have hk := hp (J * (2 * pw2 d) + i) (by omega) (by rw [Nat.mul_comm, Nat.mul_add_mod, Nat.mod_eq_of_lt (by omega)]; exact hi)
    have ek : J * (2 * pw2 d) + pw2 d + i = J * (2 * pw2 d) + i + pw2 d := by omega
    show Cg P ((T : Int) ^ ((2 * backN (lg N) (J * (2 * pw2 d) + pw2 d + i) 0 + 1) * d)) (-((T : Int) ^ ((2 * backN (lg N) (J * (2 * pw2 d) + i) 0 + 1) * d)))
    rw [ek]
    have c1 := pow_per t1 _ _ hk.symm
    have c2 := (pow_per t1 ((2 * backN (lg N) (J * (2 * pw2 d) + i) 0 + 1) * d + N) _ rfl).symm
    refine (c1.trans c2).trans ?_
    rw [Int.pow_add]
    have := (Cg.refl (P : Int) ((T : Int) ^ ((2 * backN (lg N) (J * (2 * pw2 d) + i) 0 + 1) * d))).mul t2
    rw [Int.mul_neg, Int.mul_one] at this
    exact this) (N / (2 * pw2 d)) (Nat.le_refl _)
  rw [← e] at key
  exact key
theorem pow_swap (R B : Int) (P : Int) (hB : Cg P (R * B) 1) (p h i : Nat) : Cg P ((R ^ p) ^ h * B ^ (p * i)) (if i ≤ h then R ^ (p * (h - i)) else B ^ (p * (i - h))) := by
  have hz : ∀ z : Nat, Cg P (R ^ z * B ^ z) 1 := fun z => by
    have := hB.pow z
    rw [Int.one_pow, Int.mul_pow] at this
    exact this
  rw [← Int.pow_mul]
  by_cases hi : i ≤ h
  · rw [if_pos hi, show p * h = p * (h - i) + p * i by rw [← Nat.mul_add]; congr 1; omega, Int.pow_add, Int.mul_assoc]
    have := (Cg.refl P (R ^ (p * (h - i)))).mul (hz (p * i))
    rw [Int.mul_one] at this
    exact this
  · rw [if_neg hi, show p * i = p * h + p * (i - h) by rw [← Nat.mul_add]; congr 1; omega, Int.pow_add, ← Int.mul_assoc]
    have := (hz (p * h)).mul (Cg.refl P (B ^ (p * (i - h))))
    rw [Int.one_mul] at this
    exact this
theorem back_sum {P N R B : Nat} (hS : Sz4 N) (r1 : Cg P ((R : Int) ^ (2 * N)) 1) (r2 : Cg P ((R : Int) ^ N) (-1)) (hB : Cg P ((R : Int) * (B : Int)) 1) (c : Nat → Int) (i : Nat) (hi : i < N) :
    ∀ h, h ≤ N → Cg P (sumK (fun k => evI c ((R : Int) ^ (2 * backN (lg N) k 0 + 1)) h * (B : Int) ^ ((2 * backN (lg N) k 0 + 1) * i)) 0 N) (if i < h then (N : Int) * c i else 0)
  | 0, _ => by
    rw [if_neg (by omega)]
    have : (fun k => evI c ((R : Int) ^ (2 * backN (lg N) k 0 + 1)) 0 * (B : Int) ^ ((2 * backN (lg N) k 0 + 1) * i)) = fun _ => (0 : Int) := by
      funext k
      simp [evI]
    rw [this, sumK_const, Int.mul_zero]
    exact Cg.refl _ _
  | h + 1, hh => by
    have ih := back_sum hS r1 r2 hB c i hi h (by omega)
    obtain ⟨b1, b2, _⟩ := inv_pw r1 r2 hB
    have e : (fun k => evI c ((R : Int) ^ (2 * backN (lg N) k 0 + 1)) (h + 1) * (B : Int) ^ ((2 * backN (lg N) k 0 + 1) * i)) = fun k => evI c ((R : Int) ^ (2 * backN (lg N) k 0 + 1)) h * (B : Int) ^ ((2 * backN (lg N) k 0 + 1) * i) + (((R : Int) ^ (2 * backN (lg N) k 0 + 1)) ^ h * (B : Int) ^ ((2 * backN (lg N) k 0 + 1) * i)) * c h := by
      funext k
      rw [evI]
      grind
    rw [e, sumK_plus, sumK_mul]
    have hs : Cg P (sumK (fun k => ((R : Int) ^ (2 * backN (lg N) k 0 + 1)) ^ h * (B : Int) ^ ((2 * backN (lg N) k 0 + 1) * i)) 0 N) (if i = h then (N : Int) else 0) := by
      refine (sumK_cg (g := fun k => if i ≤ h then (R : Int) ^ ((2 * backN (lg N) k 0 + 1) * (h - i)) else (B : Int) ^ ((2 * backN (lg N) k 0 + 1) * (i - h))) 0 N (fun j _ => pow_swap (R : Int) (B : Int) P hB (2 * backN (lg N) (0 + j) 0 + 1) h i)).trans ?_
      by_cases h1 : i = h
      · subst h1
        rw [if_pos rfl]
        have : (fun k => if i ≤ i then (R : Int) ^ ((2 * backN (lg N) k 0 + 1) * (i - i)) else (B : Int) ^ ((2 * backN (lg N) k 0 + 1) * (i - i))) = fun _ => (1 : Int) := by
          funext k
          rw [if_pos (Nat.le_refl _), Nat.sub_self, Nat.mul_zero, Int.pow_zero]
        rw [this, sumK_const, Int.mul_one]
        exact Cg.refl _ _
      · rw [if_neg h1]
        by_cases h2 : i ≤ h
        · have : (fun k => if i ≤ h then (R : Int) ^ ((2 * backN (lg N) k 0 + 1) * (h - i)) else (B : Int) ^ ((2 * backN (lg N) k 0 + 1) * (i - h))) = fun k => (R : Int) ^ ((2 * backN (lg N) k 0 + 1) * (h - i)) := by
            funext k
            rw [if_pos h2]
          rw [this]
          exact orth hS r1 r2 (h - i) (by omega) (by omega)
        · have : (fun k => if i ≤ h then (R : Int) ^ ((2 * backN (lg N) k 0 + 1) * (h - i)) else (B : Int) ^ ((2 * backN (lg N) k 0 + 1) * (i - h))) = fun k => (B : Int) ^ ((2 * backN (lg N) k 0 + 1) * (i - h)) := by
            funext k
            rw [if_neg h2]
          rw [this]
          exact orth hS b1 b2 (i - h) (by omega) (by omega)
    have h3 := ih.add (hs.mul (Cg.refl (P : Int) (c h)))
    refine h3.trans ?_
    by_cases h1 : i = h
    · subst h1
      rw [if_neg (by omega), if_pos rfl, if_pos (by omega), Int.zero_add]
      exact Cg.refl _ _
    · rw [if_neg h1, Int.zero_mul, Int.add_zero]
      by_cases h2 : i < h
      · rw [if_pos h2, if_pos (by omega)]
        exact Cg.refl _ _
      · rw [if_neg h2, if_neg (by omega)]
        exact Cg.refl _ _
theorem inv_size {P N : Nat} (hS : Sz4 N) (hP : 2 ≤ P) (ho : P % 2 = 1) : Cg P ((N : Int) * ((invM (N % P) P : Nat) : Int)) 1 := by
  have hN := (lg_pow hS).1
  obtain ⟨h, hh⟩ : ∃ h, 2 * h = P + 1 := ⟨(P + 1) / 2, by omega⟩
  have e1 : Cg P (((N * (h ^ lg N % P) : Nat)) : Int) 1 := by
    have h1 := (Cg.refl (P : Int) (N : Int)).mul (Cg.mod P (h ^ lg N))
    rw [Int.natCast_mul]
    refine h1.trans ?_
    rw [← Int.natCast_mul]
    have e2 : N * h ^ lg N = (P + 1) ^ lg N := by
      rw [← hh, Nat.mul_pow, hN]
    rw [e2]
    have h2 : Cg P ((P : Int) + 1) 1 := ⟨1, by omega⟩
    have h3 := h2.pow (lg N)
    rw [Int.one_pow] at h3
    push_cast
    exact h3
  have h2 : N % P * (h ^ lg N % P) % P = 1 := by
    rw [Nat.mod_mul_mod]
    exact Cg.eq_of_lt ((Cg.mod P _).trans e1) (Nat.mod_lt _ (by omega)) (by omega)
  rw [invM_of (N % P) _ P (Nat.mod_lt _ (by omega)) h2, ← Int.natCast_mul]
  exact e1
theorem fwd_ev (P N R : Nat) (xs : List Nat) (k : Nat) (hk : k < N) : Cg P (((fwdS P N R xs).getD k 0 : Nat) : Int) (evI (fun i => ((xs.getD i 0 : Nat) : Int)) ((R : Int) ^ (2 * backN (lg N) k 0 + 1)) N) := by
  rw [fwdS_get P N R xs k hk, ptsN_get N k hk]
  have h2 := hor_ev P (R ^ (2 * backN (lg N) k 0 + 1) % P) xs N N (Nat.le_refl _)
  have e2 : (fun i => ((xs.getD (N - N + i) 0 : Nat) : Int)) = (fun i => ((xs.getD i 0 : Nat) : Int)) := by
    funext i
    rw [Nat.sub_self, Nat.zero_add]
  rw [e2] at h2
  refine h2.trans (evI_x _ ?_ N)
  have := Cg.mod P (R ^ (2 * backN (lg N) k 0 + 1))
  push_cast at this ⊢
  exact this
theorem inv_fwd (P N R : Nat) (cs : List Nat) (hS : Sz4 N) (hl : cs.length = N) (hP : 2 ≤ P) (ho : P % 2 = 1) (hlt : ∀ x ∈ cs, x < P) (r1 : Cg P ((R : Int) ^ (2 * N)) 1) (r2 : Cg P ((R : Int) ^ N) (-1)) : invL P N R (fwdS P N R cs) = cs := by
  have hs := sz_bd hS
  refine list_eq (by rw [invL_len, hl]) (fun i hi => ?_)
  rw [hl] at hi
  rw [invL_get P N R _ i hi]
  have hB := inv_root (N := N) hP (by omega) r1
  have h1 := invS_sum P (invM R P) (ptsN N) (fwdS P N R cs) i N
  have h2 : Cg P (sumK (fun k => (((fwdS P N R cs).getD k 0 : Nat) : Int) * ((invM R P : Nat) : Int) ^ ((ptsN N).getD k 0 * i)) 0 N) (sumK (fun k => evI (fun i => ((cs.getD i 0 : Nat) : Int)) ((R : Int) ^ (2 * backN (lg N) k 0 + 1)) N * ((invM R P : Nat) : Int) ^ ((2 * backN (lg N) k 0 + 1) * i)) 0 N) := by
    refine sumK_cg 0 N (fun j hj => ?_)
    rw [Nat.zero_add, ptsN_get N j hj]
    exact (fwd_ev P N R cs j hj).mul (Cg.refl _ _)
  have h3 := back_sum hS r1 r2 hB (fun i => ((cs.getD i 0 : Nat) : Int)) i hi N (Nat.le_refl _)
  rw [if_pos hi] at h3
  have h4 := ((h1.trans h2).trans h3).mul (Cg.refl (P : Int) ((invM (N % P) P : Nat) : Int))
  have h5 := (inv_size hS hP ho).mul (Cg.refl (P : Int) ((cs.getD i 0 : Nat) : Int))
  rw [Int.one_mul] at h5
  refine Cg.eq_of_lt ((Cg.mod P _).trans ?_) (Nat.mod_lt _ (by omega)) (getD_lt hlt (by omega) i)
  rw [Int.natCast_mul]
  refine h4.trans ?_
  refine Cg.trans ?_ h5
  exact ⟨0, by grind⟩
def muI (P N x i : Nat) (ys os : List Nat) : Nat → List Nat
  | 0 => os
  | k + 1 => if i + k < N then (muI P N x i ys os k).set (i + k) (((muI P N x i ys os k).getD (i + k) 0 + x * ys.getD k 0 % P) % P) else (muI P N x i ys os k).set (i + k - N) (((muI P N x i ys os k).getD (i + k - N) 0 + P - x * ys.getD k 0 % P) % P)
def muO (P N : Nat) (xs ys : List Nat) : Nat → List Nat
  | 0 => List.replicate N 0
  | i + 1 => muI P N (xs.getD i 0) i ys (muO P N xs ys i) N
theorem muI_len (P N x i : Nat) (ys os : List Nat) : ∀ k, (muI P N x i ys os k).length = os.length
  | 0 => rfl
  | k + 1 => by rw [muI]; split <;> rw [List.length_set, muI_len P N x i ys os k]
theorem muO_len (P N : Nat) (xs ys : List Nat) : ∀ i, (muO P N xs ys i).length = N
  | 0 => by simp [muO]
  | i + 1 => by rw [muO, muI_len, muO_len P N xs ys i]
theorem muI_lt (P N x i : Nat) (ys os : List Nat) (hP : 0 < P) (h : ∀ z ∈ os, z < P) : ∀ k, ∀ z ∈ muI P N x i ys os k, z < P
  | 0 => h
  | k + 1 => by
    rw [muI]
    intro z hz
    split at hz
    · rcases List.mem_or_eq_of_mem_set hz with h1 | h1
      · exact muI_lt P N x i ys os hP h k z h1
      · rw [h1]; exact Nat.mod_lt _ hP
    · rcases List.mem_or_eq_of_mem_set hz with h1 | h1
      · exact muI_lt P N x i ys os hP h k z h1
      · rw [h1]; exact Nat.mod_lt _ hP
theorem muO_lt (P N : Nat) (xs ys : List Nat) (hP : 0 < P) : ∀ i, ∀ z ∈ muO P N xs ys i, z < P
  | 0 => by intro z hz; rw [muO] at hz; rw [(List.mem_replicate.1 hz).2]; exact hP
  | i + 1 => by rw [muO]; exact muI_lt P N _ i ys _ hP (muO_lt P N xs ys hP i) N
theorem ev_set (l : List Nat) (m v : Nat) (hm : m < l.length) (X : Int) : ∀ h, evI (fun i => (((l.set m v).getD i 0 : Nat) : Int)) X h = evI (fun i => ((l.getD i 0 : Nat) : Int)) X h + (if m < h then ((v : Int) - ((l.getD m 0 : Nat) : Int)) * X ^ m else 0)
  | 0 => by simp [evI]
  | h + 1 => by
    rw [evI, ev_set l m v hm X h, evI, gset l m v h hm]
    by_cases h1 : h = m
    · subst h1
      rw [if_pos rfl, if_neg (by omega), if_pos (by omega)]
      grind
    · rw [if_neg h1]
      by_cases h2 : m < h
      · rw [if_pos h2, if_pos (by omega)]; grind
      · rw [if_neg h2, if_neg (by omega)]; grind
theorem ev_muI (P N x i : Nat) (ys os : List Nat) (hP : 0 < P) (ho : os.length = N) (hi : i < N) (X : Int) (hX : Cg P (X ^ N) (-1)) : ∀ k, k ≤ N → Cg P (evI (fun j => (((muI P N x i ys os k).getD j 0 : Nat) : Int)) X N) (evI (fun j => ((os.getD j 0 : Nat) : Int)) X N + (x : Int) * X ^ i * evI (fun j => ((ys.getD j 0 : Nat) : Int)) X k)
  | 0, _ => by rw [muI, evI, Int.mul_zero, Int.add_zero]; exact Cg.refl _ _
  | k + 1, hk => by
    have ih := ev_muI P N x i ys os hP ho hi X hX k (by omega)
    have hl := muI_len P N x i ys os k
    have hz : Cg P ((x * ys.getD k 0 % P : Nat) : Int) ((x : Int) * ((ys.getD k 0 : Nat) : Int)) := by
      have := Cg.mod P (x * ys.getD k 0)
      rw [Int.natCast_mul] at this
      exact this
    have hzl : x * ys.getD k 0 % P < P := Nat.mod_lt _ hP
    rw [muI]
    split
    case isTrue h1 =>
      rw [ev_set _ (i + k) _ (by omega) X N, if_pos h1]
      generalize (muI P N x i ys os k).getD (i + k) 0 = L
      generalize x * ys.getD k 0 % P = Z at *
      have c1 : Cg P ((((L + Z) % P : Nat) : Int) - (L : Int)) ((x : Int) * ((ys.getD k 0 : Nat) : Int)) := by
        have h2 := (Cg.mod P (L + Z)).add (Cg.refl (P : Int) (-(L : Int)))
        have h3 : (((L + Z : Nat) : Int) + -(L : Int)) = (Z : Int) := by omega
        rw [h3] at h2
        exact h2.trans hz
      refine (ih.add (c1.mul (Cg.refl (P : Int) (X ^ (i + k))))).trans ?_
      rw [evI, Int.pow_add]
      exact ⟨0, by grind⟩
    case isFalse h1 =>
      rw [ev_set _ (i + k - N) _ (by omega) X N, if_pos (by omega)]
      generalize (muI P N x i ys os k).getD (i + k - N) 0 = L
      generalize x * ys.getD k 0 % P = Z at *
      have c1 : Cg P ((((L + P - Z) % P : Nat) : Int) - (L : Int)) (-((x : Int) * ((ys.getD k 0 : Nat) : Int))) := by
        have h2 := (Cg.mod P (L + P - Z)).add (Cg.refl (P : Int) (-(L : Int)))
        refine h2.trans ?_
        refine Cg.trans ?_ hz.neg
        exact ⟨1, by omega⟩
      have c2 : Cg P (X ^ (i + k)) (-(X ^ (i + k - N))) := by
        have h2 := (Cg.refl (P : Int) (X ^ (i + k - N))).mul hX
        rw [← Int.pow_add, show i + k - N + N = i + k by omega, Int.mul_neg, Int.mul_one] at h2
        exact h2
      have c3 := c1.mul (Cg.refl (P : Int) (X ^ (i + k - N)))
      rw [Int.neg_mul, ← Int.mul_neg] at c3
      have c4 := c3.trans ((Cg.refl (P : Int) ((x : Int) * ((ys.getD k 0 : Nat) : Int))).mul c2.symm)
      refine (ih.add c4).trans ?_
      rw [evI, Int.pow_add]
      exact ⟨0, by grind⟩
theorem ev_zero (N : Nat) (X : Int) : ∀ h, evI (fun j => (((List.replicate N 0).getD j 0 : Nat) : Int)) X h = 0
  | 0 => rfl
  | h + 1 => by
    rw [evI, ev_zero N X h]
    have : (List.replicate N 0).getD h 0 = 0 := by
      simp [List.getD, List.getElem?_replicate]
      split <;> rfl
    rw [this]
    simp
theorem ev_muO (P N : Nat) (xs ys : List Nat) (hP : 0 < P) (X : Int) (hX : Cg P (X ^ N) (-1)) : ∀ i, i ≤ N → Cg P (evI (fun j => (((muO P N xs ys i).getD j 0 : Nat) : Int)) X N) (evI (fun j => ((xs.getD j 0 : Nat) : Int)) X i * evI (fun j => ((ys.getD j 0 : Nat) : Int)) X N)
  | 0, _ => by rw [muO, ev_zero, evI, Int.zero_mul]; exact Cg.refl _ _
  | i + 1, hi => by
    have ih := ev_muO P N xs ys hP X hX i (by omega)
    rw [muO]
    refine (ev_muI P N (xs.getD i 0) i ys (muO P N xs ys i) hP (muO_len P N xs ys i) (by omega) X hX N (Nat.le_refl _)).trans ?_
    refine (ih.add (Cg.refl _ _)).trans ?_
    rw [evI]
    exact ⟨0, by grind⟩
theorem fwd_mul (P N R : Nat) (xs ys : List Nat) (hS : Sz4 N) (hP : 2 ≤ P) (r2 : Cg P ((R : Int) ^ N) (-1)) : fwdS P N R (muO P N xs ys N) = eachN P N (fwdS P N R xs) (fwdS P N R ys) := by
  refine list_eq (by rw [fwdS_len, eachN_len]) (fun k hk => ?_)
  rw [eachN_len] at hk
  rw [eachN_get P N _ _ k hk]
  have hX : Cg P (((R : Int) ^ (2 * backN (lg N) k 0 + 1)) ^ N) (-1) := by
    rw [← Int.pow_mul, Nat.mul_comm, Int.pow_mul]
    have h1 := r2.pow (2 * backN (lg N) k 0 + 1)
    have h2 : ((-1 : Int)) ^ (2 * backN (lg N) k 0 + 1) = -1 := by
      rw [Int.pow_succ, Int.pow_mul]
      simp [Int.one_pow]
    rw [h2] at h1
    exact h1
  have h1 := fwd_ev P N R (muO P N xs ys N) k hk
  have h2 := ev_muO P N xs ys (by omega) _ hX N (Nat.le_refl _)
  have h3 := ((fwd_ev P N R xs k hk).mul (fwd_ev P N R ys k hk)).symm
  have h4 := (h1.trans h2).trans h3
  rw [← Int.natCast_mul] at h4
  refine Cg.eq_of_lt (h4.trans (Cg.mod P _).symm) ?_ (Nat.mod_lt _ (by omega))
  rw [fwdS_get P N R _ k hk]
  exact horS_lt P _ _ N (by omega) N
theorem mul_same (P N R : Nat) (xs ys : List Nat) (hS : Sz4 N) (hP : 2 ≤ P) (ho : P % 2 = 1) (r1 : Cg P ((R : Int) ^ (2 * N)) 1) (r2 : Cg P ((R : Int) ^ N) (-1)) : invL P N R (eachN P N (fwdS P N R xs) (fwdS P N R ys)) = muO P N xs ys N := by
  rw [← fwd_mul P N R xs ys hS hP r2]
  exact inv_fwd P N R _ hS (muO_len P N xs ys N) hP ho (muO_lt P N xs ys (by omega) N) r1 r2
end Go.Proofs.YtglbegbhekcddaaDoor
