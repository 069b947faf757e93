/- Proved: the lists that the program's inverse and the model's make are the same. -/
import Derived.Test.YtfgooclnohnkmaaGreatDoorIvm
import Derived.Test.YtfgooclnohnkmaaGreatDoorMnttc
namespace Go.Proofs.YtfgooclnohnkmaaGreatDoor
open M1
set_option linter.unusedVariables false
set_option linter.unusedSimpArgs false
theorem inv_pw {P N R : Nat} {B : Nat} (r1 : Cg P ((R : Int) ^ (2 * N)) 1) (r2 : Cg P ((R : Int) ^ N) (-1)) (hB : Cg P ((R : Int) * (B : Int)) 1) :
    Cg P ((B : Int) ^ (2 * N)) 1 ∧ Cg P ((B : Int) ^ N) (-1) ∧ ∀ z, z ≤ 2 * N → Cg P ((B : Int) ^ z) ((R : Int) ^ (2 * N - z)) := by
  have hz : ∀ z, Cg P ((R : Int) ^ z * (B : Int) ^ z) 1 := fun z => by
    have := hB.pow z
    rw [Int.one_pow, Int.mul_pow] at this
    exact this
  refine ⟨?_, ?_, fun z hz' => ?_⟩
  · have h := (r1.mul (Cg.refl (P : Int) ((B : Int) ^ (2 * N)))).symm.trans (hz (2 * N))
    rw [Int.one_mul] at h
    exact h
  · have h := ((r2.mul (Cg.refl (P : Int) ((B : Int) ^ N))).symm.trans (hz N)).neg
    rw [Int.neg_mul, Int.one_mul, Int.neg_neg] at h
    exact h
  · have h1 := (Cg.refl (P : Int) ((R : Int) ^ (2 * N - z))).mul (hz z)
    rw [Int.mul_one, ← Int.mul_assoc, ← Int.pow_add, show 2 * N - z + z = 2 * N by omega] at h1
    have h2 := (r1.mul (Cg.refl (P : Int) ((B : Int) ^ z))).symm.trans h1
    rw [Int.one_mul] at h2
    exact h2
theorem halt {N : Nat} (h : Sz4 N) (t : Nat) (ht : t < lg N) : ∃ s, s < lg N ∧ N / 2 ^ (t + 1) = 2 ^ s ∧ N / 2 ^ s = 2 * 2 ^ t ∧ N / 2 ^ (t + 1) * (2 * 2 ^ t) = N := by
  have key : ∀ M ∈ [2, 4, 8, 16], ∀ t, t < lg M → lg M - 1 - t < lg M ∧ M / 2 ^ (t + 1) = 2 ^ (lg M - 1 - t) ∧ M / 2 ^ (lg M - 1 - t) = 2 * 2 ^ t ∧ M / 2 ^ (t + 1) * (2 * 2 ^ t) = M := by
    intro M hM t ht
    simp only [List.mem_cons, List.not_mem_nil, or_false] at hM
    have hs4 : t < 4 := by have := (lg_pow (N := M) (by omega)).2.2; omega
    rcases hM with rfl | rfl | rfl | rfl <;> (have : t = 0 ∨ t = 1 ∨ t = 2 ∨ t = 3 := by omega) <;> rcases this with rfl | rfl | rfl | rfl <;> revert ht <;> decide
  exact ⟨_, key N (by simp only [List.mem_cons, List.not_mem_nil, or_false]; omega) t ht⟩
theorem isS_sum (P N R B : Nat) (xs : List Nat) (hS : Sz4 N) (hl : xs.length = N) (hP : 0 < P) (hlt : ∀ x ∈ xs, x < P) (r1 : Cg P ((R : Int) ^ (2 * N)) 1) (r2 : Cg P ((R : Int) ^ N) (-1)) (hB : Cg P ((R : Int) * (B : Int)) 1) : ∀ t, t ≤ lg N → ∀ J i, J * 2 ^ t + 2 ^ t ≤ N → i < 2 ^ t →
    Cg P (((isS P N R xs t).getD (J * 2 ^ t + i) 0 : Nat) : Int) (sumK (fun k => ((xs.getD k 0 : Nat) : Int) * (B : Int) ^ ((2 * backN (lg N) k 0 + 1) * i)) (J * 2 ^ t) (2 ^ t))
  | 0, _, J, i, hJ, hi => by
    obtain rfl : i = 0 := by simpa using hi
    simp only [isS, sumK, Nat.pow_zero, Nat.mul_one, Nat.add_zero, Nat.mul_zero, Int.zero_add, Int.pow_zero, Int.mul_one]
    exact Cg.refl _ _
  | t + 1, ht, J, i, hJ, hi => by
    obtain ⟨s, hs, q1, q2, q3⟩ := halt hS t (by omega)
    obtain ⟨b1, b2, b3⟩ := inv_pw r1 r2 hB
    have h0 : 0 < 2 ^ t := Nat.pos_of_ne_zero (by simp)
    have ih := isS_sum P N R B xs hS hl hP hlt r1 r2 hB t (by omega)
    have hg := ip_get P N R t (2 ^ t) (isS P N R xs t) (by rw [isS_len, hl]) rfl q3 h0 (N / 2 ^ (t + 1)) (Nat.le_refl _)
    have hf := fun k hk => fact hS s hs k hk
    have hbk := fun k => back_lt0 hS k
    have hlt2 := fun m => getD_lt (isS_lt P N R xs hP hlt t) hP m
    rw [isS]
    rw [q2, ← q1] at hf
    generalize isS P N R xs t = fs at *
    generalize N / 2 ^ (t + 1) = Q at *
    rw [show (2 : Nat) ^ (t + 1) = 2 * 2 ^ t by rw [Nat.pow_succ, Nat.mul_comm]] at hJ hi ⊢
    generalize 2 ^ t = hh at *
    rw [show 2 * hh / 2 = hh by omega] at hf
    have hJQ : J < Q := by
      have h1 : (J + 1) * (2 * hh) ≤ Q * (2 * hh) := by rw [Nat.add_mul, Nat.one_mul, q3]; exact hJ
      have := Nat.le_of_mul_le_mul_right h1 (by omega)
      omega
    have hmq : ∀ m, m < N → m / (2 * hh) < Q := fun m hm => by
      rw [Nat.div_lt_iff_lt_mul (by omega), q3]
      exact hm
    refine step_iv P N hh Q fs _ (fun J => R ^ (2 * N - backN (lg N) (Q + J) 0) % P) (fun k => ((xs.getD k 0 : Nat) : Int)) (B : Int) (fun k => 2 * backN (lg N) k 0 + 1) hP q3 h0 hlt2 (fun m hm => ?_) (fun k hk => ?_) ih J i hJQ hi
    · rw [hg m hm, if_pos (hmq m hm)]
    · have hfk := hf k hk
      have hz := hbk (Q + k / (2 * hh))
      generalize backN (lg N) (Q + k / (2 * hh)) 0 = z at *
      have hm : Cg P ((R ^ (2 * N - z) % P : Nat) : Int) ((R : Int) ^ (2 * N - z)) := by
        have := Cg.mod P (R ^ (2 * N - z))
        push_cast at this ⊢
        exact this
      by_cases hlo : k % (2 * hh) < hh
      · rw [if_pos hlo] at hfk ⊢
        exact (pow_per b1 _ _ hfk).trans ((b3 z (by omega)).trans hm.symm)
      · rw [if_neg hlo] at hfk ⊢
        refine (pow_per b1 _ _ hfk).trans ?_
        rw [Int.pow_add]
        refine (((b3 z (by omega)).trans hm.symm).mul b2).trans ?_
        rw [Int.mul_neg, Int.mul_one]
        exact Cg.refl _ _
theorem invS_sum (P B : Nat) (ps xs : List Nat) (i : Nat) : ∀ c, Cg P ((invS P B ps xs i c : Nat) : Int) (sumK (fun k => ((xs.getD k 0 : Nat) : Int) * (B : Int) ^ (ps.getD k 0 * i)) 0 c)
  | 0 => Cg.refl _ _
  | c + 1 => by
    rw [invS, sumK, Nat.zero_add]
    refine (Cg.mod P _).trans ?_
    rw [Int.natCast_add, Int.natCast_mul]
    refine (invS_sum P B ps xs i c).add ((Cg.refl _ _).mul ?_)
    have := Cg.mod P (B ^ (ps.getD c 0 * i))
    push_cast at this ⊢
    exact this
theorem inv_root {P N R : Nat} (hP : 2 ≤ P) (hN : 0 < N) (r1 : Cg P ((R : Int) ^ (2 * N)) 1) : Cg P ((R : Int) * ((invM R P : Nat) : Int)) 1 := by
  have e : Cg P ((R * (R ^ (2 * N - 1) % P) : Nat) : Int) 1 := by
    have h1 := (Cg.refl (P : Int) (R : Int)).mul (Cg.mod P (R ^ (2 * N - 1)))
    rw [Int.natCast_mul]
    refine h1.trans ?_
    rw [← Int.natCast_mul, Nat.mul_comm, ← Nat.pow_succ, show (2 * N - 1).succ = 2 * N by omega]
    push_cast
    exact r1
  have h2 : R * (R ^ (2 * N - 1) % P) % P = 1 := Cg.eq_of_lt ((Cg.mod P _).trans e) (Nat.mod_lt _ (by omega)) (by omega)
  rw [invM_of R _ P (Nat.mod_lt _ (by omega)) h2, ← Int.natCast_mul]
  exact e
theorem inv_same (P N R : Nat) (xs : List Nat) (hS : Sz4 N) (hl : xs.length = N) (hP : 2 ≤ P) (hlt : ∀ x ∈ xs, x < P) (r1 : Cg P ((R : Int) ^ (2 * N)) 1) (r2 : Cg P ((R : Int) ^ N) (-1)) :
    (isS P N R xs (lg N)).map (fun x => x * invM (N % P) P % P) = invL P N R xs := by
  have hs := sz_bd hS
  refine list_eq (by rw [List.length_map, isS_len, invL_len, hl]) (fun k hk => ?_)
  rw [invL_len] at hk
  have hk2 : k < (isS P N R xs (lg N)).length := by rw [isS_len, hl]; exact hk
  have e0 : ((isS P N R xs (lg N)).map (fun x => x * invM (N % P) P % P)).getD k 0 = (isS P N R xs (lg N)).getD k 0 * invM (N % P) P % P := by simp [List.getD, hk2]
  rw [e0, invL_get P N R xs k hk]
  have h1 := isS_sum P N R (invM R P) xs hS hl (by omega) hlt r1 r2 (inv_root hP (by omega) r1) (lg N) (Nat.le_refl _) 0 k
  rw [(lg_pow hS).1, Nat.zero_mul, Nat.zero_add, Nat.zero_add] at h1
  have h2 := invS_sum P (invM R P) (ptsN N) xs k N
  have h3 : Cg P (sumK (fun j => ((xs.getD j 0 : Nat) : Int) * ((invM R P : Nat) : Int) ^ ((2 * backN (lg N) j 0 + 1) * k)) 0 N) (sumK (fun j => ((xs.getD j 0 : Nat) : Int) * ((invM R P : Nat) : Int) ^ ((ptsN N).getD j 0 * k)) 0 N) := by
    refine sumK_cg 0 N (fun j hj => ?_)
    rw [Nat.zero_add, ptsN_get N j hj]
    exact Cg.refl _ _
  have h4 := ((h1 (Nat.le_refl _) hk).trans h3).trans h2.symm
  rw [Cg.eq_of_lt h4 (getD_lt (isS_lt P N R xs (by omega) hlt _) (by omega) k) (invS_lt _ _ _ _ _ (by omega) _)]
end Go.Proofs.YtfgooclnohnkmaaGreatDoor
