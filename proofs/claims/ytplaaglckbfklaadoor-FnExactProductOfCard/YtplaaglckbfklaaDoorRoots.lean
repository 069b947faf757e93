/- Proved: a number whose smaller ones all are roots of 1 has no power that is 0, and two ways of finding the least of some powers agree; no program in sight. -/
namespace Go.Proofs.YtplaaglckbfklaaDoor.M1
/-- (A - 1) to the m-th power, modulo the square of A -/
theorem pow_pred (A : Int) : ∀ m : Nat, ∃ k : Int, (A - 1) ^ (2 * m) = 1 - 2 * m * A + k * (A * A)
  | 0 => ⟨0, by simp⟩
  | m + 1 => by
    obtain ⟨k, hk⟩ := pow_pred A m
    refine ⟨k * ((A - 1) * (A - 1)) + (1 - 2 * m * (A - 2)), ?_⟩
    have e : (A - 1) ^ (2 * (m + 1)) = (A - 1) ^ (2 * m) * ((A - 1) * (A - 1)) := by
      rw [show 2 * (m + 1) = 2 * m + 1 + 1 by omega, Int.pow_succ, Int.pow_succ, Int.mul_assoc]
    rw [e, hk]
    push_cast
    grind
theorem gcd_pow_dvd (A p : Nat) (hd : Nat.gcd p (A * A) ∣ A) : ∀ k : Nat, Nat.gcd p (A ^ k) ∣ A
  | 0 => by simp
  | k + 1 => by
    have ih := gcd_pow_dvd A p hd k
    have h1 : Nat.gcd p (A ^ (k + 1)) ∣ A * A := by
      rw [Nat.pow_succ]
      exact Nat.dvd_trans (Nat.gcd_mul_right_dvd_mul_gcd p (A ^ k) A) (Nat.mul_dvd_mul ih (Nat.gcd_dvd_right p A))
    exact Nat.dvd_trans (Nat.dvd_gcd (Nat.gcd_dvd_left _ _) h1) hd
theorem no_zero (A p m e : Nat) (hp : p = 2 * m + 1) (hA : 2 ≤ A) (hAp : A < p) (h1 : (A - 1) ^ m % p = 1) (h0 : A ^ e % p = 0) : False := by
  have hd : Nat.gcd p (A * A) ∣ A := by
    refine Int.natCast_dvd_natCast.1 ?_
    have dp : ((Nat.gcd p (A * A) : Nat) : Int) ∣ (p : Int) := Int.natCast_dvd_natCast.2 (Nat.gcd_dvd_left _ _)
    have da : ((Nat.gcd p (A * A) : Nat) : Int) ∣ (A : Int) * (A : Int) := by
      have := Int.natCast_dvd_natCast.2 (Nat.gcd_dvd_right p (A * A))
      simpa using this
    generalize ((Nat.gcd p (A * A) : Nat) : Int) = d at *
    obtain ⟨k, hk⟩ := pow_pred (A : Int) m
    have hpow : (p : Int) ∣ ((A : Int) - 1) ^ (2 * m) - 1 := by
      have e1 : ((A : Int) - 1) ^ (2 * m) = ((((A - 1) ^ m) * ((A - 1) ^ m) : Nat) : Int) := by
        rw [show 2 * m = m + m by omega, Int.pow_add]
        have : ((A : Int) - 1) = ((A - 1 : Nat) : Int) := by omega
        rw [this]
        simp
      rw [e1]
      have e2 := Nat.div_add_mod ((A - 1) ^ m) p
      rw [h1] at e2
      generalize (A - 1) ^ m / p = q at *
      rw [← e2]
      refine ⟨(q : Int) * (p * q + 2), ?_⟩
      push_cast
      grind
    have h2 : d ∣ ((A : Int) - 1) ^ (2 * m) - 1 := Int.dvd_trans dp hpow
    rw [hk] at h2
    obtain ⟨a, ha⟩ := da
    obtain ⟨b, hb⟩ := dp
    obtain ⟨c, hc⟩ := h2
    refine ⟨b * A + c - k * a, ?_⟩
    have hpm : (p : Int) = 2 * m + 1 := by omega
    have e1 : (A : Int) = p * A - 2 * m * A := by rw [hpm]; grind
    have e2 : 2 * m * (A : Int) = k * ((A : Int) * A) - d * c := by omega
    have e3 : d * (b * A + c - k * a) = d * b * A + d * c - k * (d * a) := by grind
    rw [e3, ← hb, ← ha, ← Int.sub_eq_zero]
    grind
  have hg := gcd_pow_dvd A p hd e
  have hpd : p ∣ A ^ e := Nat.dvd_of_mod_eq_zero h0
  rw [Nat.gcd_eq_left hpd] at hg
  have := Nat.le_of_dvd (by omega) hg
  omega
/-- the least of some powers, a step a square -/
def lr (p sq : Nat) : Nat → Nat → Nat → Nat
  | 0, _, b => b
  | k + 1, x, b => lr p sq k (x * sq % p) (min b (x * sq % p))
/-- what is told of j rounds to come: the comparison first, then the step -/
def lrS (p sq : Nat) : Nat → Nat → Nat → Nat
  | 0, _, b => b
  | j + 1, x, b => lrS p sq j (x * sq % p) (min b x)
theorem lrS_lr (p sq : Nat) : ∀ (j x b : Nat), lrS p sq (j + 1) x b = lr p sq j x (min b x)
  | 0, x, b => rfl
  | j + 1, x, b => by
    show lrS p sq (j + 1) (x * sq % p) (min b x) = lr p sq j (x * sq % p) (min (min b x) (x * sq % p))
    exact lrS_lr p sq j _ _
end Go.Proofs.YtplaaglckbfklaaDoor.M1
