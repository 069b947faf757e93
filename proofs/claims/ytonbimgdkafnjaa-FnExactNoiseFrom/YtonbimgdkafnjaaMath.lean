/- Proved: plain arithmetic for the proofs of this seat (powers, inverses by Euclid's way, Barrett's, Montgomery's and Shoup's products); no program in sight. -/
namespace Go.Proofs.Ytonbimgdkafnjaa.M1
/-- a to the e-th power, modulo p -/
def powM (a e p : Nat) : Nat := a ^ e % p
theorem mm (a b p : Nat) : a % p * (b % p) % p = a * b % p := (Nat.mul_mod a b p).symm
theorem ml (a b p : Nat) : (a % p * b) % p = a * b % p := by rw [Nat.mul_mod, Nat.mod_mod, ← Nat.mul_mod]
theorem mrr (a b p : Nat) : (a * (b % p)) % p = a * b % p := by rw [Nat.mul_mod, Nat.mod_mod, ← Nat.mul_mod]
theorem pow_half_even (a e : Nat) (h : e % 2 = 0) : (a * a) ^ (e / 2) = a ^ e := by
  rw [← Nat.pow_two, ← Nat.pow_mul]; congr 1; omega
theorem pow_half_odd (a e : Nat) (h : e % 2 = 1) : a * (a * a) ^ (e / 2) = a ^ e := by
  rw [← Nat.pow_two, ← Nat.pow_mul, Nat.mul_comm, ← Nat.pow_succ]; congr 1; omega
theorem step_even (r a e p : Nat) (h : e % 2 = 0) : r * (a * a % p) ^ (e / 2) % p = r * a ^ e % p := by
  rw [← mrr, ← Nat.pow_mod, mrr, pow_half_even a e h]
theorem step_odd (r a e p : Nat) (h : e % 2 = 1) : (r * a % p) * (a * a % p) ^ (e / 2) % p = r * a ^ e % p := by
  rw [ml, ← mrr, ← Nat.pow_mod, mrr, Nat.mul_assoc, pow_half_odd a e h]
theorem powM_lt (a e p : Nat) (h : 0 < p) : powM a e p < p := Nat.mod_lt _ h
theorem uniq (a i j m : Nat) (hi : i < m) (hj : j < m) (h1 : a * i % m = 1) (h2 : a * j % m = 1) : i = j := by
  have e1 : i * (a * j) % m = i := by rw [Nat.mul_mod, h2, Nat.mul_one, Nat.mod_mod, Nat.mod_eq_of_lt hi]
  have e2 : (a * i) * j % m = j := by rw [Nat.mul_mod, h1, Nat.one_mul, Nat.mod_mod, Nat.mod_eq_of_lt hj]
  have : i * (a * j) = (a * i) * j := by rw [← Nat.mul_assoc, Nat.mul_comm i a]
  rw [this] at e1; omega
/-- the inverse of a modulo m, 0 where there is none -/
def invM (a m : Nat) : Nat := ((List.range m).find? (fun i => a * i % m == 1)).getD 0
theorem invM_of (a i m : Nat) (hi : i < m) (h : a * i % m = 1) : invM a m = i := by
  unfold invM
  cases hf : (List.range m).find? (fun i => a * i % m == 1) with
  | none => 
    have := List.find?_eq_none.1 hf i (List.mem_range.2 hi)
    simp [h] at this
  | some j =>
    have h1 := List.find?_some hf
    have h2 := List.mem_of_find?_eq_some hf
    simp at h1 h2
    simp
    exact uniq a j i m h2 hi h1 h
theorem invM_no (a m : Nat) (h : Nat.gcd a m ≠ 1) : invM a m = 0 := by
  unfold invM
  cases hf : (List.range m).find? (fun i => a * i % m == 1) with
  | none => rfl
  | some j =>
    exfalso; apply h
    have h1 := List.find?_some hf
    simp at h1
    have d1 : Nat.gcd a m ∣ a * j := Nat.dvd_trans (Nat.gcd_dvd_left a m) (Nat.dvd_mul_right a j)
    have d2 : Nat.gcd a m ∣ m := Nat.gcd_dvd_right a m
    have d3 : Nat.gcd a m ∣ a * j % m := (Nat.dvd_mod_iff d2).2 d1
    rw [h1] at d3
    exact Nat.dvd_one.1 d3

structure Eu (a m x y u v : Int) : Prop where
  x0 : 0 ≤ x
  xy : x < y
  ym : y ≤ m
  sg : (0 ≤ u ∧ v ≤ 0 ∧ u * y - v * x = m) ∨ (u ≤ 0 ∧ 0 ≤ v ∧ v * x - u * y = m)
  dx : m ∣ u * a - x
  dy : m ∣ v * a - y
  g : Int.gcd x y = Int.gcd a m
  bu : -m ≤ u ∧ u ≤ m
  bv : -m ≤ v ∧ v ≤ m
theorem Eu.start (a m : Int) (h0 : 0 ≤ a) (h1 : a < m) : Eu a m a m 1 0 where
  x0 := h0
  xy := h1
  ym := Int.le_refl _
  sg := Or.inl ⟨by omega, by omega, by omega⟩
  dx := by simp
  dy := by simp
  g := rfl
  bu := by omega
  bv := by omega
theorem Eu.step {a m x y u v : Int} (h : Eu a m x y u v) (hx : x ≠ 0) : Eu a m (y - y / x * x) x (v - y / x * u) u ∧ (-m ≤ y / x * u ∧ y / x * u ≤ m) ∧ (0 ≤ y / x ∧ y / x ≤ m) ∧ (0 ≤ y / x * x ∧ y / x * x ≤ y) := by
  obtain ⟨x0, xy, ym, sg, dx, dy, g, bu, bv⟩ := h
  have hq := Int.emod_add_mul_ediv y x
  have r0 := Int.emod_nonneg y hx
  have r1 := Int.emod_lt_of_pos y (b := x) (by omega)
  have hq0 : 0 ≤ y / x := Int.ediv_nonneg (by omega) x0
  have hq1 : y / x ≤ y := by
    have := Int.mul_le_mul_of_nonneg_right (show 1 ≤ x by omega) hq0
    have e : x * (y / x) ≤ y := by omega
    omega
  have er : y - y / x * x = y % x := by rw [Int.mul_comm]; omega
  have eg : Int.gcd (y % x) x = Int.gcd a m := by rw [← g, ← er, Int.gcd_comm x y, Int.gcd_sub_mul_right_left]
  generalize hqq : y / x = q at *
  have key : (0 ≤ v - q * u ∧ u ≤ 0 ∧ (v - q * u) * x - u * (y - q * x) = m ∧ 0 ≤ - (q * u) ∧ 0 ≤ v) ∨ (v - q * u ≤ 0 ∧ 0 ≤ u ∧ u * (y - q * x) - (v - q * u) * x = m ∧ 0 ≤ q * u ∧ v ≤ 0) := by
    rcases sg with ⟨hu, hv, he⟩ | ⟨hu, hv, he⟩
    · right
      have := Int.mul_nonneg hq0 hu
      refine ⟨by omega, hu, by grind, this, hv⟩
    · left
      have := Int.mul_nonneg hq0 (show 0 ≤ -u by omega)
      have e : q * -u = -(q*u) := by grind
      refine ⟨by omega, hu, by grind, by omega, hv⟩
  have bnd : (-m ≤ v - q * u ∧ v - q * u ≤ m) := by
    rcases key with ⟨h1, h2, h3, h4⟩ | ⟨h1, h2, h3, h4⟩
    · have a1 : 0 ≤ (-u) * (y - q * x) := Int.mul_nonneg (by omega) (by omega)
      have a2 : (v - q * u) * 1 ≤ (v - q * u) * x := Int.mul_le_mul_of_nonneg_left (by omega) h1
      have : (-u) * (y - q * x) = - (u * (y - q * x)) := by grind
      omega
    · have a1 : 0 ≤ u * (y - q * x) := Int.mul_nonneg (by omega) (by omega)
      have a2 : (-(v - q * u)) * 1 ≤ (-(v - q * u)) * x := Int.mul_le_mul_of_nonneg_left (by omega) (by omega)
      have : (-(v - q * u)) * x = - ((v - q * u) * x) := by grind
      omega
  refine ⟨⟨by omega, by omega, by omega, ?_, ?_, dx, ?_, bnd, bu⟩, ?_, by omega, ?_⟩
  · rcases key with ⟨h1, h2, h3, h4⟩ | ⟨h1, h2, h3, h4⟩
    · left; exact ⟨h1, h2, h3⟩
    · right; exact ⟨h1, h2, h3⟩
  · have : (v - q * u) * a - (y - q * x) = (v * a - y) - q * (u * a - x) := by grind
    rw [this]; exact Int.dvd_sub dy (Int.dvd_mul_of_dvd_right dx)
  · rw [er]; exact eg
  · rcases key with ⟨h1, h2, h3, h4⟩ | ⟨h1, h2, h3, h4⟩ <;> omega
  · constructor
    · exact Int.mul_nonneg hq0 x0
    · omega
theorem Eu.done {a m y u v : Int} (h : Eu a m 0 y u v) (hm : 2 ≤ m) (ha : 0 ≤ a) :
    (if y ≠ 1 then 0 else if Int.tmod v m < 0 then Int.tmod v m + m else Int.tmod v m) = (invM a.toNat m.toNat : Int) := by
  obtain ⟨x0, xy, ym, sg, dx, dy, g, bu, bv⟩ := h
  have g' : y.natAbs = Nat.gcd a.toNat m.toNat := by
    have : Int.gcd 0 y = y.natAbs := by simp
    rw [this] at g; rw [g]; unfold Int.gcd; congr 1 <;> omega
  by_cases h1 : y = 1
  · rw [if_neg (by simp [h1])]
    have hv : (if Int.tmod v m < 0 then Int.tmod v m + m else Int.tmod v m) = v % m := by
      by_cases hv0 : 0 ≤ v
      · rw [Int.tmod_eq_emod_of_nonneg hv0]
        have := Int.emod_nonneg v (show m ≠ 0 by omega)
        rw [if_neg (by omega)]
      · have e : Int.tmod v m = - ((-v) % m) := by
          rw [← Int.tmod_eq_emod_of_nonneg (by omega), Int.neg_tmod, Int.neg_neg]
        have r0 := Int.emod_nonneg (-v) (show m ≠ 0 by omega)
        have r1 := Int.emod_lt_of_pos (-v) (b := m) (by omega)
        have s0 := Int.emod_nonneg v (show m ≠ 0 by omega)
        have s1 := Int.emod_lt_of_pos v (b := m) (by omega)
        have t1 := Int.emod_add_mul_ediv v m
        have t2 := Int.emod_add_mul_ediv (-v) m
        rw [e]
        by_cases hz : (-v) % m = 0
        · rw [hz]; simp
          have : m ∣ v := by have := Int.dvd_of_emod_eq_zero hz; exact (Int.dvd_neg).1 this
          exact (Int.emod_eq_zero_of_dvd this).symm
        · rw [if_pos (by omega)]
          have : (-v) % m = m - v % m := by
            rw [Int.neg_emod]
            split
            · rename_i hd; have := Int.emod_eq_zero_of_dvd hd; exfalso; apply hz; exact Int.emod_eq_zero_of_dvd ((Int.dvd_neg).2 hd)
            · have : (m.natAbs : Int) = m := by omega
              omega
          omega
    rw [hv]
    have s0 := Int.emod_nonneg v (show m ≠ 0 by omega)
    have s1 := Int.emod_lt_of_pos v (b := m) (by omega)
    rw [invM_of a.toNat (v % m).toNat m.toNat (by omega)]
    · omega
    · have : ((a.toNat * (v % m).toNat % m.toNat : Nat) : Int) = 1 := by
        have ea : ((a.toNat : Nat) : Int) = a := by omega
        have ev : (((v % m).toNat : Nat) : Int) = v % m := by omega
        have em : ((m.toNat : Nat) : Int) = m := by omega
        rw [Int.natCast_emod, Int.natCast_mul, ea, ev, em, Int.mul_emod, Int.emod_emod, ← Int.mul_emod]
        subst h1
        obtain ⟨k, hk⟩ := dy
        have : a * v = 1 + m * k := by rw [Int.mul_comm]; omega
        rw [this, Int.add_mul_emod_self_left]
        exact Int.emod_eq_of_lt (by omega) (by omega)
      omega
  · rw [if_pos h1, invM_no _ _ (by omega)]; rfl
theorem tm (v m : Int) (hm : 2 ≤ m) : (if Int.tmod v m < 0 then Int.tmod v m + m else Int.tmod v m) = v % m := by
  by_cases hv0 : 0 ≤ v
  · rw [Int.tmod_eq_emod_of_nonneg hv0]
    have := Int.emod_nonneg v (show m ≠ 0 by omega)
    rw [if_neg (by omega)]
  · have e : Int.tmod v m = - ((-v) % m) := by
      rw [← Int.tmod_eq_emod_of_nonneg (by omega), Int.neg_tmod, Int.neg_neg]
    have r0 := Int.emod_nonneg (-v) (show m ≠ 0 by omega)
    have r1 := Int.emod_lt_of_pos (-v) (b := m) (by omega)
    have k : (-v) % m = if m ∣ v then 0 else m - v % m := by
      rw [Int.neg_emod]
      have : (m.natAbs : Int) = m := by omega
      rw [this]
    by_cases hd : m ∣ v
    · rw [if_pos hd] at k
      have := Int.emod_eq_zero_of_dvd hd
      rw [e, k, this]; simp
    · rw [if_neg hd] at k
      have hd' : v % m ≠ 0 := fun h => hd (Int.dvd_of_emod_eq_zero h)
      have s0 := Int.emod_nonneg v (show m ≠ 0 by omega)
      have s1 := Int.emod_lt_of_pos v (b := m) (by omega)
      rw [if_pos (by omega)]; omega
theorem Eu.done1 {a m u v : Int} (h : Eu a m 0 1 u v) (hm : 2 ≤ m) (ha : 0 ≤ a) : v % m = (invM a.toNat m.toNat : Int) := by
  have := h.done hm ha
  rw [if_neg (by simp), tm v m hm] at this
  exact this
theorem Eu.done0 {a m y u v : Int} (h : Eu a m 0 y u v) (hm : 2 ≤ m) (ha : 0 ≤ a) (hy : y ≠ 1) : (0 : Int) = (invM a.toNat m.toNat : Int) := by
  have := h.done hm ha
  rw [if_pos hy] at this
  exact this
theorem barrett (p D z M : Nat) (hp : 0 < p) (hD : 0 < D) (hM : M = D / p) (hz : z < D) : z * M / D * p ≤ z ∧ z < z * M / D * p + 2 * p := by
  have e := Nat.div_add_mod D p
  have r := Nat.mod_lt D hp
  rw [← hM] at e
  have q1 := Nat.div_add_mod (z * M) D
  have q2 := Nat.mod_lt (z * M) hD
  generalize z * M / D = q at *
  generalize D % p = d at *
  generalize (z * M) % D = t at *
  constructor
  · have h1 : (q * p) * D ≤ z * D := by
      have : D * q * p ≤ z * M * p := Nat.mul_le_mul_right p (by omega)
      have h2 : z * M * p ≤ z * D := by rw [Nat.mul_assoc]; exact Nat.mul_le_mul_left z (by rw [Nat.mul_comm]; omega)
      have h3 : D * q * p = q * p * D := by rw [Nat.mul_assoc, Nat.mul_comm]
      omega
    exact Nat.le_of_mul_le_mul_right h1 hD
  · have h1 : z * D < (q * p + 2 * p) * D := by
      have a1 : z * D = (z * M) * p + z * d := by rw [← e, Nat.mul_add]; congr 1; rw [Nat.mul_comm p M, Nat.mul_assoc]
      have a2 : z * d ≤ D * p := Nat.mul_le_mul (by omega) (by omega)
      have a3 : (z * M) * p = D * q * p + t * p := by rw [← q1, Nat.add_mul]
      have a4 : t * p < D * p := Nat.mul_lt_mul_of_pos_right q2 hp
      have a5 : (q * p + 2 * p) * D = D * q * p + 2 * (D * p) := by grind
      omega
    exact Nat.lt_of_mul_lt_mul_right h1
theorem less_once (x p : Nat) (h : x < 2 * p) : (if p ≤ x then x - p else x) = x % p := by
  split
  · rw [Nat.mod_eq_sub_mod (by omega), Nat.mod_eq_of_lt (by omega)]
  · rw [Nat.mod_eq_of_lt (by omega)]
theorem barrett_mod (p D z M : Nat) (hp : 0 < p) (hD : 0 < D) (hM : M = D / p) (hz : z < D) : (z - z * M / D * p) % p = z % p := by
  have h := barrett p D z M hp hD hM hz
  conv => rhs; rw [show z = (z - z * M / D * p) + z * M / D * p by omega, Nat.add_mul_mod_self_right]
/-- the product of high and low word, cut at a shift -/
theorem two_words (n s : Nat) (hs : s ≤ 64) : n / 2 ^ 64 * 2 ^ (64 - s) + n % 2 ^ 64 / 2 ^ s = n / 2 ^ s := by
  have e : (2:Nat) ^ 64 = 2 ^ s * 2 ^ (64 - s) := by rw [← Nat.pow_add]; congr 1; omega
  have h := Nat.div_add_mod n (2 ^ 64)
  have hp : 0 < (2:Nat) ^ s := Nat.two_pow_pos s
  conv => rhs; rw [← h, e]
  rw [Nat.mul_assoc, Nat.mul_add_div hp, ← e, Nat.mul_comm]
theorem mont (p R z f i k : Nat) (hR : 0 < R) (hi : i * p + 1 = k * R) (hf : f = z * i % R) (hz : z < R * p) :
    (z + f * p) % R = 0 ∧ (z + f * p) / R < 2 * p ∧ (z + f * p) / R % p = z % p * (k % p) % p := by
  have hp : 0 < p := by
    rcases Nat.eq_zero_or_pos p with h | h
    · subst h; omega
    · exact h
  have h0 : (z + f * p) % R = 0 := by
    subst hf
    rw [Nat.add_mod, Nat.mul_mod, Nat.mod_mod, ← Nat.mul_mod, ← Nat.add_mod]
    have : z + z * i * p = z * k * R := by rw [Nat.mul_assoc z k R, ← hi, Nat.mul_add, Nat.mul_one, Nat.mul_assoc]; omega
    rw [this, Nat.mul_mod_left]
  have hf' : f < R := by subst hf; exact Nat.mod_lt _ hR
  refine ⟨h0, ?_, ?_⟩
  · rw [Nat.div_lt_iff_lt_mul hR]
    have : f * p < R * p := Nat.mul_lt_mul_of_pos_right hf' hp
    have e : 2 * p * R = 2 * (R * p) := by grind
    omega
  · have e := Nat.div_add_mod (z + f * p) R
    rw [h0] at e
    generalize (z + f * p) / R = t at *
    have e2 : t * (k * R) = z * k + f * k * p := by grind
    have e3 : t * (k * R) = t + t * i * p := by rw [← hi]; grind
    have e4 : t % p = (z * k) % p := by
      have a : (t + t * i * p) % p = t % p := Nat.add_mul_mod_self_right _ _ _
      have b : (z * k + f * k * p) % p = z * k % p := Nat.add_mul_mod_self_right _ _ _
      rw [← e2, e3, a] at b
      exact b
    rw [e4, Nat.mul_mod]
theorem newton (p x r N D E : Int) (h : D ∣ p * x - 1) (hr : N ∣ x * (2 - p * x) - r) (h1 : E ∣ D * D) (h2 : E ∣ N) : E ∣ p * r - 1 := by
  obtain ⟨a, ha⟩ := h
  obtain ⟨b, hb⟩ := hr
  obtain ⟨c, hc⟩ := h1
  obtain ⟨d, hd⟩ := h2
  refine ⟨- (c * a * a) - p * d * b, ?_⟩
  have e1 : p * (x * (2 - p * x)) - 1 = - ((p * x - 1) * (p * x - 1)) := by grind
  have e2 : p * r = p * (x * (2 - p * x)) - p * (N * b) := by rw [← hb]; grind
  have e3 : (p * x - 1) * (p * x - 1) = E * (c * a * a) := by rw [ha]; grind
  have e4 : p * (N * b) = E * (p * d * b) := by rw [hd]; grind
  grind
theorem shoup (w p x R : Nat) (hp : 0 < p) (hR : 0 < R) (hx : x < R) : w * R / p * x / R * p ≤ w * x ∧ w * x < w * R / p * x / R * p + 2 * p := by
  have e1 := Nat.div_add_mod (w * R) p
  have r1 := Nat.mod_lt (w * R) hp
  generalize w * R / p = pre at *
  generalize (w * R) % p = d at *
  have e2 := Nat.div_add_mod (pre * x) R
  have r2 := Nat.mod_lt (pre * x) hR
  generalize pre * x / R = q at *
  generalize pre * x % R = t at *
  have k : w * x * R = q * p * R + (t * p + d * x) := by
    have a1 : w * x * R = (w * R) * x := by grind
    have a2 : q * p * R + t * p = (R * q + t) * p := by grind
    rw [a1, ← e1, ← Nat.add_assoc, a2, e2]; grind
  constructor
  · exact Nat.le_of_mul_le_mul_right (show q * p * R ≤ w * x * R by omega) hR
  · have b1 : t * p < R * p := Nat.mul_lt_mul_of_pos_right r2 hp
    have b2 : d * x ≤ p * R := Nat.mul_le_mul (by omega) (by omega)
    have b3 : (q * p + 2 * p) * R = q * p * R + 2 * (R * p) := by grind
    have b4 : p * R = R * p := Nat.mul_comm _ _
    exact Nat.lt_of_mul_lt_mul_right (show w * x * R < (q * p + 2 * p) * R by omega)
end Go.Proofs.Ytonbimgdkafnjaa.M1
