/- Proved: several texts in one: what each proves is said ahead of it. -/
/- Proved: plain arithmetic for the proofs of this seat (powers, inverses by Euclid's way, Barrett's, Montgomery's and Shoup's products); no program in sight. -/
namespace Go.Proofs.YtfcdfielbpdloaaGreatDoor.M1
def powM (a e p : Nat) : Nat := a ^ e % p
theorem ml (a b p : Nat) : (a % p * b) % p = a * b % p := by rw [Nat.mul_mod, Nat.mod_mod, ← Nat.mul_mod]
theorem mrr (a b p : Nat) : (a * (b % p)) % p = a * b % p := by rw [Nat.mul_mod, Nat.mod_mod, ← Nat.mul_mod]
theorem pow_half_even (a e : Nat) (h : e % 2 = 0) : (a * a) ^ (e / 2) = a ^ e := by
  rw [← Nat.pow_two, ← Nat.pow_mul]; congr 1; omega
theorem pow_half_odd (a e : Nat) (h : e % 2 = 1) : a * (a * a) ^ (e / 2) = a ^ e := by
  rw [← Nat.pow_two, ← Nat.pow_mul, Nat.mul_comm, ← Nat.pow_succ]; congr 1; omega
theorem step_even (r a e p : Nat) (h : e % 2 = 0) : r * (a * a % p) ^ (e / 2) % p = r * a ^ e % p := by
  rw [← mrr, ← Nat.pow_mod, mrr, pow_half_even a e h]
theorem step_odd (r a e p : Nat) (h : e % 2 = 1) : (r * a % p) * (a * a % p) ^ (e / 2) % p = r * a ^ e % p := by
  rw [ml, ← mrr, ← Nat.pow_mod, mrr, Nat.mul_assoc, pow_half_odd a e h]
theorem powM_lt (a e p : Nat) (h : 0 < p) : powM a e p < p := Nat.mod_lt _ h
theorem uniq (a i j m : Nat) (hi : i < m) (hj : j < m) (h1 : a * i % m = 1) (h2 : a * j % m = 1) : i = j := by
  have e1 : i * (a * j) % m = i := by rw [Nat.mul_mod, h2, Nat.mul_one, Nat.mod_mod, Nat.mod_eq_of_lt hi]
  have e2 : (a * i) * j % m = j := by rw [Nat.mul_mod, h1, Nat.one_mul, Nat.mod_mod, Nat.mod_eq_of_lt hj]
  have : i * (a * j) = (a * i) * j := by rw [← Nat.mul_assoc, Nat.mul_comm i a]
  rw [this] at e1; omega
def invM (a m : Nat) : Nat := ((List.range m).find? (fun i => a * i % m == 1)).getD 0
theorem invM_of (a i m : Nat) (hi : i < m) (h : a * i % m = 1) : invM a m = i := by
  unfold invM
  cases hf : (List.range m).find? (fun i => a * i % m == 1) with
  | none => 
    have := List.find?_eq_none.1 hf i (List.mem_range.2 hi)
    simp [h] at this
  | some j =>
    have h1 := List.find?_some hf
    have h2 := List.mem_of_find?_eq_some hf
    simp at h1 h2
    simp
    exact uniq a j i m h2 hi h1 h
theorem invM_no (a m : Nat) (h : Nat.gcd a m ≠ 1) : invM a m = 0 := by
  unfold invM
  cases hf : (List.range m).find? (fun i => a * i % m == 1) with
  | none => rfl
  | some j =>
    exfalso; apply h
    have h1 := List.find?_some hf
    simp at h1
    have d1 : Nat.gcd a m ∣ a * j := Nat.dvd_trans (Nat.gcd_dvd_left a m) (Nat.dvd_mul_right a j)
    have d2 : Nat.gcd a m ∣ m := Nat.gcd_dvd_right a m
    have d3 : Nat.gcd a m ∣ a * j % m := (Nat.dvd_mod_iff d2).2 d1
    rw [h1] at d3
    exact Nat.dvd_one.1 d3

structure Eu (a m x y u v : Int) : Prop where
  x0 : 0 ≤ x
  xy : x < y
  ym : y ≤ m
  sg : (0 ≤ u ∧ v ≤ 0 ∧ u * y - v * x = m) ∨ (u ≤ 0 ∧ 0 ≤ v ∧ v * x - u * y = m)
  dx : m ∣ u * a - x
  dy : m ∣ v * a - y
  g : Int.gcd x y = Int.gcd a m
  bu : -m ≤ u ∧ u ≤ m
  bv : -m ≤ v ∧ v ≤ m
theorem Eu.start (a m : Int) (h0 : 0 ≤ a) (h1 : a < m) : Eu a m a m 1 0 where
  x0 := h0
  xy := h1
  ym := Int.le_refl _
  sg := Or.inl ⟨by omega, by omega, by omega⟩
  dx := by simp
  dy := by simp
  g := rfl
  bu := by omega
  bv := by omega
theorem Eu.step {a m x y u v : Int} (h : Eu a m x y u v) (hx : x ≠ 0) : Eu a m (y - y / x * x) x (v - y / x * u) u ∧ (-m ≤ y / x * u ∧ y / x * u ≤ m) ∧ (0 ≤ y / x ∧ y / x ≤ m) ∧ (0 ≤ y / x * x ∧ y / x * x ≤ y) := by
  obtain ⟨x0, xy, ym, sg, dx, dy, g, bu, bv⟩ := h
  have hq := Int.emod_add_mul_ediv y x
  have r0 := Int.emod_nonneg y hx
  have r1 := Int.emod_lt_of_pos y (b := x) (by omega)
  have hq0 : 0 ≤ y / x := Int.ediv_nonneg (by omega) x0
  have hq1 : y / x ≤ y := by
    have := Int.mul_le_mul_of_nonneg_right (show 1 ≤ x by omega) hq0
    have e : x * (y / x) ≤ y := by omega
    omega
  have er : y - y / x * x = y % x := by rw [Int.mul_comm]; omega
  have eg : Int.gcd (y % x) x = Int.gcd a m := by rw [← g, ← er, Int.gcd_comm x y, Int.gcd_sub_mul_right_left]
  generalize hqq : y / x = q at *
  have key : (0 ≤ v - q * u ∧ u ≤ 0 ∧ (v - q * u) * x - u * (y - q * x) = m ∧ 0 ≤ - (q * u) ∧ 0 ≤ v) ∨ (v - q * u ≤ 0 ∧ 0 ≤ u ∧ u * (y - q * x) - (v - q * u) * x = m ∧ 0 ≤ q * u ∧ v ≤ 0) := by
    rcases sg with ⟨hu, hv, he⟩ | ⟨hu, hv, he⟩
    · right
      have := Int.mul_nonneg hq0 hu
      refine ⟨by omega, hu, by grind, this, hv⟩
    · left
      have := Int.mul_nonneg hq0 (show 0 ≤ -u by omega)
      have e : q * -u = -(q*u) := by grind
      refine ⟨by omega, hu, by grind, by omega, hv⟩
  have bnd : (-m ≤ v - q * u ∧ v - q * u ≤ m) := by
    rcases key with ⟨h1, h2, h3, h4⟩ | ⟨h1, h2, h3, h4⟩
    · have a1 : 0 ≤ (-u) * (y - q * x) := Int.mul_nonneg (by omega) (by omega)
      have a2 : (v - q * u) * 1 ≤ (v - q * u) * x := Int.mul_le_mul_of_nonneg_left (by omega) h1
      have : (-u) * (y - q * x) = - (u * (y - q * x)) := by grind
      omega
    · have a1 : 0 ≤ u * (y - q * x) := Int.mul_nonneg (by omega) (by omega)
      have a2 : (-(v - q * u)) * 1 ≤ (-(v - q * u)) * x := Int.mul_le_mul_of_nonneg_left (by omega) (by omega)
      have : (-(v - q * u)) * x = - ((v - q * u) * x) := by grind
      omega
  refine ⟨⟨by omega, by omega, by omega, ?_, ?_, dx, ?_, bnd, bu⟩, ?_, by omega, ?_⟩
  · rcases key with ⟨h1, h2, h3, h4⟩ | ⟨h1, h2, h3, h4⟩
    · left; exact ⟨h1, h2, h3⟩
    · right; exact ⟨h1, h2, h3⟩
  · have : (v - q * u) * a - (y - q * x) = (v * a - y) - q * (u * a - x) := by grind
    rw [this]; exact Int.dvd_sub dy (Int.dvd_mul_of_dvd_right dx)
  · rw [er]; exact eg
  · rcases key with ⟨h1, h2, h3, h4⟩ | ⟨h1, h2, h3, h4⟩ <;> omega
  · constructor
    · exact Int.mul_nonneg hq0 x0
    · omega
theorem Eu.done {a m y u v : Int} (h : Eu a m 0 y u v) (hm : 2 ≤ m) (ha : 0 ≤ a) :
    (if y ≠ 1 then 0 else if Int.tmod v m < 0 then Int.tmod v m + m else Int.tmod v m) = (invM a.toNat m.toNat : Int) := by
  obtain ⟨x0, xy, ym, sg, dx, dy, g, bu, bv⟩ := h
  have g' : y.natAbs = Nat.gcd a.toNat m.toNat := by
    have : Int.gcd 0 y = y.natAbs := by simp
    rw [this] at g; rw [g]; unfold Int.gcd; congr 1 <;> omega
  by_cases h1 : y = 1
  · rw [if_neg (by simp [h1])]
    have hv : (if Int.tmod v m < 0 then Int.tmod v m + m else Int.tmod v m) = v % m := by
      by_cases hv0 : 0 ≤ v
      · rw [Int.tmod_eq_emod_of_nonneg hv0]
        have := Int.emod_nonneg v (show m ≠ 0 by omega)
        rw [if_neg (by omega)]
      · have e : Int.tmod v m = - ((-v) % m) := by
          rw [← Int.tmod_eq_emod_of_nonneg (by omega), Int.neg_tmod, Int.neg_neg]
        have r0 := Int.emod_nonneg (-v) (show m ≠ 0 by omega)
        have r1 := Int.emod_lt_of_pos (-v) (b := m) (by omega)
        have s0 := Int.emod_nonneg v (show m ≠ 0 by omega)
        have s1 := Int.emod_lt_of_pos v (b := m) (by omega)
        have t1 := Int.emod_add_mul_ediv v m
        have t2 := Int.emod_add_mul_ediv (-v) m
        rw [e]
        by_cases hz : (-v) % m = 0
        · rw [hz]; simp
          have : m ∣ v := by have := Int.dvd_of_emod_eq_zero hz; exact (Int.dvd_neg).1 this
          exact (Int.emod_eq_zero_of_dvd this).symm
        · rw [if_pos (by omega)]
          have : (-v) % m = m - v % m := by
            rw [Int.neg_emod]
            split
            · rename_i hd; have := Int.emod_eq_zero_of_dvd hd; exfalso; apply hz; exact Int.emod_eq_zero_of_dvd ((Int.dvd_neg).2 hd)
            · have : (m.natAbs : Int) = m := by omega
              omega
          omega
    rw [hv]
    have s0 := Int.emod_nonneg v (show m ≠ 0 by omega)
    have s1 := Int.emod_lt_of_pos v (b := m) (by omega)
    rw [invM_of a.toNat (v % m).toNat m.toNat (by omega)]
    · omega
    · have : ((a.toNat * (v % m).toNat % m.toNat : Nat) : Int) = 1 := by
        have ea : ((a.toNat : Nat) : Int) = a := by omega
        have ev : (((v % m).toNat : Nat) : Int) = v % m := by omega
        have em : ((m.toNat : Nat) : Int) = m := by omega
        rw [Int.natCast_emod, Int.natCast_mul, ea, ev, em, Int.mul_emod, Int.emod_emod, ← Int.mul_emod]
        subst h1
        obtain ⟨k, hk⟩ := dy
        have : a * v = 1 + m * k := by rw [Int.mul_comm]; omega
        rw [this, Int.add_mul_emod_self_left]
        exact Int.emod_eq_of_lt (by omega) (by omega)
      omega
  · rw [if_pos h1, invM_no _ _ (by omega)]; rfl
theorem tm (v m : Int) (hm : 2 ≤ m) : (if Int.tmod v m < 0 then Int.tmod v m + m else Int.tmod v m) = v % m := by
  by_cases hv0 : 0 ≤ v
  · rw [Int.tmod_eq_emod_of_nonneg hv0]
    have := Int.emod_nonneg v (show m ≠ 0 by omega)
    rw [if_neg (by omega)]
  · have e : Int.tmod v m = - ((-v) % m) := by
      rw [← Int.tmod_eq_emod_of_nonneg (by omega), Int.neg_tmod, Int.neg_neg]
    have r0 := Int.emod_nonneg (-v) (show m ≠ 0 by omega)
    have r1 := Int.emod_lt_of_pos (-v) (b := m) (by omega)
    have k : (-v) % m = if m ∣ v then 0 else m - v % m := by
      rw [Int.neg_emod]
      have : (m.natAbs : Int) = m := by omega
      rw [this]
    by_cases hd : m ∣ v
    · rw [if_pos hd] at k
      have := Int.emod_eq_zero_of_dvd hd
      rw [e, k, this]; simp
    · rw [if_neg hd] at k
      have hd' : v % m ≠ 0 := fun h => hd (Int.dvd_of_emod_eq_zero h)
      have s0 := Int.emod_nonneg v (show m ≠ 0 by omega)
      have s1 := Int.emod_lt_of_pos v (b := m) (by omega)
      rw [if_pos (by omega)]; omega
theorem Eu.done1 {a m u v : Int} (h : Eu a m 0 1 u v) (hm : 2 ≤ m) (ha : 0 ≤ a) : v % m = (invM a.toNat m.toNat : Int) := by
  have := h.done hm ha
  rw [if_neg (by simp), tm v m hm] at this
  exact this
theorem Eu.done0 {a m y u v : Int} (h : Eu a m 0 y u v) (hm : 2 ≤ m) (ha : 0 ≤ a) (hy : y ≠ 1) : (0 : Int) = (invM a.toNat m.toNat : Int) := by
  have := h.done hm ha
  rw [if_pos hy] at this
  exact this
end Go.Proofs.YtfcdfielbpdloaaGreatDoor.M1
/- Proved: the digits of a long division by halves of a word are the true ones; no program in sight. -/
namespace Go.Proofs.YtfcdfielbpdloaaGreatDoor.M1
structure Dig (u v y1 y0 q r : Nat) : Prop where
  eq : q * y1 + r = u
  ge : (u * 4294967296 + v) / (y1 * 4294967296 + y0) ≤ q
structure Half (u v y1 y0 : Nat) : Prop where
  y1lo : 2147483648 ≤ y1
  y1hi : y1 < 4294967296
  y0hi : y0 < 4294967296
  vhi : v < 4294967296
  ult : u < y1 * 4294967296 + y0
theorem div_lt_K (u v Y K : Nat) (hv : v < K) (hu : u < Y) : (u * K + v) / Y < K := by
  apply Nat.div_lt_of_lt_mul
  have : (u + 1) * K ≤ Y * K := Nat.mul_le_mul_right _ (by omega)
  rw [Nat.add_mul] at this
  omega
theorem Half.Qlt {u v y1 y0 : Nat} (h : Half u v y1 y0) : (u * 4294967296 + v) / (y1 * 4294967296 + y0) < 4294967296 :=
  div_lt_K u v _ 4294967296 h.vhi h.ult
theorem Dig.start {u v y1 y0 : Nat} (h : Half u v y1 y0) : Dig u v y1 y0 (u / y1) (u - u / y1 * y1) ∧ u / y1 * y1 ≤ u ∧ u - u / y1 * y1 < 4294967296 ∧ u / y1 ≤ 4294967297 := by
  obtain ⟨h1, h2, h3, h4, h5⟩ := h
  have e := Nat.div_add_mod u y1
  have m := Nat.mod_lt u (show y1 > 0 by omega)
  rw [Nat.mul_comm] at e
  refine ⟨⟨by omega, ?_⟩, by omega, by omega, ?_⟩
  · rw [Nat.le_div_iff_mul_le (by omega)]
    have hq := Nat.div_mul_le_self (u * 4294967296 + v) (y1 * 4294967296 + y0)
    generalize (u * 4294967296 + v) / (y1 * 4294967296 + y0) = Q at *
    have e2 : Q * (y1 * 4294967296 + y0) = Q * y1 * 4294967296 + Q * y0 := by grind
    generalize Q * y1 = a at *
    generalize Q * y0 = b at *
    omega
  · rw [Nat.div_le_iff_le_mul_add_pred (by omega)]
    omega
theorem Dig.more {u v y1 y0 q r : Nat} (h : Half u v y1 y0) (d : Dig u v y1 y0 q r) (hc : 4294967296 ≤ q ∨ 4294967296 * r + v < q * y0) : 1 ≤ q ∧ Dig u v y1 y0 (q - 1) (r + y1) := by
  have hQ := h.Qlt
  have hm : 1 ≤ q ∧ (q - 1) * y1 + (r + y1) = u ∧ (u * 4294967296 + v) / (y1 * 4294967296 + y0) ≤ q - 1 := ?_
  · exact ⟨hm.1, ⟨hm.2.1, hm.2.2⟩⟩
  obtain ⟨h1, h2, h3, h4, h5⟩ := h
  obtain ⟨e, g⟩ := d
  have hlt : (u * 4294967296 + v) / (y1 * 4294967296 + y0) < q := by
    rcases hc with hc | hc
    · omega
    · rw [Nat.div_lt_iff_lt_mul (by omega)]
      have e2 : q * (y1 * 4294967296 + y0) = q * y1 * 4294967296 + q * y0 := by grind
      rw [e2]
      generalize q * y1 = a at *
      generalize q * y0 = b at *
      omega
  generalize (u * 4294967296 + v) / (y1 * 4294967296 + y0) = Q at *
  refine ⟨by omega, ?_, by omega⟩
  obtain ⟨q', rfl⟩ : ∃ q', q = q' + 1 := ⟨q - 1, by omega⟩
  rw [Nat.add_sub_cancel, Nat.add_mul] at *
  omega
theorem Dig.done {u v y1 y0 q r : Nat} (h : Half u v y1 y0) (d : Dig u v y1 y0 q r) (hc : q * y0 ≤ 4294967296 * r + v) : q = (u * 4294967296 + v) / (y1 * 4294967296 + y0) := by
  obtain ⟨h1, h2, h3, h4, h5⟩ := h
  obtain ⟨e, g⟩ := d
  apply Nat.le_antisymm _ g
  rw [Nat.le_div_iff_mul_le (by omega)]
  have e2 : q * (y1 * 4294967296 + y0) = q * y1 * 4294967296 + q * y0 := by grind
  rw [e2]
  generalize q * y1 = a at *
  generalize q * y0 = b at *
  omega
theorem Dig.broke {u v y1 y0 q r : Nat} (h : Half u v y1 y0) (d : Dig u v y1 y0 q r) (hq : q ≤ 4294967296) (hr : 4294967296 ≤ r) : q = (u * 4294967296 + v) / (y1 * 4294967296 + y0) := by
  have h' := h
  obtain ⟨h1, h2, h3, h4, h5⟩ := h'
  apply d.done h
  have : q * y0 ≤ 4294967296 * y0 := Nat.mul_le_mul_right _ hq
  omega
theorem left_over (u v Y : Nat) : u * 4294967296 + v - (u * 4294967296 + v) / Y * Y = (u * 4294967296 + v) % Y ∧ (u * 4294967296 + v) / Y * Y ≤ u * 4294967296 + v := by
  have e := Nat.div_add_mod (u * 4294967296 + v) Y
  rw [Nat.mul_comm] at e
  generalize (u * 4294967296 + v) / Y * Y = a at *
  omega
theorem two_digits (u v1 v0 Y : Nat) : ((u * 4294967296 + v1) % Y * 4294967296 + v0) % Y = (u * 18446744073709551616 + (v1 * 4294967296 + v0)) % Y := by
  rw [Nat.add_mod, Nat.mul_mod, Nat.mod_mod, ← Nat.mul_mod, ← Nat.add_mod]
  have e2 : (u * 4294967296 + v1) * 4294967296 + v0 = u * 18446744073709551616 + (v1 * 4294967296 + v0) := by omega
  rw [e2]
end Go.Proofs.YtfcdfielbpdloaaGreatDoor.M1
/- Proved: primes: the least factor, Euclid's lemma, Fermat's little theorem, square roots of 1, and the roots of 1 of an order that is a power of 2; no program in sight. -/
namespace Go.Proofs.YtfcdfielbpdloaaGreatDoor.F1
set_option linter.unusedVariables false
def Pr (n : Nat) : Prop := 2 ≤ n ∧ ∀ d, d ∣ n → d = 1 ∨ d = n
theorem least_factor (n : Nat) (hn : 2 ≤ n) : ∃ q, 2 ≤ q ∧ q ∣ n ∧ ∀ d, 2 ≤ d → d ∣ n → q ≤ d := by
  have key : ∀ k m, m ≤ k → 2 ≤ m → m ∣ n → ∃ q, 2 ≤ q ∧ q ∣ n ∧ ∀ d, 2 ≤ d → d ∣ n → q ≤ d := by
    intro k
    induction k with
    | zero => intro m h1 h2 _; omega
    | succ k ih =>
      intro m h1 h2 h3
      by_cases h : ∃ d, 2 ≤ d ∧ d ∣ n ∧ d < m
      · obtain ⟨d, hd1, hd2, hd3⟩ := h
        exact ih d (by omega) hd1 hd2
      · refine ⟨m, h2, h3, fun d hd1 hd2 => ?_⟩
        by_cases hlt : d < m
        · exact absurd ⟨d, hd1, hd2, hlt⟩ h
        · omega
  exact key n n (Nat.le_refl _) hn (Nat.dvd_refl _)
theorem pr_of_least {n q : Nat} (hn : 2 ≤ n) (h2 : 2 ≤ q) (hq : q ∣ n) (hl : ∀ d, 2 ≤ d → d ∣ n → q ≤ d) : Pr q := by
  refine ⟨h2, fun d hd => ?_⟩
  by_cases h1 : d = 1
  · exact Or.inl h1
  · have h0 : d ≠ 0 := by rintro rfl; have := Nat.eq_zero_of_zero_dvd hd; omega
    have := hl d (by omega) (Nat.dvd_trans hd hq)
    have := Nat.le_of_dvd (by omega) hd
    exact Or.inr (by omega)
theorem not_pr {n : Nat} (hn : 2 ≤ n) (h : ¬ Pr n) : ∃ q m, Pr q ∧ n = q * m ∧ 2 ≤ m ∧ q * q ≤ n := by
  obtain ⟨q, h2, hq, hl⟩ := least_factor n hn
  obtain ⟨m, hm⟩ := hq
  have hp := pr_of_least hn h2 ⟨m, hm⟩ hl
  have hm0 : m ≠ 0 := by rintro rfl; omega
  have hm1 : m ≠ 1 := by
    rintro rfl
    rw [Nat.mul_one] at hm
    subst hm
    exact h hp
  have hqm : q ≤ m := hl m (by omega) ⟨q, by rw [hm, Nat.mul_comm]⟩
  exact ⟨q, m, hp, hm, by omega, by rw [hm]; exact Nat.mul_le_mul (Nat.le_refl _) hqm⟩
theorem Pr.cop {p a : Nat} (h : Pr p) (ha : ¬ p ∣ a) : Nat.Coprime p a := by
  rcases h.2 _ (Nat.gcd_dvd_left p a) with h1 | h1
  · exact h1
  · exact absurd (h1 ▸ Nat.gcd_dvd_right p a) ha
theorem Pr.euclid {p a b : Nat} (h : Pr p) (hd : p ∣ a * b) : p ∣ a ∨ p ∣ b := by
  by_cases ha : p ∣ a
  · exact Or.inl ha
  · exact Or.inr ((h.cop ha).dvd_of_dvd_mul_left hd)
theorem not_dvd_of_lt {p a : Nat} (h0 : 0 < a) (h1 : a < p) : ¬ p ∣ a := fun h => by have := Nat.le_of_dvd h0 h; omega
theorem perm_of : ∀ (l1 l2 : List Nat), l1.Nodup → l1 ⊆ l2 → l2.length ≤ l1.length → l1.Perm l2
  | [], l2, _, _, h => by
    have : l2 = [] := List.length_eq_zero_iff.1 (by simpa using h)
    rw [this]
  | a :: l, l2, hn, hs, h => by
    have ha : a ∈ l2 := hs (List.mem_cons_self ..)
    have hp := List.perm_cons_erase ha
    have hn' := List.nodup_cons.1 hn
    have hsub : l ⊆ l2.erase a := by
      intro x hx
      have hne : x ≠ a := by rintro rfl; exact hn'.1 hx
      exact (List.mem_erase_of_ne hne).2 (hs (List.mem_cons_of_mem _ hx))
    have hlen : (l2.erase a).length ≤ l.length := by
      have e := hp.length_eq
      simp at e h ⊢
      omega
    exact (List.Perm.cons a (perm_of l (l2.erase a) hn'.2 hsub hlen)).trans hp.symm
theorem sub_dvd_of_mod {p a b : Nat} (h : a % p = b % p) (hab : a ≤ b) : p ∣ b - a := by
  have h1 := Nat.div_add_mod a p
  have h2 := Nat.div_add_mod b p
  rw [h] at h1
  refine ⟨b / p - a / p, ?_⟩
  rw [Nat.mul_sub]
  omega
theorem prod_map (a p : Nat) : ∀ l : List Nat, (l.map (fun i => a * i % p)).prod % p = a ^ l.length * l.prod % p
  | [] => by simp
  | x :: l => by
    have ih := prod_map a p l
    simp only [List.map_cons, List.prod_cons, List.length_cons]
    rw [Nat.mul_mod, ih, Nat.mod_mod, ← Nat.mul_mod, Nat.pow_succ]
    congr 1
    grind
theorem prod_not {p : Nat} (hp : Pr p) : ∀ l : List Nat, (∀ x ∈ l, ¬ p ∣ x) → ¬ p ∣ l.prod
  | [], _, h => by
    have := Nat.le_of_dvd (by simp) h
    have := hp.1
    simp at *
    omega
  | x :: l, hl, h => by
    rw [List.prod_cons] at h
    rcases hp.euclid h with h1 | h1
    · exact hl x (List.mem_cons_self ..) h1
    · exact prod_not hp l (fun y hy => hl y (List.mem_cons_of_mem _ hy)) h1
theorem Pr.fermat {p a : Nat} (hp : Pr p) (ha : ¬ p ∣ a) : a ^ (p - 1) % p = 1 := by
  have h2 := hp.1
  have hr : ∀ x ∈ List.range' 1 (p - 1), 0 < x ∧ x < p := by
    intro x hx
    simp [List.mem_range'_1] at hx
    omega
  have hnd : ((List.range' 1 (p - 1)).map (fun i => a * i % p)).Nodup := by
    unfold List.Nodup
    rw [List.pairwise_map]
    refine List.Pairwise.imp_of_mem ?_ (List.pairwise_lt_range' (s := 1) (n := p - 1))
    intro x y hx hy hxy he
    have h1 := sub_dvd_of_mod he (Nat.mul_le_mul (Nat.le_refl a) (Nat.le_of_lt hxy))
    rw [← Nat.mul_sub] at h1
    rcases hp.euclid h1 with h3 | h3
    · exact ha h3
    · exact not_dvd_of_lt (by omega) (by have := (hr y hy).2; omega) h3
  have hsub : (List.range' 1 (p - 1)).map (fun i => a * i % p) ⊆ List.range' 1 (p - 1) := by
    intro y hy
    obtain ⟨x, hx, rfl⟩ := List.mem_map.1 hy
    have hlt : a * x % p < p := Nat.mod_lt _ (by omega)
    have h0 : a * x % p ≠ 0 := by
      intro e
      rcases hp.euclid (Nat.dvd_of_mod_eq_zero e) with h3 | h3
      · exact ha h3
      · exact not_dvd_of_lt (hr x hx).1 (hr x hx).2 h3
    show a * x % p ∈ List.range' 1 (p - 1)
    rw [List.mem_range'_1]
    omega
  have hperm := perm_of _ _ hnd hsub (by simp)
  have e := prod_map a p (List.range' 1 (p - 1))
  rw [hperm.prod_nat, List.length_range'] at e
  have hno := prod_not hp (List.range' 1 (p - 1)) (fun x hx => not_dvd_of_lt (hr x hx).1 (hr x hx).2)
  generalize (List.range' 1 (p - 1)).prod = X at *
  have hapos : 0 < a := by
    rcases Nat.eq_zero_or_pos a with h | h
    · exact absurd (h ▸ Nat.dvd_zero p) ha
    · exact h
  have hpos : 1 ≤ a ^ (p - 1) := Nat.one_le_pow _ _ hapos
  have hle : X ≤ a ^ (p - 1) * X := by have := Nat.mul_le_mul hpos (Nat.le_refl X); omega
  have h1 := sub_dvd_of_mod e hle
  have h3 : a ^ (p - 1) * X - X = (a ^ (p - 1) - 1) * X := by rw [Nat.sub_mul, Nat.one_mul]
  rw [h3] at h1
  rcases hp.euclid h1 with h4 | h4
  · obtain ⟨c, hc⟩ := h4
    have : a ^ (p - 1) = 1 + p * c := by omega
    rw [this, Nat.add_mul_mod_self_left, Nat.mod_eq_of_lt (by omega)]
  · exact absurd h4 hno
end Go.Proofs.YtfcdfielbpdloaaGreatDoor.F1
