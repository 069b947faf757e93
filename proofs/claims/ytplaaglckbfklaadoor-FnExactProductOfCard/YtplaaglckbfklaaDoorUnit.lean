/- Proved: modulo a prime the least of the odd powers of a power of the first number that is no square is the least root of 1 of its order, a power of 2; no program in sight. -/
import Derived.Test.YtplaaglckbfklaaDoorFermat
import Derived.Test.YtplaaglckbfklaaDoorRoots
namespace Go.Proofs.YtplaaglckbfklaaDoor.F1
open Go.Proofs.YtplaaglckbfklaaDoor.M1
set_option linter.unusedVariables false
/-- f is a polynomial of degree m, led by c -/
def Poly : Nat → Int → (Int → Int) → Prop
  | 0, c, f => ∀ x, f x = c
  | m + 1, c, f => ∃ g d, Poly m c g ∧ ∀ x, f x = x * g x + d
theorem Poly.div : ∀ (m : Nat) (c : Int) (f : Int → Int), Poly (m + 1) c f → ∀ r, ∃ g, Poly m c g ∧ ∀ x, f x = (x - r) * g x + f r
  | 0, c, f, ⟨g, d, hg, hf⟩, r => by
    have hg' : ∀ x, g x = c := hg
    refine ⟨fun _ => c, fun _ => rfl, fun x => ?_⟩
    rw [hf x, hf r, hg' x, hg' r]
    grind
  | m + 1, c, f, ⟨g, d, hg, hf⟩, r => by
    obtain ⟨g1, h1, h2⟩ := Poly.div m c g hg r
    refine ⟨fun x => x * g1 x + g r, ⟨g1, g r, h1, fun x => rfl⟩, fun x => ?_⟩
    rw [hf x, hf r, h2 x]
    grind
theorem Pr.euclidI {p : Nat} (hp : Pr p) {a b : Int} (h : (p : Int) ∣ a * b) : (p : Int) ∣ a ∨ (p : Int) ∣ b := by
  rw [Int.ofNat_dvd_left, Int.natAbs_mul] at h
  rw [Int.ofNat_dvd_left, Int.ofNat_dvd_left]
  exact hp.euclid h
/-- a polynomial has no more roots than its degree -/
theorem Poly.roots {p : Nat} (hp : Pr p) : ∀ (m : Nat) (c : Int) (f : Int → Int), Poly m c f → ¬ (p : Int) ∣ c → ∀ l : List Nat, l.Nodup → (∀ x ∈ l, x < p ∧ (p : Int) ∣ f x) → l.length ≤ m
  | 0, c, f, hf, hc, l, hn, hl => by
    cases l with
    | nil => simp
    | cons r l =>
      have h1 := (hl r (List.mem_cons_self ..)).2
      have h2 : f r = c := hf r
      rw [h2] at h1
      exact absurd h1 hc
  | m + 1, c, f, hf, hc, l, hn, hl => by
    cases l with
    | nil => simp
    | cons r l =>
      obtain ⟨g, hg, hd⟩ := Poly.div m c f hf (r : Int)
      have hn' := List.nodup_cons.1 hn
      obtain ⟨hr1, hr2⟩ := hl r (List.mem_cons_self ..)
      have := Poly.roots hp m c g hg hc l hn'.2 (fun x hx => by
        obtain ⟨hx1, hx2⟩ := hl x (List.mem_cons_of_mem _ hx)
        refine ⟨hx1, ?_⟩
        have h3 : (p : Int) ∣ ((x : Int) - r) * g x := by
          have e : ((x : Int) - r) * g x = f x - f r := by rw [hd x]; omega
          rw [e]
          exact Int.dvd_sub hx2 hr2
        rcases hp.euclidI h3 with h4 | h4
        · exfalso
          have hne : x ≠ r := by rintro rfl; exact hn'.1 hx
          rw [Int.ofNat_dvd_left] at h4
          exact not_dvd_of_lt (a := ((x : Int) - r).natAbs) (by omega) (by omega) h4
        · exact h4)
      simp
      omega
theorem Poly.pow : ∀ m : Nat, Poly m 1 (fun x => x ^ m)
  | 0 => fun x => by simp
  | m + 1 => ⟨fun x => x ^ m, 0, Poly.pow m, fun x => by show x ^ (m + 1) = x * x ^ m + 0; rw [Int.pow_succ]; grind⟩
/-- not all numbers from 1 on have 1 for their m-th power -/
theorem Pr.non {p m : Nat} (hp : Pr p) (hm : 1 ≤ m) (hmp : m < p - 1) : ∃ b, 2 ≤ b ∧ b < p ∧ b ^ m % p ≠ 1 := by
  apply Classical.byContradiction
  intro hno
  have h2 := hp.1
  obtain ⟨k, rfl⟩ : ∃ k, m = k + 1 := ⟨m - 1, by omega⟩
  have hpoly : Poly (k + 1) 1 (fun x => x ^ (k + 1) - 1) := ⟨fun x => x ^ k, -1, Poly.pow k, fun x => by show x ^ (k + 1) - 1 = x * x ^ k + -1; rw [Int.pow_succ]; grind⟩
  have hc : ¬ (p : Int) ∣ 1 := by
    rw [Int.ofNat_dvd_left]
    exact not_dvd_of_lt (by omega) (by show 1 < p; omega)
  have := Poly.roots hp (k + 1) 1 _ hpoly hc (List.range' 1 (p - 1)) List.nodup_range' (fun x hx => by
    simp [List.mem_range'_1] at hx
    refine ⟨by omega, ?_⟩
    have h1 : x ^ (k + 1) % p = 1 := by
      by_cases hx1 : x = 1
      · subst hx1
        rw [Nat.one_pow, Nat.mod_eq_of_lt (by omega)]
      · apply Classical.byContradiction
        intro hne
        exact hno ⟨x, by omega, by omega, hne⟩
    have e := Nat.div_add_mod (x ^ (k + 1)) p
    rw [h1] at e
    refine ⟨((x ^ (k + 1) / p : Nat) : Int), ?_⟩
    have e2 : ((x : Int)) ^ (k + 1) = ((x ^ (k + 1) : Nat) : Int) := by simp
    show (x : Int) ^ (k + 1) - 1 = _
    rw [e2, ← Int.natCast_mul]
    omega)
  rw [List.length_range'] at this
  omega
theorem pow_one_mod {p : Nat} (hp : 2 ≤ p) (x k : Nat) (h : x % p = 1) : x ^ k % p = 1 := by
  rw [Nat.pow_mod, h, Nat.one_pow, Nat.mod_eq_of_lt (by omega)]
theorem mlx (a b p : Nat) : (a % p * b) % p = a * b % p := by rw [Nat.mul_mod, Nat.mod_mod, ← Nat.mul_mod]
theorem lr_le (p sq : Nat) : ∀ (k x b : Nat), lr p sq k x b ≤ b ∧ ∀ i, 1 ≤ i → i ≤ k → lr p sq k x b ≤ x * sq ^ i % p
  | 0, x, b => ⟨Nat.le_refl _, fun i h1 h2 => by omega⟩
  | k + 1, x, b => by
    obtain ⟨h1, h2⟩ := lr_le p sq k (x * sq % p) (min b (x * sq % p))
    have e : lr p sq (k + 1) x b = lr p sq k (x * sq % p) (min b (x * sq % p)) := rfl
    rw [e]
    refine ⟨by omega, fun i hi1 hi2 => ?_⟩
    by_cases h : i = 1
    · subst h
      rw [Nat.pow_one]
      omega
    · have h3 := h2 (i - 1) (by omega) (by omega)
      rw [mlx, Nat.mul_assoc, ← Nat.pow_succ', show (i - 1).succ = i by omega] at h3
      exact h3
theorem lr_mem (p sq : Nat) : ∀ (k x b : Nat), lr p sq k x b = b ∨ ∃ i, i ≤ k ∧ lr p sq k x b = x * sq ^ i % p
  | 0, x, b => Or.inl rfl
  | k + 1, x, b => by
    have e : lr p sq (k + 1) x b = lr p sq k (x * sq % p) (min b (x * sq % p)) := rfl
    rw [e]
    rcases lr_mem p sq k (x * sq % p) (min b (x * sq % p)) with h | ⟨i, hi, h⟩
    · rw [h]
      rcases Nat.le_total b (x * sq % p) with hb | hb
      · exact Or.inl (Nat.min_eq_left hb)
      · exact Or.inr ⟨1, by omega, by rw [Nat.pow_one]; exact Nat.min_eq_right hb⟩
    · refine Or.inr ⟨i + 1, by omega, ?_⟩
      rw [h, mlx, Nat.mul_assoc, ← Nat.pow_succ']
/-- the least root of 1 of the order n -/
theorem least_root {p n j A e : Nat} (hp : Pr p) (hp3 : 3 ≤ p) (hn : n = 2 ^ (j + 1)) (he : e * (n / 2) = (p - 1) / 2) (hpm : p = 2 * ((p - 1) / 2) + 1) (hA2 : 2 ≤ A) (hmin : ∀ b, 2 ≤ b → b < A → b ^ ((p - 1) / 2) % p = 1) (hA : A ^ ((p - 1) / 2) % p ≠ 1)
    (r R : Nat) (hr : r = A ^ e % p) (hR : R = lr p (r * r % p) (n / 2 - 1) r r) :
    R ^ n % p = 1 ∧ R ^ (n / 2) % p ≠ 1 ∧ 1 ≤ R ∧ ∀ h, h < R → ¬ (h ^ n % p = 1 ∧ h ^ (n / 2) % p ≠ 1) := by
  have hn2 : n / 2 = 2 ^ j := by rw [hn, Nat.pow_succ, Nat.mul_div_cancel _ (by omega)]
  have hnn : n = 2 ^ j * 2 := by rw [hn, Nat.pow_succ]
  have hj : 1 ≤ 2 ^ j := Nat.one_le_two_pow
  have hAp : A < p := by
    obtain ⟨b, hb1, hb2, hb3⟩ := hp.non (m := (p - 1) / 2) (by omega) (by omega)
    by_cases h : A ≤ b
    · omega
    · exact absurd (hmin b hb1 (by omega)) hb3
  have hfer := hp.fermat (not_dvd_of_lt (show 0 < A by omega) hAp)
  have hsq : A ^ ((p - 1) / 2) * A ^ ((p - 1) / 2) % p = 1 * 1 % p := by
    rw [← Nat.pow_add, show (p - 1) / 2 + (p - 1) / 2 = p - 1 by omega, hfer, Nat.one_mul, Nat.mod_eq_of_lt (by omega)]
  have hneg : (A ^ ((p - 1) / 2) + 1) % p = 0 := by
    rcases hp.sq hsq with h | h
    · rw [Nat.mod_eq_of_lt (show 1 < p by omega)] at h
      exact absurd h hA
    · exact h
  have hrp : r < p := by rw [hr]; exact Nat.mod_lt _ (by omega)
  have hrj : r ^ 2 ^ j % p = A ^ ((p - 1) / 2) % p := by rw [hr, ← Nat.pow_mod, ← Nat.pow_mul, ← hn2, he]
  have hr1 : (r ^ 2 ^ j + 1) % p = 0 := by rw [Nat.add_mod, hrj, ← Nat.add_mod]; exact hneg
  have hrn : r ^ n % p = 1 := by
    rw [hnn, Nat.pow_mul, Nat.pow_two, Nat.mul_mod, hrj, ← Nat.mul_mod, hsq, Nat.one_mul, Nat.mod_eq_of_lt (by omega)]
  have hodd : ∀ i, r * (r * r % p) ^ i % p = r ^ (2 * i + 1) % p := by
    intro i
    rw [Nat.mul_mod, ← Nat.pow_mod, ← Nat.mul_mod, ← Nat.pow_two, ← Nat.pow_mul, ← Nat.pow_succ']
  have hmem : ∃ i, R = r ^ (2 * i + 1) % p := by
    rcases lr_mem p (r * r % p) (n / 2 - 1) r r with h | ⟨i, _, h⟩
    · exact ⟨0, by rw [hR, h]; simp [Nat.mod_eq_of_lt hrp]⟩
    · exact ⟨i, by rw [hR, h, hodd]⟩
  have hle : ∀ i, i < 2 ^ j → R ≤ r ^ (2 * i + 1) % p := by
    intro i hi
    obtain ⟨h1, h2⟩ := lr_le p (r * r % p) (n / 2 - 1) r r
    rw [hR]
    by_cases h0 : i = 0
    · subst h0
      simp [Nat.mod_eq_of_lt hrp]
      exact h1
    · have := h2 i (by omega) (by omega)
      rw [hodd] at this
      exact this
  obtain ⟨i, hi⟩ := hmem
  have hRh : R ^ (n / 2) % p ≠ 1 := by
    rw [hi, ← Nat.pow_mod, ← Nat.pow_mul, hn2]
    have e1 : r ^ ((2 * i + 1) * 2 ^ j) = (r ^ n) ^ i * r ^ 2 ^ j := by
      rw [← Nat.pow_mul, ← Nat.pow_add, hnn]
      congr 1
      grind
    rw [e1, Nat.mul_mod, pow_one_mod (by omega) _ i hrn, Nat.one_mul, Nat.mod_mod, hrj]
    exact hA
  refine ⟨?_, hRh, ?_, ?_⟩
  · rw [hi, ← Nat.pow_mod, ← Nat.pow_mul, Nat.mul_comm, Nat.pow_mul]
    exact pow_one_mod (by omega) _ _ hrn
  · rcases Nat.eq_zero_or_pos R with h0 | h0
    · exfalso
      have h1 : r ^ (2 * i + 1) % p = 0 := by rw [← hi]; exact h0
      have h2 : (r ^ (2 * i + 1)) ^ n % p = 0 := by
        rw [Nat.pow_mod, h1, Nat.zero_pow (by omega), Nat.zero_mod]
      rw [← Nat.pow_mul, Nat.mul_comm, Nat.pow_mul, pow_one_mod (by omega) _ _ hrn] at h2
      omega
    · exact h0
  · rintro h hlt ⟨h1, h2⟩
    obtain ⟨k, hk⟩ := hp.roots j r h hr1 (by rw [← hn]; exact h1)
    rcases Nat.mod_two_eq_zero_or_one k with hk2 | hk2
    · refine h2 ?_
      obtain ⟨s, rfl⟩ : ∃ s, k = 2 * s := ⟨k / 2, by omega⟩
      rw [Nat.pow_mod, hk, ← Nat.pow_mod, ← Nat.pow_mul, show 2 * s * (n / 2) = n * s by rw [hn2, hnn]; grind, Nat.pow_mul]
      exact pow_one_mod (by omega) _ _ hrn
    · obtain ⟨s, rfl⟩ : ∃ s, k = 2 * s + 1 := ⟨k / 2, by omega⟩
      have e1 : r ^ (2 * s + 1) % p = r ^ (2 * (s % 2 ^ j) + 1) % p := by
        have e2 := Nat.div_add_mod s (2 ^ j)
        have e3 : r ^ (2 * s + 1) = (r ^ n) ^ (s / 2 ^ j) * r ^ (2 * (s % 2 ^ j) + 1) := by
          rw [← Nat.pow_mul, ← Nat.pow_add, hnn]
          congr 1
          generalize s / 2 ^ j = a at *
          generalize s % 2 ^ j = b at *
          rw [← e2]
          grind
        rw [e3, Nat.mul_mod, pow_one_mod (by omega) _ _ hrn, Nat.one_mul, Nat.mod_mod]
      have h4 := hle (s % 2 ^ j) (Nat.mod_lt _ hj)
      rw [← e1, ← hk] at h4
      have := Nat.mod_le h p
      omega
end Go.Proofs.YtplaaglckbfklaaDoor.F1
