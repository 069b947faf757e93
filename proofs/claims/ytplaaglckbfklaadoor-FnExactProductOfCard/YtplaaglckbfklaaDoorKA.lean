/- Proved: several texts in one: what each proves is said ahead of it. -/
import Derived.Test.YtplaaglckbfklaaDoorRows
import Derived.WalkKit
import Derived.ProofKit
import Derived.OpenShut
import Derived.Deep.Draws
import Derived.Lib.Mul64
import Derived.Laws.Bits64b
import Derived.Handy
import Derived.WalkSmall
import Derived.Lib.TrailingZeros
import Derived.ShutString
import Derived.ChangeOld
import Derived.Below
import Derived.Carry
import Derived.OwnWalk
import Derived.OneCell
import Derived.Deep.QuietTactic
import Derived.BigQuiet
import Derived.Lib.Walk
import Derived.Lib.BitFns
import Derived.Deep.DeepCutAuto
import Derived.Lib.LaidTab
import Derived.OpenVars
/- Proved: plain arithmetic for the proofs of this seat (powers, inverses by Euclid's way, Barrett's, Montgomery's and Shoup's products); no program in sight. -/
namespace Go.Proofs.YtplaaglckbfklaaDoor.M1
/-- a to the e-th power, modulo p -/
def powM (a e p : Nat) : Nat := a ^ e % p
theorem mm (a b p : Nat) : a % p * (b % p) % p = a * b % p := (Nat.mul_mod a b p).symm
theorem ml (a b p : Nat) : (a % p * b) % p = a * b % p := by rw [Nat.mul_mod, Nat.mod_mod, ← Nat.mul_mod]
theorem mrr (a b p : Nat) : (a * (b % p)) % p = a * b % p := by rw [Nat.mul_mod, Nat.mod_mod, ← Nat.mul_mod]
theorem pow_half_even (a e : Nat) (h : e % 2 = 0) : (a * a) ^ (e / 2) = a ^ e := by
  rw [← Nat.pow_two, ← Nat.pow_mul]; congr 1; omega
theorem pow_half_odd (a e : Nat) (h : e % 2 = 1) : a * (a * a) ^ (e / 2) = a ^ e := by
  rw [← Nat.pow_two, ← Nat.pow_mul, Nat.mul_comm, ← Nat.pow_succ]; congr 1; omega
theorem step_even (r a e p : Nat) (h : e % 2 = 0) : r * (a * a % p) ^ (e / 2) % p = r * a ^ e % p := by
  rw [← mrr, ← Nat.pow_mod, mrr, pow_half_even a e h]
theorem step_odd (r a e p : Nat) (h : e % 2 = 1) : (r * a % p) * (a * a % p) ^ (e / 2) % p = r * a ^ e % p := by
  rw [ml, ← mrr, ← Nat.pow_mod, mrr, Nat.mul_assoc, pow_half_odd a e h]
theorem powM_lt (a e p : Nat) (h : 0 < p) : powM a e p < p := Nat.mod_lt _ h
theorem uniq (a i j m : Nat) (hi : i < m) (hj : j < m) (h1 : a * i % m = 1) (h2 : a * j % m = 1) : i = j := by
  have e1 : i * (a * j) % m = i := by rw [Nat.mul_mod, h2, Nat.mul_one, Nat.mod_mod, Nat.mod_eq_of_lt hi]
  have e2 : (a * i) * j % m = j := by rw [Nat.mul_mod, h1, Nat.one_mul, Nat.mod_mod, Nat.mod_eq_of_lt hj]
  have : i * (a * j) = (a * i) * j := by rw [← Nat.mul_assoc, Nat.mul_comm i a]
  rw [this] at e1; omega
/-- the inverse of a modulo m, 0 where there is none -/
def invM (a m : Nat) : Nat := ((List.range m).find? (fun i => a * i % m == 1)).getD 0
theorem invM_of (a i m : Nat) (hi : i < m) (h : a * i % m = 1) : invM a m = i := by
  unfold invM
  cases hf : (List.range m).find? (fun i => a * i % m == 1) with
  | none => 
    have := List.find?_eq_none.1 hf i (List.mem_range.2 hi)
    simp [h] at this
  | some j =>
    have h1 := List.find?_some hf
    have h2 := List.mem_of_find?_eq_some hf
    simp at h1 h2
    simp
    exact uniq a j i m h2 hi h1 h
theorem invM_no (a m : Nat) (h : Nat.gcd a m ≠ 1) : invM a m = 0 := by
  unfold invM
  cases hf : (List.range m).find? (fun i => a * i % m == 1) with
  | none => rfl
  | some j =>
    exfalso; apply h
    have h1 := List.find?_some hf
    simp at h1
    have d1 : Nat.gcd a m ∣ a * j := Nat.dvd_trans (Nat.gcd_dvd_left a m) (Nat.dvd_mul_right a j)
    have d2 : Nat.gcd a m ∣ m := Nat.gcd_dvd_right a m
    have d3 : Nat.gcd a m ∣ a * j % m := (Nat.dvd_mod_iff d2).2 d1
    rw [h1] at d3
    exact Nat.dvd_one.1 d3

structure Eu (a m x y u v : Int) : Prop where
  x0 : 0 ≤ x
  xy : x < y
  ym : y ≤ m
  sg : (0 ≤ u ∧ v ≤ 0 ∧ u * y - v * x = m) ∨ (u ≤ 0 ∧ 0 ≤ v ∧ v * x - u * y = m)
  dx : m ∣ u * a - x
  dy : m ∣ v * a - y
  g : Int.gcd x y = Int.gcd a m
  bu : -m ≤ u ∧ u ≤ m
  bv : -m ≤ v ∧ v ≤ m
theorem Eu.start (a m : Int) (h0 : 0 ≤ a) (h1 : a < m) : Eu a m a m 1 0 where
  x0 := h0
  xy := h1
  ym := Int.le_refl _
  sg := Or.inl ⟨by omega, by omega, by omega⟩
  dx := by simp
  dy := by simp
  g := rfl
  bu := by omega
  bv := by omega
theorem Eu.step {a m x y u v : Int} (h : Eu a m x y u v) (hx : x ≠ 0) : Eu a m (y - y / x * x) x (v - y / x * u) u ∧ (-m ≤ y / x * u ∧ y / x * u ≤ m) ∧ (0 ≤ y / x ∧ y / x ≤ m) ∧ (0 ≤ y / x * x ∧ y / x * x ≤ y) := by
  obtain ⟨x0, xy, ym, sg, dx, dy, g, bu, bv⟩ := h
  have hq := Int.emod_add_mul_ediv y x
  have r0 := Int.emod_nonneg y hx
  have r1 := Int.emod_lt_of_pos y (b := x) (by omega)
  have hq0 : 0 ≤ y / x := Int.ediv_nonneg (by omega) x0
  have hq1 : y / x ≤ y := by
    have := Int.mul_le_mul_of_nonneg_right (show 1 ≤ x by omega) hq0
    have e : x * (y / x) ≤ y := by omega
    omega
  have er : y - y / x * x = y % x := by rw [Int.mul_comm]; omega
  have eg : Int.gcd (y % x) x = Int.gcd a m := by rw [← g, ← er, Int.gcd_comm x y, Int.gcd_sub_mul_right_left]
  generalize hqq : y / x = q at *
  have key : (0 ≤ v - q * u ∧ u ≤ 0 ∧ (v - q * u) * x - u * (y - q * x) = m ∧ 0 ≤ - (q * u) ∧ 0 ≤ v) ∨ (v - q * u ≤ 0 ∧ 0 ≤ u ∧ u * (y - q * x) - (v - q * u) * x = m ∧ 0 ≤ q * u ∧ v ≤ 0) := by
    rcases sg with ⟨hu, hv, he⟩ | ⟨hu, hv, he⟩
    · right
      have := Int.mul_nonneg hq0 hu
      refine ⟨by omega, hu, by grind, this, hv⟩
    · left
      have := Int.mul_nonneg hq0 (show 0 ≤ -u by omega)
      have e : q * -u = -(q*u) := by grind
      refine ⟨by omega, hu, by grind, by omega, hv⟩
  have bnd : (-m ≤ v - q * u ∧ v - q * u ≤ m) := by
    rcases key with ⟨h1, h2, h3, h4⟩ | ⟨h1, h2, h3, h4⟩
    · have a1 : 0 ≤ (-u) * (y - q * x) := Int.mul_nonneg (by omega) (by omega)
      have a2 : (v - q * u) * 1 ≤ (v - q * u) * x := Int.mul_le_mul_of_nonneg_left (by omega) h1
      have : (-u) * (y - q * x) = - (u * (y - q * x)) := by grind
      omega
    · have a1 : 0 ≤ u * (y - q * x) := Int.mul_nonneg (by omega) (by omega)
      have a2 : (-(v - q * u)) * 1 ≤ (-(v - q * u)) * x := Int.mul_le_mul_of_nonneg_left (by omega) (by omega)
      have : (-(v - q * u)) * x = - ((v - q * u) * x) := by grind
      omega
  refine ⟨⟨by omega, by omega, by omega, ?_, ?_, dx, ?_, bnd, bu⟩, ?_, by omega, ?_⟩
  · rcases key with ⟨h1, h2, h3, h4⟩ | ⟨h1, h2, h3, h4⟩
    · left; exact ⟨h1, h2, h3⟩
    · right; exact ⟨h1, h2, h3⟩
  · have : (v - q * u) * a - (y - q * x) = (v * a - y) - q * (u * a - x) := by grind
    rw [this]; exact Int.dvd_sub dy (Int.dvd_mul_of_dvd_right dx)
  · rw [er]; exact eg
  · rcases key with ⟨h1, h2, h3, h4⟩ | ⟨h1, h2, h3, h4⟩ <;> omega
  · constructor
    · exact Int.mul_nonneg hq0 x0
    · omega
theorem Eu.done {a m y u v : Int} (h : Eu a m 0 y u v) (hm : 2 ≤ m) (ha : 0 ≤ a) :
    (if y ≠ 1 then 0 else if Int.tmod v m < 0 then Int.tmod v m + m else Int.tmod v m) = (invM a.toNat m.toNat : Int) := by
  obtain ⟨x0, xy, ym, sg, dx, dy, g, bu, bv⟩ := h
  have g' : y.natAbs = Nat.gcd a.toNat m.toNat := by
    have : Int.gcd 0 y = y.natAbs := by simp
    rw [this] at g; rw [g]; unfold Int.gcd; congr 1 <;> omega
  by_cases h1 : y = 1
  · rw [if_neg (by simp [h1])]
    have hv : (if Int.tmod v m < 0 then Int.tmod v m + m else Int.tmod v m) = v % m := by
      by_cases hv0 : 0 ≤ v
      · rw [Int.tmod_eq_emod_of_nonneg hv0]
        have := Int.emod_nonneg v (show m ≠ 0 by omega)
        rw [if_neg (by omega)]
      · have e : Int.tmod v m = - ((-v) % m) := by
          rw [← Int.tmod_eq_emod_of_nonneg (by omega), Int.neg_tmod, Int.neg_neg]
        have r0 := Int.emod_nonneg (-v) (show m ≠ 0 by omega)
        have r1 := Int.emod_lt_of_pos (-v) (b := m) (by omega)
        have s0 := Int.emod_nonneg v (show m ≠ 0 by omega)
        have s1 := Int.emod_lt_of_pos v (b := m) (by omega)
        have t1 := Int.emod_add_mul_ediv v m
        have t2 := Int.emod_add_mul_ediv (-v) m
        rw [e]
        by_cases hz : (-v) % m = 0
        · rw [hz]; simp
          have : m ∣ v := by have := Int.dvd_of_emod_eq_zero hz; exact (Int.dvd_neg).1 this
          exact (Int.emod_eq_zero_of_dvd this).symm
        · rw [if_pos (by omega)]
          have : (-v) % m = m - v % m := by
            rw [Int.neg_emod]
            split
            · rename_i hd; have := Int.emod_eq_zero_of_dvd hd; exfalso; apply hz; exact Int.emod_eq_zero_of_dvd ((Int.dvd_neg).2 hd)
            · have : (m.natAbs : Int) = m := by omega
              omega
          omega
    rw [hv]
    have s0 := Int.emod_nonneg v (show m ≠ 0 by omega)
    have s1 := Int.emod_lt_of_pos v (b := m) (by omega)
    rw [invM_of a.toNat (v % m).toNat m.toNat (by omega)]
    · omega
    · have : ((a.toNat * (v % m).toNat % m.toNat : Nat) : Int) = 1 := by
        have ea : ((a.toNat : Nat) : Int) = a := by omega
        have ev : (((v % m).toNat : Nat) : Int) = v % m := by omega
        have em : ((m.toNat : Nat) : Int) = m := by omega
        rw [Int.natCast_emod, Int.natCast_mul, ea, ev, em, Int.mul_emod, Int.emod_emod, ← Int.mul_emod]
        subst h1
        obtain ⟨k, hk⟩ := dy
        have : a * v = 1 + m * k := by rw [Int.mul_comm]; omega
        rw [this, Int.add_mul_emod_self_left]
        exact Int.emod_eq_of_lt (by omega) (by omega)
      omega
  · rw [if_pos h1, invM_no _ _ (by omega)]; rfl
theorem tm (v m : Int) (hm : 2 ≤ m) : (if Int.tmod v m < 0 then Int.tmod v m + m else Int.tmod v m) = v % m := by
  by_cases hv0 : 0 ≤ v
  · rw [Int.tmod_eq_emod_of_nonneg hv0]
    have := Int.emod_nonneg v (show m ≠ 0 by omega)
    rw [if_neg (by omega)]
  · have e : Int.tmod v m = - ((-v) % m) := by
      rw [← Int.tmod_eq_emod_of_nonneg (by omega), Int.neg_tmod, Int.neg_neg]
    have r0 := Int.emod_nonneg (-v) (show m ≠ 0 by omega)
    have r1 := Int.emod_lt_of_pos (-v) (b := m) (by omega)
    have k : (-v) % m = if m ∣ v then 0 else m - v % m := by
      rw [Int.neg_emod]
      have : (m.natAbs : Int) = m := by omega
      rw [this]
    by_cases hd : m ∣ v
    · rw [if_pos hd] at k
      have := Int.emod_eq_zero_of_dvd hd
      rw [e, k, this]; simp
    · rw [if_neg hd] at k
      have hd' : v % m ≠ 0 := fun h => hd (Int.dvd_of_emod_eq_zero h)
      have s0 := Int.emod_nonneg v (show m ≠ 0 by omega)
      have s1 := Int.emod_lt_of_pos v (b := m) (by omega)
      rw [if_pos (by omega)]; omega
theorem Eu.done1 {a m u v : Int} (h : Eu a m 0 1 u v) (hm : 2 ≤ m) (ha : 0 ≤ a) : v % m = (invM a.toNat m.toNat : Int) := by
  have := h.done hm ha
  rw [if_neg (by simp), tm v m hm] at this
  exact this
theorem Eu.done0 {a m y u v : Int} (h : Eu a m 0 y u v) (hm : 2 ≤ m) (ha : 0 ≤ a) (hy : y ≠ 1) : (0 : Int) = (invM a.toNat m.toNat : Int) := by
  have := h.done hm ha
  rw [if_pos hy] at this
  exact this
theorem barrett (p D z M : Nat) (hp : 0 < p) (hD : 0 < D) (hM : M = D / p) (hz : z < D) : z * M / D * p ≤ z ∧ z < z * M / D * p + 2 * p := by
  have e := Nat.div_add_mod D p
  have r := Nat.mod_lt D hp
  rw [← hM] at e
  have q1 := Nat.div_add_mod (z * M) D
  have q2 := Nat.mod_lt (z * M) hD
  generalize z * M / D = q at *
  generalize D % p = d at *
  generalize (z * M) % D = t at *
  constructor
  · have h1 : (q * p) * D ≤ z * D := by
      have : D * q * p ≤ z * M * p := Nat.mul_le_mul_right p (by omega)
      have h2 : z * M * p ≤ z * D := by rw [Nat.mul_assoc]; exact Nat.mul_le_mul_left z (by rw [Nat.mul_comm]; omega)
      have h3 : D * q * p = q * p * D := by rw [Nat.mul_assoc, Nat.mul_comm]
      omega
    exact Nat.le_of_mul_le_mul_right h1 hD
  · have h1 : z * D < (q * p + 2 * p) * D := by
      have a1 : z * D = (z * M) * p + z * d := by rw [← e, Nat.mul_add]; congr 1; rw [Nat.mul_comm p M, Nat.mul_assoc]
      have a2 : z * d ≤ D * p := Nat.mul_le_mul (by omega) (by omega)
      have a3 : (z * M) * p = D * q * p + t * p := by rw [← q1, Nat.add_mul]
      have a4 : t * p < D * p := Nat.mul_lt_mul_of_pos_right q2 hp
      have a5 : (q * p + 2 * p) * D = D * q * p + 2 * (D * p) := by grind
      omega
    exact Nat.lt_of_mul_lt_mul_right h1
theorem less_once (x p : Nat) (h : x < 2 * p) : (if p ≤ x then x - p else x) = x % p := by
  split
  · rw [Nat.mod_eq_sub_mod (by omega), Nat.mod_eq_of_lt (by omega)]
  · rw [Nat.mod_eq_of_lt (by omega)]
theorem barrett_mod (p D z M : Nat) (hp : 0 < p) (hD : 0 < D) (hM : M = D / p) (hz : z < D) : (z - z * M / D * p) % p = z % p := by
  have h := barrett p D z M hp hD hM hz
  conv => rhs; rw [show z = (z - z * M / D * p) + z * M / D * p by omega, Nat.add_mul_mod_self_right]
/-- the product of high and low word, cut at a shift -/
theorem two_words (n s : Nat) (hs : s ≤ 64) : n / 2 ^ 64 * 2 ^ (64 - s) + n % 2 ^ 64 / 2 ^ s = n / 2 ^ s := by
  have e : (2:Nat) ^ 64 = 2 ^ s * 2 ^ (64 - s) := by rw [← Nat.pow_add]; congr 1; omega
  have h := Nat.div_add_mod n (2 ^ 64)
  have hp : 0 < (2:Nat) ^ s := Nat.two_pow_pos s
  conv => rhs; rw [← h, e]
  rw [Nat.mul_assoc, Nat.mul_add_div hp, ← e, Nat.mul_comm]
theorem mont (p R z f i k : Nat) (hR : 0 < R) (hi : i * p + 1 = k * R) (hf : f = z * i % R) (hz : z < R * p) :
    (z + f * p) % R = 0 ∧ (z + f * p) / R < 2 * p ∧ (z + f * p) / R % p = z % p * (k % p) % p := by
  have hp : 0 < p := by
    rcases Nat.eq_zero_or_pos p with h | h
    · subst h; omega
    · exact h
  have h0 : (z + f * p) % R = 0 := by
    subst hf
    rw [Nat.add_mod, Nat.mul_mod, Nat.mod_mod, ← Nat.mul_mod, ← Nat.add_mod]
    have : z + z * i * p = z * k * R := by rw [Nat.mul_assoc z k R, ← hi, Nat.mul_add, Nat.mul_one, Nat.mul_assoc]; omega
    rw [this, Nat.mul_mod_left]
  have hf' : f < R := by subst hf; exact Nat.mod_lt _ hR
  refine ⟨h0, ?_, ?_⟩
  · rw [Nat.div_lt_iff_lt_mul hR]
    have : f * p < R * p := Nat.mul_lt_mul_of_pos_right hf' hp
    have e : 2 * p * R = 2 * (R * p) := by grind
    omega
  · have e := Nat.div_add_mod (z + f * p) R
    rw [h0] at e
    generalize (z + f * p) / R = t at *
    have e2 : t * (k * R) = z * k + f * k * p := by grind
    have e3 : t * (k * R) = t + t * i * p := by rw [← hi]; grind
    have e4 : t % p = (z * k) % p := by
      have a : (t + t * i * p) % p = t % p := Nat.add_mul_mod_self_right _ _ _
      have b : (z * k + f * k * p) % p = z * k % p := Nat.add_mul_mod_self_right _ _ _
      rw [← e2, e3, a] at b
      exact b
    rw [e4, Nat.mul_mod]
theorem newton (p x r N D E : Int) (h : D ∣ p * x - 1) (hr : N ∣ x * (2 - p * x) - r) (h1 : E ∣ D * D) (h2 : E ∣ N) : E ∣ p * r - 1 := by
  obtain ⟨a, ha⟩ := h
  obtain ⟨b, hb⟩ := hr
  obtain ⟨c, hc⟩ := h1
  obtain ⟨d, hd⟩ := h2
  refine ⟨- (c * a * a) - p * d * b, ?_⟩
  have e1 : p * (x * (2 - p * x)) - 1 = - ((p * x - 1) * (p * x - 1)) := by grind
  have e2 : p * r = p * (x * (2 - p * x)) - p * (N * b) := by rw [← hb]; grind
  have e3 : (p * x - 1) * (p * x - 1) = E * (c * a * a) := by rw [ha]; grind
  have e4 : p * (N * b) = E * (p * d * b) := by rw [hd]; grind
  grind
theorem shoup (w p x R : Nat) (hp : 0 < p) (hR : 0 < R) (hx : x < R) : w * R / p * x / R * p ≤ w * x ∧ w * x < w * R / p * x / R * p + 2 * p := by
  have e1 := Nat.div_add_mod (w * R) p
  have r1 := Nat.mod_lt (w * R) hp
  generalize w * R / p = pre at *
  generalize (w * R) % p = d at *
  have e2 := Nat.div_add_mod (pre * x) R
  have r2 := Nat.mod_lt (pre * x) hR
  generalize pre * x / R = q at *
  generalize pre * x % R = t at *
  have k : w * x * R = q * p * R + (t * p + d * x) := by
    have a1 : w * x * R = (w * R) * x := by grind
    have a2 : q * p * R + t * p = (R * q + t) * p := by grind
    rw [a1, ← e1, ← Nat.add_assoc, a2, e2]; grind
  constructor
  · exact Nat.le_of_mul_le_mul_right (show q * p * R ≤ w * x * R by omega) hR
  · have b1 : t * p < R * p := Nat.mul_lt_mul_of_pos_right r2 hp
    have b2 : d * x ≤ p * R := Nat.mul_le_mul (by omega) (by omega)
    have b3 : (q * p + 2 * p) * R = q * p * R + 2 * (R * p) := by grind
    have b4 : p * R = R * p := Nat.mul_comm _ _
    exact Nat.lt_of_mul_lt_mul_right (show w * x * R < (q * p + 2 * p) * R by omega)
end Go.Proofs.YtplaaglckbfklaaDoor.M1
/- Proved: contracts of the tests for a modulus and of the least residue, of the program and of the model. -/
namespace Go.Proofs.YtplaaglckbfklaaDoor
open Go.ChangeShapes Go.WideShapes Go.ChangeAt Go.RowKit
theorem grown_trans {a b c : World} (h1 : Grown a b) (h2 : Grown b c) : Grown a c := ⟨World.keptBut_trans h1.1 h2.1, fun x => (h2.2.1 x).trans (h1.2.1 x), Nat.le_trans h1.2.2 h2.2.2⟩
theorem grown_drewN (w : World) (n : Nat) : Grown w (w.drewN n) := Grown.refl w
/-- a modulus -/
def modB (p : Int) : Bool := decide (2 ≤ p ∧ p ≤ 268435456)
theorem modB_yes {p : Int} (h : modB p = true) : 2 ≤ p ∧ p ≤ 268435456 := by simpa [modB] using h
theorem modB_no {p : Int} (h : modB p = false) : p < 2 ∨ (2 ≤ p ∧ 268435456 < p) := by simp [modB] at h; omega
theorem impl_isModulus (p : Int) (w : World) :
    Calls Tryd.prog 169 #[.int .i64 p] w fun e w' => e = .returned (.bool (modB p)) ∧ w' = w := by
  cases h : modB p
  · rcases modB_no h with h1 | ⟨h1, h2⟩
    all_goals
      clear h
      try (have d : decide (p ≤ 268435456) = false := by simp; omega)
      go_enter Tryd.func169, Tryd.ntmps169
      go_wp2
      go_ret
      exact ⟨rfl, rfl⟩
  · obtain ⟨h1, h2⟩ := modB_yes h
    clear h
    go_enter Tryd.func169, Tryd.ntmps169
    go_wp2
    go_ret
    exact ⟨rfl, rfl⟩
theorem spec_modulus (p : Int) (w : World) :
    Calls Tryd.prog 115 #[.int .i64 p] w fun e w' => e = .returned (.bool (modB p)) ∧ w' = w := by
  cases h : modB p
  · rcases modB_no h with h1 | ⟨h1, h2⟩
    all_goals
      clear h
      try (have d : decide (p ≤ 268435456) = false := by simp; omega)
      go_enter Tryd.func115, Tryd.ntmps115
      go_wp2
      go_ret
      exact ⟨rfl, rfl⟩
  · obtain ⟨h1, h2⟩ := modB_yes h
    clear h
    go_enter Tryd.func115, Tryd.ntmps115
    go_wp2
    go_ret
    exact ⟨rfl, rfl⟩
theorem tmod_neg (a p : Int) (h0 : a < 0) (hp : 1 ≤ p) : -p < a.tmod p ∧ a.tmod p ≤ 0 ∧ (a.tmod p < 0 → a.tmod p + p = a % p) ∧ (0 ≤ a.tmod p → a.tmod p = a % p) := by
  have e : Int.tmod a p = - ((-a) % p) := by
    rw [← Int.tmod_eq_emod_of_nonneg (by omega), Int.neg_tmod, Int.neg_neg]
  have r0 := Int.emod_nonneg (-a) (show p ≠ 0 by omega)
  have r1 := Int.emod_lt_of_pos (-a) (b := p) (by omega)
  have k : (-a) % p = if p ∣ a then 0 else p - a % p := by
    rw [Int.neg_emod]
    have : (p.natAbs : Int) = p := by omega
    rw [this]
  by_cases hd : p ∣ a
  · rw [if_pos hd] at k
    have := Int.emod_eq_zero_of_dvd hd
    omega
  · rw [if_neg hd] at k
    have hd' : a % p ≠ 0 := fun h => hd (Int.dvd_of_emod_eq_zero h)
    have s0 := Int.emod_nonneg a (show p ≠ 0 by omega)
    have s1 := Int.emod_lt_of_pos a (b := p) (by omega)
    omega
theorem impl_residueOf (a p : Int) (w : World) (ha : -9223372036854775808 ≤ a ∧ a ≤ 9223372036854775807) (hp : 1 ≤ p ∧ p ≤ 4294967296) :
    Calls Tryd.prog 162 #[.int .i64 a, .int .i64 p] w fun e w' => e = .returned (.int .i64 (a % p)) ∧ w' = w := by
  obtain ⟨h1, h2⟩ := hp
  obtain ⟨h3, h4⟩ := ha
  by_cases h0 : 0 ≤ a
  · have r0 := Int.emod_nonneg a (show p ≠ 0 by omega)
    go_enter Tryd.func162, Tryd.ntmps162
    go_wp2
    go_ret
    exact ⟨rfl, rfl⟩
  · obtain ⟨t1, t2, t3, t4⟩ := tmod_neg a p (by omega) h1
    have T3 : Hid (a.tmod p < 0 → a.tmod p + p = a % p) := t3
    have T4 : Hid (0 ≤ a.tmod p → a.tmod p = a % p) := t4
    clear t3 t4
    by_cases hs : a.tmod p < 0
    · go_enter Tryd.func162, Tryd.ntmps162
      go_wp2
      go_ret
      exact ⟨by rw [← T3.out hs]; rfl, rfl⟩
    · go_enter Tryd.func162, Tryd.ntmps162
      go_wp2
      go_ret
      exact ⟨by rw [← T4.out (by omega)]; rfl, rfl⟩
theorem spec_mod (a p : Int) (w : World) (ha : -9223372036854775808 ≤ a ∧ a ≤ 9223372036854775807) (hp : 1 ≤ p ∧ p ≤ 4294967296) :
    Calls Tryd.prog 163 #[.int .i64 a, .int .i64 p] w fun e w' => e = .returned (.int .i64 (a % p)) ∧ w' = w := by
  obtain ⟨h1, h2⟩ := hp
  obtain ⟨h3, h4⟩ := ha
  by_cases h0 : 0 ≤ a
  · have r0 := Int.emod_nonneg a (show p ≠ 0 by omega)
    go_enter Tryd.func163, Tryd.ntmps163
    go_wp2
    go_ret
    exact ⟨rfl, rfl⟩
  · obtain ⟨t1, t2, t3, t4⟩ := tmod_neg a p (by omega) h1
    have T3 : Hid (a.tmod p < 0 → a.tmod p + p = a % p) := t3
    have T4 : Hid (0 ≤ a.tmod p → a.tmod p = a % p) := t4
    clear t3 t4
    by_cases hs : a.tmod p < 0
    · go_enter Tryd.func163, Tryd.ntmps163
      go_wp2
      go_ret
      exact ⟨by rw [← T3.out hs]; rfl, rfl⟩
    · go_enter Tryd.func163, Tryd.ntmps163
      go_wp2
      go_ret
      exact ⟨by rw [← T4.out (by omega)]; rfl, rfl⟩
end Go.Proofs.YtplaaglckbfklaaDoor
/- Proved: the contract of the library function Mul64 over the program of this seat: the two words of the product. -/
namespace Go.Proofs.YtplaaglckbfklaaDoor
open Go.ChangeShapes Go.WideShapes Go.ChangeAt Go.RowKit
open M1
namespace Mul64
theorem maskN (a : Nat) (ha : a < 18446744073709551616) : bits .and .u64 (a : Int) 4294967295 = ((a % 4294967296 : Nat) : Int) := by
  have h := bits_and_u64_nat a 4294967295 ha (by omega)
  have e : a &&& 4294967295 = a % 4294967296 := Nat.and_two_pow_sub_one_eq_mod a 32
  rw [e] at h
  exact h
theorem divN (a : Nat) : (a : Int) / 4294967296 = ((a / 4294967296 : Nat) : Int) := by omega
theorem mulN (a b : Nat) : (a : Int) * (b : Int) = ((a * b : Nat) : Int) := (Int.natCast_mul a b).symm
theorem addN (a b : Nat) : (a : Int) + (b : Int) = ((a + b : Nat) : Int) := (Int.natCast_add a b).symm
theorem wrapN (a : Nat) (ha : a < 18446744073709551616) : IntKind.u64.wrap (a : Int) = (a : Int) := by rw [IntKind.wrap_u64]; omega
theorem wrapM (a : Nat) : IntKind.u64.wrap (a : Int) = ((a % 18446744073709551616 : Nat) : Int) := by rw [IntKind.wrap_u64]; omega
end Mul64
set_option maxHeartbeats 1000000 in
theorem bits_Mul64 (x y : Nat) (hx : x < 18446744073709551616) (hy : y < 18446744073709551616) (w : World) :
    Calls Tryd.prog 207 #[.int .u64 x, .int .u64 y] w fun e w' => e = .returned (.tuple #[.int .u64 ((x * y / 18446744073709551616 : Nat) : Int), .int .u64 ((x * y % 18446744073709551616 : Nat) : Int)]) ∧ w' = w := by
  obtain ⟨bd, bt, bw, hhi⟩ := Lib.mul64_hi x y hx hy
  have ba := Lib.half_mul_le (a := x / 4294967296) (b := y / 4294967296) (by omega) (by omega)
  have bb := Lib.half_mul_le (a := x / 4294967296) (b := y % 4294967296) (by omega) (by omega)
  have bc := Lib.half_mul_le (a := x % 4294967296) (b := y / 4294967296) (by omega) (by omega)
  have ba' : x / 4294967296 * (y / 4294967296) < 18446744073709551616 := by omega
  have bb' : x / 4294967296 * (y % 4294967296) < 18446744073709551616 := by omega
  have bc' : x % 4294967296 * (y / 4294967296) < 18446744073709551616 := by omega
  have bh1 : x / 4294967296 * (y / 4294967296) + (x / 4294967296 * (y % 4294967296) + x % 4294967296 * (y % 4294967296) / 4294967296) / 4294967296 < 18446744073709551616 := by omega
  have bh : x / 4294967296 * (y / 4294967296) + (x / 4294967296 * (y % 4294967296) + x % 4294967296 * (y % 4294967296) / 4294967296) / 4294967296 + ((x / 4294967296 * (y % 4294967296) + x % 4294967296 * (y % 4294967296) / 4294967296) % 4294967296 + x % 4294967296 * (y / 4294967296)) / 4294967296 < 18446744073709551616 := by omega
  go_enter Tryd.func207, Tryd.ntmps207
  go_wp2
  simp only [Mul64.maskN x hx, Mul64.maskN y hy, Mul64.divN, Mul64.mulN, Mul64.addN, Mul64.wrapN _ bd, Mul64.wrapN _ bb', Mul64.wrapN _ bt, Mul64.maskN _ bt, Mul64.wrapN _ bc', Mul64.wrapN _ bw, Mul64.wrapN _ ba', Mul64.wrapN _ bh1, Mul64.wrapN _ bh, Mul64.wrapM (x * y)]
  rw [hhi]
  go_ret2
  exact ⟨rfl, rfl⟩
end Go.Proofs.YtplaaglckbfklaaDoor
/- Proved: contracts of the library functions Div64 and Rem64 where the high word is 0, and of the product by remainder for small factors. -/
namespace Go.Proofs.YtplaaglckbfklaaDoor
open Go.ChangeShapes Go.WideShapes Go.ChangeAt Go.RowKit
open M1
theorem ret_two {k l : IntKind} {a b c d : Int} (h : a = b) (g : c = d) : Ending.returned (.tuple #[.int k a, .int l c]) = .returned (.tuple #[.int k b, .int l d]) := by rw [h, g]
set_option maxHeartbeats 1000000 in
theorem bits_Div64_zero (lo y : Nat) (hl : lo < 18446744073709551616) (hy : 0 < y) (hy' : y < 18446744073709551616) (w : World) :
    Calls Tryd.prog 228 #[.int .u64 0, .int .u64 lo, .int .u64 y] w fun e w' => e = .returned (.tuple #[.int .u64 ((lo / y : Nat) : Int), .int .u64 ((lo % y : Nat) : Int)]) ∧ ∃ n, w' = w.drewN n := by
  have hq : lo / y ≤ lo := Nat.div_le_self lo y
  have h0 : ((y : Int) == 0) = false := by simp; omega
  go_enter Tryd.func228, Tryd.ntmps228
  go_wp2
  go_region
  all_goals go_wp2
  all_goals go_ret2
  all_goals exact ⟨ret_two (by rw [← Int.natCast_ediv]; exact Mul64.wrapN _ (by omega)) (Int.natCast_emod _ _).symm, 1, rfl⟩
theorem bits_Rem64_small (lo y : Nat) (hl : lo < 18446744073709551616) (hy : 0 < y) (hy' : y < 18446744073709551616) (w : World) :
    Calls Tryd.prog 223 #[.int .u64 0, .int .u64 lo, .int .u64 y] w fun e w' => e = .returned (.int .u64 ((lo % y : Nat) : Int)) ∧ ∃ n, w' = w.drewN n := by
  go_enter Tryd.func223, Tryd.ntmps223
  go_wp2_with (first | (go_at_call 228; refine (bits_Div64_zero lo y hl hy hy' _).mono ?_; rintro e w' ⟨rfl, n, rfl⟩))
  go_ret
  exact ⟨rfl, _, rfl⟩
theorem product_small (p x y : Nat) (hp : 0 < p) (hp' : p < 18446744073709551616) (h : x * y < 18446744073709551616) (hx : x < 18446744073709551616) (hy : y < 18446744073709551616) (w : World) :
    Calls Tryd.prog 215 #[.int .u64 p, .int .u64 x, .int .u64 y] w fun e w' => e = .returned (.int .u64 ((x * y % p : Nat) : Int)) ∧ ∃ n, w' = w.drewN n := by
  have c := bits_Mul64 x y hx hy
  rw [Nat.div_eq_of_lt h, Nat.mod_eq_of_lt h] at c
  generalize x * y = z at *
  go_enter Tryd.func215, Tryd.ntmps215
  go_wp2_with fail
  refine (c _).mono ?_
  rintro e w' ⟨rfl, rfl⟩
  go_wp2_with fail

  refine (bits_Rem64_small z p h hp hp' _).mono ?_
  rintro e w' ⟨rfl, n, rfl⟩
  go_wp2_with fail
  go_ret
  exact ⟨rfl, _, rfl⟩
end Go.Proofs.YtplaaglckbfklaaDoor
/- Proved: the contract of the power by squares through the multiplier of remainders. -/
namespace Go.Proofs.YtplaaglckbfklaaDoor
open Go.ChangeShapes Go.WideShapes Go.ChangeAt Go.RowKit
open M1
set_option maxHeartbeats 1000000 in
theorem impl_powerBy (p a e : Nat) (hp : 2 ≤ p) (hp' : p ≤ 4294967296) (ha : a < p) (he : e < 18446744073709551616) (w : World) :
    Calls Tryd.prog 214 #[.iface 182 (.int .u64 p), .int .u64 a, .int .u64 e] w fun en w' => en = .returned (.int .u64 (powM a e p : Nat)) ∧ ∃ n, w' = w.drewN n := by
  have H0 : Hid (1 * a ^ e % p = powM a e p) := by show _ = _; rw [Nat.one_mul]; rfl
  generalize hR : powM a e p = R at *
  clear hR
  go_enter Tryd.func214, Tryd.ntmps214
  go_wp2_with fail
  go_loopw [1, 2, 7] (fun a e r W => ∃ a' e' r' n : Nat, a' < p ∧ e' < 18446744073709551616 ∧ r' < p ∧ Hid (r' * a' ^ e' % p = R) ∧ a = .int .u64 a' ∧ e = .int .u64 e' ∧ r = .int .u64 r' ∧ W = w.drewN n) (fun _ e _ _ => (intOf e).toNat)
  case atStart => exact ⟨a, e, 1, 0, ha, he, by omega, H0, rfl, rfl, rfl, rfl⟩
  case round =>
    obtain ⟨a1, e1, r1, n1, ha1, he1, hr1, H1, rfl, rfl, rfl, rfl⟩ := hrel
    clear H0
    by_cases hz : e1 = 0
    · subst hz
      have H2 : Hid (r1 = R) := by
        have := H1.out
        rw [Nat.pow_zero, Nat.mul_one, Nat.mod_eq_of_lt hr1] at this
        exact this
      go_wp2_with fail
      go_ret
      exact ⟨by rw [← H2.out]; rfl, n1, rfl⟩
    · have hsq : a1 * a1 < 18446744073709551616 := by
        have := Nat.mul_lt_mul'' ha1 ha1
        have h2 : p * p ≤ 4294967296 * 4294967296 := Nat.mul_le_mul hp' hp'
        omega
      have hra : r1 * a1 < 18446744073709551616 := by
        have := Nat.mul_lt_mul'' hr1 ha1
        have h2 : p * p ≤ 4294967296 * 4294967296 := Nat.mul_le_mul hp' hp'
        omega
      have csq := fun W => product_small p a1 a1 (by omega) (by omega) hsq (by omega) (by omega) W
      have cra := fun W => product_small p r1 a1 (by omega) (by omega) hra (by omega) (by omega) W
      have hpos : decide (0 < (e1 : Int)) = true := by simp; omega
      have m1 : r1 * a1 % p < p := Nat.mod_lt _ (by omega)
      have m2 : a1 * a1 % p < p := Nat.mod_lt _ (by omega)
      generalize hg1 : r1 * a1 % p = ra at *
      generalize hg2 : a1 * a1 % p = aa at *
      by_cases ho : e1 % 2 = 1
      · have H3 : Hid (ra * aa ^ (e1 / 2) % p = R) := by show _ = _; rw [← H1.out, ← hg1, ← hg2]; exact step_odd r1 a1 e1 p ho
        clear hg1 hg2 hsq hra
        have hb : ((e1 : Int) % 2 == 1) = true := by simp; omega
        clear ho
        go_wp2_with fail
        refine (cra _).mono ?_
        rintro en w' ⟨rfl, n2, rfl⟩
        go_wp2_with fail
        refine (csq _).mono ?_
        rintro en w' ⟨rfl, n3, rfl⟩
        go_wp2_with fail
        go_roundw
        case rel => exact ⟨aa, e1 / 2, ra, _, m2, by omega, m1, H3, rfl, by go_num, rfl, rfl⟩
        case measure => simp [intOf]; omega
      · have H3 : Hid (r1 * aa ^ (e1 / 2) % p = R) := by show _ = _; rw [← H1.out, ← hg2]; exact step_even r1 a1 e1 p (by omega)
        clear hg1 hg2 hsq hra
        have hb : ((e1 : Int) % 2 == 1) = false := by simp; omega
        clear ho
        go_wp2_with fail
        refine (csq _).mono ?_
        rintro en w' ⟨rfl, n3, rfl⟩
        go_wp2_with fail
        go_roundw
        case rel => exact ⟨aa, e1 / 2, r1, _, m2, by omega, hr1, H3, rfl, by go_num, rfl, rfl⟩
        case measure => simp [intOf]; omega
end Go.Proofs.YtplaaglckbfklaaDoor
/- Proved: contracts of PowMod, of the program and of the model: both answer the power modulo p, 0 where p is no modulus or the exponent is below 0. -/
namespace Go.Proofs.YtplaaglckbfklaaDoor
open Go.ChangeShapes Go.WideShapes Go.ChangeAt Go.RowKit
open M1
theorem and_i64_nat (a b : Nat) (ha : a ≤ 9223372036854775807) (hb : b ≤ 9223372036854775807) : bits .and .i64 (a : Int) (b : Int) = ((a &&& b : Nat) : Int) := by
  have hx : a &&& b < 2 ^ 63 := Nat.and_lt_two_pow _ (by omega)
  have h1 : (BitVec.ofInt 64 (a : Int)).toNat = a := by
    rw [BitVec.ofInt_natCast, BitVec.toNat_ofNat]; exact Nat.mod_eq_of_lt (by omega)
  have h2 : (BitVec.ofInt 64 (b : Int)).toNat = b := by
    rw [BitVec.ofInt_natCast, BitVec.toNat_ofNat]; exact Nat.mod_eq_of_lt (by omega)
  show IntKind.i64.wrap ((BitVec.ofInt 64 (a : Int) &&& BitVec.ofInt 64 (b : Int)).toNat : Int) = _
  rw [BitVec.toNat_and, h1, h2, IntKind.wrap_i64]
  omega
theorem and_one_i64 (a : Nat) (ha : a ≤ 9223372036854775807) : bits .and .i64 (a : Int) 1 = ((a % 2 : Nat) : Int) := by
  have h := and_i64_nat a 1 ha (by omega)
  rw [Nat.and_one_is_mod] at h
  exact h
set_option maxHeartbeats 1000000 in
theorem spec_pow (a e p : Int) (w : World) (ha : -9223372036854775808 ≤ a ∧ a ≤ 9223372036854775807) (he : 0 ≤ e ∧ e ≤ 9223372036854775807) (hp : 2 ≤ p ∧ p ≤ 268435456) :
    Calls Tryd.prog 165 #[.int .i64 a, .int .i64 e, .int .i64 p] w fun en w' => en = .returned (.int .i64 (powM (a % p).toNat e.toNat p.toNat : Nat)) ∧ w' = w := by
  obtain ⟨h1, h2⟩ := hp
  obtain ⟨h3, h4⟩ := ha
  obtain ⟨h5, h6⟩ := he
  have r0 := Int.emod_nonneg a (show p ≠ 0 by omega)
  have r1 := Int.emod_lt_of_pos a (b := p) (by omega)
  have H0 : Hid (1 * (a % p).toNat ^ e.toNat % p.toNat = powM (a % p).toNat e.toNat p.toNat) := by show _ = _; rw [Nat.one_mul]; rfl
  have one : (1 : Int) % p = 1 := Int.emod_eq_of_lt (by omega) (by omega)
  generalize hR : powM (a % p).toNat e.toNat p.toNat = R at *
  clear hR
  generalize hA : a % p = A at *
  have HA : Hid (a % p = A) := hA
  clear hA
  obtain ⟨q, rfl⟩ := Int.eq_ofNat_of_zero_le (show 0 ≤ p by omega)
  obtain ⟨e0, rfl⟩ := Int.eq_ofNat_of_zero_le h5
  obtain ⟨A0, rfl⟩ := Int.eq_ofNat_of_zero_le r0
  simp only [Int.toNat_natCast] at H0
  go_enter Tryd.func165, Tryd.ntmps165
  go_wp2_with (first | (go_at_call 163; refine (spec_mod _ _ _ ⟨h3, h4⟩ ⟨by omega, by omega⟩).mono ?_; rintro en w' ⟨rfl, rfl⟩; rw [HA.out]))
  go_loop [0, 1, 7] (fun a e r => ∃ a' e' r' : Nat, a' < q ∧ e' ≤ 9223372036854775807 ∧ r' < q ∧ Hid (r' * a' ^ e' % q = R) ∧ a = .int .i64 a' ∧ e = .int .i64 e' ∧ r = .int .i64 r') (fun _ e _ => (intOf e).toNat)
  case atStart => exact ⟨A0, e0, 1, by omega, by omega, by omega, H0, rfl, rfl, by simp⟩
  case round =>
    obtain ⟨a1, e1, r1', ha1, he1, hr1, H1, rfl, rfl, rfl⟩ := hrel
    clear H0
    by_cases hz : e1 = 0
    · subst hz
      have H2 : Hid (r1' = R) := by
        have := H1.out
        rw [Nat.pow_zero, Nat.mul_one, Nat.mod_eq_of_lt hr1] at this
        exact this
      go_wp2_with fail
      go_ret
      exact ⟨by rw [← H2.out]; rfl, rfl⟩
    · have hb2 : ∀ x y : Nat, x < q → y < q → ((x : Int) * (y : Int) = ((x * y : Nat) : Int) ∧ x * y ≤ 72057594037927936) := by
        intro x y hx hy
        refine ⟨(Int.natCast_mul x y).symm, ?_⟩
        exact Nat.mul_le_mul (show x ≤ 268435456 by omega) (show y ≤ 268435456 by omega)
      obtain ⟨s1, s2⟩ := hb2 a1 a1 ha1 ha1
      obtain ⟨t1, t2⟩ := hb2 r1' a1 hr1 ha1
      clear hb2
      have m1 : r1' * a1 % q < q := Nat.mod_lt _ (by omega)
      have m2 : a1 * a1 % q < q := Nat.mod_lt _ (by omega)
      have z1 : 0 ≤ (a1 : Int) * (a1 : Int) := by omega
      have z2 : 0 ≤ (r1' : Int) * (a1 : Int) := by omega
      have z3 : (a1 : Int) * (a1 : Int) ≤ 72057594037927936 := by omega
      have z4 : (r1' : Int) * (a1 : Int) ≤ 72057594037927936 := by omega
      have S1 : Hid ((a1 : Int) * (a1 : Int) = ((a1 * a1 : Nat) : Int)) := s1
      have T1 : Hid ((r1' : Int) * (a1 : Int) = ((r1' * a1 : Nat) : Int)) := t1
      clear s1 t1 s2 t2
      have hpos : decide (0 < (e1 : Int)) = true := by simp; omega
      by_cases ho : e1 % 2 = 1
      · have H3 : Hid ((r1' * a1 % q) * (a1 * a1 % q) ^ (e1 / 2) % q = R) := by show _ = _; rw [← H1.out]; exact step_odd r1' a1 e1 q ho
        have hb : (bits BinOp.and IntKind.i64 (e1 : Int) 1 == 1) = true := by rw [and_one_i64 e1 he1, ho]; rfl
        go_wp2_with fail
        exact ⟨⟨a1 * a1 % q, e1 / 2, r1' * a1 % q, m2, by omega, m1, H3, by rw [S1.out]; go_num, by go_num, by rw [T1.out]; go_num⟩, by simp [intOf]; omega⟩
      · have H3 : Hid (r1' * (a1 * a1 % q) ^ (e1 / 2) % q = R) := by show _ = _; rw [← H1.out]; exact step_even r1' a1 e1 q (by omega)
        have hb : (bits BinOp.and IntKind.i64 (e1 : Int) 1 == 1) = false := by rw [and_one_i64 e1 he1, show e1 % 2 = 0 by omega]; rfl
        go_wp2_with fail
        exact ⟨⟨a1 * a1 % q, e1 / 2, r1', m2, by omega, hr1, H3, by rw [S1.out]; go_num, by go_num, rfl⟩, by simp [intOf]; omega⟩
def powB (e p : Int) : Bool := decide (2 ≤ p ∧ p ≤ 268435456 ∧ 0 ≤ e)
theorem powB_yes {e p : Int} (h : powB e p = true) : modB p = true ∧ 0 ≤ e ∧ 2 ≤ p ∧ p ≤ 268435456 := by simp [powB] at h; simp [modB]; omega
theorem powB_no {e p : Int} (h : powB e p = false) : modB p = false ∨ (modB p = true ∧ decide (e < 0) = true) := by
  simp [powB] at h; simp [modB]; omega
theorem impl_PowMod_no (a e p : Int) (w : World) (h : powB e p = false) :
    Calls Tryd.prog 222 #[.int .i64 a, .int .i64 e, .int .i64 p] w fun en w' => en = .returned (.int .i64 0) ∧ w' = w := by
  rcases powB_no h with h1 | ⟨h1, h2⟩
  all_goals
    clear h
    go_enter Tryd.func222, Tryd.ntmps222
    go_wp2_with (first | (go_at_call 169; refine (impl_isModulus _ _).mono ?_; rintro en w' ⟨rfl, rfl⟩))
    go_ret
    exact ⟨rfl, rfl⟩
theorem impl_PowMod_yes (a e p : Int) (w : World) (ha : -9223372036854775808 ≤ a ∧ a ≤ 9223372036854775807) (he : -9223372036854775808 ≤ e ∧ e ≤ 9223372036854775807) (h : powB e p = true) :
    Calls Tryd.prog 222 #[.int .i64 a, .int .i64 e, .int .i64 p] w fun en w' => en = .returned (.int .i64 (powM (a % p).toNat e.toNat p.toNat : Nat)) ∧ ∃ n, w' = w.drewN n := by
  obtain ⟨h1, h2, h3, h4⟩ := powB_yes h
  clear h
  have hd : decide (e < 0) = false := by simp; omega
  have r0 := Int.emod_nonneg a (show p ≠ 0 by omega)
  have r1 := Int.emod_lt_of_pos a (b := p) (by omega)
  have hlt := powM_lt (a % p).toNat e.toNat p.toNat (by omega)
  have c := fun W => impl_powerBy p.toNat (a % p).toNat e.toNat (by omega) (by omega) (by omega) (by omega) W
  rw [Int.toNat_of_nonneg r0, Int.toNat_of_nonneg h2, Int.toNat_of_nonneg (show 0 ≤ p by omega)] at c
  generalize powM (a % p).toNat e.toNat p.toNat = R at *
  generalize hA : a % p = A at *
  have HA : Hid (a % p = A) := hA
  clear hA
  go_enter Tryd.func222, Tryd.ntmps222
  go_wp2_with (first | (go_at_call 169; refine (impl_isModulus _ _).mono ?_; rintro en w' ⟨rfl, rfl⟩) | (go_at_call 162; refine (impl_residueOf _ _ _ ha ⟨by omega, by omega⟩).mono ?_; rintro en w' ⟨rfl, rfl⟩; rw [HA.out]))

  refine (c _).mono ?_
  rintro en w2 ⟨rfl, n, rfl⟩
  go_wp2_with fail
  go_ret
  exact ⟨rfl, n, rfl⟩
end Go.Proofs.YtplaaglckbfklaaDoor
/- Proved: contracts of the products and powers of the model for moduli of 64 bits. -/
namespace Go.Proofs.YtplaaglckbfklaaDoor
open Go.ChangeShapes Go.WideShapes Go.ChangeAt Go.RowKit
open M1
theorem dbl_odd (r a b n : Nat) (h : b % 2 = 1) : ((r + a) % n + (a + a) % n * (b / 2)) % n = (r + a * b) % n := by
  have e : r + a * b = r + a + (a + a) * (b / 2) := by
    have : b = 2 * (b / 2) + 1 := by omega
    conv => lhs; rw [this]
    grind
  rw [e, Nat.add_mod, Nat.mod_mod, ml, ← Nat.add_mod]
theorem dbl_even (r a b n : Nat) (h : b % 2 = 0) : (r + (a + a) % n * (b / 2)) % n = (r + a * b) % n := by
  have e : r + a * b = r + (a + a) * (b / 2) := by
    have : b = 2 * (b / 2) := by omega
    conv => lhs; rw [this]
    grind
  rw [e, Nat.add_mod, ml, ← Nat.add_mod]
theorem add_mod_of (r a n : Nat) (hr : r < n) (ha : a < n) : (r + a) % n = if n - a ≤ r then r - (n - a) else r + a := by
  split
  · rw [Nat.mod_eq_sub_mod (by omega), Nat.mod_eq_of_lt (by omega)]; omega
  · rw [Nat.mod_eq_of_lt (by omega)]
theorem val_eq {k : IntKind} {a b : Int} (h : a = b) : Value.int k a = Value.int k b := by rw [h]
set_option maxHeartbeats 2000000 in
theorem spec_MulBig (a b n : Nat) (w : World) (ha : a < n) (hb : b < 18446744073709551616) (hn : n < 18446744073709551616) :
    Calls Tryd.prog 168 #[.int .u64 a, .int .u64 b, .int .u64 n] w fun e w' => e = .returned (.int .u64 ((a * b % n : Nat) : Int)) ∧ w' = w := by
  have H0 : Hid ((0 + a * b) % n = a * b % n) := by show _ = _; rw [Nat.zero_add]
  generalize a * b % n = R at *
  go_enter Tryd.func168, Tryd.ntmps168
  go_wp2_with fail
  go_loop [0, 1, 7] (fun a b r => ∃ a' b' r' : Nat, a' < n ∧ b' < 18446744073709551616 ∧ r' < n ∧ Hid ((r' + a' * b') % n = R) ∧ a = .int .u64 a' ∧ b = .int .u64 b' ∧ r = .int .u64 r') (fun _ b _ => (intOf b).toNat)
  case atStart => exact ⟨a, b, 0, ha, hb, by omega, H0, rfl, rfl, rfl⟩
  case round =>
    obtain ⟨a1, b1, r1, ha1, hb1, hr1, H1, rfl, rfl, rfl⟩ := hrel
    clear H0
    by_cases hz : b1 = 0
    · subst hz
      have H2 : Hid (r1 = R) := by
        have := H1.out
        rw [Nat.mul_zero, Nat.add_zero, Nat.mod_eq_of_lt hr1] at this
        exact this
      have hd : decide ((0 : Int) < ((0 : Nat) : Int)) = false := by simp
      go_wp2_with fail
      go_ret
      exact ⟨by rw [← H2.out]; rfl, rfl⟩
    · have hpos : decide (0 < (b1 : Int)) = true := by simp; omega
      have A2 := add_mod_of a1 a1 n ha1 ha1
      have A1 := add_mod_of r1 a1 n hr1 ha1
      have m2 : (a1 + a1) % n < n := Nat.mod_lt _ (by omega)
      have m1 : (r1 + a1) % n < n := Nat.mod_lt _ (by omega)
      have An := and_one_u64 (b1 : Int) (by omega) (by omega)
      by_cases hodd : b1 % 2 = 1
      · have H3 : Hid (((r1 + a1) % n + (a1 + a1) % n * (b1 / 2)) % n = R) := by show _ = _; rw [← H1.out]; exact dbl_odd r1 a1 b1 n hodd
        generalize (a1 + a1) % n = aa at *
        generalize (r1 + a1) % n = ra at *
        have hbit : (bits BinOp.and IntKind.u64 (b1 : Int) 1 == 1) = true := by rw [An]; simp; omega
        clear An
        by_cases c1 : n - a1 ≤ r1
        · rw [if_pos c1] at A1
          by_cases c2 : n - a1 ≤ a1
          · rw [if_pos c2] at A2
            have d1 : decide ((n : Int) - (a1 : Int) ≤ (r1 : Int)) = true := by simp; omega
            have d2 : decide ((n : Int) - (a1 : Int) ≤ (a1 : Int)) = true := by simp; omega
            have B1 : Hid (ra = r1 - (n - a1)) := A1
            have B2 : Hid (aa = a1 - (n - a1)) := A2
            clear A1 A2
            go_wp2_with fail
            exact ⟨⟨aa, b1 / 2, ra, m2, by omega, m1, H3, val_eq (by have := B2.out; omega), by go_num, val_eq (by have := B1.out; omega)⟩, by simp [intOf]; omega⟩
          · rw [if_neg c2] at A2
            have d1 : decide ((n : Int) - (a1 : Int) ≤ (r1 : Int)) = true := by simp; omega
            have d2 : decide ((n : Int) - (a1 : Int) ≤ (a1 : Int)) = false := by simp; omega
            have B1 : Hid (ra = r1 - (n - a1)) := A1
            have B2 : Hid (aa = a1 + a1) := A2
            clear A1 A2
            go_wp2_with fail
            exact ⟨⟨aa, b1 / 2, ra, m2, by omega, m1, H3, val_eq (by have := B2.out; omega), by go_num, val_eq (by have := B1.out; omega)⟩, by simp [intOf]; omega⟩
        · rw [if_neg c1] at A1
          by_cases c2 : n - a1 ≤ a1
          · rw [if_pos c2] at A2
            have d1 : decide ((n : Int) - (a1 : Int) ≤ (r1 : Int)) = false := by simp; omega
            have d2 : decide ((n : Int) - (a1 : Int) ≤ (a1 : Int)) = true := by simp; omega
            have B1 : Hid (ra = r1 + a1) := A1
            have B2 : Hid (aa = a1 - (n - a1)) := A2
            clear A1 A2
            go_wp2_with fail
            exact ⟨⟨aa, b1 / 2, ra, m2, by omega, m1, H3, val_eq (by have := B2.out; omega), by go_num, val_eq (by have := B1.out; omega)⟩, by simp [intOf]; omega⟩
          · rw [if_neg c2] at A2
            have d1 : decide ((n : Int) - (a1 : Int) ≤ (r1 : Int)) = false := by simp; omega
            have d2 : decide ((n : Int) - (a1 : Int) ≤ (a1 : Int)) = false := by simp; omega
            have B1 : Hid (ra = r1 + a1) := A1
            have B2 : Hid (aa = a1 + a1) := A2
            clear A1 A2
            go_wp2_with fail
            exact ⟨⟨aa, b1 / 2, ra, m2, by omega, m1, H3, val_eq (by have := B2.out; omega), by go_num, val_eq (by have := B1.out; omega)⟩, by simp [intOf]; omega⟩
      · have H3 : Hid ((r1 + (a1 + a1) % n * (b1 / 2)) % n = R) := by show _ = _; rw [← H1.out]; exact dbl_even r1 a1 b1 n (by omega)
        generalize (a1 + a1) % n = aa at *
        clear A1 m1
        have hbit : (bits BinOp.and IntKind.u64 (b1 : Int) 1 == 1) = false := by rw [An]; simp; omega
        clear An
        by_cases c2 : n - a1 ≤ a1
        · rw [if_pos c2] at A2
          have d2 : decide ((n : Int) - (a1 : Int) ≤ (a1 : Int)) = true := by simp; omega
          have B2 : Hid (aa = a1 - (n - a1)) := A2
          clear A2
          go_wp2_with fail
          exact ⟨⟨aa, b1 / 2, r1, m2, by omega, hr1, H3, val_eq (by have := B2.out; omega), by go_num, rfl⟩, by simp [intOf]; omega⟩
        · rw [if_neg c2] at A2
          have d2 : decide ((n : Int) - (a1 : Int) ≤ (a1 : Int)) = false := by simp; omega
          have B2 : Hid (aa = a1 + a1) := A2
          clear A2
          go_wp2_with fail
          exact ⟨⟨aa, b1 / 2, r1, m2, by omega, hr1, H3, val_eq (by have := B2.out; omega), by go_num, rfl⟩, by simp [intOf]; omega⟩
set_option maxHeartbeats 2000000 in
theorem spec_PowBig (a e n : Nat) (w : World) (ha : a < n) (hn2 : 2 ≤ n) (he : e < 18446744073709551616) (hn : n < 18446744073709551616) :
    Calls Tryd.prog 167 #[.int .u64 a, .int .u64 e, .int .u64 n] w fun en w' => en = .returned (.int .u64 (powM a e n : Nat)) ∧ w' = w := by
  have H0 : Hid (1 * a ^ e % n = powM a e n) := by show _ = _; rw [Nat.one_mul]; rfl
  generalize hR : powM a e n = R at *
  clear hR
  have one : Hid ((1 : Int) % (n : Int) = 1) := Int.emod_eq_of_lt (by omega) (by omega)
  go_enter Tryd.func167, Tryd.ntmps167
  go_wp2_with fail
  go_loopw [0, 1, 7] (fun a e r W => ∃ a' e' r' : Nat, a' < n ∧ e' < 18446744073709551616 ∧ r' < n ∧ Hid (r' * a' ^ e' % n = R) ∧ a = .int .u64 a' ∧ e = .int .u64 e' ∧ r = .int .u64 r' ∧ W = w) (fun _ e _ _ => (intOf e).toNat)
  case atStart => exact ⟨a, e, 1, ha, he, by omega, H0, rfl, rfl, val_eq one.out, rfl⟩
  case round =>
    obtain ⟨a1, e1, r1, ha1, he1, hr1, H1, rfl, rfl, rfl, rfl⟩ := hrel
    clear H0
    by_cases hz : e1 = 0
    · subst hz
      have H2 : Hid (r1 = R) := by
        have := H1.out
        rw [Nat.pow_zero, Nat.mul_one, Nat.mod_eq_of_lt hr1] at this
        exact this
      have hd : decide ((0 : Int) < ((0 : Nat) : Int)) = false := by simp
      go_wp2_with fail
      go_ret
      exact ⟨by rw [← H2.out]; rfl, rfl⟩
    · have csq := fun W => spec_MulBig a1 a1 n W ha1 (by omega) hn
      have cra := fun W => spec_MulBig r1 a1 n W hr1 (by omega) hn
      have hpos : decide (0 < (e1 : Int)) = true := by simp; omega
      have An := and_one_u64 (e1 : Int) (by omega) (by omega)
      have m1 : r1 * a1 % n < n := Nat.mod_lt _ (by omega)
      have m2 : a1 * a1 % n < n := Nat.mod_lt _ (by omega)
      generalize hg1 : r1 * a1 % n = ra at *
      generalize hg2 : a1 * a1 % n = aa at *
      by_cases ho : e1 % 2 = 1
      · have H3 : Hid (ra * aa ^ (e1 / 2) % n = R) := by show _ = _; rw [← H1.out, ← hg1, ← hg2]; exact step_odd r1 a1 e1 n ho
        clear hg1 hg2
        have hb : (bits BinOp.and IntKind.u64 (e1 : Int) 1 == 1) = true := by rw [An]; simp; omega
        clear ho An
        go_wp2_with fail
        refine (cra _).mono ?_
        rintro en w' ⟨rfl, rfl⟩
        go_wp2_with fail
        refine (csq _).mono ?_
        rintro en w' ⟨rfl, rfl⟩
        go_wp2_with fail
        go_roundw
        case rel => exact ⟨aa, e1 / 2, ra, m2, by omega, m1, H3, rfl, by go_num, rfl, True.intro⟩
        case measure => simp [intOf]; omega
      · have H3 : Hid (r1 * aa ^ (e1 / 2) % n = R) := by show _ = _; rw [← H1.out, ← hg2]; exact step_even r1 a1 e1 n (by omega)
        clear hg1 hg2
        have hb : (bits BinOp.and IntKind.u64 (e1 : Int) 1 == 1) = false := by rw [An]; simp; omega
        clear ho An
        go_wp2_with fail
        refine (csq _).mono ?_
        rintro en w' ⟨rfl, rfl⟩
        go_wp2_with fail
        go_roundw
        case rel => exact ⟨aa, e1 / 2, r1, m2, by omega, hr1, H3, rfl, by go_num, rfl, True.intro⟩
        case measure => simp [intOf]; omega
end Go.Proofs.YtplaaglckbfklaaDoor
/- Proved: contracts of the power, of the trailing zeros and of one witness of Miller and Rabin, under the table of the library and products modulo n. -/
namespace Go.Proofs.YtplaaglckbfklaaDoor
open Go.ChangeShapes Go.WideShapes Go.ChangeAt Go.RowKit
open M1
set_option linter.unusedVariables false
/-- the multiplier of remainders at n gives products modulo n -/
def PR (n : Nat) : Prop := ∀ (x y : Nat) (W : World), x < n → y < n → Calls Tryd.prog 215 #[.int .u64 n, .int .u64 x, .int .u64 y] W fun e w' => e = .returned (.int .u64 ((x * y % n : Nat) : Int)) ∧ ∃ k, w' = W.drewN k
theorem PR_small (n : Nat) (h0 : 0 < n) (h : n ≤ 4294967296) : PR n := by
  intro x y W hx hy
  have h1 : x * y ≤ 4294967295 * 4294967295 := Nat.mul_le_mul (by omega) (by omega)
  exact product_small n x y h0 (by omega) (by omega) (by omega) (by omega) W
set_option maxHeartbeats 1000000 in
theorem impl_powerBy_of (p a e : Nat) (pr : PR p) (hp : 2 ≤ p) (ha : a < p) (he : e < 18446744073709551616) (w : World) :
    Calls Tryd.prog 214 #[.iface 182 (.int .u64 p), .int .u64 a, .int .u64 e] w fun en w' => en = .returned (.int .u64 (powM a e p : Nat)) ∧ ∃ n, w' = w.drewN n := by
  have H0 : Hid (1 * a ^ e % p = powM a e p) := by show _ = _; rw [Nat.one_mul]; rfl
  generalize hR : powM a e p = R at *
  clear hR
  have PH : Hid (PR p) := pr
  clear pr
  go_enter Tryd.func214, Tryd.ntmps214
  go_wp2_with fail
  go_loopw [1, 2, 7] (fun a e r W => ∃ a' e' r' n : Nat, a' < p ∧ e' < 18446744073709551616 ∧ r' < p ∧ Hid (r' * a' ^ e' % p = R) ∧ a = .int .u64 a' ∧ e = .int .u64 e' ∧ r = .int .u64 r' ∧ W = w.drewN n) (fun _ e _ _ => (intOf e).toNat)
  case atStart => exact ⟨a, e, 1, 0, ha, he, by omega, H0, rfl, rfl, rfl, rfl⟩
  case round =>
    obtain ⟨a1, e1, r1, n1, ha1, he1, hr1, H1, rfl, rfl, rfl, rfl⟩ := hrel
    clear H0
    by_cases hz : e1 = 0
    · subst hz
      have H2 : Hid (r1 = R) := by
        have := H1.out
        rw [Nat.pow_zero, Nat.mul_one, Nat.mod_eq_of_lt hr1] at this
        exact this
      go_wp2_with fail
      go_ret
      exact ⟨by rw [← H2.out]; rfl, n1, rfl⟩
    · have csq := fun W => PH.out a1 a1 W ha1 ha1
      have cra := fun W => PH.out r1 a1 W hr1 ha1
      have hpos : decide (0 < (e1 : Int)) = true := by simp; omega
      have m1 : r1 * a1 % p < p := Nat.mod_lt _ (by omega)
      have m2 : a1 * a1 % p < p := Nat.mod_lt _ (by omega)
      generalize hg1 : r1 * a1 % p = ra at *
      generalize hg2 : a1 * a1 % p = aa at *
      by_cases ho : e1 % 2 = 1
      · have H3 : Hid (ra * aa ^ (e1 / 2) % p = R) := by show _ = _; rw [← H1.out, ← hg1, ← hg2]; exact step_odd r1 a1 e1 p ho
        clear hg1 hg2
        have hb : ((e1 : Int) % 2 == 1) = true := by simp; omega
        clear ho
        go_wp2_with fail
        refine (cra _).mono ?_
        rintro en w' ⟨rfl, n2, rfl⟩
        go_wp2_with fail
        refine (csq _).mono ?_
        rintro en w' ⟨rfl, n3, rfl⟩
        go_wp2_with fail
        go_roundw
        case rel => exact ⟨aa, e1 / 2, ra, _, m2, by omega, m1, H3, rfl, by go_num, rfl, rfl⟩
        case measure => simp [intOf]; omega
      · have H3 : Hid (r1 * aa ^ (e1 / 2) % p = R) := by show _ = _; rw [← H1.out, ← hg2]; exact step_even r1 a1 e1 p (by omega)
        clear hg1 hg2
        have hb : ((e1 : Int) % 2 == 1) = false := by simp; omega
        clear ho
        go_wp2_with fail
        refine (csq _).mono ?_
        rintro en w' ⟨rfl, n3, rfl⟩
        go_wp2_with fail
        go_roundw
        case rel => exact ⟨aa, e1 / 2, r1, _, m2, by omega, hr1, H3, rfl, by go_num, rfl, rfl⟩
        case measure => simp [intOf]; omega
/-- the table of the library's function, as it is laid -/
def TabW (w : World) : Prop := ∀ j, j < 64 → w.cell? ⟨1, j, none⟩ = some (.int .u8 (Lib.deBruijn64tab.getD j 0))
theorem TabW.drewN {w : World} (h : TabW w) (n : Nat) : TabW (w.drewN n) := h
set_option maxHeartbeats 1000000 in
theorem tz_core (x k idx : Nat) (w : World) (hx0 : ((x : Int) == 0) = false)
    (key : IntKind.u64.wrap (bits BinOp.and IntKind.u64 (x : Int) (IntKind.u64.wrap (-(x : Int))) * 285870213051353865) / 288230376151711744 = (idx : Int))
    (hi : idx < 64) (hk : k < 64) (hcell : w.cell? ⟨1, idx, none⟩ = some (.int .u8 k)) :
    Calls Tryd.prog 197 #[.int .u64 x] w fun e w' => e = .returned (.int .i64 k) ∧ w' = w := by
  go_enter Tryd.func197, Tryd.ntmps197
  go_wp2_with (simp only [key])
  go_ret
  exact ⟨rfl, rfl⟩
theorem tz_key (x a : Nat) (hx : x < 18446744073709551616) (hx0 : x ≠ 0) (hlow : x &&& (18446744073709551616 - x) = a) :
    IntKind.u64.wrap (bits BinOp.and IntKind.u64 (x : Int) (IntKind.u64.wrap (-(x : Int))) * 285870213051353865) / 288230376151711744 = ((a * 285870213051353865 % 18446744073709551616 / 288230376151711744 : Nat) : Int) := by
  have e1 : IntKind.u64.wrap (-(x : Int)) = ((18446744073709551616 - x : Nat) : Int) := by rw [IntKind.wrap_u64]; omega
  rw [e1, bits_and_u64_nat x _ hx (by omega), hlow, IntKind.wrap_u64]
  omega
theorem bits_tz (x : Nat) (hx : x < 18446744073709551616) (hx0 : x ≠ 0) (w : World) (hT : TabW w) :
    Calls Tryd.prog 197 #[.int .u64 x] w fun e w' => e = .returned (.int .i64 (Lib.ctz 64 x)) ∧ w' = w := by
  obtain ⟨hlow, hk⟩ := Lib.lowest_bit 64 x hx0 hx
  obtain ⟨hi, htab⟩ := Lib.deBruijn64_at _ hk
  have hcell := hT _ hi
  rw [htab] at hcell
  exact tz_core x _ _ w (by simp; omega) (tz_key x _ hx hx0 hlow) hi hk hcell
/-- is one of the next k squares n - 1? -/
def sqs (n : Nat) : Nat → Nat → Bool
  | 0, _ => false
  | k + 1, x => x == n - 1 || sqs n k (x * x % n)
/-- does the witness leave it open that n is a prime? -/
def passB (n a : Nat) : Bool := powM a ((n - 1) / 2 ^ Lib.ctz 64 (n - 1)) n == 1 || sqs n (Lib.ctz 64 (n - 1)) (powM a ((n - 1) / 2 ^ Lib.ctz 64 (n - 1)) n)
set_option maxHeartbeats 2000000 in
theorem passes_core (n a s d x0 : Nat) (w : World) (hn : 3 ≤ n) (hn' : n < 18446744073709551616) (ha : a < n) (hs : s < 64) (hx0 : x0 < n) (hd : (n - 1) / 2 ^ s = d)
    (ct : ∀ W, Hid (TabW W) → Calls Tryd.prog 197 #[.int .u64 (n - 1 : Nat)] W fun e w' => e = .returned (.int .i64 s) ∧ w' = W) (hT : TabW w)
    (cp : ∀ W, Calls Tryd.prog 214 #[.iface 182 (.int .u64 n), .int .u64 a, .int .u64 d] W fun en w' => en = .returned (.int .u64 x0) ∧ ∃ k, w' = W.drewN k) (pr : PR n) :
    Calls Tryd.prog 200 #[.int .u64 n, .int .u64 a] w fun e w' => e = .returned (.bool (x0 == 1 || sqs n s x0)) ∧ ∃ k, w' = w.drewN k := by
  have PH : Hid (PR n) := pr
  have HT : Hid (TabW w) := hT
  clear pr hT
  have e1 : ((n - 1 : Nat) : Int) = (n : Int) - 1 := by omega
  rw [e1] at ct
  have HD : Hid (((n : Int) - 1) / 2 ^ s = (d : Int)) := by show _ = _; rw [← hd, ← e1]; simp
  clear hd e1
  by_cases h1 : x0 = 1
  · subst h1
    have HB : Hid ((1 == 1 || sqs n s 1) = true) := by show _ = _; simp
    generalize (1 == 1 || sqs n s 1) = B at *
    go_enter Tryd.func200, Tryd.ntmps200
    go_wp2_with fail
    refine (ct _ HT).mono ?_
    rintro e w' ⟨rfl, rfl⟩
    go_wp2_with fail
    rw [HD.out]
    refine (cp _).mono ?_
    rintro e w' ⟨rfl, k0, rfl⟩
    go_wp2_with fail
    go_ret
    exact ⟨by rw [HB.out]; rfl, k0, rfl⟩
  · have hb1 : ((x0 : Int) == 1) = false := by simp; omega
    have HB : Hid ((x0 == 1 || sqs n s x0) = sqs n s x0) := by show _ = _; simp [h1]
    generalize (x0 == 1 || sqs n s x0) = B at *
    have H0 : Hid (sqs n (s - 0) x0 = B) := by show _ = _; rw [HB.out]; rfl
    clear HB
    go_enter Tryd.func200, Tryd.ntmps200
    go_wp2_with fail
    refine (ct _ HT).mono ?_
    rintro e w' ⟨rfl, rfl⟩
    go_wp2_with fail
    rw [HD.out]
    refine (cp _).mono ?_
    rintro e w2 ⟨rfl, k0, rfl⟩
    go_wp2_with fail
    go_loopw [7, 24] (fun x k W => ∃ x' k' m : Nat, x' < n ∧ k' ≤ s ∧ Hid (sqs n (s - k') x' = B) ∧ x = .int .u64 x' ∧ k = .int .i64 k' ∧ W = w'.drewN m) (fun _ k _ => s - (intOf k).toNat)
    case atStart => exact ⟨x0, 0, k0, hx0, by omega, H0, rfl, rfl, rfl⟩
    case round =>
      obtain ⟨x, k, m, hx, hk, H1, rfl, rfl, rfl⟩ := hrel
      clear H0 cp ct
      by_cases hlt : k < s
      · have hdk : decide ((k : Int) < (s : Int)) = true := by simp; omega
        have hstep : sqs n (s - k) x = (x == n - 1 || sqs n (s - (k + 1)) (x * x % n)) := by
          rw [show s - k = (s - (k + 1)) + 1 by omega]; rfl
        have H1' := H1.out
        rw [hstep] at H1'
        by_cases he : x = n - 1
        · have HB : Hid (true = B) := by show _ = _; rw [← H1']; simp [he]
          clear H1' hstep H1
          have hbe : ((x : Int) == (n : Int) - 1) = true := by simp; omega
          go_wp2_with fail
          go_ret
          exact ⟨by rw [← HB.out]; rfl, m, rfl⟩
        · have hne : (x == n - 1) = false := by simpa using he
          rw [hne, Bool.false_or] at H1'
          have cs := fun W => PH.out x x W hx hx
          have mx : x * x % n < n := Nat.mod_lt _ (by omega)
          generalize x * x % n = xx at *
          have H2 : Hid (sqs n (s - (k + 1)) xx = B) := H1'
          clear H1' hstep hne H1
          have hbe : ((x : Int) == (n : Int) - 1) = false := by simp; omega
          go_wp2_with fail
          refine (cs _).mono ?_
          rintro e w3 ⟨rfl, k3, rfl⟩
          go_wp2_with fail
          go_roundw
          case rel => exact ⟨xx, k + 1, _, mx, by omega, H2, rfl, by go_num, rfl⟩
          case measure => simp [intOf]; omega
      · have hdk : decide ((k : Int) < (s : Int)) = false := by simp; omega
        obtain rfl : k = s := by omega
        have HB : Hid (false = B) := by
          have := H1.out
          rw [Nat.sub_self] at this
          exact this
        clear H1
        go_wp2_with fail
        go_ret
        exact ⟨by rw [← HB.out]; rfl, m, rfl⟩
theorem passes_any (n a : Nat) (w : World) (pr : PR n) (hT : TabW w) (hn : 3 ≤ n) (hn' : n < 18446744073709551616) (ha : a < n) :
    Calls Tryd.prog 200 #[.int .u64 n, .int .u64 a] w fun e w' => e = .returned (.bool (passB n a)) ∧ ∃ k, w' = w.drewN k := by
  have hk := (Lib.lowest_bit 64 (n - 1) (by omega) (by omega)).2
  have hle : (n - 1) / 2 ^ Lib.ctz 64 (n - 1) ≤ n - 1 := Nat.div_le_self _ _
  exact passes_core n a _ _ _ w hn hn' ha hk (powM_lt _ _ _ (by omega)) rfl (fun W h => bits_tz (n - 1) (by omega) (by omega) W h.out) hT (fun W => impl_powerBy_of n a _ pr (by omega) ha (by omega) W) pr
end Go.Proofs.YtplaaglckbfklaaDoor
/- Proved: the contract of IsPrime of the program, under its table, the table of the library and products modulo n: it answers by trial division and twelve witnesses. -/
namespace Go.Proofs.YtplaaglckbfklaaDoor
open Go.ChangeShapes Go.WideShapes Go.ChangeAt Go.RowKit
open M1
set_option linter.unusedVariables false
def smallP : List Nat := [2, 3, 5, 7, 11, 13, 17, 19, 23, 29, 31, 37]
def wit (n : Nat) : List Nat → Bool
  | [] => true
  | a :: r => passB n a && wit n r
def fnd (n : Nat) : List Nat → Bool
  | [] => wit n smallP
  | p :: r => if n % p = 0 then n == p else fnd n r
/-- what both answer -/
def isP (n : Nat) : Bool := if n < 2 then false else fnd n smallP
theorem above : ∀ n, n < 41 → 2 ≤ n → ∃ p, p ∈ smallP ∧ n % p = 0 := by decide
theorem above_of (n : Nat) (h2 : 2 ≤ n) (h : ∀ p, p ∈ smallP → n % p ≠ 0) : 41 ≤ n := by
  by_cases h41 : n < 41
  · obtain ⟨p, hp, hd⟩ := above n h41 h2
    exact absurd hd (h p hp)
  · omega
/-- the program's table, as it is laid -/
def PrsW (w : World) : Prop := ∀ j, j < 12 → w.cell? ⟨0, j, none⟩ = some (.int .u64 (smallP.getD j 0))
theorem PrsW.drewN {w : World} (h : PrsW w) (n : Nat) : PrsW (w.drewN n) := h
theorem twelve (k : Nat) (h : k < 12) : k = 0 ∨ k = 1 ∨ k = 2 ∨ k = 3 ∨ k = 4 ∨ k = 5 ∨ k = 6 ∨ k = 7 ∨ k = 8 ∨ k = 9 ∨ k = 10 ∨ k = 11 := by omega
structure St (n k : Nat) (B : Bool) : Prop where
  eq : fnd n (smallP.drop k) = B
  no : ∀ p, p ∈ smallP.take k → n % p ≠ 0
theorem St.start (n : Nat) (h : ¬ n < 2) : St n 0 (isP n) := ⟨by unfold isP; rw [if_neg h]; rfl, by simp⟩
theorem St.next {n k p : Nat} {B : Bool} (h : St n k B) (hk : smallP.drop k = p :: smallP.drop (k + 1)) (ht : smallP.take (k + 1) = smallP.take k ++ [p]) (hm : n % p ≠ 0) : St n (k + 1) B := by
  refine ⟨?_, ?_⟩
  · rw [← h.eq, hk, fnd, if_neg hm]
  · intro q hq
    rw [ht] at hq
    rcases List.mem_append.1 hq with hq | hq
    · exact h.no q hq
    · rw [List.mem_singleton.1 hq]; exact hm
theorem St.hit {n k p : Nat} {B : Bool} (h : St n k B) (hk : smallP.drop k = p :: smallP.drop (k + 1)) (hm : n % p = 0) : B = (n == p) := by
  rw [← h.eq, hk, fnd, if_pos hm]
theorem St.fin {n : Nat} {B : Bool} (h : St n 12 B) (h2 : 2 ≤ n) : wit n (smallP.drop 0) = B ∧ 41 ≤ n := ⟨by rw [← h.eq]; rfl, above_of n h2 h.no⟩
theorem wit_step (n k p : Nat) (hk : smallP.drop k = p :: smallP.drop (k + 1)) : wit n (smallP.drop k) = (passB n p && wit n (smallP.drop (k + 1))) := by rw [hk, wit]
theorem ix0 (W : World) : (Instr.index 179 (.agg #[.int .u64 2, .int .u64 3, .int .u64 5, .int .u64 7, .int .u64 11, .int .u64 13, .int .u64 17, .int .u64 19, .int .u64 23, .int .u64 29, .int .u64 31, .int .u64 37]) (.int .i64 0)).run Tryd.prog W = .ok (.int .u64 2) W := by kernel_rfl
theorem ix1 (W : World) : (Instr.index 179 (.agg #[.int .u64 2, .int .u64 3, .int .u64 5, .int .u64 7, .int .u64 11, .int .u64 13, .int .u64 17, .int .u64 19, .int .u64 23, .int .u64 29, .int .u64 31, .int .u64 37]) (.int .i64 1)).run Tryd.prog W = .ok (.int .u64 3) W := by kernel_rfl
theorem ix2 (W : World) : (Instr.index 179 (.agg #[.int .u64 2, .int .u64 3, .int .u64 5, .int .u64 7, .int .u64 11, .int .u64 13, .int .u64 17, .int .u64 19, .int .u64 23, .int .u64 29, .int .u64 31, .int .u64 37]) (.int .i64 2)).run Tryd.prog W = .ok (.int .u64 5) W := by kernel_rfl
theorem ix3 (W : World) : (Instr.index 179 (.agg #[.int .u64 2, .int .u64 3, .int .u64 5, .int .u64 7, .int .u64 11, .int .u64 13, .int .u64 17, .int .u64 19, .int .u64 23, .int .u64 29, .int .u64 31, .int .u64 37]) (.int .i64 3)).run Tryd.prog W = .ok (.int .u64 7) W := by kernel_rfl
theorem ix4 (W : World) : (Instr.index 179 (.agg #[.int .u64 2, .int .u64 3, .int .u64 5, .int .u64 7, .int .u64 11, .int .u64 13, .int .u64 17, .int .u64 19, .int .u64 23, .int .u64 29, .int .u64 31, .int .u64 37]) (.int .i64 4)).run Tryd.prog W = .ok (.int .u64 11) W := by kernel_rfl
theorem ix5 (W : World) : (Instr.index 179 (.agg #[.int .u64 2, .int .u64 3, .int .u64 5, .int .u64 7, .int .u64 11, .int .u64 13, .int .u64 17, .int .u64 19, .int .u64 23, .int .u64 29, .int .u64 31, .int .u64 37]) (.int .i64 5)).run Tryd.prog W = .ok (.int .u64 13) W := by kernel_rfl
theorem ix6 (W : World) : (Instr.index 179 (.agg #[.int .u64 2, .int .u64 3, .int .u64 5, .int .u64 7, .int .u64 11, .int .u64 13, .int .u64 17, .int .u64 19, .int .u64 23, .int .u64 29, .int .u64 31, .int .u64 37]) (.int .i64 6)).run Tryd.prog W = .ok (.int .u64 17) W := by kernel_rfl
theorem ix7 (W : World) : (Instr.index 179 (.agg #[.int .u64 2, .int .u64 3, .int .u64 5, .int .u64 7, .int .u64 11, .int .u64 13, .int .u64 17, .int .u64 19, .int .u64 23, .int .u64 29, .int .u64 31, .int .u64 37]) (.int .i64 7)).run Tryd.prog W = .ok (.int .u64 19) W := by kernel_rfl
theorem ix8 (W : World) : (Instr.index 179 (.agg #[.int .u64 2, .int .u64 3, .int .u64 5, .int .u64 7, .int .u64 11, .int .u64 13, .int .u64 17, .int .u64 19, .int .u64 23, .int .u64 29, .int .u64 31, .int .u64 37]) (.int .i64 8)).run Tryd.prog W = .ok (.int .u64 23) W := by kernel_rfl
theorem ix9 (W : World) : (Instr.index 179 (.agg #[.int .u64 2, .int .u64 3, .int .u64 5, .int .u64 7, .int .u64 11, .int .u64 13, .int .u64 17, .int .u64 19, .int .u64 23, .int .u64 29, .int .u64 31, .int .u64 37]) (.int .i64 9)).run Tryd.prog W = .ok (.int .u64 29) W := by kernel_rfl
theorem ix10 (W : World) : (Instr.index 179 (.agg #[.int .u64 2, .int .u64 3, .int .u64 5, .int .u64 7, .int .u64 11, .int .u64 13, .int .u64 17, .int .u64 19, .int .u64 23, .int .u64 29, .int .u64 31, .int .u64 37]) (.int .i64 10)).run Tryd.prog W = .ok (.int .u64 31) W := by kernel_rfl
theorem ix11 (W : World) : (Instr.index 179 (.agg #[.int .u64 2, .int .u64 3, .int .u64 5, .int .u64 7, .int .u64 11, .int .u64 13, .int .u64 17, .int .u64 19, .int .u64 23, .int .u64 29, .int .u64 31, .int .u64 37]) (.int .i64 11)).run Tryd.prog W = .ok (.int .u64 37) W := by kernel_rfl
theorem ret_bool {a b : Bool} (h : a = b) : Ending.returned (.bool a) = .returned (.bool b) := by rw [h]
set_option maxHeartbeats 4000000 in
theorem impl_first (n : Nat) (w : World) (B : Bool) (h2 : 2 ≤ n) (hn : n < 18446744073709551616) (hP : PrsW w) (hT : TabW w) (S0 : St n 0 B) (pr : PR n) :
    Calls Tryd.prog 170 #[.int .u64 n] w fun e w' => e = .returned (.bool B) ∧ ∃ k, w' = w.drewN k := by
  have p0 : w.cell? ⟨0, 0, none⟩ = some (.int .u64 2) := hP 0 (by decide)
  have p1 : w.cell? ⟨0, 1, none⟩ = some (.int .u64 3) := hP 1 (by decide)
  have p2 : w.cell? ⟨0, 2, none⟩ = some (.int .u64 5) := hP 2 (by decide)
  have p3 : w.cell? ⟨0, 3, none⟩ = some (.int .u64 7) := hP 3 (by decide)
  have p4 : w.cell? ⟨0, 4, none⟩ = some (.int .u64 11) := hP 4 (by decide)
  have p5 : w.cell? ⟨0, 5, none⟩ = some (.int .u64 13) := hP 5 (by decide)
  have p6 : w.cell? ⟨0, 6, none⟩ = some (.int .u64 17) := hP 6 (by decide)
  have p7 : w.cell? ⟨0, 7, none⟩ = some (.int .u64 19) := hP 7 (by decide)
  have p8 : w.cell? ⟨0, 8, none⟩ = some (.int .u64 23) := hP 8 (by decide)
  have p9 : w.cell? ⟨0, 9, none⟩ = some (.int .u64 29) := hP 9 (by decide)
  have p10 : w.cell? ⟨0, 10, none⟩ = some (.int .u64 31) := hP 10 (by decide)
  have p11 : w.cell? ⟨0, 11, none⟩ = some (.int .u64 37) := hP 11 (by decide)
  clear hP
  have hd2 : decide ((n : Int) < 2) = false := by simp; omega
  have HS : Hid (St n 0 B) := S0
  have HT : Hid (TabW w) := hT
  have PH : Hid (PR n) := pr
  clear S0 hT pr
  go_enter Tryd.func170, Tryd.ntmps170
  go_wp2_with fail
  go_loop [10] (fun k => ∃ k' : Nat, k' ≤ 12 ∧ Hid (St n k' B) ∧ k = .int .i64 k') (fun k => 12 - (intOf k).toNat)
  case atStart => exact ⟨0, by omega, HS, rfl⟩
  case round =>
    obtain ⟨k, hk, H1, rfl⟩ := hrel
    clear HS
    by_cases hlt : k < 12
    · have hdk : decide ((k : Int) < 12) = true := by simp; omega
      rcases twelve k hlt with rfl | rfl | rfl | rfl | rfl | rfl | rfl | rfl | rfl | rfl | rfl | rfl
      · have ix := ix0
        by_cases hm : n % 2 = 0
        · have HB : Hid ((n == 2) = B) := (H1.out.hit (p := 2) rfl hm).symm
          have hbm : ((n : Int) % 2 == 0) = true := by simp; omega
          have hbe : ((n : Int) == 2) = (n == 2) := by rw [Bool.eq_iff_iff]; simp; omega
          clear hm
          go_wp2_with fail
          go_ret
          exact ⟨ret_bool HB.out, 0, rfl⟩
        · have H2 : Hid (St n 1 B) := H1.out.next (p := 2) rfl rfl hm
          have hbm : ((n : Int) % 2 == 0) = false := by simp; omega
          clear hm H1
          go_wp2_with fail
          exact ⟨⟨1, by omega, H2, rfl⟩, by simp [intOf]⟩
      · have ix := ix1
        by_cases hm : n % 3 = 0
        · have HB : Hid ((n == 3) = B) := (H1.out.hit (p := 3) rfl hm).symm
          have hbm : ((n : Int) % 3 == 0) = true := by simp; omega
          have hbe : ((n : Int) == 3) = (n == 3) := by rw [Bool.eq_iff_iff]; simp; omega
          clear hm
          go_wp2_with fail
          go_ret
          exact ⟨ret_bool HB.out, 0, rfl⟩
        · have H2 : Hid (St n 2 B) := H1.out.next (p := 3) rfl rfl hm
          have hbm : ((n : Int) % 3 == 0) = false := by simp; omega
          clear hm H1
          go_wp2_with fail
          exact ⟨⟨2, by omega, H2, rfl⟩, by simp [intOf]⟩
      · have ix := ix2
        by_cases hm : n % 5 = 0
        · have HB : Hid ((n == 5) = B) := (H1.out.hit (p := 5) rfl hm).symm
          have hbm : ((n : Int) % 5 == 0) = true := by simp; omega
          have hbe : ((n : Int) == 5) = (n == 5) := by rw [Bool.eq_iff_iff]; simp; omega
          clear hm
          go_wp2_with fail
          go_ret
          exact ⟨ret_bool HB.out, 0, rfl⟩
        · have H2 : Hid (St n 3 B) := H1.out.next (p := 5) rfl rfl hm
          have hbm : ((n : Int) % 5 == 0) = false := by simp; omega
          clear hm H1
          go_wp2_with fail
          exact ⟨⟨3, by omega, H2, rfl⟩, by simp [intOf]⟩
      · have ix := ix3
        by_cases hm : n % 7 = 0
        · have HB : Hid ((n == 7) = B) := (H1.out.hit (p := 7) rfl hm).symm
          have hbm : ((n : Int) % 7 == 0) = true := by simp; omega
          have hbe : ((n : Int) == 7) = (n == 7) := by rw [Bool.eq_iff_iff]; simp; omega
          clear hm
          go_wp2_with fail
          go_ret
          exact ⟨ret_bool HB.out, 0, rfl⟩
        · have H2 : Hid (St n 4 B) := H1.out.next (p := 7) rfl rfl hm
          have hbm : ((n : Int) % 7 == 0) = false := by simp; omega
          clear hm H1
          go_wp2_with fail
          exact ⟨⟨4, by omega, H2, rfl⟩, by simp [intOf]⟩
      · have ix := ix4
        by_cases hm : n % 11 = 0
        · have HB : Hid ((n == 11) = B) := (H1.out.hit (p := 11) rfl hm).symm
          have hbm : ((n : Int) % 11 == 0) = true := by simp; omega
          have hbe : ((n : Int) == 11) = (n == 11) := by rw [Bool.eq_iff_iff]; simp; omega
          clear hm
          go_wp2_with fail
          go_ret
          exact ⟨ret_bool HB.out, 0, rfl⟩
        · have H2 : Hid (St n 5 B) := H1.out.next (p := 11) rfl rfl hm
          have hbm : ((n : Int) % 11 == 0) = false := by simp; omega
          clear hm H1
          go_wp2_with fail
          exact ⟨⟨5, by omega, H2, rfl⟩, by simp [intOf]⟩
      · have ix := ix5
        by_cases hm : n % 13 = 0
        · have HB : Hid ((n == 13) = B) := (H1.out.hit (p := 13) rfl hm).symm
          have hbm : ((n : Int) % 13 == 0) = true := by simp; omega
          have hbe : ((n : Int) == 13) = (n == 13) := by rw [Bool.eq_iff_iff]; simp; omega
          clear hm
          go_wp2_with fail
          go_ret
          exact ⟨ret_bool HB.out, 0, rfl⟩
        · have H2 : Hid (St n 6 B) := H1.out.next (p := 13) rfl rfl hm
          have hbm : ((n : Int) % 13 == 0) = false := by simp; omega
          clear hm H1
          go_wp2_with fail
          exact ⟨⟨6, by omega, H2, rfl⟩, by simp [intOf]⟩
      · have ix := ix6
        by_cases hm : n % 17 = 0
        · have HB : Hid ((n == 17) = B) := (H1.out.hit (p := 17) rfl hm).symm
          have hbm : ((n : Int) % 17 == 0) = true := by simp; omega
          have hbe : ((n : Int) == 17) = (n == 17) := by rw [Bool.eq_iff_iff]; simp; omega
          clear hm
          go_wp2_with fail
          go_ret
          exact ⟨ret_bool HB.out, 0, rfl⟩
        · have H2 : Hid (St n 7 B) := H1.out.next (p := 17) rfl rfl hm
          have hbm : ((n : Int) % 17 == 0) = false := by simp; omega
          clear hm H1
          go_wp2_with fail
          exact ⟨⟨7, by omega, H2, rfl⟩, by simp [intOf]⟩
      · have ix := ix7
        by_cases hm : n % 19 = 0
        · have HB : Hid ((n == 19) = B) := (H1.out.hit (p := 19) rfl hm).symm
          have hbm : ((n : Int) % 19 == 0) = true := by simp; omega
          have hbe : ((n : Int) == 19) = (n == 19) := by rw [Bool.eq_iff_iff]; simp; omega
          clear hm
          go_wp2_with fail
          go_ret
          exact ⟨ret_bool HB.out, 0, rfl⟩
        · have H2 : Hid (St n 8 B) := H1.out.next (p := 19) rfl rfl hm
          have hbm : ((n : Int) % 19 == 0) = false := by simp; omega
          clear hm H1
          go_wp2_with fail
          exact ⟨⟨8, by omega, H2, rfl⟩, by simp [intOf]⟩
      · have ix := ix8
        by_cases hm : n % 23 = 0
        · have HB : Hid ((n == 23) = B) := (H1.out.hit (p := 23) rfl hm).symm
          have hbm : ((n : Int) % 23 == 0) = true := by simp; omega
          have hbe : ((n : Int) == 23) = (n == 23) := by rw [Bool.eq_iff_iff]; simp; omega
          clear hm
          go_wp2_with fail
          go_ret
          exact ⟨ret_bool HB.out, 0, rfl⟩
        · have H2 : Hid (St n 9 B) := H1.out.next (p := 23) rfl rfl hm
          have hbm : ((n : Int) % 23 == 0) = false := by simp; omega
          clear hm H1
          go_wp2_with fail
          exact ⟨⟨9, by omega, H2, rfl⟩, by simp [intOf]⟩
      · have ix := ix9
        by_cases hm : n % 29 = 0
        · have HB : Hid ((n == 29) = B) := (H1.out.hit (p := 29) rfl hm).symm
          have hbm : ((n : Int) % 29 == 0) = true := by simp; omega
          have hbe : ((n : Int) == 29) = (n == 29) := by rw [Bool.eq_iff_iff]; simp; omega
          clear hm
          go_wp2_with fail
          go_ret
          exact ⟨ret_bool HB.out, 0, rfl⟩
        · have H2 : Hid (St n 10 B) := H1.out.next (p := 29) rfl rfl hm
          have hbm : ((n : Int) % 29 == 0) = false := by simp; omega
          clear hm H1
          go_wp2_with fail
          exact ⟨⟨10, by omega, H2, rfl⟩, by simp [intOf]⟩
      · have ix := ix10
        by_cases hm : n % 31 = 0
        · have HB : Hid ((n == 31) = B) := (H1.out.hit (p := 31) rfl hm).symm
          have hbm : ((n : Int) % 31 == 0) = true := by simp; omega
          have hbe : ((n : Int) == 31) = (n == 31) := by rw [Bool.eq_iff_iff]; simp; omega
          clear hm
          go_wp2_with fail
          go_ret
          exact ⟨ret_bool HB.out, 0, rfl⟩
        · have H2 : Hid (St n 11 B) := H1.out.next (p := 31) rfl rfl hm
          have hbm : ((n : Int) % 31 == 0) = false := by simp; omega
          clear hm H1
          go_wp2_with fail
          exact ⟨⟨11, by omega, H2, rfl⟩, by simp [intOf]⟩
      · have ix := ix11
        by_cases hm : n % 37 = 0
        · have HB : Hid ((n == 37) = B) := (H1.out.hit (p := 37) rfl hm).symm
          have hbm : ((n : Int) % 37 == 0) = true := by simp; omega
          have hbe : ((n : Int) == 37) = (n == 37) := by rw [Bool.eq_iff_iff]; simp; omega
          clear hm
          go_wp2_with fail
          go_ret
          exact ⟨ret_bool HB.out, 0, rfl⟩
        · have H2 : Hid (St n 12 B) := H1.out.next (p := 37) rfl rfl hm
          have hbm : ((n : Int) % 37 == 0) = false := by simp; omega
          clear hm H1
          go_wp2_with fail
          exact ⟨⟨12, by omega, H2, rfl⟩, by simp [intOf]⟩
    · have hdk : decide ((k : Int) < 12) = false := by simp; omega
      obtain rfl : k = 12 := by omega
      obtain ⟨hw0, h41⟩ := H1.out.fin h2
      have H3 : Hid (wit n (smallP.drop 0) = B) := hw0
      clear H1 hw0
      go_wp2_with fail
      go_loopw [22] (fun k W => ∃ k' m : Nat, k' ≤ 12 ∧ Hid (wit n (smallP.drop k') = B) ∧ k = .int .i64 k' ∧ W = w.drewN m) (fun k _ => 12 - (intOf k).toNat)
      case atStart => exact ⟨0, 0, by omega, H3, rfl, rfl⟩
      case round =>
        obtain ⟨k, m, hk2, H4, rfl, rfl⟩ := hrel
        clear H3
        by_cases hlt2 : k < 12
        · have hdk2 : decide ((k : Int) < 12) = true := by simp; omega
          rcases twelve k hlt2 with rfl | rfl | rfl | rfl | rfl | rfl | rfl | rfl | rfl | rfl | rfl | rfl
          · have ix := ix0
            have hw : wit n (smallP.drop 0) = (passB n 2 && wit n (smallP.drop 1)) := wit_step n 0 2 rfl
            have H4' := H4.out
            rw [hw] at H4'
            have cp := fun W (h : Hid (TabW W)) => passes_any n 2 W PH.out h.out (by omega) hn (by omega)
            cases hp : passB n 2
            · have HB : Hid (false = B) := by show _ = _; rw [← H4', hp]; rfl
              rw [hp] at cp
              clear H4' hw H4 hp
              go_wp2_with fail
              refine (cp _ (show Hid (TabW (w.drewN m)) from HT.out)).mono ?_
              rintro e w3 ⟨rfl, k3, rfl⟩
              go_wp2_with fail
              go_ret
              exact ⟨ret_bool HB.out, _, rfl⟩
            · have H5 : Hid (wit n (smallP.drop 1) = B) := by show _ = _; rw [← H4', hp]; rfl
              rw [hp] at cp
              clear H4' hw H4 hp
              go_wp2_with fail
              refine (cp _ (show Hid (TabW (w.drewN m)) from HT.out)).mono ?_
              rintro e w3 ⟨rfl, k3, rfl⟩
              go_wp2_with fail
              go_roundw
              case rel => exact ⟨1, _, by omega, H5, rfl, rfl⟩
              case measure => simp [intOf]
          · have ix := ix1
            have hw : wit n (smallP.drop 1) = (passB n 3 && wit n (smallP.drop 2)) := wit_step n 1 3 rfl
            have H4' := H4.out
            rw [hw] at H4'
            have cp := fun W (h : Hid (TabW W)) => passes_any n 3 W PH.out h.out (by omega) hn (by omega)
            cases hp : passB n 3
            · have HB : Hid (false = B) := by show _ = _; rw [← H4', hp]; rfl
              rw [hp] at cp
              clear H4' hw H4 hp
              go_wp2_with fail
              refine (cp _ (show Hid (TabW (w.drewN m)) from HT.out)).mono ?_
              rintro e w3 ⟨rfl, k3, rfl⟩
              go_wp2_with fail
              go_ret
              exact ⟨ret_bool HB.out, _, rfl⟩
            · have H5 : Hid (wit n (smallP.drop 2) = B) := by show _ = _; rw [← H4', hp]; rfl
              rw [hp] at cp
              clear H4' hw H4 hp
              go_wp2_with fail
              refine (cp _ (show Hid (TabW (w.drewN m)) from HT.out)).mono ?_
              rintro e w3 ⟨rfl, k3, rfl⟩
              go_wp2_with fail
              go_roundw
              case rel => exact ⟨2, _, by omega, H5, rfl, rfl⟩
              case measure => simp [intOf]
          · have ix := ix2
            have hw : wit n (smallP.drop 2) = (passB n 5 && wit n (smallP.drop 3)) := wit_step n 2 5 rfl
            have H4' := H4.out
            rw [hw] at H4'
            have cp := fun W (h : Hid (TabW W)) => passes_any n 5 W PH.out h.out (by omega) hn (by omega)
            cases hp : passB n 5
            · have HB : Hid (false = B) := by show _ = _; rw [← H4', hp]; rfl
              rw [hp] at cp
              clear H4' hw H4 hp
              go_wp2_with fail
              refine (cp _ (show Hid (TabW (w.drewN m)) from HT.out)).mono ?_
              rintro e w3 ⟨rfl, k3, rfl⟩
              go_wp2_with fail
              go_ret
              exact ⟨ret_bool HB.out, _, rfl⟩
            · have H5 : Hid (wit n (smallP.drop 3) = B) := by show _ = _; rw [← H4', hp]; rfl
              rw [hp] at cp
              clear H4' hw H4 hp
              go_wp2_with fail
              refine (cp _ (show Hid (TabW (w.drewN m)) from HT.out)).mono ?_
              rintro e w3 ⟨rfl, k3, rfl⟩
              go_wp2_with fail
              go_roundw
              case rel => exact ⟨3, _, by omega, H5, rfl, rfl⟩
              case measure => simp [intOf]
          · have ix := ix3
            have hw : wit n (smallP.drop 3) = (passB n 7 && wit n (smallP.drop 4)) := wit_step n 3 7 rfl
            have H4' := H4.out
            rw [hw] at H4'
            have cp := fun W (h : Hid (TabW W)) => passes_any n 7 W PH.out h.out (by omega) hn (by omega)
            cases hp : passB n 7
            · have HB : Hid (false = B) := by show _ = _; rw [← H4', hp]; rfl
              rw [hp] at cp
              clear H4' hw H4 hp
              go_wp2_with fail
              refine (cp _ (show Hid (TabW (w.drewN m)) from HT.out)).mono ?_
              rintro e w3 ⟨rfl, k3, rfl⟩
              go_wp2_with fail
              go_ret
              exact ⟨ret_bool HB.out, _, rfl⟩
            · have H5 : Hid (wit n (smallP.drop 4) = B) := by show _ = _; rw [← H4', hp]; rfl
              rw [hp] at cp
              clear H4' hw H4 hp
              go_wp2_with fail
              refine (cp _ (show Hid (TabW (w.drewN m)) from HT.out)).mono ?_
              rintro e w3 ⟨rfl, k3, rfl⟩
              go_wp2_with fail
              go_roundw
              case rel => exact ⟨4, _, by omega, H5, rfl, rfl⟩
              case measure => simp [intOf]
          · have ix := ix4
            have hw : wit n (smallP.drop 4) = (passB n 11 && wit n (smallP.drop 5)) := wit_step n 4 11 rfl
            have H4' := H4.out
            rw [hw] at H4'
            have cp := fun W (h : Hid (TabW W)) => passes_any n 11 W PH.out h.out (by omega) hn (by omega)
            cases hp : passB n 11
            · have HB : Hid (false = B) := by show _ = _; rw [← H4', hp]; rfl
              rw [hp] at cp
              clear H4' hw H4 hp
              go_wp2_with fail
              refine (cp _ (show Hid (TabW (w.drewN m)) from HT.out)).mono ?_
              rintro e w3 ⟨rfl, k3, rfl⟩
              go_wp2_with fail
              go_ret
              exact ⟨ret_bool HB.out, _, rfl⟩
            · have H5 : Hid (wit n (smallP.drop 5) = B) := by show _ = _; rw [← H4', hp]; rfl
              rw [hp] at cp
              clear H4' hw H4 hp
              go_wp2_with fail
              refine (cp _ (show Hid (TabW (w.drewN m)) from HT.out)).mono ?_
              rintro e w3 ⟨rfl, k3, rfl⟩
              go_wp2_with fail
              go_roundw
              case rel => exact ⟨5, _, by omega, H5, rfl, rfl⟩
              case measure => simp [intOf]
          · have ix := ix5
            have hw : wit n (smallP.drop 5) = (passB n 13 && wit n (smallP.drop 6)) := wit_step n 5 13 rfl
            have H4' := H4.out
            rw [hw] at H4'
            have cp := fun W (h : Hid (TabW W)) => passes_any n 13 W PH.out h.out (by omega) hn (by omega)
            cases hp : passB n 13
            · have HB : Hid (false = B) := by show _ = _; rw [← H4', hp]; rfl
              rw [hp] at cp
              clear H4' hw H4 hp
              go_wp2_with fail
              refine (cp _ (show Hid (TabW (w.drewN m)) from HT.out)).mono ?_
              rintro e w3 ⟨rfl, k3, rfl⟩
              go_wp2_with fail
              go_ret
              exact ⟨ret_bool HB.out, _, rfl⟩
            · have H5 : Hid (wit n (smallP.drop 6) = B) := by show _ = _; rw [← H4', hp]; rfl
              rw [hp] at cp
              clear H4' hw H4 hp
              go_wp2_with fail
              refine (cp _ (show Hid (TabW (w.drewN m)) from HT.out)).mono ?_
              rintro e w3 ⟨rfl, k3, rfl⟩
              go_wp2_with fail
              go_roundw
              case rel => exact ⟨6, _, by omega, H5, rfl, rfl⟩
              case measure => simp [intOf]
          · have ix := ix6
            have hw : wit n (smallP.drop 6) = (passB n 17 && wit n (smallP.drop 7)) := wit_step n 6 17 rfl
            have H4' := H4.out
            rw [hw] at H4'
            have cp := fun W (h : Hid (TabW W)) => passes_any n 17 W PH.out h.out (by omega) hn (by omega)
            cases hp : passB n 17
            · have HB : Hid (false = B) := by show _ = _; rw [← H4', hp]; rfl
              rw [hp] at cp
              clear H4' hw H4 hp
              go_wp2_with fail
              refine (cp _ (show Hid (TabW (w.drewN m)) from HT.out)).mono ?_
              rintro e w3 ⟨rfl, k3, rfl⟩
              go_wp2_with fail
              go_ret
              exact ⟨ret_bool HB.out, _, rfl⟩
            · have H5 : Hid (wit n (smallP.drop 7) = B) := by show _ = _; rw [← H4', hp]; rfl
              rw [hp] at cp
              clear H4' hw H4 hp
              go_wp2_with fail
              refine (cp _ (show Hid (TabW (w.drewN m)) from HT.out)).mono ?_
              rintro e w3 ⟨rfl, k3, rfl⟩
              go_wp2_with fail
              go_roundw
              case rel => exact ⟨7, _, by omega, H5, rfl, rfl⟩
              case measure => simp [intOf]
          · have ix := ix7
            have hw : wit n (smallP.drop 7) = (passB n 19 && wit n (smallP.drop 8)) := wit_step n 7 19 rfl
            have H4' := H4.out
            rw [hw] at H4'
            have cp := fun W (h : Hid (TabW W)) => passes_any n 19 W PH.out h.out (by omega) hn (by omega)
            cases hp : passB n 19
            · have HB : Hid (false = B) := by show _ = _; rw [← H4', hp]; rfl
              rw [hp] at cp
              clear H4' hw H4 hp
              go_wp2_with fail
              refine (cp _ (show Hid (TabW (w.drewN m)) from HT.out)).mono ?_
              rintro e w3 ⟨rfl, k3, rfl⟩
              go_wp2_with fail
              go_ret
              exact ⟨ret_bool HB.out, _, rfl⟩
            · have H5 : Hid (wit n (smallP.drop 8) = B) := by show _ = _; rw [← H4', hp]; rfl
              rw [hp] at cp
              clear H4' hw H4 hp
              go_wp2_with fail
              refine (cp _ (show Hid (TabW (w.drewN m)) from HT.out)).mono ?_
              rintro e w3 ⟨rfl, k3, rfl⟩
              go_wp2_with fail
              go_roundw
              case rel => exact ⟨8, _, by omega, H5, rfl, rfl⟩
              case measure => simp [intOf]
          · have ix := ix8
            have hw : wit n (smallP.drop 8) = (passB n 23 && wit n (smallP.drop 9)) := wit_step n 8 23 rfl
            have H4' := H4.out
            rw [hw] at H4'
            have cp := fun W (h : Hid (TabW W)) => passes_any n 23 W PH.out h.out (by omega) hn (by omega)
            cases hp : passB n 23
            · have HB : Hid (false = B) := by show _ = _; rw [← H4', hp]; rfl
              rw [hp] at cp
              clear H4' hw H4 hp
              go_wp2_with fail
              refine (cp _ (show Hid (TabW (w.drewN m)) from HT.out)).mono ?_
              rintro e w3 ⟨rfl, k3, rfl⟩
              go_wp2_with fail
              go_ret
              exact ⟨ret_bool HB.out, _, rfl⟩
            · have H5 : Hid (wit n (smallP.drop 9) = B) := by show _ = _; rw [← H4', hp]; rfl
              rw [hp] at cp
              clear H4' hw H4 hp
              go_wp2_with fail
              refine (cp _ (show Hid (TabW (w.drewN m)) from HT.out)).mono ?_
              rintro e w3 ⟨rfl, k3, rfl⟩
              go_wp2_with fail
              go_roundw
              case rel => exact ⟨9, _, by omega, H5, rfl, rfl⟩
              case measure => simp [intOf]
          · have ix := ix9
            have hw : wit n (smallP.drop 9) = (passB n 29 && wit n (smallP.drop 10)) := wit_step n 9 29 rfl
            have H4' := H4.out
            rw [hw] at H4'
            have cp := fun W (h : Hid (TabW W)) => passes_any n 29 W PH.out h.out (by omega) hn (by omega)
            cases hp : passB n 29
            · have HB : Hid (false = B) := by show _ = _; rw [← H4', hp]; rfl
              rw [hp] at cp
              clear H4' hw H4 hp
              go_wp2_with fail
              refine (cp _ (show Hid (TabW (w.drewN m)) from HT.out)).mono ?_
              rintro e w3 ⟨rfl, k3, rfl⟩
              go_wp2_with fail
              go_ret
              exact ⟨ret_bool HB.out, _, rfl⟩
            · have H5 : Hid (wit n (smallP.drop 10) = B) := by show _ = _; rw [← H4', hp]; rfl
              rw [hp] at cp
              clear H4' hw H4 hp
              go_wp2_with fail
              refine (cp _ (show Hid (TabW (w.drewN m)) from HT.out)).mono ?_
              rintro e w3 ⟨rfl, k3, rfl⟩
              go_wp2_with fail
              go_roundw
              case rel => exact ⟨10, _, by omega, H5, rfl, rfl⟩
              case measure => simp [intOf]
          · have ix := ix10
            have hw : wit n (smallP.drop 10) = (passB n 31 && wit n (smallP.drop 11)) := wit_step n 10 31 rfl
            have H4' := H4.out
            rw [hw] at H4'
            have cp := fun W (h : Hid (TabW W)) => passes_any n 31 W PH.out h.out (by omega) hn (by omega)
            cases hp : passB n 31
            · have HB : Hid (false = B) := by show _ = _; rw [← H4', hp]; rfl
              rw [hp] at cp
              clear H4' hw H4 hp
              go_wp2_with fail
              refine (cp _ (show Hid (TabW (w.drewN m)) from HT.out)).mono ?_
              rintro e w3 ⟨rfl, k3, rfl⟩
              go_wp2_with fail
              go_ret
              exact ⟨ret_bool HB.out, _, rfl⟩
            · have H5 : Hid (wit n (smallP.drop 11) = B) := by show _ = _; rw [← H4', hp]; rfl
              rw [hp] at cp
              clear H4' hw H4 hp
              go_wp2_with fail
              refine (cp _ (show Hid (TabW (w.drewN m)) from HT.out)).mono ?_
              rintro e w3 ⟨rfl, k3, rfl⟩
              go_wp2_with fail
              go_roundw
              case rel => exact ⟨11, _, by omega, H5, rfl, rfl⟩
              case measure => simp [intOf]
          · have ix := ix11
            have hw : wit n (smallP.drop 11) = (passB n 37 && wit n (smallP.drop 12)) := wit_step n 11 37 rfl
            have H4' := H4.out
            rw [hw] at H4'
            have cp := fun W (h : Hid (TabW W)) => passes_any n 37 W PH.out h.out (by omega) hn (by omega)
            cases hp : passB n 37
            · have HB : Hid (false = B) := by show _ = _; rw [← H4', hp]; rfl
              rw [hp] at cp
              clear H4' hw H4 hp
              go_wp2_with fail
              refine (cp _ (show Hid (TabW (w.drewN m)) from HT.out)).mono ?_
              rintro e w3 ⟨rfl, k3, rfl⟩
              go_wp2_with fail
              go_ret
              exact ⟨ret_bool HB.out, _, rfl⟩
            · have H5 : Hid (wit n (smallP.drop 12) = B) := by show _ = _; rw [← H4', hp]; rfl
              rw [hp] at cp
              clear H4' hw H4 hp
              go_wp2_with fail
              refine (cp _ (show Hid (TabW (w.drewN m)) from HT.out)).mono ?_
              rintro e w3 ⟨rfl, k3, rfl⟩
              go_wp2_with fail
              go_roundw
              case rel => exact ⟨12, _, by omega, H5, rfl, rfl⟩
              case measure => simp [intOf]
        · have hdk2 : decide ((k : Int) < 12) = false := by simp; omega
          obtain rfl : k = 12 := by omega
          have HB : Hid (true = B) := H4.out
          clear H4
          go_wp2_with fail
          go_ret
          exact ⟨ret_bool HB.out, m, rfl⟩
end Go.Proofs.YtplaaglckbfklaaDoor
/- Proved: the digits of a long division by halves of a word are the true ones; no program in sight. -/
namespace Go.Proofs.YtplaaglckbfklaaDoor.M1
/-- what holds of a guessed digit q and what is left r of u over the high half y1, where the digit is of u, v over y1, y0 -/
structure Dig (u v y1 y0 q r : Nat) : Prop where
  eq : q * y1 + r = u
  ge : (u * 4294967296 + v) / (y1 * 4294967296 + y0) ≤ q
structure Half (u v y1 y0 : Nat) : Prop where
  y1lo : 2147483648 ≤ y1
  y1hi : y1 < 4294967296
  y0hi : y0 < 4294967296
  vhi : v < 4294967296
  ult : u < y1 * 4294967296 + y0
theorem div_lt_K (u v Y K : Nat) (hv : v < K) (hu : u < Y) : (u * K + v) / Y < K := by
  apply Nat.div_lt_of_lt_mul
  have : (u + 1) * K ≤ Y * K := Nat.mul_le_mul_right _ (by omega)
  rw [Nat.add_mul] at this
  omega
theorem Half.Qlt {u v y1 y0 : Nat} (h : Half u v y1 y0) : (u * 4294967296 + v) / (y1 * 4294967296 + y0) < 4294967296 :=
  div_lt_K u v _ 4294967296 h.vhi h.ult
theorem Dig.start {u v y1 y0 : Nat} (h : Half u v y1 y0) : Dig u v y1 y0 (u / y1) (u - u / y1 * y1) ∧ u / y1 * y1 ≤ u ∧ u - u / y1 * y1 < 4294967296 ∧ u / y1 ≤ 4294967297 := by
  obtain ⟨h1, h2, h3, h4, h5⟩ := h
  have e := Nat.div_add_mod u y1
  have m := Nat.mod_lt u (show y1 > 0 by omega)
  rw [Nat.mul_comm] at e
  refine ⟨⟨by omega, ?_⟩, by omega, by omega, ?_⟩
  · rw [Nat.le_div_iff_mul_le (by omega)]
    have hq := Nat.div_mul_le_self (u * 4294967296 + v) (y1 * 4294967296 + y0)
    generalize (u * 4294967296 + v) / (y1 * 4294967296 + y0) = Q at *
    have e2 : Q * (y1 * 4294967296 + y0) = Q * y1 * 4294967296 + Q * y0 := by grind
    generalize Q * y1 = a at *
    generalize Q * y0 = b at *
    omega
  · rw [Nat.div_le_iff_le_mul_add_pred (by omega)]
    omega
theorem Dig.more {u v y1 y0 q r : Nat} (h : Half u v y1 y0) (d : Dig u v y1 y0 q r) (hc : 4294967296 ≤ q ∨ 4294967296 * r + v < q * y0) : 1 ≤ q ∧ Dig u v y1 y0 (q - 1) (r + y1) := by
  have hQ := h.Qlt
  have hm : 1 ≤ q ∧ (q - 1) * y1 + (r + y1) = u ∧ (u * 4294967296 + v) / (y1 * 4294967296 + y0) ≤ q - 1 := ?_
  · exact ⟨hm.1, ⟨hm.2.1, hm.2.2⟩⟩
  obtain ⟨h1, h2, h3, h4, h5⟩ := h
  obtain ⟨e, g⟩ := d
  have hlt : (u * 4294967296 + v) / (y1 * 4294967296 + y0) < q := by
    rcases hc with hc | hc
    · omega
    · rw [Nat.div_lt_iff_lt_mul (by omega)]
      have e2 : q * (y1 * 4294967296 + y0) = q * y1 * 4294967296 + q * y0 := by grind
      rw [e2]
      generalize q * y1 = a at *
      generalize q * y0 = b at *
      omega
  generalize (u * 4294967296 + v) / (y1 * 4294967296 + y0) = Q at *
  refine ⟨by omega, ?_, by omega⟩
  obtain ⟨q', rfl⟩ : ∃ q', q = q' + 1 := ⟨q - 1, by omega⟩
  rw [Nat.add_sub_cancel, Nat.add_mul] at *
  omega
theorem Dig.done {u v y1 y0 q r : Nat} (h : Half u v y1 y0) (d : Dig u v y1 y0 q r) (hc : q * y0 ≤ 4294967296 * r + v) : q = (u * 4294967296 + v) / (y1 * 4294967296 + y0) := by
  obtain ⟨h1, h2, h3, h4, h5⟩ := h
  obtain ⟨e, g⟩ := d
  apply Nat.le_antisymm _ g
  rw [Nat.le_div_iff_mul_le (by omega)]
  have e2 : q * (y1 * 4294967296 + y0) = q * y1 * 4294967296 + q * y0 := by grind
  rw [e2]
  generalize q * y1 = a at *
  generalize q * y0 = b at *
  omega
theorem Dig.broke {u v y1 y0 q r : Nat} (h : Half u v y1 y0) (d : Dig u v y1 y0 q r) (hq : q ≤ 4294967296) (hr : 4294967296 ≤ r) : q = (u * 4294967296 + v) / (y1 * 4294967296 + y0) := by
  have h' := h
  obtain ⟨h1, h2, h3, h4, h5⟩ := h'
  apply d.done h
  have : q * y0 ≤ 4294967296 * y0 := Nat.mul_le_mul_right _ hq
  omega
/-- what is left behind a digit -/
theorem left_over (u v Y : Nat) : u * 4294967296 + v - (u * 4294967296 + v) / Y * Y = (u * 4294967296 + v) % Y ∧ (u * 4294967296 + v) / Y * Y ≤ u * 4294967296 + v := by
  have e := Nat.div_add_mod (u * 4294967296 + v) Y
  rw [Nat.mul_comm] at e
  generalize (u * 4294967296 + v) / Y * Y = a at *
  omega
theorem two_digits (u v1 v0 Y : Nat) : ((u * 4294967296 + v1) % Y * 4294967296 + v0) % Y = (u * 18446744073709551616 + (v1 * 4294967296 + v0)) % Y := by
  rw [Nat.add_mod, Nat.mul_mod, Nat.mod_mod, ← Nat.mul_mod, ← Nat.add_mod]
  have e2 : (u * 4294967296 + v1) * 4294967296 + v0 = u * 18446744073709551616 + (v1 * 4294967296 + v0) := by omega
  rw [e2]
end Go.Proofs.YtplaaglckbfklaaDoor.M1
/- Proved: rows of whole numbers in memory: how a slice that is read, one that is owned and one that is written lie; no function of the program. -/
namespace Go.Proofs.YtplaaglckbfklaaDoor
open Go.ChangeShapes Go.WideShapes Go.ChangeAt Go.RowKit
set_option linter.unusedVariables false
set_option linter.unusedSimpArgs false
/-- v is a slice of the numbers xs, which lie in w -/
def Row (w : World) (v : Value) (xs : List Int) : Prop :=
  (∃ a cap, v = .slice a 0 cap ∧ xs = []) ∨ ∃ b o cap, v = .slice (some ⟨b, o, none⟩) xs.length cap ∧ b < w.heap.size ∧ 0 < xs.length ∧ ∀ j, j < xs.length → w.cell? ⟨b, o + j, none⟩ = some (.int .i64 (xs.getD j 0))
/-- nothing that was there has turned -/
abbrev Old (w w' : World) : Prop := Below w.heap.size w w'
theorem Old.refl (w : World) : Old w w := Below.refl _ _
theorem Old.trans {a b c : World} (h : Old a b) (k : Old b c) : Old a c := Below.trans h (k.mono h.size)
theorem Old.drewN {a b : World} (h : Old a b) (n : Nat) : Old a (b.drewN n) := ⟨h.os, h.tape, h.output, h.size, h.block⟩
theorem Old.alloc {a b : World} (h : Old a b) (o : Obj) : Old a (b.alloc o) := Below.alloc h h.size o
theorem Old.own {a b : World} (h : Old a b) {p : Addr} (hp : a.heap.size ≤ p.block) (v : Value) : Old a (b.setCell p v) := Below.setCell h hp v
theorem Row.old {w w' : World} {v : Value} {xs : List Int} (h : Row w v xs) (g : Old w w') : Row w' v xs := by
  rcases h with h1 | ⟨b, o, cap, e, hb, h0, hc⟩
  · exact Or.inl h1
  · exact Or.inr ⟨b, o, cap, e, Nat.lt_of_lt_of_le hb g.size, h0, fun j hj => by rw [g.cell (p := ⟨b, o + j, none⟩) hb]; exact hc j hj⟩
theorem Row.slice {w : World} {v : Value} {xs : List Int} (h : Row w v xs) : ∃ a cap, v = .slice a xs.length cap := by
  rcases h with ⟨a, cap, e, e2⟩ | ⟨b, o, cap, e, _⟩
  · exact ⟨a, cap, by rw [e, e2]; rfl⟩
  · exact ⟨_, cap, e⟩
/-- a slice of the call's own, whose numbers are xs -/
abbrev Own (w : World) (base : Nat) (v : Value) (xs : List Int) : Prop := w.ownsRow base 3 1 v xs.length (xs.map (Value.int .i64))
theorem Own.row {w : World} {base : Nat} {v : Value} {xs : List Int} (h : Own w base v xs) : Row w v xs := by
  rcases h.2 with ⟨e, h0⟩ | ⟨g, cap, cur, e, hb, hg, h1, h2, h3, h4⟩
  · exact Or.inl ⟨none, 0, e, List.length_eq_zero_iff.1 h0⟩
  · subst e
    by_cases h0 : xs.length = 0
    · exact Or.inl ⟨_, cap, by rw [h0], List.length_eq_zero_iff.1 h0⟩
    · refine Or.inr ⟨g, 0, cap, rfl, (Array.getElem?_eq_some_iff.1 hg).1, by omega, fun j hj => ?_⟩
      have := World.ownsRow.cellAt h j (by omega)
      rw [Nat.zero_add, this]
      simp [List.getD, hj]
theorem Own.old {w w' : World} {base : Nat} {v : Value} {xs : List Int} (h : Own w base v xs) (g : Old w w') : Own w' base v xs := by
  refine ⟨h.1, ?_⟩
  rcases h.2 with hn | ⟨p, cap, cur, rfl, hb, hgg, rest⟩
  · exact .inl hn
  · refine .inr ⟨p, cap, cur, rfl, hb, ?_, rest⟩
    rw [g.block p (Array.getElem?_eq_some_iff.1 hgg).1]
    exact hgg
theorem Own.low {w : World} {base base' : Nat} {v : Value} {xs : List Int} (h : Own w base v xs) (hb : base' ≤ base) : Own w base' v xs := by
  refine ⟨h.1, ?_⟩
  rcases h.2 with hn | ⟨p, cap, cur, rfl, hb1, rest⟩
  · exact .inl hn
  · exact .inr ⟨p, cap, cur, rfl, Nat.le_trans hb hb1, rest⟩
/-- the first k numbers of a slice of the call's own -/
theorem Own.take {w : World} {base : Nat} {a : Option Addr} {cap : Nat} {xs : List Int} (h : Own w base (.slice a xs.length cap) xs) (k : Nat) (hk : k ≤ xs.length) : Own w base (.slice a k cap) (xs.take k) := by
  have e : (xs.take k).length = k := by rw [List.length_take, Nat.min_eq_left hk]
  unfold Own
  rw [e]
  refine ⟨by simp [Nat.min_eq_left hk], ?_⟩
  rcases h.2 with ⟨h1, h2⟩ | ⟨g, cap', cur, h1, hb, hg, h2, h3, h4, h5⟩
  · simp only [Value.slice.injEq] at h1
    obtain ⟨rfl, _, rfl⟩ := h1
    exact .inl ⟨by rw [show k = 0 by omega], by omega⟩
  · simp only [Value.slice.injEq] at h1
    obtain ⟨rfl, _, rfl⟩ := h1
    refine .inr ⟨g, cap, cur, rfl, hb, hg, by omega, h3, h4, ?_⟩
    rw [Nat.mul_one] at h5 ⊢
    rw [List.map_take, ← h5, List.take_take, Nat.min_eq_left hk]
theorem grownBy_old {a b : World} (h : a.grownBy b none) : Old a b := Below.grown (Below.refl _ _) h (Nat.le_refl _) (fun _ h => by cases h)
theorem cell_at (w : World) (xs : Array Value) (t : TypeId) (b j : Nat) (hb : b = w.heap.size) : (w.alloc (.cells xs t)).cell? ⟨b, j, none⟩ = xs[j]? := by
  subst hb
  exact cell_of_row _ _ _ _ _ (0, 0) (heap_alloc_new w _)
theorem cell_lt (w : World) (o : Obj) (b j : Nat) (hb : b < w.heap.size) : (w.alloc o).cell? ⟨b, j, none⟩ = w.cell? ⟨b, j, none⟩ := World.cell?_of_block (heap_alloc_old w o hb)
theorem fro_at (w : World) (xs : Array Value) (t : TypeId) (b j : Nat) (hb : b = w.heap.size) : (w.alloc (.cells xs t)).frozen? ⟨b, j, none⟩ = false := by
  subst hb
  exact frozen_of_row _ _ _ _ _ (heap_alloc_new w _)
theorem fro_lt (w : World) (o : Obj) (b j : Nat) (hb : b < w.heap.size) : (w.alloc o).frozen? ⟨b, j, none⟩ = w.frozen? ⟨b, j, none⟩ := World.frozen?_of_block (heap_alloc_old w o hb)
theorem c3_0 (w : World) (A B C : Array Value) (t u v : TypeId) (j : Nat) : (((w.alloc (.cells A t)).alloc (.cells B u)).alloc (.cells C v)).cell? ⟨w.heap.size, j, none⟩ = A[j]? := by
  rw [cell_lt _ _ _ _ (by simp; omega), cell_lt _ _ _ _ (by simp), cell_at _ _ _ _ _ rfl]
theorem c3_1 (w : World) (A B C : Array Value) (t u v : TypeId) (j : Nat) : (((w.alloc (.cells A t)).alloc (.cells B u)).alloc (.cells C v)).cell? ⟨w.heap.size + 1, j, none⟩ = B[j]? := by
  rw [cell_lt _ _ _ _ (by simp), cell_at _ _ _ _ _ (by simp)]
theorem c3_2 (w : World) (A B C : Array Value) (t u v : TypeId) (j : Nat) : (((w.alloc (.cells A t)).alloc (.cells B u)).alloc (.cells C v)).cell? ⟨w.heap.size + 1 + 1, j, none⟩ = C[j]? := by
  rw [cell_at _ _ _ _ _ (by simp)]
theorem c2_0 (w : World) (A B : Array Value) (t u : TypeId) (j : Nat) : ((w.alloc (.cells A t)).alloc (.cells B u)).cell? ⟨w.heap.size, j, none⟩ = A[j]? := by
  rw [cell_lt _ _ _ _ (by simp), cell_at _ _ _ _ _ rfl]
theorem c2_1 (w : World) (A B : Array Value) (t u : TypeId) (j : Nat) : ((w.alloc (.cells A t)).alloc (.cells B u)).cell? ⟨w.heap.size + 1, j, none⟩ = B[j]? := by
  rw [cell_at _ _ _ _ _ (by simp)]
theorem f3_1 (w : World) (A B C : Array Value) (t u v : TypeId) (j : Nat) : (((w.alloc (.cells A t)).alloc (.cells B u)).alloc (.cells C v)).frozen? ⟨w.heap.size + 1, j, none⟩ = false := by
  rw [fro_lt _ _ _ _ (by simp), fro_at _ _ _ _ _ (by simp)]
theorem f3_2 (w : World) (A B C : Array Value) (t u v : TypeId) (j : Nat) : (((w.alloc (.cells A t)).alloc (.cells B u)).alloc (.cells C v)).frozen? ⟨w.heap.size + 1 + 1, j, none⟩ = false := by
  rw [fro_at _ _ _ _ _ (by simp)]
theorem f2_1 (w : World) (A B : Array Value) (t u : TypeId) (j : Nat) : ((w.alloc (.cells A t)).alloc (.cells B u)).frozen? ⟨w.heap.size + 1, j, none⟩ = false := by
  rw [fro_at _ _ _ _ _ (by simp)]
end Go.Proofs.YtplaaglckbfklaaDoor
/- Proved: the contract of IsPrime of the model: it answers as the program does, by trial division and twelve witnesses. -/
namespace Go.Proofs.YtplaaglckbfklaaDoor
open Go.ChangeShapes Go.WideShapes Go.ChangeAt Go.RowKit
open M1
set_option linter.unusedVariables false
theorem at_k : ∀ k, k < 12 → smallP.drop k = smallP.getD k 0 :: smallP.drop (k + 1) ∧ smallP.take (k + 1) = smallP.take k ++ [smallP.getD k 0] ∧ 2 ≤ smallP.getD k 0 ∧ smallP.getD k 0 ≤ 37 := by decide
def HasP (b : Nat) (w : World) : Prop := ∀ j, j < 12 → w.cell? ⟨b, j, none⟩ = some (.int .u64 (smallP.getD j 0))
theorem hasP_new (w : World) (t : TypeId) : HasP w.heap.size (w.alloc (.cells #[.int .u64 2, .int .u64 3, .int .u64 5, .int .u64 7, .int .u64 11, .int .u64 13, .int .u64 17, .int .u64 19, .int .u64 23, .int .u64 29, .int .u64 31, .int .u64 37] t)) := by
  intro j hj
  rcases twelve j hj with rfl | rfl | rfl | rfl | rfl | rfl | rfl | rfl | rfl | rfl | rfl | rfl <;> simp [smallP]
theorem beq_cast (n p : Nat) : ((n : Int) == (p : Int)) = (n == p) := by rw [Bool.eq_iff_iff]; simp; omega
theorem halve (d s n : Nat) (h0 : 0 < d) (he : d % 2 = 0) (hn : n - 1 < 18446744073709551616) (h : d * 2 ^ s = n - 1) : s + 1 < 64 ∧ d / 2 * 2 ^ (s + 1) = n - 1 := by
  have e : d / 2 * 2 ^ (s + 1) = d * 2 ^ s := by
    rw [Nat.pow_succ, Nat.mul_comm (2 ^ s) 2, ← Nat.mul_assoc]
    congr 1; omega
  refine ⟨?_, by rw [e, h]⟩
  by_cases hs : s + 1 < 64
  · exact hs
  · exfalso
    have h1 : 2 ^ 64 ≤ 2 ^ (s + 1) := Nat.pow_le_pow_right (by omega) (by omega)
    have h2 : 1 * 2 ^ (s + 1) ≤ d / 2 * 2 ^ (s + 1) := Nat.mul_le_mul_right _ (by omega)
    omega
theorem val_unique : ∀ (a b m k : Nat), 2 ^ a * (2 * m + 1) = 2 ^ b * (2 * k + 1) → a = b
  | 0, 0, _, _, _ => rfl
  | 0, b + 1, m, k, h => by
    exfalso
    rw [Nat.pow_succ, Nat.pow_zero, Nat.one_mul, Nat.mul_comm (2 ^ b) 2, Nat.mul_assoc] at h
    omega
  | a + 1, 0, m, k, h => by
    exfalso
    rw [Nat.pow_succ, Nat.pow_zero, Nat.one_mul, Nat.mul_comm (2 ^ a) 2, Nat.mul_assoc] at h
    omega
  | a + 1, b + 1, m, k, h => by
    rw [Nat.pow_succ, Nat.pow_succ, Nat.mul_comm (2 ^ a) 2, Nat.mul_comm (2 ^ b) 2, Nat.mul_assoc, Nat.mul_assoc] at h
    rw [val_unique a b m k (by omega)]
theorem ctz_of (d s n : Nat) (h0 : 2 ≤ n) (hd : d < 18446744073709551616) (hs : s < 64) (h : d * 2 ^ s = n - 1) (ho : d % 2 = 1) (hn : n - 1 < 18446744073709551616) : Lib.ctz 64 (n - 1) = s := by
  unfold Lib.ctz
  rw [if_neg (by omega)]
  obtain ⟨m, hm, _⟩ := Lib.ctzFrom_spec 64 (n - 1) (by omega) (by omega)
  refine val_unique _ _ m (d / 2) ?_
  rw [← hm, ← h, Nat.mul_comm]
  congr 1; omega
set_option maxHeartbeats 4000000 in
theorem spec_prime (n : Nat) (w : World) (B : Bool) (h2 : 2 ≤ n) (hn : n < 18446744073709551616) (S0 : St n 0 B) :
    Calls Tryd.prog 116 #[.int .u64 n] w fun e w' => e = .returned (.bool B) ∧ Old w w' := by
  have hd2 : decide ((n : Int) < 2) = false := by simp; omega
  have HS : Hid (St n 0 B) := S0
  clear S0
  go_enter Tryd.func116, Tryd.ntmps116
  go_wp2_with fail
  go_loopw [16] (fun k W => ∃ k' : Nat, k' ≤ 12 ∧ Hid (St n k' B) ∧ k = .int .i64 k' ∧ Hid (Old w W) ∧ Hid (HasP w.heap.size W)) (fun k _ => 12 - (intOf k).toNat)
  case atStart => exact ⟨0, by omega, HS, rfl, Old.alloc (Old.refl _) _, hasP_new _ _⟩
  case round =>
    obtain ⟨k, hk, H1, rfl, G1, C1⟩ := hrel
    clear HS
    by_cases hlt : k < 12
    · have hdk : decide ((k : Int) < 12) = true := by simp; omega
      obtain ⟨a1, a2, a3, a4⟩ := at_k k hlt
      have hc := C1.out k hlt
      generalize smallP.getD k 0 = p at *
      have hpn : ¬ p = 0 := by omega
      by_cases hm : n % p = 0
      · have HB : Hid ((n == p) = B) := (H1.out.hit (p := p) a1 hm).symm
        have hbm : ((n : Int) % (p : Int) == 0) = true := by simp; omega
        clear hm a1 a2
        go_wp2_with fail
        go_ret
        exact ⟨ret_bool ((beq_cast n p).trans HB.out), G1.out⟩
      · have H2 : Hid (St n (k + 1) B) := H1.out.next (p := p) a1 a2 hm
        have hbm : ((n : Int) % (p : Int) == 0) = false := by simp; omega
        clear hm a1 a2
        go_wp2_with fail
        exact ⟨⟨k + 1, by omega, H2, by go_num, G1, C1⟩, by simp [intOf]; omega⟩
    · have hdk : decide ((k : Int) < 12) = false := by simp; omega
      obtain rfl : k = 12 := by omega
      obtain ⟨hw0, h41⟩ := H1.out.fin h2
      have HN : Hid (n % 2 ≠ 0) := H1.out.no 2 (by decide)
      have H3 : Hid (wit n (smallP.drop 0) = B) := hw0
      clear H1 hw0 C1
      obtain ⟨w1, rfl⟩ : ∃ w1 : World, w1 = wr := ⟨_, rfl⟩
      have HD0 : Hid ((n - 1) * 2 ^ 0 = n - 1) := by show _ = _; simp
      go_wp2_with fail
      go_loop [5, 6] (fun d s => ∃ d' s' : Nat, 0 < d' ∧ d' < 18446744073709551616 ∧ s' < 64 ∧ Hid (d' * 2 ^ s' = n - 1) ∧ d = .int .u64 d' ∧ s = .int .i64 s') (fun d _ => (intOf d).toNat)
      case atStart => exact ⟨n - 1, 0, by omega, by omega, by omega, HD0, val_eq (by omega), rfl⟩
      case round =>
        obtain ⟨d, s, hd0, hd64, hs, HD, rfl, rfl⟩ := hrel
        clear HD0
        have An := and_one_u64 (d : Int) (by omega) (by omega)
        by_cases he : d % 2 = 0
        · have hbit : (bits BinOp.and IntKind.u64 (d : Int) 1 == 0) = true := by rw [An]; simp; omega
          obtain ⟨hs2, hd2'⟩ := halve d s n hd0 he (by omega) HD.out
          have HD2 : Hid (d / 2 * 2 ^ (s + 1) = n - 1) := hd2'
          clear An hd2' HD
          go_wp2_with fail
          exact ⟨⟨d / 2, s + 1, by omega, by omega, hs2, HD2, by go_num, by go_num⟩, by simp [intOf]; omega⟩
        · have hbit : (bits BinOp.and IntKind.u64 (d : Int) 1 == 0) = false := by rw [An]; simp; omega
          have hcz := ctz_of d s n h2 hd64 hs HD.out (by omega) (by omega)
          have hdd : (n - 1) / 2 ^ s = d := by rw [← HD.out]; exact Nat.mul_div_cancel _ (Nat.two_pow_pos s)
          have HP : Hid (∀ a, passB n a = (powM a d n == 1 || sqs n s (powM a d n))) := by
            intro a
            unfold passB
            rw [hcz, hdd]
          have hs1 : 1 ≤ s := by
            rcases Nat.eq_zero_or_pos s with h0 | h0
            · exfalso
              have := HD.out
              rw [h0] at this
              simp at this
              have hodd := HN.out
              omega
            · exact h0
          clear An HD hcz hdd
          go_wp2_with fail
          go_loopw [39] (fun k W => ∃ k' : Nat, k' ≤ 12 ∧ Hid (wit n (smallP.drop k') = B) ∧ k = .int .i64 k' ∧ Hid (Old w W) ∧ Hid (HasP w1.heap.size W)) (fun k _ => 12 - (intOf k).toNat)
          case atStart => exact ⟨0, by omega, H3, rfl, Old.alloc G1.out _, hasP_new _ _⟩
          case round =>
            obtain ⟨k, hk3, H4, rfl, G2, C2⟩ := hrel
            clear H3
            obtain ⟨w2, rfl⟩ : ∃ w2 : World, w2 = wr := ⟨_, rfl⟩
            by_cases hlt : k < 12
            · have hdk3 : decide ((k : Int) < 12) = true := by simp; omega
              obtain ⟨a1, _, a3, a4⟩ := at_k k hlt
              have hw := wit_step n k _ a1
              have hc := C2.out k hlt
              generalize smallP.getD k 0 = a at *
              have H4' := H4.out
              rw [hw] at H4'
              have H5 : Hid ((passB n a && wit n (smallP.drop (k + 1))) = B) := H4'
              clear H4' hw H4 a1
              have hTp := HP.out a
              have cpw := fun W => spec_PowBig a d n W (by omega) (by omega) hd64 hn
              have hx0 := powM_lt a d n (by omega)
              generalize powM a d n = x0 at *
              generalize hT : passB n a = T at *
              have o1 : ∃ o : Bool, ((x0 == 1 || x0 == n - 1) = o) := ⟨_, rfl⟩
              obtain ⟨o, ho⟩ := o1
              have HT0 : Hid ((o || sqs n (s - 1) (x0 * x0 % n)) = T) := by
                show _ = _
                rw [hTp, ← ho, show s = (s - 1) + 1 by omega, sqs, Bool.or_assoc]
                simp
              clear hTp hT
              have hcase : (x0 = 1 ∧ o = true) ∨ (x0 ≠ 1 ∧ x0 = n - 1 ∧ o = true) ∨ (x0 ≠ 1 ∧ x0 ≠ n - 1 ∧ o = false) := by
                rw [← ho]
                by_cases e1 : x0 = 1
                · left; exact ⟨e1, by simp [e1]⟩
                · right
                  by_cases e2 : x0 = n - 1
                  · left; exact ⟨e1, e2, by simp [e2]⟩
                  · right; exact ⟨e1, e2, by simp [e1, e2]⟩
              clear ho
              rcases hcase with ⟨e1, rfl⟩ | ⟨e1, e2, rfl⟩ | ⟨e1, e2, rfl⟩
              · have hb1 : ((x0 : Int) == 1) = true := by simp; omega
                clear e1
                go_wp2_with fail
                refine (cpw _).mono ?_
                rintro e w3 ⟨rfl, rfl⟩
                go_wp2_with fail
                go_loopw [9, 10, 11] (fun x o k W => ∃ (x' : Nat) (o' : Bool) (k' : Nat), x' < n ∧ 1 ≤ k' ∧ k' ≤ s ∧ Hid ((o' || sqs n (s - k') (x' * x' % n)) = T) ∧ x = .int .u64 x' ∧ o = .bool o' ∧ k = .int .i64 k' ∧ Hid (Old w W) ∧ Hid (HasP w1.heap.size W)) (fun _ _ k _ => s - (intOf k).toNat)
                case atStart => exact ⟨x0, _, 1, hx0, by omega, by omega, HT0, rfl, rfl, rfl, G2, C2⟩
                case round =>
                  obtain ⟨x, o, kk, hx, hkk1, hkk, H6, rfl, rfl, rfl, G3, C3⟩ := hrel
                  clear HT0 cpw
                  cases o
                  · by_cases hin : kk < s
                    · have hdi : decide ((kk : Int) < (s : Int)) = true := by simp; omega
                      have csq := fun W => spec_MulBig x x n W hx (by omega) hn
                      have H6' := H6.out
                      have mx : x * x % n < n := Nat.mod_lt _ (by omega)
                      generalize x * x % n = xx at *
                      rw [Bool.false_or, show s - kk = (s - (kk + 1)) + 1 by omega, sqs] at H6'
                      have H7 : Hid ((xx == n - 1 || sqs n (s - (kk + 1)) (xx * xx % n)) = T) := H6'
                      clear H6' H6
                      have hbq : ((xx : Int) == (n : Int) - 1) = (xx == n - 1) := by rw [Bool.eq_iff_iff]; simp; omega
                      generalize (xx == n - 1) = oo at *
                      go_wp2_with fail
                      refine (csq _).mono ?_
                      rintro e w4 ⟨rfl, rfl⟩
                      go_wp2_with fail
                      go_roundw
                      case rel => exact ⟨xx, oo, kk + 1, mx, by omega, by omega, H7, rfl, rfl, by go_num, G3, C3⟩
                      case measure => simp [intOf]; omega
                    · have hdi : decide ((kk : Int) < (s : Int)) = false := by simp; omega
                      obtain rfl : kk = s := by omega
                      have HB : Hid (false = B) := by
                        show _ = _
                        rw [← H5.out, ← H6.out, Nat.sub_self, sqs]
                        rfl
                      clear H6 H5
                      go_wp2_with fail
                      go_ret
                      exact ⟨ret_bool HB.out, G3.out⟩
                  · have HB : Hid (wit n (smallP.drop (k + 1)) = B) := by
                      show _ = _
                      rw [← H5.out, ← H6.out]
                      rfl
                    clear H6 H5
                    by_cases hin : kk < s
                    · have hdi : decide ((kk : Int) < (s : Int)) = true := by simp; omega
                      go_wp2_with fail
                      go_roundw
                      case rel => exact ⟨k + 1, by omega, HB, by go_num, G3, C3⟩
                      case measure => simp [intOf]; omega
                    · have hdi : decide ((kk : Int) < (s : Int)) = false := by simp; omega
                      go_wp2_with fail
                      go_roundw
                      case rel => exact ⟨k + 1, by omega, HB, by go_num, G3, C3⟩
                      case measure => simp [intOf]; omega
              · have hb1 : ((x0 : Int) == 1) = false := by simp; omega
                have hb2 : ((x0 : Int) == (n : Int) - 1) = true := by simp; omega
                clear e1 e2
                go_wp2_with fail
                refine (cpw _).mono ?_
                rintro e w3 ⟨rfl, rfl⟩
                go_wp2_with fail
                go_loopw [9, 10, 11] (fun x o k W => ∃ (x' : Nat) (o' : Bool) (k' : Nat), x' < n ∧ 1 ≤ k' ∧ k' ≤ s ∧ Hid ((o' || sqs n (s - k') (x' * x' % n)) = T) ∧ x = .int .u64 x' ∧ o = .bool o' ∧ k = .int .i64 k' ∧ Hid (Old w W) ∧ Hid (HasP w1.heap.size W)) (fun _ _ k _ => s - (intOf k).toNat)
                case atStart => exact ⟨x0, _, 1, hx0, by omega, by omega, HT0, rfl, rfl, rfl, G2, C2⟩
                case round =>
                  obtain ⟨x, o, kk, hx, hkk1, hkk, H6, rfl, rfl, rfl, G3, C3⟩ := hrel
                  clear HT0 cpw
                  cases o
                  · by_cases hin : kk < s
                    · have hdi : decide ((kk : Int) < (s : Int)) = true := by simp; omega
                      have csq := fun W => spec_MulBig x x n W hx (by omega) hn
                      have H6' := H6.out
                      have mx : x * x % n < n := Nat.mod_lt _ (by omega)
                      generalize x * x % n = xx at *
                      rw [Bool.false_or, show s - kk = (s - (kk + 1)) + 1 by omega, sqs] at H6'
                      have H7 : Hid ((xx == n - 1 || sqs n (s - (kk + 1)) (xx * xx % n)) = T) := H6'
                      clear H6' H6
                      have hbq : ((xx : Int) == (n : Int) - 1) = (xx == n - 1) := by rw [Bool.eq_iff_iff]; simp; omega
                      generalize (xx == n - 1) = oo at *
                      go_wp2_with fail
                      refine (csq _).mono ?_
                      rintro e w4 ⟨rfl, rfl⟩
                      go_wp2_with fail
                      go_roundw
                      case rel => exact ⟨xx, oo, kk + 1, mx, by omega, by omega, H7, rfl, rfl, by go_num, G3, C3⟩
                      case measure => simp [intOf]; omega
                    · have hdi : decide ((kk : Int) < (s : Int)) = false := by simp; omega
                      obtain rfl : kk = s := by omega
                      have HB : Hid (false = B) := by
                        show _ = _
                        rw [← H5.out, ← H6.out, Nat.sub_self, sqs]
                        rfl
                      clear H6 H5
                      go_wp2_with fail
                      go_ret
                      exact ⟨ret_bool HB.out, G3.out⟩
                  · have HB : Hid (wit n (smallP.drop (k + 1)) = B) := by
                      show _ = _
                      rw [← H5.out, ← H6.out]
                      rfl
                    clear H6 H5
                    by_cases hin : kk < s
                    · have hdi : decide ((kk : Int) < (s : Int)) = true := by simp; omega
                      go_wp2_with fail
                      go_roundw
                      case rel => exact ⟨k + 1, by omega, HB, by go_num, G3, C3⟩
                      case measure => simp [intOf]; omega
                    · have hdi : decide ((kk : Int) < (s : Int)) = false := by simp; omega
                      go_wp2_with fail
                      go_roundw
                      case rel => exact ⟨k + 1, by omega, HB, by go_num, G3, C3⟩
                      case measure => simp [intOf]; omega
              · have hb1 : ((x0 : Int) == 1) = false := by simp; omega
                have hb2 : ((x0 : Int) == (n : Int) - 1) = false := by simp; omega
                clear e1 e2
                go_wp2_with fail
                refine (cpw _).mono ?_
                rintro e w3 ⟨rfl, rfl⟩
                go_wp2_with fail
                go_loopw [9, 10, 11] (fun x o k W => ∃ (x' : Nat) (o' : Bool) (k' : Nat), x' < n ∧ 1 ≤ k' ∧ k' ≤ s ∧ Hid ((o' || sqs n (s - k') (x' * x' % n)) = T) ∧ x = .int .u64 x' ∧ o = .bool o' ∧ k = .int .i64 k' ∧ Hid (Old w W) ∧ Hid (HasP w1.heap.size W)) (fun _ _ k _ => s - (intOf k).toNat)
                case atStart => exact ⟨x0, _, 1, hx0, by omega, by omega, HT0, rfl, rfl, rfl, G2, C2⟩
                case round =>
                  obtain ⟨x, o, kk, hx, hkk1, hkk, H6, rfl, rfl, rfl, G3, C3⟩ := hrel
                  clear HT0 cpw
                  cases o
                  · by_cases hin : kk < s
                    · have hdi : decide ((kk : Int) < (s : Int)) = true := by simp; omega
                      have csq := fun W => spec_MulBig x x n W hx (by omega) hn
                      have H6' := H6.out
                      have mx : x * x % n < n := Nat.mod_lt _ (by omega)
                      generalize x * x % n = xx at *
                      rw [Bool.false_or, show s - kk = (s - (kk + 1)) + 1 by omega, sqs] at H6'
                      have H7 : Hid ((xx == n - 1 || sqs n (s - (kk + 1)) (xx * xx % n)) = T) := H6'
                      clear H6' H6
                      have hbq : ((xx : Int) == (n : Int) - 1) = (xx == n - 1) := by rw [Bool.eq_iff_iff]; simp; omega
                      generalize (xx == n - 1) = oo at *
                      go_wp2_with fail
                      refine (csq _).mono ?_
                      rintro e w4 ⟨rfl, rfl⟩
                      go_wp2_with fail
                      go_roundw
                      case rel => exact ⟨xx, oo, kk + 1, mx, by omega, by omega, H7, rfl, rfl, by go_num, G3, C3⟩
                      case measure => simp [intOf]; omega
                    · have hdi : decide ((kk : Int) < (s : Int)) = false := by simp; omega
                      obtain rfl : kk = s := by omega
                      have HB : Hid (false = B) := by
                        show _ = _
                        rw [← H5.out, ← H6.out, Nat.sub_self, sqs]
                        rfl
                      clear H6 H5
                      go_wp2_with fail
                      go_ret
                      exact ⟨ret_bool HB.out, G3.out⟩
                  · have HB : Hid (wit n (smallP.drop (k + 1)) = B) := by
                      show _ = _
                      rw [← H5.out, ← H6.out]
                      rfl
                    clear H6 H5
                    by_cases hin : kk < s
                    · have hdi : decide ((kk : Int) < (s : Int)) = true := by simp; omega
                      go_wp2_with fail
                      go_roundw
                      case rel => exact ⟨k + 1, by omega, HB, by go_num, G3, C3⟩
                      case measure => simp [intOf]; omega
                    · have hdi : decide ((kk : Int) < (s : Int)) = false := by simp; omega
                      go_wp2_with fail
                      go_roundw
                      case rel => exact ⟨k + 1, by omega, HB, by go_num, G3, C3⟩
                      case measure => simp [intOf]; omega
            · have hdk3 : decide ((k : Int) < 12) = false := by simp; omega
              obtain rfl : k = 12 := by omega
              have HB : Hid (true = B) := H4.out
              clear H4
              go_wp2_with fail
              go_ret
              exact ⟨ret_bool HB.out, G2.out⟩
end Go.Proofs.YtplaaglckbfklaaDoor
/- Proved: the contract of the library function Len64 at every word: how many bits a number has. -/
namespace Go.Proofs.YtplaaglckbfklaaDoor
theorem len_at (k b : Int) (x : Nat) (hb : 0 ≤ b) (hb' : b < 256) (hk : 0 ≤ k) (hk' : k ≤ 64) (h : (Lib.bitLen x : Int) = k + (Lib.bitLen b.toNat : Int)) :
    (k + ((Lib.len8 (b % 256) + 9223372036854775808) % 18446744073709551616 - 9223372036854775808) + 9223372036854775808) % 18446744073709551616 - 9223372036854775808 = (Lib.bitLen x : Int) := by
  rw [Int.emod_eq_of_lt hb hb', Lib.len8_int b hb (by omega), h]
  have l := Lib.bitLen_le8 ⟨b.toNat, by omega⟩
  simp only at l
  omega
set_option maxHeartbeats 1000000 in
set_option maxRecDepth 100000 in
theorem bits_Len64 (x : Int) (w : World) (h0 : 0 ≤ x) (h1 : x ≤ 18446744073709551615) :
    Calls Tryd.prog 182 #[.int .u64 x] w fun e w' => e = .returned (.int .i64 (Lib.bitLen x.toNat)) ∧ w' = w := by
  go_enter Tryd.func182, Tryd.ntmps182
  go_wp2
  all_goals (go_ret; refine ⟨congrArg Ending.returned (congrArg (Value.int IntKind.i64) ?_), rfl⟩)
  · rw [show x / 4294967296 / 65536 / 256 = x / 72057594037927936 by omega]
    refine len_at 56 (x / 72057594037927936) _ (by omega) (by omega) (by omega) (by omega) ?_
    rw [Lib.bitLen_shift56 x.toNat (by omega) (by omega), show (x / 72057594037927936).toNat = x.toNat / 72057594037927936 by omega]
    omega
  · rw [show x / 4294967296 / 65536 = x / 281474976710656 by omega]
    refine len_at 48 (x / 281474976710656) _ (by omega) (by omega) (by omega) (by omega) ?_
    rw [Lib.bitLen_shift48 x.toNat (by omega) (by omega), show (x / 281474976710656).toNat = x.toNat / 281474976710656 by omega]
    omega
  · rw [show x / 4294967296 / 256 = x / 1099511627776 by omega]
    refine len_at 40 (x / 1099511627776) _ (by omega) (by omega) (by omega) (by omega) ?_
    rw [Lib.bitLen_shift40 x.toNat (by omega) (by omega), show (x / 1099511627776).toNat = x.toNat / 1099511627776 by omega]
    omega
  · refine len_at 32 (x / 4294967296) _ (by omega) (by omega) (by omega) (by omega) ?_
    rw [Lib.bitLen_shift32 x.toNat (by omega) (by omega), show (x / 4294967296).toNat = x.toNat / 4294967296 by omega]
    omega
  · rw [show x / 65536 / 256 = x / 16777216 by omega]
    refine len_at 24 (x / 16777216) _ (by omega) (by omega) (by omega) (by omega) ?_
    rw [Lib.bitLen_shift24 x.toNat (by omega) (by omega), show (x / 16777216).toNat = x.toNat / 16777216 by omega]
    omega
  · refine len_at 16 (x / 65536) _ (by omega) (by omega) (by omega) (by omega) ?_
    rw [Lib.bitLen_shift16 x.toNat (by omega) (by omega), show (x / 65536).toNat = x.toNat / 65536 by omega]
    omega
  · refine len_at 8 (x / 256) _ (by omega) (by omega) (by omega) (by omega) ?_
    rw [Lib.bitLen_shift8 x.toNat (by omega) (by omega), show (x / 256).toNat = x.toNat / 256 by omega]
    omega
  · rw [Int.emod_eq_of_lt h0 (by omega)]
    exact Lib.len8_int x h0 (by omega)
end Go.Proofs.YtplaaglckbfklaaDoor
/- Proved: the walk through the library function Div64 where the high word is not 0, out of true digits. -/
namespace Go.Proofs.YtplaaglckbfklaaDoor
open Go.ChangeShapes Go.WideShapes Go.ChangeAt Go.RowKit
open M1
set_option linter.unusedVariables false
theorem bitLen_bd : ∀ (k x : Nat), 0 < x → x < 2 ^ k → k ≤ 64 → 1 ≤ Lib.bitLen x ∧ Lib.bitLen x ≤ k ∧ 2 ^ (Lib.bitLen x - 1) ≤ x ∧ x < 2 ^ Lib.bitLen x
  | 0, x, h0, h, _ => by have : x = 0 := by simpa using h
                         omega
  | k + 1, x, h0, h, hk => by
    have hp : 2 ^ (k + 1) ≤ 2 ^ 64 := Nat.pow_le_pow_right (by omega) hk
    rw [Lib.bitLen_half x (by omega) (by omega)]
    rw [Nat.pow_succ] at h
    by_cases h1 : x / 2 = 0
    · rw [h1]
      have e : Lib.bitLen 0 = 0 := by decide
      rw [e]
      refine ⟨by omega, by omega, ?_, by omega⟩
      show 2 ^ 0 ≤ x
      omega
    · obtain ⟨i1, i2, i3, i4⟩ := bitLen_bd k (x / 2) (by omega) (by omega) (by omega)
      refine ⟨by omega, by omega, ?_, ?_⟩
      · rw [show 1 + Lib.bitLen (x / 2) - 1 = (Lib.bitLen (x / 2) - 1) + 1 by omega, Nat.pow_succ]
        omega
      · rw [Nat.add_comm, Nat.pow_succ]
        omega
theorem bits_lz (y : Nat) (w : World) (h0 : 0 < y) (hy : y < 18446744073709551616) :
    Calls Tryd.prog 230 #[.int .u64 y] w fun e w' => e = .returned (.int .i64 ((64 - Lib.bitLen y : Nat) : Int)) ∧ w' = w := by
  have b := bitLen_bd 64 y h0 hy (by omega)
  have c := fun W => bits_Len64 (y : Int) W (by omega) (by omega)
  rw [Int.toNat_natCast] at c
  have e : ((64 - Lib.bitLen y : Nat) : Int) = 64 - (Lib.bitLen y : Int) := by omega
  rw [e]
  obtain ⟨b1, b2, _, _⟩ := b
  clear e
  generalize Lib.bitLen y = L at *
  go_enter Tryd.func230, Tryd.ntmps230
  go_wp2_with (go_at_call 182; refine (c _).mono ?_; rintro e w' ⟨rfl, rfl⟩)
  go_ret
  exact ⟨rfl, rfl⟩
theorem mul_K (q y0 : Nat) (hq : q < 4294967296) (hy : y0 < 4294967296) : q * y0 ≤ 18446744065119617025 := by
  have := Nat.mul_le_mul (show q ≤ 4294967295 by omega) (show y0 ≤ 4294967295 by omega)
  omega
/-- what the wrapped sums and products of a digit's rest come to -/
theorem wrap_rest (u v Q Y t : Nat) (h : Q * Y ≤ u * 4294967296 + v) (ht : u * 4294967296 + v - Q * Y = t) (htl : t < 18446744073709551616) :
    IntKind.u64.wrap (IntKind.u64.wrap (IntKind.u64.wrap ((u : Int) * 4294967296) + (v : Int)) - IntKind.u64.wrap ((Q : Int) * (Y : Int))) = (t : Int) := by
  have e : (Q : Int) * (Y : Int) = ((Q * Y : Nat) : Int) := by simp
  rw [e]
  simp only [IntKind.wrap_u64]
  generalize Q * Y = z at *
  omega
set_option maxHeartbeats 4000000 in
theorem div_walk (hi lo y s Y y1 y0 u low v1 v0 Q1 t Q0 R : Nat) (w : World) (hhi : 0 < hi) (hy : hi < y) (hyb : y < 18446744073709551616) (hlo : lo < 18446744073709551616) (hs : s < 64)
    (cz : ∀ W, Calls Tryd.prog 230 #[.int .u64 y] W fun e w' => e = .returned (.int .i64 s) ∧ w' = W)
    (r1 : IntKind.u64.wrap ((y : Int) * 2 ^ s) = (Y : Int)) (r2 : (Y : Int) / 4294967296 = (y1 : Int)) (r3 : bits BinOp.and IntKind.u64 (Y : Int) 4294967295 = (y0 : Int))
    (r4 : bits BinOp.or IntKind.u64 (IntKind.u64.wrap ((hi : Int) * 2 ^ s)) ((lo : Int) / 2 ^ (64 - s)) = (u : Int)) (r5 : IntKind.u64.wrap ((lo : Int) * 2 ^ s) = (low : Int))
    (r6 : (low : Int) / 4294967296 = (v1 : Int)) (r7 : bits BinOp.and IntKind.u64 (low : Int) 4294967295 = (v0 : Int))
    (HY : Hid (Y = y1 * 4294967296 + y0)) (A1 : Hid (Half u v1 y1 y0)) (A2 : Hid (Half t v0 y1 y0)) (hub : u < 18446744073709551616) (htb : t < 18446744073709551616)
    (E1 : Hid (Q1 = (u * 4294967296 + v1) / (y1 * 4294967296 + y0))) (E2 : Hid (Q0 = (t * 4294967296 + v0) / (y1 * 4294967296 + y0)))
    (W1 : Hid (IntKind.u64.wrap (IntKind.u64.wrap (IntKind.u64.wrap ((u : Int) * 4294967296) + (v1 : Int)) - IntKind.u64.wrap ((Q1 : Int) * (Y : Int))) = (t : Int)))
    (W2 : Hid (IntKind.u64.wrap (IntKind.u64.wrap (IntKind.u64.wrap ((t : Int) * 4294967296) + (v0 : Int)) - IntKind.u64.wrap ((Q0 : Int) * (Y : Int))) / 2 ^ s = (R : Int))) :
    Calls Tryd.prog 228 #[.int .u64 hi, .int .u64 lo, .int .u64 y] w fun e w' => ∃ q : Int, e = .returned (.tuple #[.int .u64 q, .int .u64 R]) ∧ w' = w := by
  have d1 : ((y : Int) == 0) = false := by simp; omega
  have d2 : ((hi : Int) == 0) = false := by simp; omega
  have d3 : decide ((y : Int) ≤ (hi : Int)) = false := by simp; omega
  have hy1a := A1.out.y1lo
  have hy1b := A1.out.y1hi
  have hy0b := A1.out.y0hi
  have hv1b := A1.out.vhi
  have hv0b := A2.out.vhi
  have hy1n : ¬ y1 = 0 := by omega
  obtain ⟨D0, da1, da2, da3⟩ := Dig.start A1.out
  have HD0 : Hid (Dig u v1 y1 y0 (u / y1) (u - u / y1 * y1)) := D0
  clear D0
  have r8 : (u : Int) / (y1 : Int) = ((u / y1 : Nat) : Int) := by simp
  generalize hq0 : u / y1 = q0 at *
  have r9 : (q0 : Int) * (y1 : Int) = ((q0 * y1 : Nat) : Int) := by simp
  generalize hp0 : q0 * y1 = p0 at *
  clear hq0 hp0
  go_enter Tryd.func228, Tryd.ntmps228
  go_wp2_with (go_at_call 230; refine (cz _).mono ?_; rintro e w' ⟨rfl, rfl⟩)
  clear r1 r2 r3 r4 r5 r6 r7 r8 r9 cz d1 d2 d3
  have HD0' := HD0
  obtain ⟨D1, db1, db2, db3⟩ := Dig.start A2.out
  have HE0 : Hid (Dig t v0 y1 y0 (t / y1) (t - t / y1 * y1)) := D1
  clear D1
  have r10 : (t : Int) / (y1 : Int) = ((t / y1 : Nat) : Int) := by simp
  generalize hq2 : t / y1 = q2 at *
  have r11 : (q2 : Int) * (y1 : Int) = ((q2 * y1 : Nat) : Int) := by simp
  generalize hp2 : q2 * y1 = p2 at *
  clear hq2 hp2
  go_loop [15, 16] (fun a b => ∃ q r : Nat, q ≤ 4294967297 ∧ r < 4294967296 ∧ Hid (Dig u v1 y1 y0 q r) ∧ a = .int .u64 q ∧ b = .int .u64 r) (fun a _ => (intOf a).toNat)
  case atStart => exact ⟨q0, u - p0, da3, da2, HD0, rfl, val_eq (by omega)⟩
  case round =>
    obtain ⟨q, r, hq, hr, HDa, rfl, rfl⟩ := hrel
    clear HD0 HD0' da1 da2 da3
    have w1 := W1.out
    by_cases hbig : 4294967296 ≤ q
    · have k1 : decide ((4294967296 : Int) ≤ (q : Int)) = true := by simp; omega
      obtain ⟨hq1, hm⟩ := Dig.more A1.out HDa.out (Or.inl hbig)
      have HM : Hid (Dig u v1 y1 y0 (q - 1) (r + y1)) := hm
      clear hm HDa
      by_cases hbr : 4294967296 ≤ r + y1
      · have k2 : decide ((4294967296 : Int) ≤ (r : Int) + (y1 : Int)) = true := by simp; omega
        have HQ : q - 1 = Q1 := by rw [E1.out]; exact Dig.broke A1.out HM.out (by omega) hbr
        have kq : (q : Int) - 1 = (Q1 : Int) := by omega
        clear HM HQ
        go_wp2_with fail
        try clear kq
        clear w1 r10 r11
        go_loop [16, 18] (fun b a => ∃ q r : Nat, q ≤ 4294967297 ∧ r < 4294967296 ∧ Hid (Dig t v0 y1 y0 q r) ∧ a = .int .u64 q ∧ b = .int .u64 r) (fun _ a => (intOf a).toNat)
        case atStart => exact ⟨q2, t - p2, db3, db2, HE0, rfl, val_eq (by omega)⟩
        case round =>
          obtain ⟨q', r', hq', hr', HD2, rfl, rfl⟩ := hrel
          clear HE0 db1 db2 db3
          have w2 := W2.out
          by_cases hbig2 : 4294967296 ≤ q'
          · have k4 : decide ((4294967296 : Int) ≤ (q' : Int)) = true := by simp; omega
            obtain ⟨hq3, hm⟩ := Dig.more A2.out HD2.out (Or.inl hbig2)
            have HM : Hid (Dig t v0 y1 y0 (q' - 1) (r' + y1)) := hm
            clear hm HD2
            by_cases hbr2 : 4294967296 ≤ r' + y1
            · have k5 : decide ((4294967296 : Int) ≤ (r' : Int) + (y1 : Int)) = true := by simp; omega
              have HQ2 : q' - 1 = Q0 := by rw [E2.out]; exact Dig.broke A2.out HM.out (by omega) hbr2
              have kp : (q' : Int) - 1 = (Q0 : Int) := by omega
              clear HM HQ2
              go_wp2_with fail
              go_ret2
              exact ⟨⟨_, ret_two rfl rfl⟩, rfl⟩
            · have k5 : decide ((4294967296 : Int) ≤ (r' : Int) + (y1 : Int)) = false := by simp; omega
              clear w2
              go_wp2_with fail
              go_round
              case rel => exact ⟨q' - 1, r' + y1, by omega, by omega, HM, val_eq (by omega), val_eq (by omega)⟩
              case measure => simp [intOf]; omega
          · have k4 : decide ((4294967296 : Int) ≤ (q' : Int)) = false := by simp; omega
            have hpb2 := mul_K q' y0 (by omega) hy0b
            have e6 : (q' : Int) * (y0 : Int) = ((q' * y0 : Nat) : Int) := by simp
            by_cases hgt2 : 4294967296 * r' + v0 < q' * y0
            · have hor : 4294967296 ≤ q' ∨ 4294967296 * r' + v0 < q' * y0 := Or.inr hgt2
              obtain ⟨hq3, hm⟩ := Dig.more A2.out HD2.out (hor)
              have HM : Hid (Dig t v0 y1 y0 (q' - 1) (r' + y1)) := hm
              clear hm hor HD2
              generalize q' * y0 = pp2 at *
              have k6 : decide ((4294967296 : Int) * (r' : Int) + (v0 : Int) < (pp2 : Int)) = true := by simp; omega
              by_cases hbr2 : 4294967296 ≤ r' + y1
              · have k5 : decide ((4294967296 : Int) ≤ (r' : Int) + (y1 : Int)) = true := by simp; omega
                have HQ2 : q' - 1 = Q0 := by rw [E2.out]; exact Dig.broke A2.out HM.out (by omega) hbr2
                have kp : (q' : Int) - 1 = (Q0 : Int) := by omega
                clear HM HQ2
                go_wp2_with fail
                go_ret2
                exact ⟨⟨_, ret_two rfl rfl⟩, rfl⟩
              · have k5 : decide ((4294967296 : Int) ≤ (r' : Int) + (y1 : Int)) = false := by simp; omega
                clear w2
                go_wp2_with fail
                go_round
                case rel => exact ⟨q' - 1, r' + y1, by omega, by omega, HM, val_eq (by omega), val_eq (by omega)⟩
                case measure => simp [intOf]; omega
            · have HQ2 : q' = Q0 := by rw [E2.out]; exact Dig.done A2.out HD2.out (by omega)
              clear HD2
              generalize q' * y0 = pp2 at *
              have k6 : decide ((4294967296 : Int) * (r' : Int) + (v0 : Int) < (pp2 : Int)) = false := by simp; omega
              subst HQ2
              go_wp2_with fail
              go_ret2
              exact ⟨⟨_, ret_two rfl rfl⟩, rfl⟩
      · have k2 : decide ((4294967296 : Int) ≤ (r : Int) + (y1 : Int)) = false := by simp; omega
        clear w1 r10 r11
        go_wp2_with fail
        go_round
        case rel => exact ⟨q - 1, r + y1, by omega, by omega, HM, val_eq (by omega), val_eq (by omega)⟩
        case measure => simp [intOf]; omega
    · have k1 : decide ((4294967296 : Int) ≤ (q : Int)) = false := by simp; omega
      have hpb := mul_K q y0 (by omega) hy0b
      have e5 : (q : Int) * (y0 : Int) = ((q * y0 : Nat) : Int) := by simp
      by_cases hgt : 4294967296 * r + v1 < q * y0
      · have hor : 4294967296 ≤ q ∨ 4294967296 * r + v1 < q * y0 := Or.inr hgt
        obtain ⟨hq1, hm⟩ := Dig.more A1.out HDa.out (hor)
        have HM : Hid (Dig u v1 y1 y0 (q - 1) (r + y1)) := hm
        clear hm hor HDa
        generalize q * y0 = pp at *
        have k3 : decide ((4294967296 : Int) * (r : Int) + (v1 : Int) < (pp : Int)) = true := by simp; omega
        by_cases hbr : 4294967296 ≤ r + y1
        · have k2 : decide ((4294967296 : Int) ≤ (r : Int) + (y1 : Int)) = true := by simp; omega
          have HQ : q - 1 = Q1 := by rw [E1.out]; exact Dig.broke A1.out HM.out (by omega) hbr
          have kq : (q : Int) - 1 = (Q1 : Int) := by omega
          clear HM HQ
          go_wp2_with fail
          try clear kq
          clear w1 r10 r11
          go_loop [16, 18] (fun b a => ∃ q r : Nat, q ≤ 4294967297 ∧ r < 4294967296 ∧ Hid (Dig t v0 y1 y0 q r) ∧ a = .int .u64 q ∧ b = .int .u64 r) (fun _ a => (intOf a).toNat)
          case atStart => exact ⟨q2, t - p2, db3, db2, HE0, rfl, val_eq (by omega)⟩
          case round =>
            obtain ⟨q', r', hq', hr', HD2, rfl, rfl⟩ := hrel
            clear HE0 db1 db2 db3
            have w2 := W2.out
            by_cases hbig2 : 4294967296 ≤ q'
            · have k4 : decide ((4294967296 : Int) ≤ (q' : Int)) = true := by simp; omega
              obtain ⟨hq3, hm⟩ := Dig.more A2.out HD2.out (Or.inl hbig2)
              have HM : Hid (Dig t v0 y1 y0 (q' - 1) (r' + y1)) := hm
              clear hm HD2
              by_cases hbr2 : 4294967296 ≤ r' + y1
              · have k5 : decide ((4294967296 : Int) ≤ (r' : Int) + (y1 : Int)) = true := by simp; omega
                have HQ2 : q' - 1 = Q0 := by rw [E2.out]; exact Dig.broke A2.out HM.out (by omega) hbr2
                have kp : (q' : Int) - 1 = (Q0 : Int) := by omega
                clear HM HQ2
                go_wp2_with fail
                go_ret2
                exact ⟨⟨_, ret_two rfl rfl⟩, rfl⟩
              · have k5 : decide ((4294967296 : Int) ≤ (r' : Int) + (y1 : Int)) = false := by simp; omega
                clear w2
                go_wp2_with fail
                go_round
                case rel => exact ⟨q' - 1, r' + y1, by omega, by omega, HM, val_eq (by omega), val_eq (by omega)⟩
                case measure => simp [intOf]; omega
            · have k4 : decide ((4294967296 : Int) ≤ (q' : Int)) = false := by simp; omega
              have hpb2 := mul_K q' y0 (by omega) hy0b
              have e6 : (q' : Int) * (y0 : Int) = ((q' * y0 : Nat) : Int) := by simp
              by_cases hgt2 : 4294967296 * r' + v0 < q' * y0
              · have hor : 4294967296 ≤ q' ∨ 4294967296 * r' + v0 < q' * y0 := Or.inr hgt2
                obtain ⟨hq3, hm⟩ := Dig.more A2.out HD2.out (hor)
                have HM : Hid (Dig t v0 y1 y0 (q' - 1) (r' + y1)) := hm
                clear hm hor HD2
                generalize q' * y0 = pp2 at *
                have k6 : decide ((4294967296 : Int) * (r' : Int) + (v0 : Int) < (pp2 : Int)) = true := by simp; omega
                by_cases hbr2 : 4294967296 ≤ r' + y1
                · have k5 : decide ((4294967296 : Int) ≤ (r' : Int) + (y1 : Int)) = true := by simp; omega
                  have HQ2 : q' - 1 = Q0 := by rw [E2.out]; exact Dig.broke A2.out HM.out (by omega) hbr2
                  have kp : (q' : Int) - 1 = (Q0 : Int) := by omega
                  clear HM HQ2
                  go_wp2_with fail
                  go_ret2
                  exact ⟨⟨_, ret_two rfl rfl⟩, rfl⟩
                · have k5 : decide ((4294967296 : Int) ≤ (r' : Int) + (y1 : Int)) = false := by simp; omega
                  clear w2
                  go_wp2_with fail
                  go_round
                  case rel => exact ⟨q' - 1, r' + y1, by omega, by omega, HM, val_eq (by omega), val_eq (by omega)⟩
                  case measure => simp [intOf]; omega
              · have HQ2 : q' = Q0 := by rw [E2.out]; exact Dig.done A2.out HD2.out (by omega)
                clear HD2
                generalize q' * y0 = pp2 at *
                have k6 : decide ((4294967296 : Int) * (r' : Int) + (v0 : Int) < (pp2 : Int)) = false := by simp; omega
                subst HQ2
                go_wp2_with fail
                go_ret2
                exact ⟨⟨_, ret_two rfl rfl⟩, rfl⟩
        · have k2 : decide ((4294967296 : Int) ≤ (r : Int) + (y1 : Int)) = false := by simp; omega
          clear w1 r10 r11
          go_wp2_with fail
          go_round
          case rel => exact ⟨q - 1, r + y1, by omega, by omega, HM, val_eq (by omega), val_eq (by omega)⟩
          case measure => simp [intOf]; omega
      · have HQ : q = Q1 := by rw [E1.out]; exact Dig.done A1.out HDa.out (by omega)
        clear HDa
        generalize q * y0 = pp at *
        have k3 : decide ((4294967296 : Int) * (r : Int) + (v1 : Int) < (pp : Int)) = false := by simp; omega
        subst HQ
        go_wp2_with fail
        try clear kq
        clear w1 r10 r11
        go_loop [16, 18] (fun b a => ∃ q r : Nat, q ≤ 4294967297 ∧ r < 4294967296 ∧ Hid (Dig t v0 y1 y0 q r) ∧ a = .int .u64 q ∧ b = .int .u64 r) (fun _ a => (intOf a).toNat)
        case atStart => exact ⟨q2, t - p2, db3, db2, HE0, rfl, val_eq (by omega)⟩
        case round =>
          obtain ⟨q', r', hq', hr', HD2, rfl, rfl⟩ := hrel
          clear HE0 db1 db2 db3
          have w2 := W2.out
          by_cases hbig2 : 4294967296 ≤ q'
          · have k4 : decide ((4294967296 : Int) ≤ (q' : Int)) = true := by simp; omega
            obtain ⟨hq3, hm⟩ := Dig.more A2.out HD2.out (Or.inl hbig2)
            have HM : Hid (Dig t v0 y1 y0 (q' - 1) (r' + y1)) := hm
            clear hm HD2
            by_cases hbr2 : 4294967296 ≤ r' + y1
            · have k5 : decide ((4294967296 : Int) ≤ (r' : Int) + (y1 : Int)) = true := by simp; omega
              have HQ2 : q' - 1 = Q0 := by rw [E2.out]; exact Dig.broke A2.out HM.out (by omega) hbr2
              have kp : (q' : Int) - 1 = (Q0 : Int) := by omega
              clear HM HQ2
              go_wp2_with fail
              go_ret2
              exact ⟨⟨_, ret_two rfl rfl⟩, rfl⟩
            · have k5 : decide ((4294967296 : Int) ≤ (r' : Int) + (y1 : Int)) = false := by simp; omega
              clear w2
              go_wp2_with fail
              go_round
              case rel => exact ⟨q' - 1, r' + y1, by omega, by omega, HM, val_eq (by omega), val_eq (by omega)⟩
              case measure => simp [intOf]; omega
          · have k4 : decide ((4294967296 : Int) ≤ (q' : Int)) = false := by simp; omega
            have hpb2 := mul_K q' y0 (by omega) hy0b
            have e6 : (q' : Int) * (y0 : Int) = ((q' * y0 : Nat) : Int) := by simp
            by_cases hgt2 : 4294967296 * r' + v0 < q' * y0
            · have hor : 4294967296 ≤ q' ∨ 4294967296 * r' + v0 < q' * y0 := Or.inr hgt2
              obtain ⟨hq3, hm⟩ := Dig.more A2.out HD2.out (hor)
              have HM : Hid (Dig t v0 y1 y0 (q' - 1) (r' + y1)) := hm
              clear hm hor HD2
              generalize q' * y0 = pp2 at *
              have k6 : decide ((4294967296 : Int) * (r' : Int) + (v0 : Int) < (pp2 : Int)) = true := by simp; omega
              by_cases hbr2 : 4294967296 ≤ r' + y1
              · have k5 : decide ((4294967296 : Int) ≤ (r' : Int) + (y1 : Int)) = true := by simp; omega
                have HQ2 : q' - 1 = Q0 := by rw [E2.out]; exact Dig.broke A2.out HM.out (by omega) hbr2
                have kp : (q' : Int) - 1 = (Q0 : Int) := by omega
                clear HM HQ2
                go_wp2_with fail
                go_ret2
                exact ⟨⟨_, ret_two rfl rfl⟩, rfl⟩
              · have k5 : decide ((4294967296 : Int) ≤ (r' : Int) + (y1 : Int)) = false := by simp; omega
                clear w2
                go_wp2_with fail
                go_round
                case rel => exact ⟨q' - 1, r' + y1, by omega, by omega, HM, val_eq (by omega), val_eq (by omega)⟩
                case measure => simp [intOf]; omega
            · have HQ2 : q' = Q0 := by rw [E2.out]; exact Dig.done A2.out HD2.out (by omega)
              clear HD2
              generalize q' * y0 = pp2 at *
              have k6 : decide ((4294967296 : Int) * (r' : Int) + (v0 : Int) < (pp2 : Int)) = false := by simp; omega
              subst HQ2
              go_wp2_with fail
              go_ret2
              exact ⟨⟨_, ret_two rfl rfl⟩, rfl⟩
end Go.Proofs.YtplaaglckbfklaaDoor
/- Proved: contracts of the library functions Div64 and Rem64 at every word, and products modulo any n of 64 bits. -/
namespace Go.Proofs.YtplaaglckbfklaaDoor
open Go.ChangeShapes Go.WideShapes Go.ChangeAt Go.RowKit
open M1
set_option linter.unusedVariables false
theorem shl_split (lo s : Nat) (hs : s ≤ 64) : lo * 2 ^ s / 18446744073709551616 = lo / 2 ^ (64 - s) := by
  have e : (18446744073709551616 : Nat) = 2 ^ (64 - s) * 2 ^ s := by
    rw [← Nat.pow_add, show 64 - s + s = 64 by omega]
  rw [e]
  exact Nat.mul_div_mul_right _ _ (Nat.two_pow_pos s)
theorem bits_Div64_big (hi lo y : Nat) (w : World) (hhi : 0 < hi) (hy : hi < y) (hyb : y < 18446744073709551616) (hlo : lo < 18446744073709551616) :
    Calls Tryd.prog 228 #[.int .u64 hi, .int .u64 lo, .int .u64 y] w fun e w' => ∃ q : Int, e = .returned (.tuple #[.int .u64 q, .int .u64 (((hi * 18446744073709551616 + lo) % y : Nat) : Int)]) ∧ w' = w := by
  obtain ⟨b1, b2, b3, b4⟩ := bitLen_bd 64 y (by omega) hyb (by omega)
  have cz := fun W => bits_lz y W (by omega) hyb
  generalize Lib.bitLen y = L at *
  obtain ⟨s, hs⟩ : ∃ s, s = 64 - L := ⟨_, rfl⟩
  rw [← hs] at cz
  have hP := Nat.two_pow_pos s
  have hYlo : 9223372036854775808 ≤ y * 2 ^ s := by
    have h1 : 2 ^ (L - 1) * 2 ^ s ≤ y * 2 ^ s := Nat.mul_le_mul_right _ b3
    rw [← Nat.pow_add, show L - 1 + s = 63 by omega] at h1
    exact h1
  have hYhi : y * 2 ^ s < 18446744073709551616 := by
    have h1 : y * 2 ^ s < 2 ^ L * 2 ^ s := Nat.mul_lt_mul_of_pos_right b4 hP
    rw [← Nat.pow_add, show L + s = 64 by omega] at h1
    exact h1
  have hl := shl_split lo s (by omega)
  have hlt : lo / 2 ^ (64 - s) < 2 ^ s := by
    rw [Nat.div_lt_iff_lt_mul (Nat.two_pow_pos _), ← Nat.pow_add, show s + (64 - s) = 64 by omega]
    exact hlo
  have hhy : hi * 2 ^ s + 2 ^ s ≤ y * 2 ^ s := by
    have h1 : (hi + 1) * 2 ^ s ≤ y * 2 ^ s := Nat.mul_le_mul_right _ hy
    rw [Nat.add_mul, Nat.one_mul] at h1
    exact h1
  have hN : (hi * 18446744073709551616 + lo) * 2 ^ s = (hi * 2 ^ s + lo / 2 ^ (64 - s)) * 18446744073709551616 + lo * 2 ^ s % 18446744073709551616 := by
    have h1 := Nat.div_add_mod (lo * 2 ^ s) 18446744073709551616
    rw [hl] at h1
    have h2 : (hi * 18446744073709551616 + lo) * 2 ^ s = hi * 2 ^ s * 18446744073709551616 + lo * 2 ^ s := by grind
    rw [h2]
    omega
  have hNm : ((hi * 18446744073709551616 + lo) * 2 ^ s) % (y * 2 ^ s) = (hi * 18446744073709551616 + lo) % y * 2 ^ s := Nat.mul_mod_mul_right _ _ _
  have e1 : (y : Int) * 2 ^ s = ((y * 2 ^ s : Nat) : Int) := by simp
  have e2 : (hi : Int) * 2 ^ s = ((hi * 2 ^ s : Nat) : Int) := by simp
  have e3 : (lo : Int) / 2 ^ (64 - s) = ((lo / 2 ^ (64 - s) : Nat) : Int) := by simp
  have e4 : (lo : Int) * 2 ^ s = ((lo * 2 ^ s : Nat) : Int) := by simp
  have hor : hi * 2 ^ s ||| lo / 2 ^ (64 - s) = hi * 2 ^ s + lo / 2 ^ (64 - s) := by
    rw [Nat.mul_comm, ← Nat.two_pow_add_eq_or_of_lt hlt]
  have hlowlt : lo * 2 ^ s % 18446744073709551616 < 18446744073709551616 := Nat.mod_lt _ (by omega)
  have m1 := Mul64.maskN (y * 2 ^ s) hYhi
  have m2 := Mul64.maskN (lo * 2 ^ s % 18446744073709551616) hlowlt
  have w1 := Mul64.wrapN (y * 2 ^ s) hYhi
  have w2 := Mul64.wrapN (hi * 2 ^ s) (by omega)
  have w3 := Mul64.wrapM (lo * 2 ^ s)
  have o1 := bits_or_u64_nat (hi * 2 ^ s) (lo / 2 ^ (64 - s)) (by omega) (by omega)
  rw [hor] at o1
  have hsub : s < 64 := by omega
  have D1 : Int.toNat 0 = 0 := rfl
  rw [hN] at hNm
  generalize hu : hi * 2 ^ s + lo / 2 ^ (64 - s) = u at *
  have huY : u < y * 2 ^ s := by omega
  have hYpos : 0 < y * 2 ^ s := by omega
  have eY := Nat.div_add_mod (y * 2 ^ s) 4294967296
  have eL := Nat.div_add_mod (lo * 2 ^ s % 18446744073709551616) 4294967296
  have kY : y * 2 ^ s / 4294967296 < 4294967296 ∧ 2147483648 ≤ y * 2 ^ s / 4294967296 ∧ y * 2 ^ s % 4294967296 < 4294967296 := by omega
  have kL : lo * 2 ^ s % 18446744073709551616 / 4294967296 < 4294967296 ∧ lo * 2 ^ s % 18446744073709551616 % 4294967296 < 4294967296 := by omega
  have hg : ∀ a : Nat, ((a * 2 ^ s : Nat) : Int) / 2 ^ s = (a : Int) := by
    intro a
    have h1 : ((a * 2 ^ s : Nat) : Int) = (a : Int) * 2 ^ s := by simp
    rw [h1]
    exact Int.mul_ediv_cancel _ (by have : ((2 ^ s : Nat) : Int) = (2 : Int) ^ s := by simp
                                    omega)
  generalize y * 2 ^ s = Y at *
  generalize lo * 2 ^ s % 18446744073709551616 = low at *
  have eY' : Y / 4294967296 * 4294967296 + Y % 4294967296 = Y := by rw [Nat.mul_comm]; exact eY
  have eL' : low / 4294967296 * 4294967296 + low % 4294967296 = low := by rw [Nat.mul_comm]; exact eL
  obtain ⟨t, ht⟩ : ∃ t, t = (u * 4294967296 + low / 4294967296) % Y := ⟨_, rfl⟩
  have htY : t < Y := by rw [ht]; exact Nat.mod_lt _ hYpos
  have lo1 := left_over u (low / 4294967296) Y
  have lo2 := left_over t (low % 4294967296) Y
  have td := two_digits u (low / 4294967296) (low % 4294967296) Y
  rw [← ht, eL', hNm] at td
  rw [td] at lo2
  rw [← ht] at lo1
  have rlt : (hi * 18446744073709551616 + lo) % y * 2 ^ s < 18446744073709551616 := by
    rw [← hNm]
    have := Nat.mod_lt (u * 18446744073709551616 + low) hYpos
    omega
  have H1 : Half u (low / 4294967296) (Y / 4294967296) (Y % 4294967296) := ⟨kY.2.1, kY.1, kY.2.2, kL.1, by rw [eY']; exact huY⟩
  have H2 : Half t (low % 4294967296) (Y / 4294967296) (Y % 4294967296) := ⟨kY.2.1, kY.1, kY.2.2, kL.2, by rw [eY']; exact htY⟩
  have W2 := wrap_rest t (low % 4294967296) _ Y _ lo2.2 lo2.1 rlt
  exact div_walk hi lo y s Y (Y / 4294967296) (Y % 4294967296) u low (low / 4294967296) (low % 4294967296) ((u * 4294967296 + low / 4294967296) / Y) t ((t * 4294967296 + low % 4294967296) / Y) _ w hhi hy hyb hlo hsub cz
    (by rw [e1]; exact w1) (by omega) m1 (by rw [e2, w2, e3]; exact o1) (by rw [e4]; exact w3) (by omega) m2 eY'.symm H1 H2 (by omega) (by omega)
    (by show _ = _; rw [eY']) (by show _ = _; rw [eY']) (wrap_rest u (low / 4294967296) _ Y t lo1.2 lo1.1 (by omega))
    (by show _ = _; rw [W2]; exact hg _)
theorem bits_Rem64 (hi lo y : Nat) (w : World) (hy : 0 < y) (hhb : hi < 18446744073709551616) (hyb : y < 18446744073709551616) (hlo : lo < 18446744073709551616) :
    Calls Tryd.prog 223 #[.int .u64 hi, .int .u64 lo, .int .u64 y] w fun e w' => e = .returned (.int .u64 (((hi * 18446744073709551616 + lo) % y : Nat) : Int)) ∧ ∃ n, w' = w.drewN n := by
  have eH : (hi * 18446744073709551616 + lo) % y = (hi % y * 18446744073709551616 + lo) % y := by
    rw [Nat.add_mod, Nat.mul_mod, ← Nat.add_mod]
    rw [Nat.add_mod (hi % y * 18446744073709551616), Nat.mul_mod (hi % y), Nat.mod_mod, ← Nat.add_mod]
  rw [eH]
  have hm : hi % y < y := Nat.mod_lt _ hy
  have r1 : (hi : Int) % (y : Int) = ((hi % y : Nat) : Int) := by simp
  clear eH
  generalize hi % y = h at *
  have hyn : ¬ y = 0 := by omega
  by_cases h0 : h = 0
  · subst h0
    have c := fun W => bits_Div64_zero lo y hlo hy hyb W
    rw [Nat.zero_mul, Nat.zero_add]
    generalize lo % y = R at *
    have r1' : (hi : Int) % (y : Int) = 0 := r1
    clear r1
    go_enter Tryd.func223, Tryd.ntmps223
    go_wp2_with fail
    refine (c _).mono ?_
    rintro e w' ⟨rfl, n, rfl⟩
    go_wp2_with fail
    go_ret
    exact ⟨rfl, _, rfl⟩
  · have c := fun W => bits_Div64_big h lo y W (by omega) hm hyb hlo
    generalize (h * 18446744073709551616 + lo) % y = R at *
    go_enter Tryd.func223, Tryd.ntmps223
    go_wp2_with fail
    refine (c _).mono ?_
    rintro e w' ⟨q, rfl, rfl⟩
    go_wp2_with fail
    go_ret
    exact ⟨rfl, 0, rfl⟩
theorem PR_all (n : Nat) (h0 : 0 < n) (hn : n < 18446744073709551616) : PR n := by
  intro x y W hx hy
  have c := bits_Mul64 x y (by omega) (by omega)
  have d := fun W => bits_Rem64 (x * y / 18446744073709551616) (x * y % 18446744073709551616) n W h0 (by
    have h1 : x * y < 18446744073709551616 * 18446744073709551616 := Nat.mul_lt_mul'' (by omega) (by omega)
    exact Nat.div_lt_of_lt_mul h1) hn (Nat.mod_lt _ (by omega))
  have e : x * y / 18446744073709551616 * 18446744073709551616 + x * y % 18446744073709551616 = x * y := by
    have := Nat.div_add_mod (x * y) 18446744073709551616
    omega
  rw [e] at d
  clear e
  generalize x * y / 18446744073709551616 = hi at *
  generalize x * y % 18446744073709551616 = lo at *
  generalize x * y % n = R at *
  go_enter Tryd.func215, Tryd.ntmps215
  go_wp2_with fail
  refine (c _).mono ?_
  rintro e w' ⟨rfl, rfl⟩
  go_wp2_with fail
  refine (d _).mono ?_
  rintro e w' ⟨rfl, n, rfl⟩
  go_wp2_with fail
  go_ret
  exact ⟨rfl, _, rfl⟩
end Go.Proofs.YtplaaglckbfklaaDoor
/- Proved: the contracts of IsPrime of the program and of the model at every word, and what the listed tables give a walk. -/
namespace Go.Proofs.YtplaaglckbfklaaDoor
open Go.ChangeShapes Go.WideShapes Go.ChangeAt Go.RowKit
open M1
set_option linter.unusedVariables false
theorem isP_small (n : Nat) (h : n < 2) : isP n = false := by unfold isP; rw [if_pos h]
theorem spec_IsPrime (n : Nat) (w : World) (hn : n < 18446744073709551616) :
    Calls Tryd.prog 116 #[.int .u64 n] w fun e w' => e = .returned (.bool (isP n)) ∧ Old w w' := by
  by_cases h2 : n < 2
  · rw [isP_small n h2]
    have hd : decide ((n : Int) < 2) = true := by simp; omega
    go_enter Tryd.func116, Tryd.ntmps116
    go_wp2_with fail
    go_ret
    exact ⟨rfl, Old.refl _⟩
  · exact spec_prime n w _ (by omega) hn (St.start n h2)
theorem impl_IsPrime (n : Nat) (w : World) (hn : n < 18446744073709551616) (hP : PrsW w) (hT : TabW w) :
    Calls Tryd.prog 170 #[.int .u64 n] w fun e w' => e = .returned (.bool (isP n)) ∧ ∃ k, w' = w.drewN k := by
  by_cases h2 : n < 2
  · rw [isP_small n h2]
    have hd : decide ((n : Int) < 2) = true := by simp; omega
    go_enter Tryd.func170, Tryd.ntmps170
    go_wp2_with fail
    go_ret
    exact ⟨rfl, 0, rfl⟩
  · exact impl_first n w _ (by omega) hn hP hT (St.start n h2) (PR_all n (by omega) hn)
theorem lt_of_cell {w : World} {b o : Nat} {v : Value} (h : w.cell? ⟨b, o, none⟩ = some v) : b < w.heap.size := by
  by_cases hb : b < w.heap.size
  · exact hb
  · exfalso
    have h0 : w.heap[b]? = none := Array.getElem?_eq_none (by omega)
    simp [World.cell?, h0] at h
theorem PrsW.old {w w1 : World} (h : PrsW w) (g : Old w w1) : PrsW w1 := fun j hj => by rw [g.cell (lt_of_cell (h j hj))]; exact h j hj
theorem TabW.old {w w1 : World} (h : TabW w) (g : Old w w1) : TabW w1 := fun j hj => by rw [g.cell (lt_of_cell (h j hj))]; exact h j hj
theorem var_stays {H : Type} {enc : TypeId × Value → H} {P : Program} (hl : laidOutB P = true) {W W' : World} (hg : Old W W') {n : String} {gs : List (DataW H)} {ps : List MemPlace}
    (hv : varsRowed P [n] = true) (h : DataW.TrodVars enc P W (fun _ => true) [n] gs ps) {sp : Nat → Bool} (hsp : ∀ p ∈ ps, sp p.block = true) : DataW.TrodVars enc P W' sp [n] gs ps := by
  have hlt := h.lt
  obtain ⟨g, t, cs, fuel, d, p, rfl, h1, h2, h3, h4, rfl⟩ := trodVars_one h
  have ht : P.readableRec t = true ∧ t < P.types.size := by
    have := hv
    simp only [varsRowed, List.all_cons, List.all_nil, Bool.and_true] at this
    rw [h1] at this
    cases hgl : P.globals[g]? with
    | none => rw [hgl] at h2; cases h2
    | some gl =>
      rw [hgl] at h2
      obtain rfl : gl.type = t := Option.some.inj h2
      simpa [hgl] using this
  have hp : ∀ x ∈ p, x.block < W.heap.size := fun x hx => hlt x (by simp [hx])
  have hgb : g < W.heap.size := by
    unfold World.var? at h3
    rw [h1] at h3
    simp only [Option.bind_some] at h3
    cases hh : W.heap[g]? with
    | none => rw [hh] at h3; cases h3
    | some o => exact (Array.getElem?_eq_some_iff.1 hh).1
  have h3' : W'.var? P n = some cs := by
    unfold World.var? at h3 ⊢
    rw [h1] at h3 ⊢
    simp only [Option.bind_some] at h3 ⊢
    rw [hg.block _ hgb]; exact h3
  have same : ∀ x ∈ p, W.sameAt W' x := by
    intro x hx
    have := hp x hx
    cases x with
    | cell b o => exact hg.cell this
    | map b => exact hg.block _ this
  exact trodVars_mk1 h1 h2 h3' (DataW.trod_stays (Go.kids_book hl ht.1) (Go.book_sized ht.1) (fun h => by cases h) ⟨ht.2, Go.book_self t⟩ h4 same (fun x hx => hsp x (by simp [hx])))
end Go.Proofs.YtplaaglckbfklaaDoor
