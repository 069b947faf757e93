/- Proved: several texts in one: what each proves is said ahead of it. -/
import Derived.Test.YtkggfljdbdfonaaGreatDoorRows
import Derived.WalkKit
import Derived.ProofKit
import Derived.OpenShut
import Derived.Deep.Draws
import Derived.Lib.Mul64
import Derived.Laws.Bits64b
import Derived.Handy
import Derived.WalkSmall
import Derived.Lib.TrailingZeros
/- Proved: plain arithmetic for the proofs of this seat (powers, inverses by Euclid's way, Barrett's, Montgomery's and Shoup's products); no program in sight. -/
namespace Go.Proofs.YtkggfljdbdfonaaGreatDoor.M1
/-- a to the e-th power, modulo p -/
def powM (a e p : Nat) : Nat := a ^ e % p
theorem ml (a b p : Nat) : (a % p * b) % p = a * b % p := by rw [Nat.mul_mod, Nat.mod_mod, ← Nat.mul_mod]
theorem mrr (a b p : Nat) : (a * (b % p)) % p = a * b % p := by rw [Nat.mul_mod, Nat.mod_mod, ← Nat.mul_mod]
theorem pow_half_even (a e : Nat) (h : e % 2 = 0) : (a * a) ^ (e / 2) = a ^ e := by
  rw [← Nat.pow_two, ← Nat.pow_mul]; congr 1; omega
theorem pow_half_odd (a e : Nat) (h : e % 2 = 1) : a * (a * a) ^ (e / 2) = a ^ e := by
  rw [← Nat.pow_two, ← Nat.pow_mul, Nat.mul_comm, ← Nat.pow_succ]; congr 1; omega
theorem step_even (r a e p : Nat) (h : e % 2 = 0) : r * (a * a % p) ^ (e / 2) % p = r * a ^ e % p := by
  rw [← mrr, ← Nat.pow_mod, mrr, pow_half_even a e h]
theorem step_odd (r a e p : Nat) (h : e % 2 = 1) : (r * a % p) * (a * a % p) ^ (e / 2) % p = r * a ^ e % p := by
  rw [ml, ← mrr, ← Nat.pow_mod, mrr, Nat.mul_assoc, pow_half_odd a e h]
theorem powM_lt (a e p : Nat) (h : 0 < p) : powM a e p < p := Nat.mod_lt _ h
theorem uniq (a i j m : Nat) (hi : i < m) (hj : j < m) (h1 : a * i % m = 1) (h2 : a * j % m = 1) : i = j := by
  have e1 : i * (a * j) % m = i := by rw [Nat.mul_mod, h2, Nat.mul_one, Nat.mod_mod, Nat.mod_eq_of_lt hi]
  have e2 : (a * i) * j % m = j := by rw [Nat.mul_mod, h1, Nat.one_mul, Nat.mod_mod, Nat.mod_eq_of_lt hj]
  have : i * (a * j) = (a * i) * j := by rw [← Nat.mul_assoc, Nat.mul_comm i a]
  rw [this] at e1; omega
/-- the inverse of a modulo m, 0 where there is none -/
def invM (a m : Nat) : Nat := ((List.range m).find? (fun i => a * i % m == 1)).getD 0
theorem invM_of (a i m : Nat) (hi : i < m) (h : a * i % m = 1) : invM a m = i := by
  unfold invM
  cases hf : (List.range m).find? (fun i => a * i % m == 1) with
  | none => 
    have := List.find?_eq_none.1 hf i (List.mem_range.2 hi)
    simp [h] at this
  | some j =>
    have h1 := List.find?_some hf
    have h2 := List.mem_of_find?_eq_some hf
    simp at h1 h2
    simp
    exact uniq a j i m h2 hi h1 h
theorem invM_no (a m : Nat) (h : Nat.gcd a m ≠ 1) : invM a m = 0 := by
  unfold invM
  cases hf : (List.range m).find? (fun i => a * i % m == 1) with
  | none => rfl
  | some j =>
    exfalso; apply h
    have h1 := List.find?_some hf
    simp at h1
    have d1 : Nat.gcd a m ∣ a * j := Nat.dvd_trans (Nat.gcd_dvd_left a m) (Nat.dvd_mul_right a j)
    have d2 : Nat.gcd a m ∣ m := Nat.gcd_dvd_right a m
    have d3 : Nat.gcd a m ∣ a * j % m := (Nat.dvd_mod_iff d2).2 d1
    rw [h1] at d3
    exact Nat.dvd_one.1 d3

structure Eu (a m x y u v : Int) : Prop where
  x0 : 0 ≤ x
  xy : x < y
  ym : y ≤ m
  sg : (0 ≤ u ∧ v ≤ 0 ∧ u * y - v * x = m) ∨ (u ≤ 0 ∧ 0 ≤ v ∧ v * x - u * y = m)
  dx : m ∣ u * a - x
  dy : m ∣ v * a - y
  g : Int.gcd x y = Int.gcd a m
  bu : -m ≤ u ∧ u ≤ m
  bv : -m ≤ v ∧ v ≤ m
theorem Eu.start (a m : Int) (h0 : 0 ≤ a) (h1 : a < m) : Eu a m a m 1 0 where
  x0 := h0
  xy := h1
  ym := Int.le_refl _
  sg := Or.inl ⟨by omega, by omega, by omega⟩
  dx := by simp
  dy := by simp
  g := rfl
  bu := by omega
  bv := by omega
theorem Eu.step {a m x y u v : Int} (h : Eu a m x y u v) (hx : x ≠ 0) : Eu a m (y - y / x * x) x (v - y / x * u) u ∧ (-m ≤ y / x * u ∧ y / x * u ≤ m) ∧ (0 ≤ y / x ∧ y / x ≤ m) ∧ (0 ≤ y / x * x ∧ y / x * x ≤ y) := by
  obtain ⟨x0, xy, ym, sg, dx, dy, g, bu, bv⟩ := h
  have hq := Int.emod_add_mul_ediv y x
  have r0 := Int.emod_nonneg y hx
  have r1 := Int.emod_lt_of_pos y (b := x) (by omega)
  have hq0 : 0 ≤ y / x := Int.ediv_nonneg (by omega) x0
  have hq1 : y / x ≤ y := by
    have := Int.mul_le_mul_of_nonneg_right (show 1 ≤ x by omega) hq0
    have e : x * (y / x) ≤ y := by omega
    omega
  have er : y - y / x * x = y % x := by rw [Int.mul_comm]; omega
  have eg : Int.gcd (y % x) x = Int.gcd a m := by rw [← g, ← er, Int.gcd_comm x y, Int.gcd_sub_mul_right_left]
  generalize hqq : y / x = q at *
  have key : (0 ≤ v - q * u ∧ u ≤ 0 ∧ (v - q * u) * x - u * (y - q * x) = m ∧ 0 ≤ - (q * u) ∧ 0 ≤ v) ∨ (v - q * u ≤ 0 ∧ 0 ≤ u ∧ u * (y - q * x) - (v - q * u) * x = m ∧ 0 ≤ q * u ∧ v ≤ 0) := by
    rcases sg with ⟨hu, hv, he⟩ | ⟨hu, hv, he⟩
    · right
      have := Int.mul_nonneg hq0 hu
      refine ⟨by omega, hu, by grind, this, hv⟩
    · left
      have := Int.mul_nonneg hq0 (show 0 ≤ -u by omega)
      have e : q * -u = -(q*u) := by grind
      refine ⟨by omega, hu, by grind, by omega, hv⟩
  have bnd : (-m ≤ v - q * u ∧ v - q * u ≤ m) := by
    rcases key with ⟨h1, h2, h3, h4⟩ | ⟨h1, h2, h3, h4⟩
    · have a1 : 0 ≤ (-u) * (y - q * x) := Int.mul_nonneg (by omega) (by omega)
      have a2 : (v - q * u) * 1 ≤ (v - q * u) * x := Int.mul_le_mul_of_nonneg_left (by omega) h1
      have : (-u) * (y - q * x) = - (u * (y - q * x)) := by grind
      omega
    · have a1 : 0 ≤ u * (y - q * x) := Int.mul_nonneg (by omega) (by omega)
      have a2 : (-(v - q * u)) * 1 ≤ (-(v - q * u)) * x := Int.mul_le_mul_of_nonneg_left (by omega) (by omega)
      have : (-(v - q * u)) * x = - ((v - q * u) * x) := by grind
      omega
  refine ⟨⟨by omega, by omega, by omega, ?_, ?_, dx, ?_, bnd, bu⟩, ?_, by omega, ?_⟩
  · rcases key with ⟨h1, h2, h3, h4⟩ | ⟨h1, h2, h3, h4⟩
    · left; exact ⟨h1, h2, h3⟩
    · right; exact ⟨h1, h2, h3⟩
  · have : (v - q * u) * a - (y - q * x) = (v * a - y) - q * (u * a - x) := by grind
    rw [this]; exact Int.dvd_sub dy (Int.dvd_mul_of_dvd_right dx)
  · rw [er]; exact eg
  · rcases key with ⟨h1, h2, h3, h4⟩ | ⟨h1, h2, h3, h4⟩ <;> omega
  · constructor
    · exact Int.mul_nonneg hq0 x0
    · omega
theorem Eu.done {a m y u v : Int} (h : Eu a m 0 y u v) (hm : 2 ≤ m) (ha : 0 ≤ a) :
    (if y ≠ 1 then 0 else if Int.tmod v m < 0 then Int.tmod v m + m else Int.tmod v m) = (invM a.toNat m.toNat : Int) := by
  obtain ⟨x0, xy, ym, sg, dx, dy, g, bu, bv⟩ := h
  have g' : y.natAbs = Nat.gcd a.toNat m.toNat := by
    have : Int.gcd 0 y = y.natAbs := by simp
    rw [this] at g; rw [g]; unfold Int.gcd; congr 1 <;> omega
  by_cases h1 : y = 1
  · rw [if_neg (by simp [h1])]
    have hv : (if Int.tmod v m < 0 then Int.tmod v m + m else Int.tmod v m) = v % m := by
      by_cases hv0 : 0 ≤ v
      · rw [Int.tmod_eq_emod_of_nonneg hv0]
        have := Int.emod_nonneg v (show m ≠ 0 by omega)
        rw [if_neg (by omega)]
      · have e : Int.tmod v m = - ((-v) % m) := by
          rw [← Int.tmod_eq_emod_of_nonneg (by omega), Int.neg_tmod, Int.neg_neg]
        have r0 := Int.emod_nonneg (-v) (show m ≠ 0 by omega)
        have r1 := Int.emod_lt_of_pos (-v) (b := m) (by omega)
        have s0 := Int.emod_nonneg v (show m ≠ 0 by omega)
        have s1 := Int.emod_lt_of_pos v (b := m) (by omega)
        have t1 := Int.emod_add_mul_ediv v m
        have t2 := Int.emod_add_mul_ediv (-v) m
        rw [e]
        by_cases hz : (-v) % m = 0
        · rw [hz]; simp
          have : m ∣ v := by have := Int.dvd_of_emod_eq_zero hz; exact (Int.dvd_neg).1 this
          exact (Int.emod_eq_zero_of_dvd this).symm
        · rw [if_pos (by omega)]
          have : (-v) % m = m - v % m := by
            rw [Int.neg_emod]
            split
            · rename_i hd; have := Int.emod_eq_zero_of_dvd hd; exfalso; apply hz; exact Int.emod_eq_zero_of_dvd ((Int.dvd_neg).2 hd)
            · have : (m.natAbs : Int) = m := by omega
              omega
          omega
    rw [hv]
    have s0 := Int.emod_nonneg v (show m ≠ 0 by omega)
    have s1 := Int.emod_lt_of_pos v (b := m) (by omega)
    rw [invM_of a.toNat (v % m).toNat m.toNat (by omega)]
    · omega
    · have : ((a.toNat * (v % m).toNat % m.toNat : Nat) : Int) = 1 := by
        have ea : ((a.toNat : Nat) : Int) = a := by omega
        have ev : (((v % m).toNat : Nat) : Int) = v % m := by omega
        have em : ((m.toNat : Nat) : Int) = m := by omega
        rw [Int.natCast_emod, Int.natCast_mul, ea, ev, em, Int.mul_emod, Int.emod_emod, ← Int.mul_emod]
        subst h1
        obtain ⟨k, hk⟩ := dy
        have : a * v = 1 + m * k := by rw [Int.mul_comm]; omega
        rw [this, Int.add_mul_emod_self_left]
        exact Int.emod_eq_of_lt (by omega) (by omega)
      omega
  · rw [if_pos h1, invM_no _ _ (by omega)]; rfl
theorem tm (v m : Int) (hm : 2 ≤ m) : (if Int.tmod v m < 0 then Int.tmod v m + m else Int.tmod v m) = v % m := by
  by_cases hv0 : 0 ≤ v
  · rw [Int.tmod_eq_emod_of_nonneg hv0]
    have := Int.emod_nonneg v (show m ≠ 0 by omega)
    rw [if_neg (by omega)]
  · have e : Int.tmod v m = - ((-v) % m) := by
      rw [← Int.tmod_eq_emod_of_nonneg (by omega), Int.neg_tmod, Int.neg_neg]
    have r0 := Int.emod_nonneg (-v) (show m ≠ 0 by omega)
    have r1 := Int.emod_lt_of_pos (-v) (b := m) (by omega)
    have k : (-v) % m = if m ∣ v then 0 else m - v % m := by
      rw [Int.neg_emod]
      have : (m.natAbs : Int) = m := by omega
      rw [this]
    by_cases hd : m ∣ v
    · rw [if_pos hd] at k
      have := Int.emod_eq_zero_of_dvd hd
      rw [e, k, this]; simp
    · rw [if_neg hd] at k
      have hd' : v % m ≠ 0 := fun h => hd (Int.dvd_of_emod_eq_zero h)
      have s0 := Int.emod_nonneg v (show m ≠ 0 by omega)
      have s1 := Int.emod_lt_of_pos v (b := m) (by omega)
      rw [if_pos (by omega)]; omega
theorem Eu.done1 {a m u v : Int} (h : Eu a m 0 1 u v) (hm : 2 ≤ m) (ha : 0 ≤ a) : v % m = (invM a.toNat m.toNat : Int) := by
  have := h.done hm ha
  rw [if_neg (by simp), tm v m hm] at this
  exact this
theorem Eu.done0 {a m y u v : Int} (h : Eu a m 0 y u v) (hm : 2 ≤ m) (ha : 0 ≤ a) (hy : y ≠ 1) : (0 : Int) = (invM a.toNat m.toNat : Int) := by
  have := h.done hm ha
  rw [if_pos hy] at this
  exact this
end Go.Proofs.YtkggfljdbdfonaaGreatDoor.M1
/- Proved: contracts of the tests for a modulus and of the least residue, of the program and of the model. -/
namespace Go.Proofs.YtkggfljdbdfonaaGreatDoor
open Go.ChangeShapes Go.WideShapes Go.ChangeAt Go.RowKit
/-- a modulus -/
def modB (p : Int) : Bool := decide (2 ≤ p ∧ p ≤ 268435456)
theorem modB_yes {p : Int} (h : modB p = true) : 2 ≤ p ∧ p ≤ 268435456 := by simpa [modB] using h
theorem modB_no {p : Int} (h : modB p = false) : p < 2 ∨ (2 ≤ p ∧ 268435456 < p) := by simp [modB] at h; omega
theorem impl_isModulus (p : Int) (w : World) :
    Calls Tryz.prog 167 #[.int .i64 p] w fun e w' => e = .returned (.bool (modB p)) ∧ w' = w := by
  cases h : modB p
  · rcases modB_no h with h1 | ⟨h1, h2⟩
    all_goals
      clear h
      try (have d : decide (p ≤ 268435456) = false := by simp; omega)
      go_enter Tryz.func167, Tryz.ntmps167
      go_wp2
      go_ret
      exact ⟨rfl, rfl⟩
  · obtain ⟨h1, h2⟩ := modB_yes h
    clear h
    go_enter Tryz.func167, Tryz.ntmps167
    go_wp2
    go_ret
    exact ⟨rfl, rfl⟩
theorem spec_modulus (p : Int) (w : World) :
    Calls Tryz.prog 170 #[.int .i64 p] w fun e w' => e = .returned (.bool (modB p)) ∧ w' = w := by
  cases h : modB p
  · rcases modB_no h with h1 | ⟨h1, h2⟩
    all_goals
      clear h
      try (have d : decide (p ≤ 268435456) = false := by simp; omega)
      go_enter Tryz.func170, Tryz.ntmps170
      go_wp2
      go_ret
      exact ⟨rfl, rfl⟩
  · obtain ⟨h1, h2⟩ := modB_yes h
    clear h
    go_enter Tryz.func170, Tryz.ntmps170
    go_wp2
    go_ret
    exact ⟨rfl, rfl⟩
theorem tmod_neg (a p : Int) (h0 : a < 0) (hp : 1 ≤ p) : -p < a.tmod p ∧ a.tmod p ≤ 0 ∧ (a.tmod p < 0 → a.tmod p + p = a % p) ∧ (0 ≤ a.tmod p → a.tmod p = a % p) := by
  have e : Int.tmod a p = - ((-a) % p) := by
    rw [← Int.tmod_eq_emod_of_nonneg (by omega), Int.neg_tmod, Int.neg_neg]
  have r0 := Int.emod_nonneg (-a) (show p ≠ 0 by omega)
  have r1 := Int.emod_lt_of_pos (-a) (b := p) (by omega)
  have k : (-a) % p = if p ∣ a then 0 else p - a % p := by
    rw [Int.neg_emod]
    have : (p.natAbs : Int) = p := by omega
    rw [this]
  by_cases hd : p ∣ a
  · rw [if_pos hd] at k
    have := Int.emod_eq_zero_of_dvd hd
    omega
  · rw [if_neg hd] at k
    have hd' : a % p ≠ 0 := fun h => hd (Int.dvd_of_emod_eq_zero h)
    have s0 := Int.emod_nonneg a (show p ≠ 0 by omega)
    have s1 := Int.emod_lt_of_pos a (b := p) (by omega)
    omega
theorem impl_residueOf (a p : Int) (w : World) (ha : -9223372036854775808 ≤ a ∧ a ≤ 9223372036854775807) (hp : 1 ≤ p ∧ p ≤ 4294967296) :
    Calls Tryz.prog 114 #[.int .i64 a, .int .i64 p] w fun e w' => e = .returned (.int .i64 (a % p)) ∧ w' = w := by
  obtain ⟨h1, h2⟩ := hp
  obtain ⟨h3, h4⟩ := ha
  by_cases h0 : 0 ≤ a
  · have r0 := Int.emod_nonneg a (show p ≠ 0 by omega)
    go_enter Tryz.func114, Tryz.ntmps114
    go_wp2
    go_ret
    exact ⟨rfl, rfl⟩
  · obtain ⟨t1, t2, t3, t4⟩ := tmod_neg a p (by omega) h1
    have T3 : Hid (a.tmod p < 0 → a.tmod p + p = a % p) := t3
    have T4 : Hid (0 ≤ a.tmod p → a.tmod p = a % p) := t4
    clear t3 t4
    by_cases hs : a.tmod p < 0
    · go_enter Tryz.func114, Tryz.ntmps114
      go_wp2
      go_ret
      exact ⟨by rw [← T3.out hs]; rfl, rfl⟩
    · go_enter Tryz.func114, Tryz.ntmps114
      go_wp2
      go_ret
      exact ⟨by rw [← T4.out (by omega)]; rfl, rfl⟩
theorem spec_mod (a p : Int) (w : World) (ha : -9223372036854775808 ≤ a ∧ a ≤ 9223372036854775807) (hp : 1 ≤ p ∧ p ≤ 4294967296) :
    Calls Tryz.prog 103 #[.int .i64 a, .int .i64 p] w fun e w' => e = .returned (.int .i64 (a % p)) ∧ w' = w := by
  obtain ⟨h1, h2⟩ := hp
  obtain ⟨h3, h4⟩ := ha
  by_cases h0 : 0 ≤ a
  · have r0 := Int.emod_nonneg a (show p ≠ 0 by omega)
    go_enter Tryz.func103, Tryz.ntmps103
    go_wp2
    go_ret
    exact ⟨rfl, rfl⟩
  · obtain ⟨t1, t2, t3, t4⟩ := tmod_neg a p (by omega) h1
    have T3 : Hid (a.tmod p < 0 → a.tmod p + p = a % p) := t3
    have T4 : Hid (0 ≤ a.tmod p → a.tmod p = a % p) := t4
    clear t3 t4
    by_cases hs : a.tmod p < 0
    · go_enter Tryz.func103, Tryz.ntmps103
      go_wp2
      go_ret
      exact ⟨by rw [← T3.out hs]; rfl, rfl⟩
    · go_enter Tryz.func103, Tryz.ntmps103
      go_wp2
      go_ret
      exact ⟨by rw [← T4.out (by omega)]; rfl, rfl⟩
end Go.Proofs.YtkggfljdbdfonaaGreatDoor
/- Proved: the contract of the library function Mul64 over the program of this seat: the two words of the product. -/
namespace Go.Proofs.YtkggfljdbdfonaaGreatDoor
open Go.ChangeShapes Go.WideShapes Go.ChangeAt Go.RowKit
open M1
namespace Mul64
theorem maskN (a : Nat) (ha : a < 18446744073709551616) : bits .and .u64 (a : Int) 4294967295 = ((a % 4294967296 : Nat) : Int) := by
  have h := bits_and_u64_nat a 4294967295 ha (by omega)
  have e : a &&& 4294967295 = a % 4294967296 := Nat.and_two_pow_sub_one_eq_mod a 32
  rw [e] at h
  exact h
theorem divN (a : Nat) : (a : Int) / 4294967296 = ((a / 4294967296 : Nat) : Int) := by omega
theorem mulN (a b : Nat) : (a : Int) * (b : Int) = ((a * b : Nat) : Int) := (Int.natCast_mul a b).symm
theorem addN (a b : Nat) : (a : Int) + (b : Int) = ((a + b : Nat) : Int) := (Int.natCast_add a b).symm
theorem wrapN (a : Nat) (ha : a < 18446744073709551616) : IntKind.u64.wrap (a : Int) = (a : Int) := by rw [IntKind.wrap_u64]; omega
theorem wrapM (a : Nat) : IntKind.u64.wrap (a : Int) = ((a % 18446744073709551616 : Nat) : Int) := by rw [IntKind.wrap_u64]; omega
end Mul64
set_option maxHeartbeats 1000000 in
theorem bits_Mul64 (x y : Nat) (hx : x < 18446744073709551616) (hy : y < 18446744073709551616) (w : World) :
    Calls Tryz.prog 219 #[.int .u64 x, .int .u64 y] w fun e w' => e = .returned (.tuple #[.int .u64 ((x * y / 18446744073709551616 : Nat) : Int), .int .u64 ((x * y % 18446744073709551616 : Nat) : Int)]) ∧ w' = w := by
  obtain ⟨bd, bt, bw, hhi⟩ := Lib.mul64_hi x y hx hy
  have ba := Lib.half_mul_le (a := x / 4294967296) (b := y / 4294967296) (by omega) (by omega)
  have bb := Lib.half_mul_le (a := x / 4294967296) (b := y % 4294967296) (by omega) (by omega)
  have bc := Lib.half_mul_le (a := x % 4294967296) (b := y / 4294967296) (by omega) (by omega)
  have ba' : x / 4294967296 * (y / 4294967296) < 18446744073709551616 := by omega
  have bb' : x / 4294967296 * (y % 4294967296) < 18446744073709551616 := by omega
  have bc' : x % 4294967296 * (y / 4294967296) < 18446744073709551616 := by omega
  have bh1 : x / 4294967296 * (y / 4294967296) + (x / 4294967296 * (y % 4294967296) + x % 4294967296 * (y % 4294967296) / 4294967296) / 4294967296 < 18446744073709551616 := by omega
  have bh : x / 4294967296 * (y / 4294967296) + (x / 4294967296 * (y % 4294967296) + x % 4294967296 * (y % 4294967296) / 4294967296) / 4294967296 + ((x / 4294967296 * (y % 4294967296) + x % 4294967296 * (y % 4294967296) / 4294967296) % 4294967296 + x % 4294967296 * (y / 4294967296)) / 4294967296 < 18446744073709551616 := by omega
  go_enter Tryz.func219, Tryz.ntmps219
  go_wp2
  simp only [Mul64.maskN x hx, Mul64.maskN y hy, Mul64.divN, Mul64.mulN, Mul64.addN, Mul64.wrapN _ bd, Mul64.wrapN _ bb', Mul64.wrapN _ bt, Mul64.maskN _ bt, Mul64.wrapN _ bc', Mul64.wrapN _ bw, Mul64.wrapN _ ba', Mul64.wrapN _ bh1, Mul64.wrapN _ bh, Mul64.wrapM (x * y)]
  rw [hhi]
  go_ret2
  exact ⟨rfl, rfl⟩
end Go.Proofs.YtkggfljdbdfonaaGreatDoor
/- Proved: contracts of the library functions Div64 and Rem64 where the high word is 0, and of the product by remainder for small factors. -/
namespace Go.Proofs.YtkggfljdbdfonaaGreatDoor
open Go.ChangeShapes Go.WideShapes Go.ChangeAt Go.RowKit
open M1
theorem ret_two {k l : IntKind} {a b c d : Int} (h : a = b) (g : c = d) : Ending.returned (.tuple #[.int k a, .int l c]) = .returned (.tuple #[.int k b, .int l d]) := by rw [h, g]
set_option maxHeartbeats 1000000 in
theorem bits_Div64_zero (lo y : Nat) (hl : lo < 18446744073709551616) (hy : 0 < y) (hy' : y < 18446744073709551616) (w : World) :
    Calls Tryz.prog 221 #[.int .u64 0, .int .u64 lo, .int .u64 y] w fun e w' => e = .returned (.tuple #[.int .u64 ((lo / y : Nat) : Int), .int .u64 ((lo % y : Nat) : Int)]) ∧ ∃ n, w' = w.drewN n := by
  have hq : lo / y ≤ lo := Nat.div_le_self lo y
  have h0 : ((y : Int) == 0) = false := by simp; omega
  go_enter Tryz.func221, Tryz.ntmps221
  go_wp2
  go_region
  all_goals go_wp2
  all_goals go_ret2
  all_goals exact ⟨ret_two (by rw [← Int.natCast_ediv]; exact Mul64.wrapN _ (by omega)) (Int.natCast_emod _ _).symm, 1, rfl⟩
theorem bits_Rem64_small (lo y : Nat) (hl : lo < 18446744073709551616) (hy : 0 < y) (hy' : y < 18446744073709551616) (w : World) :
    Calls Tryz.prog 220 #[.int .u64 0, .int .u64 lo, .int .u64 y] w fun e w' => e = .returned (.int .u64 ((lo % y : Nat) : Int)) ∧ ∃ n, w' = w.drewN n := by
  go_enter Tryz.func220, Tryz.ntmps220
  go_wp2_with (first | (go_at_call 221; refine (bits_Div64_zero lo y hl hy hy' _).mono ?_; rintro e w' ⟨rfl, n, rfl⟩))
  go_ret
  exact ⟨rfl, _, rfl⟩
theorem product_small (p x y : Nat) (hp : 0 < p) (hp' : p < 18446744073709551616) (h : x * y < 18446744073709551616) (hx : x < 18446744073709551616) (hy : y < 18446744073709551616) (w : World) :
    Calls Tryz.prog 215 #[.int .u64 p, .int .u64 x, .int .u64 y] w fun e w' => e = .returned (.int .u64 ((x * y % p : Nat) : Int)) ∧ ∃ n, w' = w.drewN n := by
  have c := bits_Mul64 x y hx hy
  rw [Nat.div_eq_of_lt h, Nat.mod_eq_of_lt h] at c
  generalize x * y = z at *
  go_enter Tryz.func215, Tryz.ntmps215
  go_wp2_with fail
  refine (c _).mono ?_
  rintro e w' ⟨rfl, rfl⟩
  go_wp2_with fail

  refine (bits_Rem64_small z p h hp hp' _).mono ?_
  rintro e w' ⟨rfl, n, rfl⟩
  go_wp2_with fail
  go_ret
  exact ⟨rfl, _, rfl⟩
end Go.Proofs.YtkggfljdbdfonaaGreatDoor
/- Proved: the contract of the power by squares through the multiplier of remainders. -/
namespace Go.Proofs.YtkggfljdbdfonaaGreatDoor
open Go.ChangeShapes Go.WideShapes Go.ChangeAt Go.RowKit
open M1
set_option maxHeartbeats 1000000 in
theorem impl_powerBy (p a e : Nat) (hp : 2 ≤ p) (hp' : p ≤ 4294967296) (ha : a < p) (he : e < 18446744073709551616) (w : World) :
    Calls Tryz.prog 214 #[.iface 236 (.int .u64 p), .int .u64 a, .int .u64 e] w fun en w' => en = .returned (.int .u64 (powM a e p : Nat)) ∧ ∃ n, w' = w.drewN n := by
  have H0 : Hid (1 * a ^ e % p = powM a e p) := by show _ = _; rw [Nat.one_mul]; rfl
  generalize hR : powM a e p = R at *
  clear hR
  go_enter Tryz.func214, Tryz.ntmps214
  go_wp2_with fail
  go_loopw [1, 2, 7] (fun a e r W => ∃ a' e' r' n : Nat, a' < p ∧ e' < 18446744073709551616 ∧ r' < p ∧ Hid (r' * a' ^ e' % p = R) ∧ a = .int .u64 a' ∧ e = .int .u64 e' ∧ r = .int .u64 r' ∧ W = w.drewN n) (fun _ e _ _ => (intOf e).toNat)
  case atStart => exact ⟨a, e, 1, 0, ha, he, by omega, H0, rfl, rfl, rfl, rfl⟩
  case round =>
    obtain ⟨a1, e1, r1, n1, ha1, he1, hr1, H1, rfl, rfl, rfl, rfl⟩ := hrel
    clear H0
    by_cases hz : e1 = 0
    · subst hz
      have H2 : Hid (r1 = R) := by
        have := H1.out
        rw [Nat.pow_zero, Nat.mul_one, Nat.mod_eq_of_lt hr1] at this
        exact this
      go_wp2_with fail
      go_ret
      exact ⟨by rw [← H2.out]; rfl, n1, rfl⟩
    · have hsq : a1 * a1 < 18446744073709551616 := by
        have := Nat.mul_lt_mul'' ha1 ha1
        have h2 : p * p ≤ 4294967296 * 4294967296 := Nat.mul_le_mul hp' hp'
        omega
      have hra : r1 * a1 < 18446744073709551616 := by
        have := Nat.mul_lt_mul'' hr1 ha1
        have h2 : p * p ≤ 4294967296 * 4294967296 := Nat.mul_le_mul hp' hp'
        omega
      have csq := fun W => product_small p a1 a1 (by omega) (by omega) hsq (by omega) (by omega) W
      have cra := fun W => product_small p r1 a1 (by omega) (by omega) hra (by omega) (by omega) W
      have hpos : decide (0 < (e1 : Int)) = true := by simp; omega
      have m1 : r1 * a1 % p < p := Nat.mod_lt _ (by omega)
      have m2 : a1 * a1 % p < p := Nat.mod_lt _ (by omega)
      generalize hg1 : r1 * a1 % p = ra at *
      generalize hg2 : a1 * a1 % p = aa at *
      by_cases ho : e1 % 2 = 1
      · have H3 : Hid (ra * aa ^ (e1 / 2) % p = R) := by show _ = _; rw [← H1.out, ← hg1, ← hg2]; exact step_odd r1 a1 e1 p ho
        clear hg1 hg2 hsq hra
        have hb : ((e1 : Int) % 2 == 1) = true := by simp; omega
        clear ho
        go_wp2_with fail
        refine (cra _).mono ?_
        rintro en w' ⟨rfl, n2, rfl⟩
        go_wp2_with fail
        refine (csq _).mono ?_
        rintro en w' ⟨rfl, n3, rfl⟩
        go_wp2_with fail
        go_roundw
        case rel => exact ⟨aa, e1 / 2, ra, _, m2, by omega, m1, H3, rfl, by go_num, rfl, rfl⟩
        case measure => simp [intOf]; omega
      · have H3 : Hid (r1 * aa ^ (e1 / 2) % p = R) := by show _ = _; rw [← H1.out, ← hg2]; exact step_even r1 a1 e1 p (by omega)
        clear hg1 hg2 hsq hra
        have hb : ((e1 : Int) % 2 == 1) = false := by simp; omega
        clear ho
        go_wp2_with fail
        refine (csq _).mono ?_
        rintro en w' ⟨rfl, n3, rfl⟩
        go_wp2_with fail
        go_roundw
        case rel => exact ⟨aa, e1 / 2, r1, _, m2, by omega, hr1, H3, rfl, by go_num, rfl, rfl⟩
        case measure => simp [intOf]; omega
end Go.Proofs.YtkggfljdbdfonaaGreatDoor
/- Proved: contracts of PowMod, of the program and of the model: both answer the power modulo p, 0 where p is no modulus or the exponent is below 0. -/
namespace Go.Proofs.YtkggfljdbdfonaaGreatDoor
open Go.ChangeShapes Go.WideShapes Go.ChangeAt Go.RowKit
open M1
theorem and_i64_nat (a b : Nat) (ha : a ≤ 9223372036854775807) (hb : b ≤ 9223372036854775807) : bits .and .i64 (a : Int) (b : Int) = ((a &&& b : Nat) : Int) := by
  have hx : a &&& b < 2 ^ 63 := Nat.and_lt_two_pow _ (by omega)
  have h1 : (BitVec.ofInt 64 (a : Int)).toNat = a := by
    rw [BitVec.ofInt_natCast, BitVec.toNat_ofNat]; exact Nat.mod_eq_of_lt (by omega)
  have h2 : (BitVec.ofInt 64 (b : Int)).toNat = b := by
    rw [BitVec.ofInt_natCast, BitVec.toNat_ofNat]; exact Nat.mod_eq_of_lt (by omega)
  show IntKind.i64.wrap ((BitVec.ofInt 64 (a : Int) &&& BitVec.ofInt 64 (b : Int)).toNat : Int) = _
  rw [BitVec.toNat_and, h1, h2, IntKind.wrap_i64]
  omega
theorem and_one_i64 (a : Nat) (ha : a ≤ 9223372036854775807) : bits .and .i64 (a : Int) 1 = ((a % 2 : Nat) : Int) := by
  have h := and_i64_nat a 1 ha (by omega)
  rw [Nat.and_one_is_mod] at h
  exact h
set_option maxHeartbeats 1000000 in
theorem spec_pow (a e p : Int) (w : World) (ha : -9223372036854775808 ≤ a ∧ a ≤ 9223372036854775807) (he : 0 ≤ e ∧ e ≤ 9223372036854775807) (hp : 2 ≤ p ∧ p ≤ 268435456) :
    Calls Tryz.prog 144 #[.int .i64 a, .int .i64 e, .int .i64 p] w fun en w' => en = .returned (.int .i64 (powM (a % p).toNat e.toNat p.toNat : Nat)) ∧ w' = w := by
  obtain ⟨h1, h2⟩ := hp
  obtain ⟨h3, h4⟩ := ha
  obtain ⟨h5, h6⟩ := he
  have r0 := Int.emod_nonneg a (show p ≠ 0 by omega)
  have r1 := Int.emod_lt_of_pos a (b := p) (by omega)
  have H0 : Hid (1 * (a % p).toNat ^ e.toNat % p.toNat = powM (a % p).toNat e.toNat p.toNat) := by show _ = _; rw [Nat.one_mul]; rfl
  have one : (1 : Int) % p = 1 := Int.emod_eq_of_lt (by omega) (by omega)
  generalize hR : powM (a % p).toNat e.toNat p.toNat = R at *
  clear hR
  generalize hA : a % p = A at *
  have HA : Hid (a % p = A) := hA
  clear hA
  obtain ⟨q, rfl⟩ := Int.eq_ofNat_of_zero_le (show 0 ≤ p by omega)
  obtain ⟨e0, rfl⟩ := Int.eq_ofNat_of_zero_le h5
  obtain ⟨A0, rfl⟩ := Int.eq_ofNat_of_zero_le r0
  simp only [Int.toNat_natCast] at H0
  go_enter Tryz.func144, Tryz.ntmps144
  go_wp2_with (first | (go_at_call 103; refine (spec_mod _ _ _ ⟨h3, h4⟩ ⟨by omega, by omega⟩).mono ?_; rintro en w' ⟨rfl, rfl⟩; rw [HA.out]))
  go_loop [0, 1, 7] (fun a e r => ∃ a' e' r' : Nat, a' < q ∧ e' ≤ 9223372036854775807 ∧ r' < q ∧ Hid (r' * a' ^ e' % q = R) ∧ a = .int .i64 a' ∧ e = .int .i64 e' ∧ r = .int .i64 r') (fun _ e _ => (intOf e).toNat)
  case atStart => exact ⟨A0, e0, 1, by omega, by omega, by omega, H0, rfl, rfl, by simp⟩
  case round =>
    obtain ⟨a1, e1, r1', ha1, he1, hr1, H1, rfl, rfl, rfl⟩ := hrel
    clear H0
    by_cases hz : e1 = 0
    · subst hz
      have H2 : Hid (r1' = R) := by
        have := H1.out
        rw [Nat.pow_zero, Nat.mul_one, Nat.mod_eq_of_lt hr1] at this
        exact this
      go_wp2_with fail
      go_ret
      exact ⟨by rw [← H2.out]; rfl, rfl⟩
    · have hb2 : ∀ x y : Nat, x < q → y < q → ((x : Int) * (y : Int) = ((x * y : Nat) : Int) ∧ x * y ≤ 72057594037927936) := by
        intro x y hx hy
        refine ⟨(Int.natCast_mul x y).symm, ?_⟩
        exact Nat.mul_le_mul (show x ≤ 268435456 by omega) (show y ≤ 268435456 by omega)
      obtain ⟨s1, s2⟩ := hb2 a1 a1 ha1 ha1
      obtain ⟨t1, t2⟩ := hb2 r1' a1 hr1 ha1
      clear hb2
      have m1 : r1' * a1 % q < q := Nat.mod_lt _ (by omega)
      have m2 : a1 * a1 % q < q := Nat.mod_lt _ (by omega)
      have z1 : 0 ≤ (a1 : Int) * (a1 : Int) := by omega
      have z2 : 0 ≤ (r1' : Int) * (a1 : Int) := by omega
      have z3 : (a1 : Int) * (a1 : Int) ≤ 72057594037927936 := by omega
      have z4 : (r1' : Int) * (a1 : Int) ≤ 72057594037927936 := by omega
      have S1 : Hid ((a1 : Int) * (a1 : Int) = ((a1 * a1 : Nat) : Int)) := s1
      have T1 : Hid ((r1' : Int) * (a1 : Int) = ((r1' * a1 : Nat) : Int)) := t1
      clear s1 t1 s2 t2
      have hpos : decide (0 < (e1 : Int)) = true := by simp; omega
      by_cases ho : e1 % 2 = 1
      · have H3 : Hid ((r1' * a1 % q) * (a1 * a1 % q) ^ (e1 / 2) % q = R) := by show _ = _; rw [← H1.out]; exact step_odd r1' a1 e1 q ho
        have hb : (bits BinOp.and IntKind.i64 (e1 : Int) 1 == 1) = true := by rw [and_one_i64 e1 he1, ho]; rfl
        go_wp2_with fail
        exact ⟨⟨a1 * a1 % q, e1 / 2, r1' * a1 % q, m2, by omega, m1, H3, by rw [S1.out]; go_num, by go_num, by rw [T1.out]; go_num⟩, by simp [intOf]; omega⟩
      · have H3 : Hid (r1' * (a1 * a1 % q) ^ (e1 / 2) % q = R) := by show _ = _; rw [← H1.out]; exact step_even r1' a1 e1 q (by omega)
        have hb : (bits BinOp.and IntKind.i64 (e1 : Int) 1 == 1) = false := by rw [and_one_i64 e1 he1, show e1 % 2 = 0 by omega]; rfl
        go_wp2_with fail
        exact ⟨⟨a1 * a1 % q, e1 / 2, r1', m2, by omega, hr1, H3, by rw [S1.out]; go_num, by go_num, rfl⟩, by simp [intOf]; omega⟩
def powB (e p : Int) : Bool := decide (2 ≤ p ∧ p ≤ 268435456 ∧ 0 ≤ e)
theorem powB_yes {e p : Int} (h : powB e p = true) : modB p = true ∧ 0 ≤ e ∧ 2 ≤ p ∧ p ≤ 268435456 := by simp [powB] at h; simp [modB]; omega
theorem impl_PowMod_yes (a e p : Int) (w : World) (ha : -9223372036854775808 ≤ a ∧ a ≤ 9223372036854775807) (he : -9223372036854775808 ≤ e ∧ e ≤ 9223372036854775807) (h : powB e p = true) :
    Calls Tryz.prog 211 #[.int .i64 a, .int .i64 e, .int .i64 p] w fun en w' => en = .returned (.int .i64 (powM (a % p).toNat e.toNat p.toNat : Nat)) ∧ ∃ n, w' = w.drewN n := by
  obtain ⟨h1, h2, h3, h4⟩ := powB_yes h
  clear h
  have hd : decide (e < 0) = false := by simp; omega
  have r0 := Int.emod_nonneg a (show p ≠ 0 by omega)
  have r1 := Int.emod_lt_of_pos a (b := p) (by omega)
  have hlt := powM_lt (a % p).toNat e.toNat p.toNat (by omega)
  have c := fun W => impl_powerBy p.toNat (a % p).toNat e.toNat (by omega) (by omega) (by omega) (by omega) W
  rw [Int.toNat_of_nonneg r0, Int.toNat_of_nonneg h2, Int.toNat_of_nonneg (show 0 ≤ p by omega)] at c
  generalize powM (a % p).toNat e.toNat p.toNat = R at *
  generalize hA : a % p = A at *
  have HA : Hid (a % p = A) := hA
  clear hA
  go_enter Tryz.func211, Tryz.ntmps211
  go_wp2_with (first | (go_at_call 167; refine (impl_isModulus _ _).mono ?_; rintro en w' ⟨rfl, rfl⟩) | (go_at_call 114; refine (impl_residueOf _ _ _ ha ⟨by omega, by omega⟩).mono ?_; rintro en w' ⟨rfl, rfl⟩; rw [HA.out]))

  refine (c _).mono ?_
  rintro en w2 ⟨rfl, n, rfl⟩
  go_wp2_with fail
  go_ret
  exact ⟨rfl, n, rfl⟩
end Go.Proofs.YtkggfljdbdfonaaGreatDoor
/- Proved: contracts of the products and powers of the model for moduli of 64 bits. -/
namespace Go.Proofs.YtkggfljdbdfonaaGreatDoor
open Go.ChangeShapes Go.WideShapes Go.ChangeAt Go.RowKit
open M1
theorem dbl_odd (r a b n : Nat) (h : b % 2 = 1) : ((r + a) % n + (a + a) % n * (b / 2)) % n = (r + a * b) % n := by
  have e : r + a * b = r + a + (a + a) * (b / 2) := by
    have : b = 2 * (b / 2) + 1 := by omega
    conv => lhs; rw [this]
    grind
  rw [e, Nat.add_mod, Nat.mod_mod, ml, ← Nat.add_mod]
theorem dbl_even (r a b n : Nat) (h : b % 2 = 0) : (r + (a + a) % n * (b / 2)) % n = (r + a * b) % n := by
  have e : r + a * b = r + (a + a) * (b / 2) := by
    have : b = 2 * (b / 2) := by omega
    conv => lhs; rw [this]
    grind
  rw [e, Nat.add_mod, ml, ← Nat.add_mod]
theorem add_mod_of (r a n : Nat) (hr : r < n) (ha : a < n) : (r + a) % n = if n - a ≤ r then r - (n - a) else r + a := by
  split
  · rw [Nat.mod_eq_sub_mod (by omega), Nat.mod_eq_of_lt (by omega)]; omega
  · rw [Nat.mod_eq_of_lt (by omega)]
theorem val_eq {k : IntKind} {a b : Int} (h : a = b) : Value.int k a = Value.int k b := by rw [h]
set_option maxHeartbeats 2000000 in
theorem spec_MulBig (a b n : Nat) (w : World) (ha : a < n) (hb : b < 18446744073709551616) (hn : n < 18446744073709551616) :
    Calls Tryz.prog 194 #[.int .u64 a, .int .u64 b, .int .u64 n] w fun e w' => e = .returned (.int .u64 ((a * b % n : Nat) : Int)) ∧ w' = w := by
  have H0 : Hid ((0 + a * b) % n = a * b % n) := by show _ = _; rw [Nat.zero_add]
  generalize a * b % n = R at *
  go_enter Tryz.func194, Tryz.ntmps194
  go_wp2_with fail
  go_loop [0, 1, 7] (fun a b r => ∃ a' b' r' : Nat, a' < n ∧ b' < 18446744073709551616 ∧ r' < n ∧ Hid ((r' + a' * b') % n = R) ∧ a = .int .u64 a' ∧ b = .int .u64 b' ∧ r = .int .u64 r') (fun _ b _ => (intOf b).toNat)
  case atStart => exact ⟨a, b, 0, ha, hb, by omega, H0, rfl, rfl, rfl⟩
  case round =>
    obtain ⟨a1, b1, r1, ha1, hb1, hr1, H1, rfl, rfl, rfl⟩ := hrel
    clear H0
    by_cases hz : b1 = 0
    · subst hz
      have H2 : Hid (r1 = R) := by
        have := H1.out
        rw [Nat.mul_zero, Nat.add_zero, Nat.mod_eq_of_lt hr1] at this
        exact this
      have hd : decide ((0 : Int) < ((0 : Nat) : Int)) = false := by simp
      go_wp2_with fail
      go_ret
      exact ⟨by rw [← H2.out]; rfl, rfl⟩
    · have hpos : decide (0 < (b1 : Int)) = true := by simp; omega
      have A2 := add_mod_of a1 a1 n ha1 ha1
      have A1 := add_mod_of r1 a1 n hr1 ha1
      have m2 : (a1 + a1) % n < n := Nat.mod_lt _ (by omega)
      have m1 : (r1 + a1) % n < n := Nat.mod_lt _ (by omega)
      have An := and_one_u64 (b1 : Int) (by omega) (by omega)
      by_cases hodd : b1 % 2 = 1
      · have H3 : Hid (((r1 + a1) % n + (a1 + a1) % n * (b1 / 2)) % n = R) := by show _ = _; rw [← H1.out]; exact dbl_odd r1 a1 b1 n hodd
        generalize (a1 + a1) % n = aa at *
        generalize (r1 + a1) % n = ra at *
        have hbit : (bits BinOp.and IntKind.u64 (b1 : Int) 1 == 1) = true := by rw [An]; simp; omega
        clear An
        by_cases c1 : n - a1 ≤ r1
        · rw [if_pos c1] at A1
          by_cases c2 : n - a1 ≤ a1
          · rw [if_pos c2] at A2
            have d1 : decide ((n : Int) - (a1 : Int) ≤ (r1 : Int)) = true := by simp; omega
            have d2 : decide ((n : Int) - (a1 : Int) ≤ (a1 : Int)) = true := by simp; omega
            have B1 : Hid (ra = r1 - (n - a1)) := A1
            have B2 : Hid (aa = a1 - (n - a1)) := A2
            clear A1 A2
            go_wp2_with fail
            exact ⟨⟨aa, b1 / 2, ra, m2, by omega, m1, H3, val_eq (by have := B2.out; omega), by go_num, val_eq (by have := B1.out; omega)⟩, by simp [intOf]; omega⟩
          · rw [if_neg c2] at A2
            have d1 : decide ((n : Int) - (a1 : Int) ≤ (r1 : Int)) = true := by simp; omega
            have d2 : decide ((n : Int) - (a1 : Int) ≤ (a1 : Int)) = false := by simp; omega
            have B1 : Hid (ra = r1 - (n - a1)) := A1
            have B2 : Hid (aa = a1 + a1) := A2
            clear A1 A2
            go_wp2_with fail
            exact ⟨⟨aa, b1 / 2, ra, m2, by omega, m1, H3, val_eq (by have := B2.out; omega), by go_num, val_eq (by have := B1.out; omega)⟩, by simp [intOf]; omega⟩
        · rw [if_neg c1] at A1
          by_cases c2 : n - a1 ≤ a1
          · rw [if_pos c2] at A2
            have d1 : decide ((n : Int) - (a1 : Int) ≤ (r1 : Int)) = false := by simp; omega
            have d2 : decide ((n : Int) - (a1 : Int) ≤ (a1 : Int)) = true := by simp; omega
            have B1 : Hid (ra = r1 + a1) := A1
            have B2 : Hid (aa = a1 - (n - a1)) := A2
            clear A1 A2
            go_wp2_with fail
            exact ⟨⟨aa, b1 / 2, ra, m2, by omega, m1, H3, val_eq (by have := B2.out; omega), by go_num, val_eq (by have := B1.out; omega)⟩, by simp [intOf]; omega⟩
          · rw [if_neg c2] at A2
            have d1 : decide ((n : Int) - (a1 : Int) ≤ (r1 : Int)) = false := by simp; omega
            have d2 : decide ((n : Int) - (a1 : Int) ≤ (a1 : Int)) = false := by simp; omega
            have B1 : Hid (ra = r1 + a1) := A1
            have B2 : Hid (aa = a1 + a1) := A2
            clear A1 A2
            go_wp2_with fail
            exact ⟨⟨aa, b1 / 2, ra, m2, by omega, m1, H3, val_eq (by have := B2.out; omega), by go_num, val_eq (by have := B1.out; omega)⟩, by simp [intOf]; omega⟩
      · have H3 : Hid ((r1 + (a1 + a1) % n * (b1 / 2)) % n = R) := by show _ = _; rw [← H1.out]; exact dbl_even r1 a1 b1 n (by omega)
        generalize (a1 + a1) % n = aa at *
        clear A1 m1
        have hbit : (bits BinOp.and IntKind.u64 (b1 : Int) 1 == 1) = false := by rw [An]; simp; omega
        clear An
        by_cases c2 : n - a1 ≤ a1
        · rw [if_pos c2] at A2
          have d2 : decide ((n : Int) - (a1 : Int) ≤ (a1 : Int)) = true := by simp; omega
          have B2 : Hid (aa = a1 - (n - a1)) := A2
          clear A2
          go_wp2_with fail
          exact ⟨⟨aa, b1 / 2, r1, m2, by omega, hr1, H3, val_eq (by have := B2.out; omega), by go_num, rfl⟩, by simp [intOf]; omega⟩
        · rw [if_neg c2] at A2
          have d2 : decide ((n : Int) - (a1 : Int) ≤ (a1 : Int)) = false := by simp; omega
          have B2 : Hid (aa = a1 + a1) := A2
          clear A2
          go_wp2_with fail
          exact ⟨⟨aa, b1 / 2, r1, m2, by omega, hr1, H3, val_eq (by have := B2.out; omega), by go_num, rfl⟩, by simp [intOf]; omega⟩
set_option maxHeartbeats 2000000 in
theorem spec_PowBig (a e n : Nat) (w : World) (ha : a < n) (hn2 : 2 ≤ n) (he : e < 18446744073709551616) (hn : n < 18446744073709551616) :
    Calls Tryz.prog 193 #[.int .u64 a, .int .u64 e, .int .u64 n] w fun en w' => en = .returned (.int .u64 (powM a e n : Nat)) ∧ w' = w := by
  have H0 : Hid (1 * a ^ e % n = powM a e n) := by show _ = _; rw [Nat.one_mul]; rfl
  generalize hR : powM a e n = R at *
  clear hR
  have one : Hid ((1 : Int) % (n : Int) = 1) := Int.emod_eq_of_lt (by omega) (by omega)
  go_enter Tryz.func193, Tryz.ntmps193
  go_wp2_with fail
  go_loopw [0, 1, 7] (fun a e r W => ∃ a' e' r' : Nat, a' < n ∧ e' < 18446744073709551616 ∧ r' < n ∧ Hid (r' * a' ^ e' % n = R) ∧ a = .int .u64 a' ∧ e = .int .u64 e' ∧ r = .int .u64 r' ∧ W = w) (fun _ e _ _ => (intOf e).toNat)
  case atStart => exact ⟨a, e, 1, ha, he, by omega, H0, rfl, rfl, val_eq one.out, rfl⟩
  case round =>
    obtain ⟨a1, e1, r1, ha1, he1, hr1, H1, rfl, rfl, rfl, rfl⟩ := hrel
    clear H0
    by_cases hz : e1 = 0
    · subst hz
      have H2 : Hid (r1 = R) := by
        have := H1.out
        rw [Nat.pow_zero, Nat.mul_one, Nat.mod_eq_of_lt hr1] at this
        exact this
      have hd : decide ((0 : Int) < ((0 : Nat) : Int)) = false := by simp
      go_wp2_with fail
      go_ret
      exact ⟨by rw [← H2.out]; rfl, rfl⟩
    · have csq := fun W => spec_MulBig a1 a1 n W ha1 (by omega) hn
      have cra := fun W => spec_MulBig r1 a1 n W hr1 (by omega) hn
      have hpos : decide (0 < (e1 : Int)) = true := by simp; omega
      have An := and_one_u64 (e1 : Int) (by omega) (by omega)
      have m1 : r1 * a1 % n < n := Nat.mod_lt _ (by omega)
      have m2 : a1 * a1 % n < n := Nat.mod_lt _ (by omega)
      generalize hg1 : r1 * a1 % n = ra at *
      generalize hg2 : a1 * a1 % n = aa at *
      by_cases ho : e1 % 2 = 1
      · have H3 : Hid (ra * aa ^ (e1 / 2) % n = R) := by show _ = _; rw [← H1.out, ← hg1, ← hg2]; exact step_odd r1 a1 e1 n ho
        clear hg1 hg2
        have hb : (bits BinOp.and IntKind.u64 (e1 : Int) 1 == 1) = true := by rw [An]; simp; omega
        clear ho An
        go_wp2_with fail
        refine (cra _).mono ?_
        rintro en w' ⟨rfl, rfl⟩
        go_wp2_with fail
        refine (csq _).mono ?_
        rintro en w' ⟨rfl, rfl⟩
        go_wp2_with fail
        go_roundw
        case rel => exact ⟨aa, e1 / 2, ra, m2, by omega, m1, H3, rfl, by go_num, rfl, True.intro⟩
        case measure => simp [intOf]; omega
      · have H3 : Hid (r1 * aa ^ (e1 / 2) % n = R) := by show _ = _; rw [← H1.out, ← hg2]; exact step_even r1 a1 e1 n (by omega)
        clear hg1 hg2
        have hb : (bits BinOp.and IntKind.u64 (e1 : Int) 1 == 1) = false := by rw [An]; simp; omega
        clear ho An
        go_wp2_with fail
        refine (csq _).mono ?_
        rintro en w' ⟨rfl, rfl⟩
        go_wp2_with fail
        go_roundw
        case rel => exact ⟨aa, e1 / 2, r1, m2, by omega, hr1, H3, rfl, by go_num, rfl, True.intro⟩
        case measure => simp [intOf]; omega
end Go.Proofs.YtkggfljdbdfonaaGreatDoor
/- Proved: contracts of the power, of the trailing zeros and of one witness of Miller and Rabin, under the table of the library and products modulo n. -/
namespace Go.Proofs.YtkggfljdbdfonaaGreatDoor
open Go.ChangeShapes Go.WideShapes Go.ChangeAt Go.RowKit
open M1
set_option linter.unusedVariables false
/-- the multiplier of remainders at n gives products modulo n -/
def PR (n : Nat) : Prop := ∀ (x y : Nat) (W : World), x < n → y < n → Calls Tryz.prog 215 #[.int .u64 n, .int .u64 x, .int .u64 y] W fun e w' => e = .returned (.int .u64 ((x * y % n : Nat) : Int)) ∧ ∃ k, w' = W.drewN k
set_option maxHeartbeats 1000000 in
theorem impl_powerBy_of (p a e : Nat) (pr : PR p) (hp : 2 ≤ p) (ha : a < p) (he : e < 18446744073709551616) (w : World) :
    Calls Tryz.prog 214 #[.iface 236 (.int .u64 p), .int .u64 a, .int .u64 e] w fun en w' => en = .returned (.int .u64 (powM a e p : Nat)) ∧ ∃ n, w' = w.drewN n := by
  have H0 : Hid (1 * a ^ e % p = powM a e p) := by show _ = _; rw [Nat.one_mul]; rfl
  generalize hR : powM a e p = R at *
  clear hR
  have PH : Hid (PR p) := pr
  clear pr
  go_enter Tryz.func214, Tryz.ntmps214
  go_wp2_with fail
  go_loopw [1, 2, 7] (fun a e r W => ∃ a' e' r' n : Nat, a' < p ∧ e' < 18446744073709551616 ∧ r' < p ∧ Hid (r' * a' ^ e' % p = R) ∧ a = .int .u64 a' ∧ e = .int .u64 e' ∧ r = .int .u64 r' ∧ W = w.drewN n) (fun _ e _ _ => (intOf e).toNat)
  case atStart => exact ⟨a, e, 1, 0, ha, he, by omega, H0, rfl, rfl, rfl, rfl⟩
  case round =>
    obtain ⟨a1, e1, r1, n1, ha1, he1, hr1, H1, rfl, rfl, rfl, rfl⟩ := hrel
    clear H0
    by_cases hz : e1 = 0
    · subst hz
      have H2 : Hid (r1 = R) := by
        have := H1.out
        rw [Nat.pow_zero, Nat.mul_one, Nat.mod_eq_of_lt hr1] at this
        exact this
      go_wp2_with fail
      go_ret
      exact ⟨by rw [← H2.out]; rfl, n1, rfl⟩
    · have csq := fun W => PH.out a1 a1 W ha1 ha1
      have cra := fun W => PH.out r1 a1 W hr1 ha1
      have hpos : decide (0 < (e1 : Int)) = true := by simp; omega
      have m1 : r1 * a1 % p < p := Nat.mod_lt _ (by omega)
      have m2 : a1 * a1 % p < p := Nat.mod_lt _ (by omega)
      generalize hg1 : r1 * a1 % p = ra at *
      generalize hg2 : a1 * a1 % p = aa at *
      by_cases ho : e1 % 2 = 1
      · have H3 : Hid (ra * aa ^ (e1 / 2) % p = R) := by show _ = _; rw [← H1.out, ← hg1, ← hg2]; exact step_odd r1 a1 e1 p ho
        clear hg1 hg2
        have hb : ((e1 : Int) % 2 == 1) = true := by simp; omega
        clear ho
        go_wp2_with fail
        refine (cra _).mono ?_
        rintro en w' ⟨rfl, n2, rfl⟩
        go_wp2_with fail
        refine (csq _).mono ?_
        rintro en w' ⟨rfl, n3, rfl⟩
        go_wp2_with fail
        go_roundw
        case rel => exact ⟨aa, e1 / 2, ra, _, m2, by omega, m1, H3, rfl, by go_num, rfl, rfl⟩
        case measure => simp [intOf]; omega
      · have H3 : Hid (r1 * aa ^ (e1 / 2) % p = R) := by show _ = _; rw [← H1.out, ← hg2]; exact step_even r1 a1 e1 p (by omega)
        clear hg1 hg2
        have hb : ((e1 : Int) % 2 == 1) = false := by simp; omega
        clear ho
        go_wp2_with fail
        refine (csq _).mono ?_
        rintro en w' ⟨rfl, n3, rfl⟩
        go_wp2_with fail
        go_roundw
        case rel => exact ⟨aa, e1 / 2, r1, _, m2, by omega, hr1, H3, rfl, by go_num, rfl, rfl⟩
        case measure => simp [intOf]; omega
/-- the table of the library's function, as it is laid -/
def TabW (w : World) : Prop := ∀ j, j < 64 → w.cell? ⟨0, j, none⟩ = some (.int .u8 (Lib.deBruijn64tab.getD j 0))
theorem TabW.drewN {w : World} (h : TabW w) (n : Nat) : TabW (w.drewN n) := h
set_option maxHeartbeats 1000000 in
theorem tz_core (x k idx : Nat) (w : World) (hx0 : ((x : Int) == 0) = false)
    (key : IntKind.u64.wrap (bits BinOp.and IntKind.u64 (x : Int) (IntKind.u64.wrap (-(x : Int))) * 285870213051353865) / 288230376151711744 = (idx : Int))
    (hi : idx < 64) (hk : k < 64) (hcell : w.cell? ⟨0, idx, none⟩ = some (.int .u8 k)) :
    Calls Tryz.prog 195 #[.int .u64 x] w fun e w' => e = .returned (.int .i64 k) ∧ w' = w := by
  go_enter Tryz.func195, Tryz.ntmps195
  go_wp2_with (simp only [key])
  go_ret
  exact ⟨rfl, rfl⟩
theorem tz_key (x a : Nat) (hx : x < 18446744073709551616) (hx0 : x ≠ 0) (hlow : x &&& (18446744073709551616 - x) = a) :
    IntKind.u64.wrap (bits BinOp.and IntKind.u64 (x : Int) (IntKind.u64.wrap (-(x : Int))) * 285870213051353865) / 288230376151711744 = ((a * 285870213051353865 % 18446744073709551616 / 288230376151711744 : Nat) : Int) := by
  have e1 : IntKind.u64.wrap (-(x : Int)) = ((18446744073709551616 - x : Nat) : Int) := by rw [IntKind.wrap_u64]; omega
  rw [e1, bits_and_u64_nat x _ hx (by omega), hlow, IntKind.wrap_u64]
  omega
theorem bits_tz (x : Nat) (hx : x < 18446744073709551616) (hx0 : x ≠ 0) (w : World) (hT : TabW w) :
    Calls Tryz.prog 195 #[.int .u64 x] w fun e w' => e = .returned (.int .i64 (Lib.ctz 64 x)) ∧ w' = w := by
  obtain ⟨hlow, hk⟩ := Lib.lowest_bit 64 x hx0 hx
  obtain ⟨hi, htab⟩ := Lib.deBruijn64_at _ hk
  have hcell := hT _ hi
  rw [htab] at hcell
  exact tz_core x _ _ w (by simp; omega) (tz_key x _ hx hx0 hlow) hi hk hcell
/-- is one of the next k squares n - 1? -/
def sqs (n : Nat) : Nat → Nat → Bool
  | 0, _ => false
  | k + 1, x => x == n - 1 || sqs n k (x * x % n)
/-- does the witness leave it open that n is a prime? -/
def passB (n a : Nat) : Bool := powM a ((n - 1) / 2 ^ Lib.ctz 64 (n - 1)) n == 1 || sqs n (Lib.ctz 64 (n - 1)) (powM a ((n - 1) / 2 ^ Lib.ctz 64 (n - 1)) n)
set_option maxHeartbeats 2000000 in
theorem passes_core (n a s d x0 : Nat) (w : World) (hn : 3 ≤ n) (hn' : n < 18446744073709551616) (ha : a < n) (hs : s < 64) (hx0 : x0 < n) (hd : (n - 1) / 2 ^ s = d)
    (ct : ∀ W, Hid (TabW W) → Calls Tryz.prog 195 #[.int .u64 (n - 1 : Nat)] W fun e w' => e = .returned (.int .i64 s) ∧ w' = W) (hT : TabW w)
    (cp : ∀ W, Calls Tryz.prog 214 #[.iface 236 (.int .u64 n), .int .u64 a, .int .u64 d] W fun en w' => en = .returned (.int .u64 x0) ∧ ∃ k, w' = W.drewN k) (pr : PR n) :
    Calls Tryz.prog 210 #[.int .u64 n, .int .u64 a] w fun e w' => e = .returned (.bool (x0 == 1 || sqs n s x0)) ∧ ∃ k, w' = w.drewN k := by
  have PH : Hid (PR n) := pr
  have HT : Hid (TabW w) := hT
  clear pr hT
  have e1 : ((n - 1 : Nat) : Int) = (n : Int) - 1 := by omega
  rw [e1] at ct
  have HD : Hid (((n : Int) - 1) / 2 ^ s = (d : Int)) := by show _ = _; rw [← hd, ← e1]; simp
  clear hd e1
  by_cases h1 : x0 = 1
  · subst h1
    have HB : Hid ((1 == 1 || sqs n s 1) = true) := by show _ = _; simp
    generalize (1 == 1 || sqs n s 1) = B at *
    go_enter Tryz.func210, Tryz.ntmps210
    go_wp2_with fail
    refine (ct _ HT).mono ?_
    rintro e w' ⟨rfl, rfl⟩
    go_wp2_with fail
    rw [HD.out]
    refine (cp _).mono ?_
    rintro e w' ⟨rfl, k0, rfl⟩
    go_wp2_with fail
    go_ret
    exact ⟨by rw [HB.out]; rfl, k0, rfl⟩
  · have hb1 : ((x0 : Int) == 1) = false := by simp; omega
    have HB : Hid ((x0 == 1 || sqs n s x0) = sqs n s x0) := by show _ = _; simp [h1]
    generalize (x0 == 1 || sqs n s x0) = B at *
    have H0 : Hid (sqs n (s - 0) x0 = B) := by show _ = _; rw [HB.out]; rfl
    clear HB
    go_enter Tryz.func210, Tryz.ntmps210
    go_wp2_with fail
    refine (ct _ HT).mono ?_
    rintro e w' ⟨rfl, rfl⟩
    go_wp2_with fail
    rw [HD.out]
    refine (cp _).mono ?_
    rintro e w2 ⟨rfl, k0, rfl⟩
    go_wp2_with fail
    go_loopw [7, 24] (fun x k W => ∃ x' k' m : Nat, x' < n ∧ k' ≤ s ∧ Hid (sqs n (s - k') x' = B) ∧ x = .int .u64 x' ∧ k = .int .i64 k' ∧ W = w'.drewN m) (fun _ k _ => s - (intOf k).toNat)
    case atStart => exact ⟨x0, 0, k0, hx0, by omega, H0, rfl, rfl, rfl⟩
    case round =>
      obtain ⟨x, k, m, hx, hk, H1, rfl, rfl, rfl⟩ := hrel
      clear H0 cp ct
      by_cases hlt : k < s
      · have hdk : decide ((k : Int) < (s : Int)) = true := by simp; omega
        have hstep : sqs n (s - k) x = (x == n - 1 || sqs n (s - (k + 1)) (x * x % n)) := by
          rw [show s - k = (s - (k + 1)) + 1 by omega]; rfl
        have H1' := H1.out
        rw [hstep] at H1'
        by_cases he : x = n - 1
        · have HB : Hid (true = B) := by show _ = _; rw [← H1']; simp [he]
          clear H1' hstep H1
          have hbe : ((x : Int) == (n : Int) - 1) = true := by simp; omega
          go_wp2_with fail
          go_ret
          exact ⟨by rw [← HB.out]; rfl, m, rfl⟩
        · have hne : (x == n - 1) = false := by simpa using he
          rw [hne, Bool.false_or] at H1'
          have cs := fun W => PH.out x x W hx hx
          have mx : x * x % n < n := Nat.mod_lt _ (by omega)
          generalize x * x % n = xx at *
          have H2 : Hid (sqs n (s - (k + 1)) xx = B) := H1'
          clear H1' hstep hne H1
          have hbe : ((x : Int) == (n : Int) - 1) = false := by simp; omega
          go_wp2_with fail
          refine (cs _).mono ?_
          rintro e w3 ⟨rfl, k3, rfl⟩
          go_wp2_with fail
          go_roundw
          case rel => exact ⟨xx, k + 1, _, mx, by omega, H2, rfl, by go_num, rfl⟩
          case measure => simp [intOf]; omega
      · have hdk : decide ((k : Int) < (s : Int)) = false := by simp; omega
        obtain rfl : k = s := by omega
        have HB : Hid (false = B) := by
          have := H1.out
          rw [Nat.sub_self] at this
          exact this
        clear H1
        go_wp2_with fail
        go_ret
        exact ⟨by rw [← HB.out]; rfl, m, rfl⟩
theorem passes_any (n a : Nat) (w : World) (pr : PR n) (hT : TabW w) (hn : 3 ≤ n) (hn' : n < 18446744073709551616) (ha : a < n) :
    Calls Tryz.prog 210 #[.int .u64 n, .int .u64 a] w fun e w' => e = .returned (.bool (passB n a)) ∧ ∃ k, w' = w.drewN k := by
  have hk := (Lib.lowest_bit 64 (n - 1) (by omega) (by omega)).2
  have hle : (n - 1) / 2 ^ Lib.ctz 64 (n - 1) ≤ n - 1 := Nat.div_le_self _ _
  exact passes_core n a _ _ _ w hn hn' ha hk (powM_lt _ _ _ (by omega)) rfl (fun W h => bits_tz (n - 1) (by omega) (by omega) W h.out) hT (fun W => impl_powerBy_of n a _ pr (by omega) ha (by omega) W) pr
end Go.Proofs.YtkggfljdbdfonaaGreatDoor
/- Proved: the contract of IsPrime of the program, under its table, the table of the library and products modulo n: it answers by trial division and twelve witnesses. -/
namespace Go.Proofs.YtkggfljdbdfonaaGreatDoor
open Go.ChangeShapes Go.WideShapes Go.ChangeAt Go.RowKit
open M1
set_option linter.unusedVariables false
def smallP : List Nat := [2, 3, 5, 7, 11, 13, 17, 19, 23, 29, 31, 37]
def wit (n : Nat) : List Nat → Bool
  | [] => true
  | a :: r => passB n a && wit n r
def fnd (n : Nat) : List Nat → Bool
  | [] => wit n smallP
  | p :: r => if n % p = 0 then n == p else fnd n r
/-- what both answer -/
def isP (n : Nat) : Bool := if n < 2 then false else fnd n smallP
theorem above : ∀ n, n < 41 → 2 ≤ n → ∃ p, p ∈ smallP ∧ n % p = 0 := by decide
theorem above_of (n : Nat) (h2 : 2 ≤ n) (h : ∀ p, p ∈ smallP → n % p ≠ 0) : 41 ≤ n := by
  by_cases h41 : n < 41
  · obtain ⟨p, hp, hd⟩ := above n h41 h2
    exact absurd hd (h p hp)
  · omega
/-- the program's table, as it is laid -/
def PrsW (w : World) : Prop := ∀ j, j < 12 → w.cell? ⟨1, j, none⟩ = some (.int .u64 (smallP.getD j 0))
theorem PrsW.drewN {w : World} (h : PrsW w) (n : Nat) : PrsW (w.drewN n) := h
theorem twelve (k : Nat) (h : k < 12) : k = 0 ∨ k = 1 ∨ k = 2 ∨ k = 3 ∨ k = 4 ∨ k = 5 ∨ k = 6 ∨ k = 7 ∨ k = 8 ∨ k = 9 ∨ k = 10 ∨ k = 11 := by omega
structure St (n k : Nat) (B : Bool) : Prop where
  eq : fnd n (smallP.drop k) = B
  no : ∀ p, p ∈ smallP.take k → n % p ≠ 0
theorem St.start (n : Nat) (h : ¬ n < 2) : St n 0 (isP n) := ⟨by unfold isP; rw [if_neg h]; rfl, by simp⟩
theorem St.next {n k p : Nat} {B : Bool} (h : St n k B) (hk : smallP.drop k = p :: smallP.drop (k + 1)) (ht : smallP.take (k + 1) = smallP.take k ++ [p]) (hm : n % p ≠ 0) : St n (k + 1) B := by
  refine ⟨?_, ?_⟩
  · rw [← h.eq, hk, fnd, if_neg hm]
  · intro q hq
    rw [ht] at hq
    rcases List.mem_append.1 hq with hq | hq
    · exact h.no q hq
    · rw [List.mem_singleton.1 hq]; exact hm
theorem St.hit {n k p : Nat} {B : Bool} (h : St n k B) (hk : smallP.drop k = p :: smallP.drop (k + 1)) (hm : n % p = 0) : B = (n == p) := by
  rw [← h.eq, hk, fnd, if_pos hm]
theorem St.fin {n : Nat} {B : Bool} (h : St n 12 B) (h2 : 2 ≤ n) : wit n (smallP.drop 0) = B ∧ 41 ≤ n := ⟨by rw [← h.eq]; rfl, above_of n h2 h.no⟩
theorem wit_step (n k p : Nat) (hk : smallP.drop k = p :: smallP.drop (k + 1)) : wit n (smallP.drop k) = (passB n p && wit n (smallP.drop (k + 1))) := by rw [hk, wit]
theorem ix0 (W : World) : (Instr.index 233 (.agg #[.int .u64 2, .int .u64 3, .int .u64 5, .int .u64 7, .int .u64 11, .int .u64 13, .int .u64 17, .int .u64 19, .int .u64 23, .int .u64 29, .int .u64 31, .int .u64 37]) (.int .i64 0)).run Tryz.prog W = .ok (.int .u64 2) W := by kernel_rfl
theorem ix1 (W : World) : (Instr.index 233 (.agg #[.int .u64 2, .int .u64 3, .int .u64 5, .int .u64 7, .int .u64 11, .int .u64 13, .int .u64 17, .int .u64 19, .int .u64 23, .int .u64 29, .int .u64 31, .int .u64 37]) (.int .i64 1)).run Tryz.prog W = .ok (.int .u64 3) W := by kernel_rfl
theorem ix2 (W : World) : (Instr.index 233 (.agg #[.int .u64 2, .int .u64 3, .int .u64 5, .int .u64 7, .int .u64 11, .int .u64 13, .int .u64 17, .int .u64 19, .int .u64 23, .int .u64 29, .int .u64 31, .int .u64 37]) (.int .i64 2)).run Tryz.prog W = .ok (.int .u64 5) W := by kernel_rfl
theorem ix3 (W : World) : (Instr.index 233 (.agg #[.int .u64 2, .int .u64 3, .int .u64 5, .int .u64 7, .int .u64 11, .int .u64 13, .int .u64 17, .int .u64 19, .int .u64 23, .int .u64 29, .int .u64 31, .int .u64 37]) (.int .i64 3)).run Tryz.prog W = .ok (.int .u64 7) W := by kernel_rfl
theorem ix4 (W : World) : (Instr.index 233 (.agg #[.int .u64 2, .int .u64 3, .int .u64 5, .int .u64 7, .int .u64 11, .int .u64 13, .int .u64 17, .int .u64 19, .int .u64 23, .int .u64 29, .int .u64 31, .int .u64 37]) (.int .i64 4)).run Tryz.prog W = .ok (.int .u64 11) W := by kernel_rfl
theorem ix5 (W : World) : (Instr.index 233 (.agg #[.int .u64 2, .int .u64 3, .int .u64 5, .int .u64 7, .int .u64 11, .int .u64 13, .int .u64 17, .int .u64 19, .int .u64 23, .int .u64 29, .int .u64 31, .int .u64 37]) (.int .i64 5)).run Tryz.prog W = .ok (.int .u64 13) W := by kernel_rfl
theorem ix6 (W : World) : (Instr.index 233 (.agg #[.int .u64 2, .int .u64 3, .int .u64 5, .int .u64 7, .int .u64 11, .int .u64 13, .int .u64 17, .int .u64 19, .int .u64 23, .int .u64 29, .int .u64 31, .int .u64 37]) (.int .i64 6)).run Tryz.prog W = .ok (.int .u64 17) W := by kernel_rfl
theorem ix7 (W : World) : (Instr.index 233 (.agg #[.int .u64 2, .int .u64 3, .int .u64 5, .int .u64 7, .int .u64 11, .int .u64 13, .int .u64 17, .int .u64 19, .int .u64 23, .int .u64 29, .int .u64 31, .int .u64 37]) (.int .i64 7)).run Tryz.prog W = .ok (.int .u64 19) W := by kernel_rfl
theorem ix8 (W : World) : (Instr.index 233 (.agg #[.int .u64 2, .int .u64 3, .int .u64 5, .int .u64 7, .int .u64 11, .int .u64 13, .int .u64 17, .int .u64 19, .int .u64 23, .int .u64 29, .int .u64 31, .int .u64 37]) (.int .i64 8)).run Tryz.prog W = .ok (.int .u64 23) W := by kernel_rfl
theorem ix9 (W : World) : (Instr.index 233 (.agg #[.int .u64 2, .int .u64 3, .int .u64 5, .int .u64 7, .int .u64 11, .int .u64 13, .int .u64 17, .int .u64 19, .int .u64 23, .int .u64 29, .int .u64 31, .int .u64 37]) (.int .i64 9)).run Tryz.prog W = .ok (.int .u64 29) W := by kernel_rfl
theorem ix10 (W : World) : (Instr.index 233 (.agg #[.int .u64 2, .int .u64 3, .int .u64 5, .int .u64 7, .int .u64 11, .int .u64 13, .int .u64 17, .int .u64 19, .int .u64 23, .int .u64 29, .int .u64 31, .int .u64 37]) (.int .i64 10)).run Tryz.prog W = .ok (.int .u64 31) W := by kernel_rfl
theorem ix11 (W : World) : (Instr.index 233 (.agg #[.int .u64 2, .int .u64 3, .int .u64 5, .int .u64 7, .int .u64 11, .int .u64 13, .int .u64 17, .int .u64 19, .int .u64 23, .int .u64 29, .int .u64 31, .int .u64 37]) (.int .i64 11)).run Tryz.prog W = .ok (.int .u64 37) W := by kernel_rfl
theorem ret_bool {a b : Bool} (h : a = b) : Ending.returned (.bool a) = .returned (.bool b) := by rw [h]
set_option maxHeartbeats 4000000 in
theorem impl_first (n : Nat) (w : World) (B : Bool) (h2 : 2 ≤ n) (hn : n < 18446744073709551616) (hP : PrsW w) (hT : TabW w) (S0 : St n 0 B) (pr : PR n) :
    Calls Tryz.prog 198 #[.int .u64 n] w fun e w' => e = .returned (.bool B) ∧ ∃ k, w' = w.drewN k := by
  have p0 : w.cell? ⟨1, 0, none⟩ = some (.int .u64 2) := hP 0 (by decide)
  have p1 : w.cell? ⟨1, 1, none⟩ = some (.int .u64 3) := hP 1 (by decide)
  have p2 : w.cell? ⟨1, 2, none⟩ = some (.int .u64 5) := hP 2 (by decide)
  have p3 : w.cell? ⟨1, 3, none⟩ = some (.int .u64 7) := hP 3 (by decide)
  have p4 : w.cell? ⟨1, 4, none⟩ = some (.int .u64 11) := hP 4 (by decide)
  have p5 : w.cell? ⟨1, 5, none⟩ = some (.int .u64 13) := hP 5 (by decide)
  have p6 : w.cell? ⟨1, 6, none⟩ = some (.int .u64 17) := hP 6 (by decide)
  have p7 : w.cell? ⟨1, 7, none⟩ = some (.int .u64 19) := hP 7 (by decide)
  have p8 : w.cell? ⟨1, 8, none⟩ = some (.int .u64 23) := hP 8 (by decide)
  have p9 : w.cell? ⟨1, 9, none⟩ = some (.int .u64 29) := hP 9 (by decide)
  have p10 : w.cell? ⟨1, 10, none⟩ = some (.int .u64 31) := hP 10 (by decide)
  have p11 : w.cell? ⟨1, 11, none⟩ = some (.int .u64 37) := hP 11 (by decide)
  clear hP
  have hd2 : decide ((n : Int) < 2) = false := by simp; omega
  have HS : Hid (St n 0 B) := S0
  have HT : Hid (TabW w) := hT
  have PH : Hid (PR n) := pr
  clear S0 hT pr
  go_enter Tryz.func198, Tryz.ntmps198
  go_wp2_with fail
  go_loop [10] (fun k => ∃ k' : Nat, k' ≤ 12 ∧ Hid (St n k' B) ∧ k = .int .i64 k') (fun k => 12 - (intOf k).toNat)
  case atStart => exact ⟨0, by omega, HS, rfl⟩
  case round =>
    obtain ⟨k, hk, H1, rfl⟩ := hrel
    clear HS
    by_cases hlt : k < 12
    · have hdk : decide ((k : Int) < 12) = true := by simp; omega
      rcases twelve k hlt with rfl | rfl | rfl | rfl | rfl | rfl | rfl | rfl | rfl | rfl | rfl | rfl
      · have ix := ix0
        by_cases hm : n % 2 = 0
        · have HB : Hid ((n == 2) = B) := (H1.out.hit (p := 2) rfl hm).symm
          have hbm : ((n : Int) % 2 == 0) = true := by simp; omega
          have hbe : ((n : Int) == 2) = (n == 2) := by rw [Bool.eq_iff_iff]; simp; omega
          clear hm
          go_wp2_with fail
          go_ret
          exact ⟨ret_bool HB.out, 0, rfl⟩
        · have H2 : Hid (St n 1 B) := H1.out.next (p := 2) rfl rfl hm
          have hbm : ((n : Int) % 2 == 0) = false := by simp; omega
          clear hm H1
          go_wp2_with fail
          exact ⟨⟨1, by omega, H2, rfl⟩, by simp [intOf]⟩
      · have ix := ix1
        by_cases hm : n % 3 = 0
        · have HB : Hid ((n == 3) = B) := (H1.out.hit (p := 3) rfl hm).symm
          have hbm : ((n : Int) % 3 == 0) = true := by simp; omega
          have hbe : ((n : Int) == 3) = (n == 3) := by rw [Bool.eq_iff_iff]; simp; omega
          clear hm
          go_wp2_with fail
          go_ret
          exact ⟨ret_bool HB.out, 0, rfl⟩
        · have H2 : Hid (St n 2 B) := H1.out.next (p := 3) rfl rfl hm
          have hbm : ((n : Int) % 3 == 0) = false := by simp; omega
          clear hm H1
          go_wp2_with fail
          exact ⟨⟨2, by omega, H2, rfl⟩, by simp [intOf]⟩
      · have ix := ix2
        by_cases hm : n % 5 = 0
        · have HB : Hid ((n == 5) = B) := (H1.out.hit (p := 5) rfl hm).symm
          have hbm : ((n : Int) % 5 == 0) = true := by simp; omega
          have hbe : ((n : Int) == 5) = (n == 5) := by rw [Bool.eq_iff_iff]; simp; omega
          clear hm
          go_wp2_with fail
          go_ret
          exact ⟨ret_bool HB.out, 0, rfl⟩
        · have H2 : Hid (St n 3 B) := H1.out.next (p := 5) rfl rfl hm
          have hbm : ((n : Int) % 5 == 0) = false := by simp; omega
          clear hm H1
          go_wp2_with fail
          exact ⟨⟨3, by omega, H2, rfl⟩, by simp [intOf]⟩
      · have ix := ix3
        by_cases hm : n % 7 = 0
        · have HB : Hid ((n == 7) = B) := (H1.out.hit (p := 7) rfl hm).symm
          have hbm : ((n : Int) % 7 == 0) = true := by simp; omega
          have hbe : ((n : Int) == 7) = (n == 7) := by rw [Bool.eq_iff_iff]; simp; omega
          clear hm
          go_wp2_with fail
          go_ret
          exact ⟨ret_bool HB.out, 0, rfl⟩
        · have H2 : Hid (St n 4 B) := H1.out.next (p := 7) rfl rfl hm
          have hbm : ((n : Int) % 7 == 0) = false := by simp; omega
          clear hm H1
          go_wp2_with fail
          exact ⟨⟨4, by omega, H2, rfl⟩, by simp [intOf]⟩
      · have ix := ix4
        by_cases hm : n % 11 = 0
        · have HB : Hid ((n == 11) = B) := (H1.out.hit (p := 11) rfl hm).symm
          have hbm : ((n : Int) % 11 == 0) = true := by simp; omega
          have hbe : ((n : Int) == 11) = (n == 11) := by rw [Bool.eq_iff_iff]; simp; omega
          clear hm
          go_wp2_with fail
          go_ret
          exact ⟨ret_bool HB.out, 0, rfl⟩
        · have H2 : Hid (St n 5 B) := H1.out.next (p := 11) rfl rfl hm
          have hbm : ((n : Int) % 11 == 0) = false := by simp; omega
          clear hm H1
          go_wp2_with fail
          exact ⟨⟨5, by omega, H2, rfl⟩, by simp [intOf]⟩
      · have ix := ix5
        by_cases hm : n % 13 = 0
        · have HB : Hid ((n == 13) = B) := (H1.out.hit (p := 13) rfl hm).symm
          have hbm : ((n : Int) % 13 == 0) = true := by simp; omega
          have hbe : ((n : Int) == 13) = (n == 13) := by rw [Bool.eq_iff_iff]; simp; omega
          clear hm
          go_wp2_with fail
          go_ret
          exact ⟨ret_bool HB.out, 0, rfl⟩
        · have H2 : Hid (St n 6 B) := H1.out.next (p := 13) rfl rfl hm
          have hbm : ((n : Int) % 13 == 0) = false := by simp; omega
          clear hm H1
          go_wp2_with fail
          exact ⟨⟨6, by omega, H2, rfl⟩, by simp [intOf]⟩
      · have ix := ix6
        by_cases hm : n % 17 = 0
        · have HB : Hid ((n == 17) = B) := (H1.out.hit (p := 17) rfl hm).symm
          have hbm : ((n : Int) % 17 == 0) = true := by simp; omega
          have hbe : ((n : Int) == 17) = (n == 17) := by rw [Bool.eq_iff_iff]; simp; omega
          clear hm
          go_wp2_with fail
          go_ret
          exact ⟨ret_bool HB.out, 0, rfl⟩
        · have H2 : Hid (St n 7 B) := H1.out.next (p := 17) rfl rfl hm
          have hbm : ((n : Int) % 17 == 0) = false := by simp; omega
          clear hm H1
          go_wp2_with fail
          exact ⟨⟨7, by omega, H2, rfl⟩, by simp [intOf]⟩
      · have ix := ix7
        by_cases hm : n % 19 = 0
        · have HB : Hid ((n == 19) = B) := (H1.out.hit (p := 19) rfl hm).symm
          have hbm : ((n : Int) % 19 == 0) = true := by simp; omega
          have hbe : ((n : Int) == 19) = (n == 19) := by rw [Bool.eq_iff_iff]; simp; omega
          clear hm
          go_wp2_with fail
          go_ret
          exact ⟨ret_bool HB.out, 0, rfl⟩
        · have H2 : Hid (St n 8 B) := H1.out.next (p := 19) rfl rfl hm
          have hbm : ((n : Int) % 19 == 0) = false := by simp; omega
          clear hm H1
          go_wp2_with fail
          exact ⟨⟨8, by omega, H2, rfl⟩, by simp [intOf]⟩
      · have ix := ix8
        by_cases hm : n % 23 = 0
        · have HB : Hid ((n == 23) = B) := (H1.out.hit (p := 23) rfl hm).symm
          have hbm : ((n : Int) % 23 == 0) = true := by simp; omega
          have hbe : ((n : Int) == 23) = (n == 23) := by rw [Bool.eq_iff_iff]; simp; omega
          clear hm
          go_wp2_with fail
          go_ret
          exact ⟨ret_bool HB.out, 0, rfl⟩
        · have H2 : Hid (St n 9 B) := H1.out.next (p := 23) rfl rfl hm
          have hbm : ((n : Int) % 23 == 0) = false := by simp; omega
          clear hm H1
          go_wp2_with fail
          exact ⟨⟨9, by omega, H2, rfl⟩, by simp [intOf]⟩
      · have ix := ix9
        by_cases hm : n % 29 = 0
        · have HB : Hid ((n == 29) = B) := (H1.out.hit (p := 29) rfl hm).symm
          have hbm : ((n : Int) % 29 == 0) = true := by simp; omega
          have hbe : ((n : Int) == 29) = (n == 29) := by rw [Bool.eq_iff_iff]; simp; omega
          clear hm
          go_wp2_with fail
          go_ret
          exact ⟨ret_bool HB.out, 0, rfl⟩
        · have H2 : Hid (St n 10 B) := H1.out.next (p := 29) rfl rfl hm
          have hbm : ((n : Int) % 29 == 0) = false := by simp; omega
          clear hm H1
          go_wp2_with fail
          exact ⟨⟨10, by omega, H2, rfl⟩, by simp [intOf]⟩
      · have ix := ix10
        by_cases hm : n % 31 = 0
        · have HB : Hid ((n == 31) = B) := (H1.out.hit (p := 31) rfl hm).symm
          have hbm : ((n : Int) % 31 == 0) = true := by simp; omega
          have hbe : ((n : Int) == 31) = (n == 31) := by rw [Bool.eq_iff_iff]; simp; omega
          clear hm
          go_wp2_with fail
          go_ret
          exact ⟨ret_bool HB.out, 0, rfl⟩
        · have H2 : Hid (St n 11 B) := H1.out.next (p := 31) rfl rfl hm
          have hbm : ((n : Int) % 31 == 0) = false := by simp; omega
          clear hm H1
          go_wp2_with fail
          exact ⟨⟨11, by omega, H2, rfl⟩, by simp [intOf]⟩
      · have ix := ix11
        by_cases hm : n % 37 = 0
        · have HB : Hid ((n == 37) = B) := (H1.out.hit (p := 37) rfl hm).symm
          have hbm : ((n : Int) % 37 == 0) = true := by simp; omega
          have hbe : ((n : Int) == 37) = (n == 37) := by rw [Bool.eq_iff_iff]; simp; omega
          clear hm
          go_wp2_with fail
          go_ret
          exact ⟨ret_bool HB.out, 0, rfl⟩
        · have H2 : Hid (St n 12 B) := H1.out.next (p := 37) rfl rfl hm
          have hbm : ((n : Int) % 37 == 0) = false := by simp; omega
          clear hm H1
          go_wp2_with fail
          exact ⟨⟨12, by omega, H2, rfl⟩, by simp [intOf]⟩
    · have hdk : decide ((k : Int) < 12) = false := by simp; omega
      obtain rfl : k = 12 := by omega
      obtain ⟨hw0, h41⟩ := H1.out.fin h2
      have H3 : Hid (wit n (smallP.drop 0) = B) := hw0
      clear H1 hw0
      go_wp2_with fail
      go_loopw [22] (fun k W => ∃ k' m : Nat, k' ≤ 12 ∧ Hid (wit n (smallP.drop k') = B) ∧ k = .int .i64 k' ∧ W = w.drewN m) (fun k _ => 12 - (intOf k).toNat)
      case atStart => exact ⟨0, 0, by omega, H3, rfl, rfl⟩
      case round =>
        obtain ⟨k, m, hk2, H4, rfl, rfl⟩ := hrel
        clear H3
        by_cases hlt2 : k < 12
        · have hdk2 : decide ((k : Int) < 12) = true := by simp; omega
          rcases twelve k hlt2 with rfl | rfl | rfl | rfl | rfl | rfl | rfl | rfl | rfl | rfl | rfl | rfl
          · have ix := ix0
            have hw : wit n (smallP.drop 0) = (passB n 2 && wit n (smallP.drop 1)) := wit_step n 0 2 rfl
            have H4' := H4.out
            rw [hw] at H4'
            have cp := fun W (h : Hid (TabW W)) => passes_any n 2 W PH.out h.out (by omega) hn (by omega)
            cases hp : passB n 2
            · have HB : Hid (false = B) := by show _ = _; rw [← H4', hp]; rfl
              rw [hp] at cp
              clear H4' hw H4 hp
              go_wp2_with fail
              refine (cp _ (show Hid (TabW (w.drewN m)) from HT.out)).mono ?_
              rintro e w3 ⟨rfl, k3, rfl⟩
              go_wp2_with fail
              go_ret
              exact ⟨ret_bool HB.out, _, rfl⟩
            · have H5 : Hid (wit n (smallP.drop 1) = B) := by show _ = _; rw [← H4', hp]; rfl
              rw [hp] at cp
              clear H4' hw H4 hp
              go_wp2_with fail
              refine (cp _ (show Hid (TabW (w.drewN m)) from HT.out)).mono ?_
              rintro e w3 ⟨rfl, k3, rfl⟩
              go_wp2_with fail
              go_roundw
              case rel => exact ⟨1, _, by omega, H5, rfl, rfl⟩
              case measure => simp [intOf]
          · have ix := ix1
            have hw : wit n (smallP.drop 1) = (passB n 3 && wit n (smallP.drop 2)) := wit_step n 1 3 rfl
            have H4' := H4.out
            rw [hw] at H4'
            have cp := fun W (h : Hid (TabW W)) => passes_any n 3 W PH.out h.out (by omega) hn (by omega)
            cases hp : passB n 3
            · have HB : Hid (false = B) := by show _ = _; rw [← H4', hp]; rfl
              rw [hp] at cp
              clear H4' hw H4 hp
              go_wp2_with fail
              refine (cp _ (show Hid (TabW (w.drewN m)) from HT.out)).mono ?_
              rintro e w3 ⟨rfl, k3, rfl⟩
              go_wp2_with fail
              go_ret
              exact ⟨ret_bool HB.out, _, rfl⟩
            · have H5 : Hid (wit n (smallP.drop 2) = B) := by show _ = _; rw [← H4', hp]; rfl
              rw [hp] at cp
              clear H4' hw H4 hp
              go_wp2_with fail
              refine (cp _ (show Hid (TabW (w.drewN m)) from HT.out)).mono ?_
              rintro e w3 ⟨rfl, k3, rfl⟩
              go_wp2_with fail
              go_roundw
              case rel => exact ⟨2, _, by omega, H5, rfl, rfl⟩
              case measure => simp [intOf]
          · have ix := ix2
            have hw : wit n (smallP.drop 2) = (passB n 5 && wit n (smallP.drop 3)) := wit_step n 2 5 rfl
            have H4' := H4.out
            rw [hw] at H4'
            have cp := fun W (h : Hid (TabW W)) => passes_any n 5 W PH.out h.out (by omega) hn (by omega)
            cases hp : passB n 5
            · have HB : Hid (false = B) := by show _ = _; rw [← H4', hp]; rfl
              rw [hp] at cp
              clear H4' hw H4 hp
              go_wp2_with fail
              refine (cp _ (show Hid (TabW (w.drewN m)) from HT.out)).mono ?_
              rintro e w3 ⟨rfl, k3, rfl⟩
              go_wp2_with fail
              go_ret
              exact ⟨ret_bool HB.out, _, rfl⟩
            · have H5 : Hid (wit n (smallP.drop 3) = B) := by show _ = _; rw [← H4', hp]; rfl
              rw [hp] at cp
              clear H4' hw H4 hp
              go_wp2_with fail
              refine (cp _ (show Hid (TabW (w.drewN m)) from HT.out)).mono ?_
              rintro e w3 ⟨rfl, k3, rfl⟩
              go_wp2_with fail
              go_roundw
              case rel => exact ⟨3, _, by omega, H5, rfl, rfl⟩
              case measure => simp [intOf]
          · have ix := ix3
            have hw : wit n (smallP.drop 3) = (passB n 7 && wit n (smallP.drop 4)) := wit_step n 3 7 rfl
            have H4' := H4.out
            rw [hw] at H4'
            have cp := fun W (h : Hid (TabW W)) => passes_any n 7 W PH.out h.out (by omega) hn (by omega)
            cases hp : passB n 7
            · have HB : Hid (false = B) := by show _ = _; rw [← H4', hp]; rfl
              rw [hp] at cp
              clear H4' hw H4 hp
              go_wp2_with fail
              refine (cp _ (show Hid (TabW (w.drewN m)) from HT.out)).mono ?_
              rintro e w3 ⟨rfl, k3, rfl⟩
              go_wp2_with fail
              go_ret
              exact ⟨ret_bool HB.out, _, rfl⟩
            · have H5 : Hid (wit n (smallP.drop 4) = B) := by show _ = _; rw [← H4', hp]; rfl
              rw [hp] at cp
              clear H4' hw H4 hp
              go_wp2_with fail
              refine (cp _ (show Hid (TabW (w.drewN m)) from HT.out)).mono ?_
              rintro e w3 ⟨rfl, k3, rfl⟩
              go_wp2_with fail
              go_roundw
              case rel => exact ⟨4, _, by omega, H5, rfl, rfl⟩
              case measure => simp [intOf]
          · have ix := ix4
            have hw : wit n (smallP.drop 4) = (passB n 11 && wit n (smallP.drop 5)) := wit_step n 4 11 rfl
            have H4' := H4.out
            rw [hw] at H4'
            have cp := fun W (h : Hid (TabW W)) => passes_any n 11 W PH.out h.out (by omega) hn (by omega)
            cases hp : passB n 11
            · have HB : Hid (false = B) := by show _ = _; rw [← H4', hp]; rfl
              rw [hp] at cp
              clear H4' hw H4 hp
              go_wp2_with fail
              refine (cp _ (show Hid (TabW (w.drewN m)) from HT.out)).mono ?_
              rintro e w3 ⟨rfl, k3, rfl⟩
              go_wp2_with fail
              go_ret
              exact ⟨ret_bool HB.out, _, rfl⟩
            · have H5 : Hid (wit n (smallP.drop 5) = B) := by show _ = _; rw [← H4', hp]; rfl
              rw [hp] at cp
              clear H4' hw H4 hp
              go_wp2_with fail
              refine (cp _ (show Hid (TabW (w.drewN m)) from HT.out)).mono ?_
              rintro e w3 ⟨rfl, k3, rfl⟩
              go_wp2_with fail
              go_roundw
              case rel => exact ⟨5, _, by omega, H5, rfl, rfl⟩
              case measure => simp [intOf]
          · have ix := ix5
            have hw : wit n (smallP.drop 5) = (passB n 13 && wit n (smallP.drop 6)) := wit_step n 5 13 rfl
            have H4' := H4.out
            rw [hw] at H4'
            have cp := fun W (h : Hid (TabW W)) => passes_any n 13 W PH.out h.out (by omega) hn (by omega)
            cases hp : passB n 13
            · have HB : Hid (false = B) := by show _ = _; rw [← H4', hp]; rfl
              rw [hp] at cp
              clear H4' hw H4 hp
              go_wp2_with fail
              refine (cp _ (show Hid (TabW (w.drewN m)) from HT.out)).mono ?_
              rintro e w3 ⟨rfl, k3, rfl⟩
              go_wp2_with fail
              go_ret
              exact ⟨ret_bool HB.out, _, rfl⟩
            · have H5 : Hid (wit n (smallP.drop 6) = B) := by show _ = _; rw [← H4', hp]; rfl
              rw [hp] at cp
              clear H4' hw H4 hp
              go_wp2_with fail
              refine (cp _ (show Hid (TabW (w.drewN m)) from HT.out)).mono ?_
              rintro e w3 ⟨rfl, k3, rfl⟩
              go_wp2_with fail
              go_roundw
              case rel => exact ⟨6, _, by omega, H5, rfl, rfl⟩
              case measure => simp [intOf]
          · have ix := ix6
            have hw : wit n (smallP.drop 6) = (passB n 17 && wit n (smallP.drop 7)) := wit_step n 6 17 rfl
            have H4' := H4.out
            rw [hw] at H4'
            have cp := fun W (h : Hid (TabW W)) => passes_any n 17 W PH.out h.out (by omega) hn (by omega)
            cases hp : passB n 17
            · have HB : Hid (false = B) := by show _ = _; rw [← H4', hp]; rfl
              rw [hp] at cp
              clear H4' hw H4 hp
              go_wp2_with fail
              refine (cp _ (show Hid (TabW (w.drewN m)) from HT.out)).mono ?_
              rintro e w3 ⟨rfl, k3, rfl⟩
              go_wp2_with fail
              go_ret
              exact ⟨ret_bool HB.out, _, rfl⟩
            · have H5 : Hid (wit n (smallP.drop 7) = B) := by show _ = _; rw [← H4', hp]; rfl
              rw [hp] at cp
              clear H4' hw H4 hp
              go_wp2_with fail
              refine (cp _ (show Hid (TabW (w.drewN m)) from HT.out)).mono ?_
              rintro e w3 ⟨rfl, k3, rfl⟩
              go_wp2_with fail
              go_roundw
              case rel => exact ⟨7, _, by omega, H5, rfl, rfl⟩
              case measure => simp [intOf]
          · have ix := ix7
            have hw : wit n (smallP.drop 7) = (passB n 19 && wit n (smallP.drop 8)) := wit_step n 7 19 rfl
            have H4' := H4.out
            rw [hw] at H4'
            have cp := fun W (h : Hid (TabW W)) => passes_any n 19 W PH.out h.out (by omega) hn (by omega)
            cases hp : passB n 19
            · have HB : Hid (false = B) := by show _ = _; rw [← H4', hp]; rfl
              rw [hp] at cp
              clear H4' hw H4 hp
              go_wp2_with fail
              refine (cp _ (show Hid (TabW (w.drewN m)) from HT.out)).mono ?_
              rintro e w3 ⟨rfl, k3, rfl⟩
              go_wp2_with fail
              go_ret
              exact ⟨ret_bool HB.out, _, rfl⟩
            · have H5 : Hid (wit n (smallP.drop 8) = B) := by show _ = _; rw [← H4', hp]; rfl
              rw [hp] at cp
              clear H4' hw H4 hp
              go_wp2_with fail
              refine (cp _ (show Hid (TabW (w.drewN m)) from HT.out)).mono ?_
              rintro e w3 ⟨rfl, k3, rfl⟩
              go_wp2_with fail
              go_roundw
              case rel => exact ⟨8, _, by omega, H5, rfl, rfl⟩
              case measure => simp [intOf]
          · have ix := ix8
            have hw : wit n (smallP.drop 8) = (passB n 23 && wit n (smallP.drop 9)) := wit_step n 8 23 rfl
            have H4' := H4.out
            rw [hw] at H4'
            have cp := fun W (h : Hid (TabW W)) => passes_any n 23 W PH.out h.out (by omega) hn (by omega)
            cases hp : passB n 23
            · have HB : Hid (false = B) := by show _ = _; rw [← H4', hp]; rfl
              rw [hp] at cp
              clear H4' hw H4 hp
              go_wp2_with fail
              refine (cp _ (show Hid (TabW (w.drewN m)) from HT.out)).mono ?_
              rintro e w3 ⟨rfl, k3, rfl⟩
              go_wp2_with fail
              go_ret
              exact ⟨ret_bool HB.out, _, rfl⟩
            · have H5 : Hid (wit n (smallP.drop 9) = B) := by show _ = _; rw [← H4', hp]; rfl
              rw [hp] at cp
              clear H4' hw H4 hp
              go_wp2_with fail
              refine (cp _ (show Hid (TabW (w.drewN m)) from HT.out)).mono ?_
              rintro e w3 ⟨rfl, k3, rfl⟩
              go_wp2_with fail
              go_roundw
              case rel => exact ⟨9, _, by omega, H5, rfl, rfl⟩
              case measure => simp [intOf]
          · have ix := ix9
            have hw : wit n (smallP.drop 9) = (passB n 29 && wit n (smallP.drop 10)) := wit_step n 9 29 rfl
            have H4' := H4.out
            rw [hw] at H4'
            have cp := fun W (h : Hid (TabW W)) => passes_any n 29 W PH.out h.out (by omega) hn (by omega)
            cases hp : passB n 29
            · have HB : Hid (false = B) := by show _ = _; rw [← H4', hp]; rfl
              rw [hp] at cp
              clear H4' hw H4 hp
              go_wp2_with fail
              refine (cp _ (show Hid (TabW (w.drewN m)) from HT.out)).mono ?_
              rintro e w3 ⟨rfl, k3, rfl⟩
              go_wp2_with fail
              go_ret
              exact ⟨ret_bool HB.out, _, rfl⟩
            · have H5 : Hid (wit n (smallP.drop 10) = B) := by show _ = _; rw [← H4', hp]; rfl
              rw [hp] at cp
              clear H4' hw H4 hp
              go_wp2_with fail
              refine (cp _ (show Hid (TabW (w.drewN m)) from HT.out)).mono ?_
              rintro e w3 ⟨rfl, k3, rfl⟩
              go_wp2_with fail
              go_roundw
              case rel => exact ⟨10, _, by omega, H5, rfl, rfl⟩
              case measure => simp [intOf]
          · have ix := ix10
            have hw : wit n (smallP.drop 10) = (passB n 31 && wit n (smallP.drop 11)) := wit_step n 10 31 rfl
            have H4' := H4.out
            rw [hw] at H4'
            have cp := fun W (h : Hid (TabW W)) => passes_any n 31 W PH.out h.out (by omega) hn (by omega)
            cases hp : passB n 31
            · have HB : Hid (false = B) := by show _ = _; rw [← H4', hp]; rfl
              rw [hp] at cp
              clear H4' hw H4 hp
              go_wp2_with fail
              refine (cp _ (show Hid (TabW (w.drewN m)) from HT.out)).mono ?_
              rintro e w3 ⟨rfl, k3, rfl⟩
              go_wp2_with fail
              go_ret
              exact ⟨ret_bool HB.out, _, rfl⟩
            · have H5 : Hid (wit n (smallP.drop 11) = B) := by show _ = _; rw [← H4', hp]; rfl
              rw [hp] at cp
              clear H4' hw H4 hp
              go_wp2_with fail
              refine (cp _ (show Hid (TabW (w.drewN m)) from HT.out)).mono ?_
              rintro e w3 ⟨rfl, k3, rfl⟩
              go_wp2_with fail
              go_roundw
              case rel => exact ⟨11, _, by omega, H5, rfl, rfl⟩
              case measure => simp [intOf]
          · have ix := ix11
            have hw : wit n (smallP.drop 11) = (passB n 37 && wit n (smallP.drop 12)) := wit_step n 11 37 rfl
            have H4' := H4.out
            rw [hw] at H4'
            have cp := fun W (h : Hid (TabW W)) => passes_any n 37 W PH.out h.out (by omega) hn (by omega)
            cases hp : passB n 37
            · have HB : Hid (false = B) := by show _ = _; rw [← H4', hp]; rfl
              rw [hp] at cp
              clear H4' hw H4 hp
              go_wp2_with fail
              refine (cp _ (show Hid (TabW (w.drewN m)) from HT.out)).mono ?_
              rintro e w3 ⟨rfl, k3, rfl⟩
              go_wp2_with fail
              go_ret
              exact ⟨ret_bool HB.out, _, rfl⟩
            · have H5 : Hid (wit n (smallP.drop 12) = B) := by show _ = _; rw [← H4', hp]; rfl
              rw [hp] at cp
              clear H4' hw H4 hp
              go_wp2_with fail
              refine (cp _ (show Hid (TabW (w.drewN m)) from HT.out)).mono ?_
              rintro e w3 ⟨rfl, k3, rfl⟩
              go_wp2_with fail
              go_roundw
              case rel => exact ⟨12, _, by omega, H5, rfl, rfl⟩
              case measure => simp [intOf]
        · have hdk2 : decide ((k : Int) < 12) = false := by simp; omega
          obtain rfl : k = 12 := by omega
          have HB : Hid (true = B) := H4.out
          clear H4
          go_wp2_with fail
          go_ret
          exact ⟨ret_bool HB.out, m, rfl⟩
end Go.Proofs.YtkggfljdbdfonaaGreatDoor
/- Proved: the digits of a long division by halves of a word are the true ones; no program in sight. -/
namespace Go.Proofs.YtkggfljdbdfonaaGreatDoor.M1
/-- what holds of a guessed digit q and what is left r of u over the high half y1, where the digit is of u, v over y1, y0 -/
structure Dig (u v y1 y0 q r : Nat) : Prop where
  eq : q * y1 + r = u
  ge : (u * 4294967296 + v) / (y1 * 4294967296 + y0) ≤ q
structure Half (u v y1 y0 : Nat) : Prop where
  y1lo : 2147483648 ≤ y1
  y1hi : y1 < 4294967296
  y0hi : y0 < 4294967296
  vhi : v < 4294967296
  ult : u < y1 * 4294967296 + y0
theorem div_lt_K (u v Y K : Nat) (hv : v < K) (hu : u < Y) : (u * K + v) / Y < K := by
  apply Nat.div_lt_of_lt_mul
  have : (u + 1) * K ≤ Y * K := Nat.mul_le_mul_right _ (by omega)
  rw [Nat.add_mul] at this
  omega
theorem Half.Qlt {u v y1 y0 : Nat} (h : Half u v y1 y0) : (u * 4294967296 + v) / (y1 * 4294967296 + y0) < 4294967296 :=
  div_lt_K u v _ 4294967296 h.vhi h.ult
theorem Dig.start {u v y1 y0 : Nat} (h : Half u v y1 y0) : Dig u v y1 y0 (u / y1) (u - u / y1 * y1) ∧ u / y1 * y1 ≤ u ∧ u - u / y1 * y1 < 4294967296 ∧ u / y1 ≤ 4294967297 := by
  obtain ⟨h1, h2, h3, h4, h5⟩ := h
  have e := Nat.div_add_mod u y1
  have m := Nat.mod_lt u (show y1 > 0 by omega)
  rw [Nat.mul_comm] at e
  refine ⟨⟨by omega, ?_⟩, by omega, by omega, ?_⟩
  · rw [Nat.le_div_iff_mul_le (by omega)]
    have hq := Nat.div_mul_le_self (u * 4294967296 + v) (y1 * 4294967296 + y0)
    generalize (u * 4294967296 + v) / (y1 * 4294967296 + y0) = Q at *
    have e2 : Q * (y1 * 4294967296 + y0) = Q * y1 * 4294967296 + Q * y0 := by grind
    generalize Q * y1 = a at *
    generalize Q * y0 = b at *
    omega
  · rw [Nat.div_le_iff_le_mul_add_pred (by omega)]
    omega
theorem Dig.more {u v y1 y0 q r : Nat} (h : Half u v y1 y0) (d : Dig u v y1 y0 q r) (hc : 4294967296 ≤ q ∨ 4294967296 * r + v < q * y0) : 1 ≤ q ∧ Dig u v y1 y0 (q - 1) (r + y1) := by
  have hQ := h.Qlt
  have hm : 1 ≤ q ∧ (q - 1) * y1 + (r + y1) = u ∧ (u * 4294967296 + v) / (y1 * 4294967296 + y0) ≤ q - 1 := ?_
  · exact ⟨hm.1, ⟨hm.2.1, hm.2.2⟩⟩
  obtain ⟨h1, h2, h3, h4, h5⟩ := h
  obtain ⟨e, g⟩ := d
  have hlt : (u * 4294967296 + v) / (y1 * 4294967296 + y0) < q := by
    rcases hc with hc | hc
    · omega
    · rw [Nat.div_lt_iff_lt_mul (by omega)]
      have e2 : q * (y1 * 4294967296 + y0) = q * y1 * 4294967296 + q * y0 := by grind
      rw [e2]
      generalize q * y1 = a at *
      generalize q * y0 = b at *
      omega
  generalize (u * 4294967296 + v) / (y1 * 4294967296 + y0) = Q at *
  refine ⟨by omega, ?_, by omega⟩
  obtain ⟨q', rfl⟩ : ∃ q', q = q' + 1 := ⟨q - 1, by omega⟩
  rw [Nat.add_sub_cancel, Nat.add_mul] at *
  omega
theorem Dig.done {u v y1 y0 q r : Nat} (h : Half u v y1 y0) (d : Dig u v y1 y0 q r) (hc : q * y0 ≤ 4294967296 * r + v) : q = (u * 4294967296 + v) / (y1 * 4294967296 + y0) := by
  obtain ⟨h1, h2, h3, h4, h5⟩ := h
  obtain ⟨e, g⟩ := d
  apply Nat.le_antisymm _ g
  rw [Nat.le_div_iff_mul_le (by omega)]
  have e2 : q * (y1 * 4294967296 + y0) = q * y1 * 4294967296 + q * y0 := by grind
  rw [e2]
  generalize q * y1 = a at *
  generalize q * y0 = b at *
  omega
theorem Dig.broke {u v y1 y0 q r : Nat} (h : Half u v y1 y0) (d : Dig u v y1 y0 q r) (hq : q ≤ 4294967296) (hr : 4294967296 ≤ r) : q = (u * 4294967296 + v) / (y1 * 4294967296 + y0) := by
  have h' := h
  obtain ⟨h1, h2, h3, h4, h5⟩ := h'
  apply d.done h
  have : q * y0 ≤ 4294967296 * y0 := Nat.mul_le_mul_right _ hq
  omega
/-- what is left behind a digit -/
theorem left_over (u v Y : Nat) : u * 4294967296 + v - (u * 4294967296 + v) / Y * Y = (u * 4294967296 + v) % Y ∧ (u * 4294967296 + v) / Y * Y ≤ u * 4294967296 + v := by
  have e := Nat.div_add_mod (u * 4294967296 + v) Y
  rw [Nat.mul_comm] at e
  generalize (u * 4294967296 + v) / Y * Y = a at *
  omega
theorem two_digits (u v1 v0 Y : Nat) : ((u * 4294967296 + v1) % Y * 4294967296 + v0) % Y = (u * 18446744073709551616 + (v1 * 4294967296 + v0)) % Y := by
  rw [Nat.add_mod, Nat.mul_mod, Nat.mod_mod, ← Nat.mul_mod, ← Nat.add_mod]
  have e2 : (u * 4294967296 + v1) * 4294967296 + v0 = u * 18446744073709551616 + (v1 * 4294967296 + v0) := by omega
  rw [e2]
end Go.Proofs.YtkggfljdbdfonaaGreatDoor.M1
