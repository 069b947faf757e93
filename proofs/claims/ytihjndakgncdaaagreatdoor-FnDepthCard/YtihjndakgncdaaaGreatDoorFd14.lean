/- Proved: several texts in one: what each proves is said ahead of it. -/
import Derived.Test.YtihjndakgncdaaaGreatDoorRows
import Derived.WalkKit
import Derived.ProofKit
import Derived.OpenShut
import Derived.Deep.Draws
import Derived.Test.YtihjndakgncdaaaGreatDoorFd02
import Derived.Lib.Mul64
import Derived.Laws.Bits64b
/- Proved: contracts of the tests for a modulus and of the least residue, of the program and of the model. -/
namespace Go.Proofs.YtihjndakgncdaaaGreatDoor
open Go.ChangeShapes Go.WideShapes Go.ChangeAt Go.RowKit
def modB (p : Int) : Bool := decide (2 ≤ p ∧ p ≤ 268435456)
theorem modB_yes {p : Int} (h : modB p = true) : 2 ≤ p ∧ p ≤ 268435456 := by simpa [modB] using h
theorem modB_no {p : Int} (h : modB p = false) : p < 2 ∨ (2 ≤ p ∧ 268435456 < p) := by simp [modB] at h; omega
theorem impl_isModulus (p : Int) (w : World) :
    Calls Tryz.prog 86 #[.int .i64 p] w fun e w' => e = .returned (.bool (modB p)) ∧ w' = w := by
  cases h : modB p
  · rcases modB_no h with h1 | ⟨h1, h2⟩
    all_goals
      clear h
      try (have d : decide (p ≤ 268435456) = false := by simp; omega)
      go_enter Tryz.func86, Tryz.ntmps86
      go_wp2
      go_ret
      exact ⟨rfl, rfl⟩
  · obtain ⟨h1, h2⟩ := modB_yes h
    clear h
    go_enter Tryz.func86, Tryz.ntmps86
    go_wp2
    go_ret
    exact ⟨rfl, rfl⟩
theorem spec_modulus (p : Int) (w : World) :
    Calls Tryz.prog 89 #[.int .i64 p] w fun e w' => e = .returned (.bool (modB p)) ∧ w' = w := by
  cases h : modB p
  · rcases modB_no h with h1 | ⟨h1, h2⟩
    all_goals
      clear h
      try (have d : decide (p ≤ 268435456) = false := by simp; omega)
      go_enter Tryz.func89, Tryz.ntmps89
      go_wp2
      go_ret
      exact ⟨rfl, rfl⟩
  · obtain ⟨h1, h2⟩ := modB_yes h
    clear h
    go_enter Tryz.func89, Tryz.ntmps89
    go_wp2
    go_ret
    exact ⟨rfl, rfl⟩
theorem tmod_neg (a p : Int) (h0 : a < 0) (hp : 1 ≤ p) : -p < a.tmod p ∧ a.tmod p ≤ 0 ∧ (a.tmod p < 0 → a.tmod p + p = a % p) ∧ (0 ≤ a.tmod p → a.tmod p = a % p) := by
  have e : Int.tmod a p = - ((-a) % p) := by
    rw [← Int.tmod_eq_emod_of_nonneg (by omega), Int.neg_tmod, Int.neg_neg]
  have r0 := Int.emod_nonneg (-a) (show p ≠ 0 by omega)
  have r1 := Int.emod_lt_of_pos (-a) (b := p) (by omega)
  have k : (-a) % p = if p ∣ a then 0 else p - a % p := by
    rw [Int.neg_emod]
    have : (p.natAbs : Int) = p := by omega
    rw [this]
  by_cases hd : p ∣ a
  · rw [if_pos hd] at k
    omega
  · rw [if_neg hd] at k
    have s1 := Int.emod_lt_of_pos a (b := p) (by omega)
    omega
theorem impl_residueOf (a p : Int) (w : World) (ha : -9223372036854775808 ≤ a ∧ a ≤ 9223372036854775807) (hp : 1 ≤ p ∧ p ≤ 4294967296) :
    Calls Tryz.prog 87 #[.int .i64 a, .int .i64 p] w fun e w' => e = .returned (.int .i64 (a % p)) ∧ w' = w := by
  obtain ⟨h1, h2⟩ := hp
  obtain ⟨h3, h4⟩ := ha
  by_cases h0 : 0 ≤ a
  · have r0 := Int.emod_nonneg a (show p ≠ 0 by omega)
    go_enter Tryz.func87, Tryz.ntmps87
    go_wp2
    go_ret
    exact ⟨rfl, rfl⟩
  · obtain ⟨t1, t2, t3, t4⟩ := tmod_neg a p (by omega) h1
    have T3 : Hid (a.tmod p < 0 → a.tmod p + p = a % p) := t3
    have T4 : Hid (0 ≤ a.tmod p → a.tmod p = a % p) := t4
    clear t3 t4
    by_cases hs : a.tmod p < 0
    · go_enter Tryz.func87, Tryz.ntmps87
      go_wp2
      go_ret
      exact ⟨by rw [← T3.out hs]; rfl, rfl⟩
    · go_enter Tryz.func87, Tryz.ntmps87
      go_wp2
      go_ret
      exact ⟨by rw [← T4.out (by omega)]; rfl, rfl⟩
end Go.Proofs.YtihjndakgncdaaaGreatDoor
/- Proved: the contract of the library function Mul64 over the program of this seat: the two words of the product. -/
namespace Go.Proofs.YtihjndakgncdaaaGreatDoor
open Go.ChangeShapes Go.WideShapes Go.ChangeAt Go.RowKit
open M1
namespace Mul64
theorem maskN (a : Nat) (ha : a < 18446744073709551616) : bits .and .u64 (a : Int) 4294967295 = ((a % 4294967296 : Nat) : Int) := by
  have h := bits_and_u64_nat a 4294967295 ha (by omega)
  have e : a &&& 4294967295 = a % 4294967296 := Nat.and_two_pow_sub_one_eq_mod a 32
  rw [e] at h
  exact h
theorem divN (a : Nat) : (a : Int) / 4294967296 = ((a / 4294967296 : Nat) : Int) := by omega
theorem mulN (a b : Nat) : (a : Int) * (b : Int) = ((a * b : Nat) : Int) := (Int.natCast_mul a b).symm
theorem addN (a b : Nat) : (a : Int) + (b : Int) = ((a + b : Nat) : Int) := (Int.natCast_add a b).symm
theorem wrapN (a : Nat) (ha : a < 18446744073709551616) : IntKind.u64.wrap (a : Int) = (a : Int) := by rw [IntKind.wrap_u64]; omega
theorem wrapM (a : Nat) : IntKind.u64.wrap (a : Int) = ((a % 18446744073709551616 : Nat) : Int) := by rw [IntKind.wrap_u64]; omega
end Mul64
set_option maxHeartbeats 1000000 in
theorem bits_Mul64 (x y : Nat) (hx : x < 18446744073709551616) (hy : y < 18446744073709551616) (w : World) :
    Calls Tryz.prog 109 #[.int .u64 x, .int .u64 y] w fun e w' => e = .returned (.tuple #[.int .u64 ((x * y / 18446744073709551616 : Nat) : Int), .int .u64 ((x * y % 18446744073709551616 : Nat) : Int)]) ∧ w' = w := by
  obtain ⟨bd, bt, bw, hhi⟩ := Lib.mul64_hi x y hx hy
  have ba := Lib.half_mul_le (a := x / 4294967296) (b := y / 4294967296) (by omega) (by omega)
  have bb := Lib.half_mul_le (a := x / 4294967296) (b := y % 4294967296) (by omega) (by omega)
  have bc := Lib.half_mul_le (a := x % 4294967296) (b := y / 4294967296) (by omega) (by omega)
  have ba' : x / 4294967296 * (y / 4294967296) < 18446744073709551616 := by omega
  have bb' : x / 4294967296 * (y % 4294967296) < 18446744073709551616 := by omega
  have bc' : x % 4294967296 * (y / 4294967296) < 18446744073709551616 := by omega
  have bh1 : x / 4294967296 * (y / 4294967296) + (x / 4294967296 * (y % 4294967296) + x % 4294967296 * (y % 4294967296) / 4294967296) / 4294967296 < 18446744073709551616 := by omega
  have bh : x / 4294967296 * (y / 4294967296) + (x / 4294967296 * (y % 4294967296) + x % 4294967296 * (y % 4294967296) / 4294967296) / 4294967296 + ((x / 4294967296 * (y % 4294967296) + x % 4294967296 * (y % 4294967296) / 4294967296) % 4294967296 + x % 4294967296 * (y / 4294967296)) / 4294967296 < 18446744073709551616 := by omega
  go_enter Tryz.func109, Tryz.ntmps109
  go_wp2
  simp only [Mul64.maskN x hx, Mul64.maskN y hy, Mul64.divN, Mul64.mulN, Mul64.addN, Mul64.wrapN _ bd, Mul64.wrapN _ bb', Mul64.wrapN _ bt, Mul64.maskN _ bt, Mul64.wrapN _ bc', Mul64.wrapN _ bw, Mul64.wrapN _ ba', Mul64.wrapN _ bh1, Mul64.wrapN _ bh, Mul64.wrapM (x * y)]
  rw [hhi]
  go_ret2
  exact ⟨rfl, rfl⟩
end Go.Proofs.YtihjndakgncdaaaGreatDoor
/- Proved: contracts of the library functions Div64 and Rem64 where the high word is 0, and of the product by remainder for small factors. -/
namespace Go.Proofs.YtihjndakgncdaaaGreatDoor
open Go.ChangeShapes Go.WideShapes Go.ChangeAt Go.RowKit
open M1
theorem ret_two {k l : IntKind} {a b c d : Int} (h : a = b) (g : c = d) : Ending.returned (.tuple #[.int k a, .int l c]) = .returned (.tuple #[.int k b, .int l d]) := by rw [h, g]
set_option maxHeartbeats 1000000 in
theorem bits_Div64_zero (lo y : Nat) (hl : lo < 18446744073709551616) (hy : 0 < y) (hy' : y < 18446744073709551616) (w : World) :
    Calls Tryz.prog 111 #[.int .u64 0, .int .u64 lo, .int .u64 y] w fun e w' => e = .returned (.tuple #[.int .u64 ((lo / y : Nat) : Int), .int .u64 ((lo % y : Nat) : Int)]) ∧ ∃ n, w' = w.drewN n := by
  have hq : lo / y ≤ lo := Nat.div_le_self lo y
  have h0 : ((y : Int) == 0) = false := by simp; omega
  go_enter Tryz.func111, Tryz.ntmps111
  go_wp2
  go_region
  all_goals go_wp2
  all_goals go_ret2
  all_goals exact ⟨ret_two (by rw [← Int.natCast_ediv]; exact Mul64.wrapN _ (by omega)) (Int.natCast_emod _ _).symm, 1, rfl⟩
theorem bits_Rem64_small (lo y : Nat) (hl : lo < 18446744073709551616) (hy : 0 < y) (hy' : y < 18446744073709551616) (w : World) :
    Calls Tryz.prog 110 #[.int .u64 0, .int .u64 lo, .int .u64 y] w fun e w' => e = .returned (.int .u64 ((lo % y : Nat) : Int)) ∧ ∃ n, w' = w.drewN n := by
  go_enter Tryz.func110, Tryz.ntmps110
  go_wp2_with (first | (go_at_call 111; refine (bits_Div64_zero lo y hl hy hy' _).mono ?_; rintro e w' ⟨rfl, n, rfl⟩))
  go_ret
  exact ⟨rfl, _, rfl⟩
theorem product_small (p x y : Nat) (hp : 0 < p) (hp' : p < 18446744073709551616) (h : x * y < 18446744073709551616) (hx : x < 18446744073709551616) (hy : y < 18446744073709551616) (w : World) :
    Calls Tryz.prog 108 #[.int .u64 p, .int .u64 x, .int .u64 y] w fun e w' => e = .returned (.int .u64 ((x * y % p : Nat) : Int)) ∧ ∃ n, w' = w.drewN n := by
  have c := bits_Mul64 x y hx hy
  rw [Nat.div_eq_of_lt h, Nat.mod_eq_of_lt h] at c
  generalize x * y = z at *
  go_enter Tryz.func108, Tryz.ntmps108
  go_wp2_with fail
  refine (c _).mono ?_
  rintro e w' ⟨rfl, rfl⟩
  go_wp2_with fail

  refine (bits_Rem64_small z p h hp hp' _).mono ?_
  rintro e w' ⟨rfl, n, rfl⟩
  go_wp2_with fail
  go_ret
  exact ⟨rfl, _, rfl⟩
end Go.Proofs.YtihjndakgncdaaaGreatDoor
