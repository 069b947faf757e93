/- Proved: the contract of the product by Barrett: for factors below an odd modulus it is the product modulo it. -/
import Derived.Test.YtgejgkbpbikadaaRows
import Derived.WalkKit
import Derived.ProofKit
import Derived.OpenShut
import Derived.Handy
import Derived.Deep.Draws
import Derived.Deep.QuietTactic
import Derived.BigQuiet
import Derived.Test.YtgejgkbpbikadaaMul64
import Derived.Test.YtgejgkbpbikadaaBarOf
namespace Go.Proofs.Ytgejgkbpbikadaa
open Go.ChangeShapes Go.WideShapes Go.ChangeAt Go.RowKit
open M1
theorem lessOnce_any (x p : Nat) (w : World) (h : x < 2 * p) (hp : p < 9223372036854775808) :
    Calls Try.prog 78 #[.int .u64 x, .int .u64 p] w fun e w' => e = .returned (.int .u64 ((x % p : Nat) : Int)) ∧ w' = w := by
  have hm := less_once x p h
  by_cases hc : p ≤ x
  · rw [if_pos hc] at hm
    have H : Hid (x - p = x % p) := hm
    clear hm
    go_enter Try.func78, Try.ntmps78
    go_wp2
    go_ret
    exact ⟨by rw [← H.out, Int.natCast_sub hc]; rfl, rfl⟩
  · rw [if_neg hc] at hm
    have H : Hid (x = x % p) := hm
    clear hm
    go_enter Try.func78, Try.ntmps78
    go_wp2
    go_ret
    exact ⟨by rw [← H.out]; rfl, rfl⟩
theorem barrett_words (p L M z hi lo : Nat) (hp : 0 < p) (hp' : p < 268435456) (hL : L ≤ 28) (hM : M = 2 ^ (2 * L) / p) (hz : z < 2 ^ (2 * L))
    (hhi : z * M / 18446744073709551616 = hi) (hlo : z * M % 18446744073709551616 = lo) :
    IntKind.u64.wrap ((z : Int) - IntKind.u64.wrap (bits BinOp.or IntKind.u64 (IntKind.u64.wrap ((hi : Int) * 2 ^ (64 - 2 * L))) ((lo : Int) / 2 ^ (2 * L)) * (p : Int))) = ((z - z * M / 2 ^ (2 * L) * p : Nat) : Int)
    ∧ z - z * M / 2 ^ (2 * L) * p < 2 * p ∧ (z - z * M / 2 ^ (2 * L) * p) % p = z % p := by
  have hD : 0 < 2 ^ (2 * L) := Nat.two_pow_pos _
  have hD' : 2 ^ (2 * L) ≤ 2 ^ 56 := Nat.pow_le_pow_right (by omega) (by omega)
  obtain ⟨k1, k2⟩ := barrett p (2 ^ (2 * L)) z M hp hD hM hz
  have k3 := barrett_mod p (2 ^ (2 * L)) z M hp hD hM hz
  refine ⟨?_, by omega, k3⟩
  have tw := two_words (z * M) (2 * L) (by omega)
  have e64 : (2 : Nat) ^ 64 = 18446744073709551616 := by decide
  rw [e64, hhi, hlo] at tw
  have hlo' : lo < 18446744073709551616 := by omega
  have hb : lo / 2 ^ (2 * L) < 2 ^ (64 - 2 * L) := by
    rw [Nat.div_lt_iff_lt_mul hD, ← Nat.pow_add, show 64 - 2 * L + 2 * L = 64 by omega, e64]
    exact hlo'
  generalize hq : z * M / 2 ^ (2 * L) = q at *
  have hq1 : q ≤ q * p := Nat.le_mul_of_pos_right q hp
  have hor : hi * 2 ^ (64 - 2 * L) ||| lo / 2 ^ (2 * L) = q := by
    rw [Nat.mul_comm, ← Nat.two_pow_add_eq_or_of_lt hb, Nat.mul_comm]
    exact tw
  have c1 : (hi : Int) * 2 ^ (64 - 2 * L) = ((hi * 2 ^ (64 - 2 * L) : Nat) : Int) := by simp
  have c2 : (lo : Int) / 2 ^ (2 * L) = ((lo / 2 ^ (2 * L) : Nat) : Int) := by simp
  rw [c1, c2]
  clear c1 c2
  generalize hi * 2 ^ (64 - 2 * L) = A at *
  generalize lo / 2 ^ (2 * L) = B at *
  rw [Mul64.wrapN _ (by omega), bits_or_u64_nat _ _ (by omega) (by omega), hor, ← Int.natCast_mul, Mul64.wrapN _ (by omega), ← Int.natCast_sub k1, Mul64.wrapN _ (by omega)]
theorem ret_int' {k : IntKind} {a b : Int} (h : a = b) : Ending.returned (.int k a) = .returned (.int k b) := by rw [h]
set_option maxHeartbeats 1000000 in
theorem barrett_product (p L M x y z hi lo : Nat) (w : World) (hzz : x * y = z) (hp0 : 0 < p) (hp : p < 268435456) (hL : L ≤ 28) (hMe : M = 2 ^ (2 * L) / p) (hz : z < 2 ^ (2 * L)) (hM : M ≤ 72057594037927936) (hxy : z ≤ 72057594037927936)
    (hhi : z * M / 18446744073709551616 = hi) (hlo : z * M % 18446744073709551616 = lo) :
    Calls Try.prog 76 #[.agg #[.int .i64 p, .int .i64 (2 * L), .int .i64 M], .int .u64 x, .int .u64 y] w fun e w' => e = .returned (.int .u64 ((z % p : Nat) : Int)) ∧ Grown w w' := by
  have c := fun W => bits_Mul64 z M (by omega) (by omega) W
  obtain ⟨v1, v2, v3⟩ := barrett_words p L M z hi lo hp0 hp hL hMe hz hhi hlo
  rw [hhi, hlo] at c
  clear hhi hlo hMe hz
  have exy : (x : Int) * (y : Int) = (z : Int) := by rw [← hzz]; simp
  clear hzz
  generalize z - z * M / 2 ^ (2 * L) * p = t at *
  have V1 : Hid (IntKind.u64.wrap ((z : Int) - IntKind.u64.wrap (bits BinOp.or IntKind.u64 (IntKind.u64.wrap ((hi : Int) * 2 ^ (64 - 2 * L))) ((lo : Int) / 2 ^ (2 * L)) * (p : Int))) = ((t : Nat) : Int)) := v1
  have V3 : Hid (t % p = z % p) := v3
  clear v1 v3
  go_enter Try.func76, Try.ntmps76
  go_wp2_with fail
  go_quiet (fail)
  go_wp2_with fail
  refine (c _).mono ?_
  rintro e w' ⟨rfl, rfl⟩
  go_wp2_with fail
  rw [V1.out]
  refine (lessOnce_any t p _ v2 (by omega)).mono ?_
  rintro e w2 ⟨rfl, rfl⟩
  rw [V3.out]
  go_wp2_with fail
  go_ret
  exact ⟨ret_int' (by simp), grown_trans (Grown.alloc (Grown.refl _) _ _) (grown_drewN _ nq)⟩
end Go.Proofs.Ytgejgkbpbikadaa
