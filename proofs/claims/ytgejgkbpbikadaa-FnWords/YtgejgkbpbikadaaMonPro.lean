/- Proved: the contract of the product by Montgomery: for factors below an odd modulus it is their product times the inverse of the word. -/
import Derived.Test.YtgejgkbpbikadaaRows
import Derived.WalkKit
import Derived.ProofKit
import Derived.OpenShut
import Derived.Handy
import Derived.Deep.QuietTactic
import Derived.BigQuiet
import Derived.Test.YtgejgkbpbikadaaMonOf
import Derived.Test.YtgejgkbpbikadaaInv
namespace Go.Proofs.Ytgejgkbpbikadaa
open Go.ChangeShapes Go.WideShapes Go.ChangeAt Go.RowKit
open M1
theorem mInv_ex (p : Nat) (h : p % 2 = 1) : ∀ k : Nat, ∃ x : Nat, x < 4294967296 ∧ dS k ∣ (p : Int) * (x : Int) - 1
  | 0 => ⟨1, by omega, by show (2 : Int) ∣ _; simp; omega⟩
  | k + 1 => by
    obtain ⟨x, _, hd⟩ := mInv_ex p h k
    obtain ⟨r, hr, _, _, hr3⟩ := nstep p x
    exact ⟨r, hr, newton p x r 4294967296 (dS k) (dS (k + 1)) hd hr3 (dS_step k).1 (dS_step k).2⟩
theorem monI_spec (p : Nat) (h : p % 2 = 1) : ∃ k, monI p * p + 1 = k * 4294967296 ∧ monI p < 4294967296 := by
  obtain ⟨x, hx, hd⟩ := mInv_ex p h 5
  have hd' : (4294967296 : Int) ∣ (p : Int) * (x : Int) - 1 := hd
  have e := mInv_of p x hx hd'
  have hpos := mInv_pos p x hd'
  unfold monI
  rw [e]
  have hpx : 1 ≤ p * x := Nat.mul_pos (by omega) hpos
  have hm : ∃ m, p * x = 1 + m * 4294967296 := by
    have e2 : (p : Int) * (x : Int) = ((p * x : Nat) : Int) := by simp
    rw [e2] at hd'
    generalize p * x = z at *
    exact ⟨(z - 1) / 4294967296, by omega⟩
  obtain ⟨m, hm⟩ := hm
  refine ⟨p - m, ?_, by omega⟩
  rw [Nat.sub_mul, Nat.sub_mul, Nat.mul_comm x p, hm]
  have : m * 4294967296 < p * 4294967296 := by
    have : p * x < p * 4294967296 := Nat.mul_lt_mul_of_pos_left hx (by omega)
    omega
  omega
theorem back_of (p k : Nat) (hp : 2 ≤ p) (h : monI p * p + 1 = k * 4294967296) : invM (4294967296 % p) p = k % p := by
  refine invM_of _ _ _ (Nat.mod_lt _ (by omega)) ?_
  rw [← Nat.mul_mod, Nat.mul_comm, ← h, Nat.add_comm, Nat.add_mul_mod_self_right, Nat.mod_eq_of_lt (by omega)]
set_option maxHeartbeats 1000000 in
theorem mont_product (p T x y z : Nat) (w : World) (hzz : x * y = z) (hp2 : 2 ≤ p) (hp : p < 268435456) (ho : p % 2 = 1) (hz : z ≤ 72057594037927936) (hzp : z < 4294967296 * p) :
    Calls Try.prog 79 #[.agg (monV p (monI p) T), .int .u64 x, .int .u64 y] w fun e w' => e = .returned (.int .u64 ((z % p * invM (4294967296 % p) p % p : Nat) : Int)) ∧ Grown w w' := by
  obtain ⟨k, hk, hI⟩ := monI_spec p ho
  rw [back_of p k hp2 hk]
  obtain ⟨m1, m2, m3⟩ := mont p 4294967296 z _ (monI p) k (by omega) hk rfl hzp
  rw [← m3]
  clear m3 hk m1
  generalize monI p = I at *
  have hf : z * I % 4294967296 < 4294967296 := Nat.mod_lt _ (by omega)
  have bfp : z * I % 4294967296 * p ≤ 4294967296 * 268435456 := Nat.mul_le_mul (by omega) (by omega)
  have V1 : Hid (IntKind.u64.wrap ((IntKind.u64.wrap ((z : Int) + IntKind.u64.wrap ((IntKind.u64.wrap ((z : Int) * (I : Int))).tmod 4294967296 * (p : Int)))).tdiv 4294967296) = (((z + z * I % 4294967296 * p) / 4294967296 : Nat) : Int)) := by
    show _ = _
    have e1 : (IntKind.u64.wrap ((z : Int) * (I : Int))).tmod 4294967296 = ((z * I % 4294967296 : Nat) : Int) := by
      have e0 : (z : Int) * (I : Int) = ((z * I : Nat) : Int) := by simp
      rw [IntKind.wrap_u64, e0, Int.tmod_eq_emod_of_nonneg (by omega)]
      omega
    rw [e1]
    generalize z * I % 4294967296 = f at *
    have e2 : (f : Int) * (p : Int) = ((f * p : Nat) : Int) := by simp
    rw [e2, Mul64.wrapN _ (by omega), ← Int.natCast_add, Mul64.wrapN _ (by omega), Int.tdiv_eq_ediv_of_nonneg (by omega)]
    generalize f * p = fp at *
    rw [show ((z + fp : Nat) : Int) / 4294967296 = (((z + fp) / 4294967296 : Nat) : Int) by omega, Mul64.wrapN _ (by omega)]
  generalize (z + z * I % 4294967296 * p) / 4294967296 = t at *
  clear hf bfp
  have exy : (x : Int) * (y : Int) = (z : Int) := by rw [← hzz]; simp
  clear hzz hzp ho
  go_enter Try.func79, Try.ntmps79
  go_wp2_with fail
  rw [V1.out]
  refine (lessOnce_any t p _ m2 (by omega)).mono ?_
  rintro e w2 ⟨rfl, rfl⟩
  go_wp2_with fail
  go_ret
  exact ⟨ret_int' (by simp), Grown.alloc (Grown.refl _) _ _⟩
end Go.Proofs.Ytgejgkbpbikadaa
