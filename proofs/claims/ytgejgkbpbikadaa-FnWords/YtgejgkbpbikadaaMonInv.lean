/- Proved: Newton steps modulo powers of 2, and the contract of the opposite inverse of an odd number modulo the word. -/
import Derived.Test.YtgejgkbpbikadaaRows
import Derived.WalkKit
import Derived.ProofKit
import Derived.OpenShut
import Derived.Handy
import Derived.Deep.QuietTactic
import Derived.BigQuiet
import Derived.Deep.RegionWith
import Derived.Test.YtgejgkbpbikadaaBarLaw
namespace Go.Proofs.Ytgejgkbpbikadaa
open Go.ChangeShapes Go.WideShapes Go.ChangeAt Go.RowKit
open M1
/-- the inverse of an odd number modulo the word, and its opposite; the square of the word modulo p -/
def mInv (p : Nat) : Nat := invM p 4294967296
def monI (p : Nat) : Nat := 4294967296 - mInv p
def monT (p : Nat) : Nat := 4294967296 % p * (4294967296 % p) % p
theorem mInv_of (p x : Nat) (hx : x < 4294967296) (h : (4294967296 : Int) ∣ (p : Int) * (x : Int) - 1) : mInv p = x := by
  unfold mInv
  refine invM_of p x 4294967296 hx ?_
  have e : (p : Int) * (x : Int) = ((p * x : Nat) : Int) := by simp
  rw [e] at h
  generalize p * x = z at *
  omega
def dI : Nat → Int
  | 0 => 8
  | 1 => 64
  | 2 => 4096
  | 3 => 16777216
  | _ => 4294967296
theorem dI_step (k : Nat) : dI (k + 1) ∣ dI k * dI k ∧ dI (k + 1) ∣ 4294967296 := by
  match k with
  | 0 => exact ⟨by decide, by decide⟩
  | 1 => exact ⟨by decide, by decide⟩
  | 2 => exact ⟨by decide, by decide⟩
  | 3 => exact ⟨by decide, by decide⟩
  | k + 4 => exact ⟨by show (4294967296 : Int) ∣ 4294967296 * 4294967296; decide, by show (4294967296 : Int) ∣ 4294967296; decide⟩
def dS : Nat → Int
  | 0 => 2
  | 1 => 4
  | 2 => 16
  | 3 => 256
  | 4 => 65536
  | _ => 4294967296
theorem dS_step (k : Nat) : dS (k + 1) ∣ dS k * dS k ∧ dS (k + 1) ∣ 4294967296 := by
  match k with
  | 0 => exact ⟨by decide, by decide⟩
  | 1 => exact ⟨by decide, by decide⟩
  | 2 => exact ⟨by decide, by decide⟩
  | 3 => exact ⟨by decide, by decide⟩
  | 4 => exact ⟨by decide, by decide⟩
  | k + 5 => exact ⟨by show (4294967296 : Int) ∣ 4294967296 * 4294967296; decide, by show (4294967296 : Int) ∣ 4294967296; decide⟩
theorem nstep (p x : Int) : ∃ r : Nat, r < 4294967296 ∧ x * ((2 - p * x) % 4294967296) % 4294967296 = (r : Int) ∧ x * ((2 - p * x % 4294967296) % 4294967296) % 4294967296 = (r : Int) ∧ (4294967296 : Int) ∣ x * (2 - p * x) - (r : Int) := by
  have h0 := Int.emod_nonneg (x * (2 - p * x)) (show (4294967296 : Int) ≠ 0 by omega)
  have h1 := Int.emod_lt_of_pos (x * (2 - p * x)) (b := 4294967296) (by omega)
  have e1 : x * ((2 - p * x) % 4294967296) % 4294967296 = x * (2 - p * x) % 4294967296 := by
    rw [Int.mul_emod, Int.emod_emod, ← Int.mul_emod]
  have e2 : x * ((2 - p * x % 4294967296) % 4294967296) % 4294967296 = x * (2 - p * x) % 4294967296 := by
    rw [Int.mul_emod, Int.emod_emod, Int.sub_emod, Int.emod_emod, ← Int.sub_emod, ← Int.mul_emod]
  refine ⟨(x * (2 - p * x) % 4294967296).toNat, by omega, by omega, by omega, ?_⟩
  rw [Int.toNat_of_nonneg h0]
  exact Int.dvd_self_sub_of_emod_eq rfl
theorem odd_square (p : Nat) (h : p % 2 = 1) : (8 : Int) ∣ (p : Int) * (p : Int) - 1 := by
  obtain ⟨k, hk⟩ : ∃ k, p = 2 * k + 1 := ⟨p / 2, by omega⟩
  have e : (p : Int) * (p : Int) - 1 = 4 * ((k : Int) * ((k : Int) + 1)) := by rw [hk]; push_cast; grind
  rw [e]
  have h2 : (2 : Int) ∣ (k : Int) * ((k : Int) + 1) := by
    rcases Nat.mod_two_eq_zero_or_one k with h | h
    · exact Int.dvd_trans (by omega) (Int.dvd_mul_right _ _)
    · exact Int.dvd_trans (show (2 : Int) ∣ (k : Int) + 1 by omega) (Int.dvd_mul_left _ _)
  obtain ⟨m, hm⟩ := h2
  exact ⟨m, by rw [hm]; omega⟩
theorem mInv_pos (p x : Nat) (h : (4294967296 : Int) ∣ (p : Int) * (x : Int) - 1) : 1 ≤ x := by
  rcases Nat.eq_zero_or_pos x with h0 | h0
  · subst h0; simp at h
  · exact h0
set_option maxHeartbeats 1000000 in
theorem impl_negInverse (p : Nat) (w : World) (hp : p < 268435456) (ho : p % 2 = 1) :
    Calls Try.prog 41 #[.int .i64 p] w fun e w' => e = .returned (.int .i64 (monI p)) ∧ w' = w := by
  have S := odd_square p ho
  generalize hR : monI p = R at *
  have HR : Hid (monI p = R) := hR
  clear hR
  go_enter Try.func41, Try.ntmps41
  go_wp2_with fail
  go_loop [4, 8] (fun x k => ∃ x' k' : Nat, x' < 4294967296 ∧ k' ≤ 4 ∧ Hid (dI k' ∣ (p : Int) * (x' : Int) - 1) ∧ x = .int .u32 x' ∧ k = .int .i64 k') (fun _ k => 4 - (intOf k).toNat)
  case atStart => exact ⟨p, 0, by omega, by omega, S, rfl, rfl⟩
  case round =>
    obtain ⟨x, k, hx, hk, H1, rfl, rfl⟩ := hrel
    clear S
    by_cases hlt : k < 4
    · have hd : decide ((k : Int) < 4) = true := by simp; omega
      obtain ⟨r, hr, hr1, _, hr3⟩ := nstep p x
      have H2 : Hid (dI (k + 1) ∣ (p : Int) * (r : Int) - 1) := newton p x r 4294967296 (dI k) (dI (k + 1)) H1.out hr3 (dI_step k).1 (dI_step k).2
      have HR1 : Hid ((x : Int) * ((2 - (p : Int) * (x : Int)) % 4294967296) % 4294967296 = (r : Int)) := hr1
      clear hr1 hr3
      go_wp2_with fail
      exact ⟨⟨r, k + 1, hr, by omega, H2, by rw [HR1.out], by go_num⟩, by simp [intOf]; omega⟩
    · have hd : decide ((k : Int) < 4) = false := by simp; omega
      obtain rfl : k = 4 := by omega
      have hm := mInv_of p x hx H1.out
      have hpos := mInv_pos p x H1.out
      have HQ : Hid (-(x : Int) % 4294967296 = (R : Int)) := by
        show _ = _
        rw [← HR.out]
        unfold monI
        rw [hm]
        omega
      clear hm
      go_wp2_with fail
      go_ret
      exact ⟨ret_int' HQ.out, rfl⟩
theorem spec_word (a b : Int) (w : World) (ha : 0 ≤ a ∧ a < 4294967296) (hb : 0 ≤ b ∧ b < 4294967296) :
    Calls Try.prog 51 #[.int .i64 a, .int .i64 b] w fun e w' => e = .returned (.int .i64 (a * b % 4294967296)) ∧ w' = w := by
  obtain ⟨h1, h2⟩ := ha
  obtain ⟨h3, h4⟩ := hb
  go_enter Try.func51, Try.ntmps51
  go_wp2
  go_ret
  exact ⟨rfl, rfl⟩
end Go.Proofs.Ytgejgkbpbikadaa
