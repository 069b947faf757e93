/- Proved: the contract of OnesCount for numbers below 65536: how many bits are set. -/
import Derived.Test.YtonbimgdkafnjaaCoin3
import Derived.Laws.Bits64b
namespace Go.Proofs.Ytonbimgdkafnjaa
open Go.ChangeShapes Go.WideShapes Go.ChangeAt Go.RowKit
set_option linter.unusedVariables false
set_option linter.unusedSimpArgs false
/-- how many of the lowest k bits are set -/
def sb (x : Nat) : Nat → Nat
  | 0 => 0
  | k + 1 => sb x k + x / 2 ^ k % 2
def sbK (x : Nat) : Nat := x % 2 + x / 2 % 2 + x / 4 % 2 + x / 8 % 2 + x / 16 % 2 + x / 32 % 2 + x / 64 % 2 + x / 128 % 2 + x / 256 % 2 + x / 512 % 2 + x / 1024 % 2 + x / 2048 % 2 + x / 4096 % 2 + x / 8192 % 2 + x / 16384 % 2 + x / 32768 % 2
theorem sb16 (x : Nat) : sb x 16 = sbK x := by
  simp only [sb, sbK, Nat.reducePow, Nat.div_one, Nat.zero_add]
def sw1 (x : Nat) : Nat := Nat.land (x / 2) 6148914691236517205 + Nat.land x 6148914691236517205
def sw2 (s : Nat) : Nat := Nat.land (s / 4) 3689348814741910323 + Nat.land s 3689348814741910323
def sw3 (s : Nat) : Nat := Nat.land (s / 16 + s) 1085102592571150095
def sw4 (s : Nat) : Nat := s + s / 256
def sw5 (s : Nat) : Nat := s + s / 65536
def sw6 (s : Nat) : Nat := s + s / 4294967296
def swar (x : Nat) : Nat := Nat.land (sw6 (sw5 (sw4 (sw3 (sw2 (sw1 x)))))) 127
def chk : Nat → Nat → Bool
  | 0, y => Nat.beq (swar y) (sbK y)
  | d + 1, y => (chk d (2 * y)) && (chk d (2 * y + 1))
theorem chk_all : chk 16 0 = true := by decide +kernel
theorem chk_is : ∀ d y, chk d y = true → ∀ z, z / 2 ^ d = y → swar z = sbK z
  | 0, y, h, z, hz => by
    rw [Nat.pow_zero, Nat.div_one] at hz
    subst hz
    exact Nat.eq_of_beq_eq_true h
  | d + 1, y, h, z, hz => by
    simp only [chk, Bool.and_eq_true] at h
    rw [Nat.pow_succ, ← Nat.div_div_eq_div_mul] at hz
    have hm := Nat.div_add_mod (z / 2 ^ d) 2
    rcases Nat.mod_two_eq_zero_or_one (z / 2 ^ d) with e | e
    · exact chk_is d _ h.1 z (by omega)
    · exact chk_is d _ h.2 z (by omega)
theorem swar_is (x : Nat) (h : x < 65536) : swar x = sb x 16 := by
  rw [sb16]
  exact chk_is 16 0 chk_all x (Nat.div_eq_of_lt h)
theorem land_le (a b : Nat) : Nat.land a b ≤ a := Nat.and_le_left
theorem and_letter (a m : Nat) (ha : a ≤ 18446744073709551615) (hm : m ≤ 18446744073709551615) : bits .and .u64 (a : Int) (m : Int) = ((Nat.land a m : Nat) : Int) := bits_and_u64_nat a m (by omega) (by omega)
theorem andI (a b : Nat) (ha : a ≤ 9223372036854775807) (hb : b ≤ 9223372036854775807) : bits .and .i64 (a : Int) (b : Int) = ((a &&& b : Nat) : Int) := by
  have hx : a &&& b < 2 ^ 63 := Nat.and_lt_two_pow _ (by omega)
  have h1 : (BitVec.ofInt 64 (a : Int)).toNat = a := by
    rw [BitVec.ofInt_natCast, BitVec.toNat_ofNat]; exact Nat.mod_eq_of_lt (by omega)
  have h2 : (BitVec.ofInt 64 (b : Int)).toNat = b := by
    rw [BitVec.ofInt_natCast, BitVec.toNat_ofNat]; exact Nat.mod_eq_of_lt (by omega)
  show IntKind.i64.wrap ((BitVec.ofInt 64 (a : Int) &&& BitVec.ofInt 64 (b : Int)).toNat : Int) = _
  rw [BitVec.toNat_and, h1, h2, IntKind.wrap_i64]
  omega
set_option maxRecDepth 100000 in
set_option maxHeartbeats 2000000 in
theorem onesCount64 (x : Nat) (hx : x < 65536) (w : World) : Calls Try.prog 107 #[.int .u64 x] w fun e w' => e = .returned (.int .i64 (sb x 16 : Nat)) ∧ w' = w := by
  rw [← swar_is x hx]
  have hsw : ∀ s, sw1 x = s → swar x = Nat.land (sw6 (sw5 (sw4 (sw3 (sw2 s))))) 127 := fun s h => by rw [← h]; rfl
  obtain ⟨a1, ha1⟩ : ∃ a, Nat.land (x / 2) 6148914691236517205 = a := ⟨_, rfl⟩
  obtain ⟨a2, ha2⟩ : ∃ a, Nat.land x 6148914691236517205 = a := ⟨_, rfl⟩
  have l1 : a1 ≤ x / 2 := by rw [← ha1]; exact land_le _ _
  have l2 : a2 ≤ x := by rw [← ha2]; exact land_le _ _
  have E1 : bits .and .u64 ((x : Int) / 2) 6148914691236517205 = (a1 : Int) := by rw [← ha1]; exact and_letter (x / 2) 6148914691236517205 (by omega) (by omega)
  have E2 : bits .and .u64 (x : Int) 6148914691236517205 = (a2 : Int) := by rw [← ha2]; exact and_letter x 6148914691236517205 (by omega) (by omega)
  obtain ⟨s1, hs1⟩ : ∃ s, s = a1 + a2 := ⟨_, rfl⟩
  have E3 : (a1 : Int) + (a2 : Int) = (s1 : Int) := by rw [hs1]; rfl
  have l3 : s1 ≤ 131071 := by omega
  have G1 := hsw s1 (by unfold sw1; rw [ha1, ha2, hs1])
  obtain ⟨b1, hb1⟩ : ∃ a, Nat.land (s1 / 4) 3689348814741910323 = a := ⟨_, rfl⟩
  obtain ⟨b2, hb2⟩ : ∃ a, Nat.land s1 3689348814741910323 = a := ⟨_, rfl⟩
  have l4 : b1 ≤ s1 / 4 := by rw [← hb1]; exact land_le _ _
  have l5 : b2 ≤ s1 := by rw [← hb2]; exact land_le _ _
  have E4 : bits .and .u64 ((s1 : Int) / 4) 3689348814741910323 = (b1 : Int) := by rw [← hb1]; exact and_letter (s1 / 4) 3689348814741910323 (by omega) (by omega)
  have E5 : bits .and .u64 (s1 : Int) 3689348814741910323 = (b2 : Int) := by rw [← hb2]; exact and_letter s1 3689348814741910323 (by omega) (by omega)
  obtain ⟨s2, hs2⟩ : ∃ s, s = b1 + b2 := ⟨_, rfl⟩
  have E6 : (b1 : Int) + (b2 : Int) = (s2 : Int) := by rw [hs2]; rfl
  have l6 : s2 ≤ 262142 := by omega
  rw [show sw2 s1 = s2 by unfold sw2; rw [hb1, hb2, hs2]] at G1
  obtain ⟨t, ht⟩ : ∃ t, t = s2 / 16 + s2 := ⟨_, rfl⟩
  have E7 : (s2 : Int) / 16 + (s2 : Int) = (t : Int) := by rw [ht]; rfl
  have l7 : t ≤ 300000 := by omega
  obtain ⟨s3, hs3⟩ : ∃ a, Nat.land t 1085102592571150095 = a := ⟨_, rfl⟩
  have l8 : s3 ≤ t := by rw [← hs3]; exact land_le _ _
  have E8 : bits .and .u64 (t : Int) 1085102592571150095 = (s3 : Int) := by rw [← hs3]; exact and_letter t 1085102592571150095 (by omega) (by omega)
  rw [show sw3 s2 = s3 by unfold sw3; rw [← ht, hs3]] at G1
  obtain ⟨s4, hs4⟩ : ∃ t, t = s3 + s3 / 256 := ⟨_, rfl⟩
  have E9 : (s3 : Int) + (s3 : Int) / 256 = (s4 : Int) := by rw [hs4]; rfl
  have l9 : s4 ≤ 400000 := by omega
  rw [show sw4 s3 = s4 by unfold sw4; rw [hs4]] at G1
  obtain ⟨s5, hs5⟩ : ∃ t, t = s4 + s4 / 65536 := ⟨_, rfl⟩
  have E10 : (s4 : Int) + (s4 : Int) / 65536 = (s5 : Int) := by rw [hs5]; rfl
  have l10 : s5 ≤ 500000 := by omega
  rw [show sw5 s4 = s5 by unfold sw5; rw [hs5]] at G1
  obtain ⟨s6, hs6⟩ : ∃ t, t = s5 + s5 / 4294967296 := ⟨_, rfl⟩
  have E11 : (s5 : Int) + (s5 : Int) / 4294967296 = (s6 : Int) := by rw [hs6]; rfl
  have l11 : s6 ≤ 600000 := by omega
  rw [show sw6 s5 = s6 by unfold sw6; rw [hs6]] at G1
  have E12 : bits .and .i64 (s6 : Int) 127 = ((Nat.land s6 127 : Nat) : Int) := andI s6 127 (by omega) (by omega)
  rw [G1]
  generalize Nat.land s6 127 = r at *
  clear G1 hs6 hs5 hs4 hs3 ht hs2 hb1 hb2 hs1 ha1 ha2 hsw
  go_enter Try.func107, Try.ntmps107
  go_wp2_with fail
  go_ret
  exact ⟨rfl, rfl⟩
theorem onesCount_any (x : Nat) (hx : x < 65536) (w : World) : Calls Try.prog 90 #[.int .u64 x] w fun e w' => e = .returned (.int .i64 (sb x 16 : Nat)) ∧ w' = w := by
  have K1 := fun W => onesCount64 x hx W
  generalize sb x 16 = r at *
  go_enter Try.func90, Try.ntmps90
  go_wp2_with fail
  refine (K1 _).mono ?_
  rintro e w' ⟨rfl, rfl⟩
  go_wp2_with fail
  go_ret
  exact ⟨rfl, rfl⟩
end Go.Proofs.Ytonbimgdkafnjaa
