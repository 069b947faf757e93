/- Proved: the contract of OnesCount for numbers below 65536: how many bits are set. -/
import Derived.Test.YtfgooclnohnkmaaDoorNE
import Derived.Laws.Bits64b
namespace Go.Proofs.YtfgooclnohnkmaaDoor
open Go.ChangeShapes Go.WideShapes Go.ChangeAt Go.RowKit
set_option linter.unusedVariables false
set_option linter.unusedSimpArgs false
/-- how many of the lowest k bits are set -/
def sb (x : Nat) : Nat → Nat
  | 0 => 0
  | k + 1 => sb x k + x / 2 ^ k % 2
def sbK (x : Nat) : Nat := x % 2 + x / 2 % 2 + x / 4 % 2 + x / 8 % 2 + x / 16 % 2 + x / 32 % 2 + x / 64 % 2 + x / 128 % 2 + x / 256 % 2 + x / 512 % 2 + x / 1024 % 2 + x / 2048 % 2 + x / 4096 % 2 + x / 8192 % 2 + x / 16384 % 2 + x / 32768 % 2
theorem sb16 (x : Nat) : sb x 16 = sbK x := by
  simp only [sb, sbK, Nat.reducePow, Nat.div_one, Nat.zero_add]
def sw1 (x : Nat) : Nat := Nat.land (x / 2) 6148914691236517205 + Nat.land x 6148914691236517205
def sw2 (s : Nat) : Nat := Nat.land (s / 4) 3689348814741910323 + Nat.land s 3689348814741910323
def sw3 (s : Nat) : Nat := Nat.land (s / 16 + s) 1085102592571150095
def sw4 (s : Nat) : Nat := s + s / 256
def sw5 (s : Nat) : Nat := s + s / 65536
def sw6 (s : Nat) : Nat := s + s / 4294967296
def swar (x : Nat) : Nat := Nat.land (sw6 (sw5 (sw4 (sw3 (sw2 (sw1 x)))))) 127
def chk : Nat → Nat → Bool
  | 0, y => Nat.beq (swar y) (sbK y)
  | d + 1, y => (chk d (2 * y)) && (chk d (2 * y + 1))
theorem chk_all : chk 16 0 = true := by decide +kernel
theorem chk_is : ∀ d y, chk d y = true → ∀ z, z / 2 ^ d = y → swar z = sbK z
  | 0, y, h, z, hz => by
    rw [Nat.pow_zero, Nat.div_one] at hz
    subst hz
    exact Nat.eq_of_beq_eq_true h
  | d + 1, y, h, z, hz => by
    simp only [chk, Bool.and_eq_true] at h
    rw [Nat.pow_succ, ← Nat.div_div_eq_div_mul] at hz
    have hm := Nat.div_add_mod (z / 2 ^ d) 2
    rcases Nat.mod_two_eq_zero_or_one (z / 2 ^ d) with e | e
    · exact chk_is d _ h.1 z (by omega)
    · exact chk_is d _ h.2 z (by omega)
theorem swar_is (x : Nat) (h : x < 65536) : swar x = sb x 16 := by
  rw [sb16]
  exact chk_is 16 0 chk_all x (Nat.div_eq_of_lt h)
theorem land_le (a b : Nat) : Nat.land a b ≤ a := Nat.and_le_left
theorem and_letter (a m : Nat) (ha : a ≤ 18446744073709551615) (hm : m ≤ 18446744073709551615) : bits .and .u64 (a : Int) (m : Int) = ((Nat.land a m : Nat) : Int) := bits_and_u64_nat a m (by omega) (by omega)
theorem andI (a b : Nat) (ha : a ≤ 9223372036854775807) (hb : b ≤ 9223372036854775807) : bits .and .i64 (a : Int) (b : Int) = ((a &&& b : Nat) : Int) := by
  have hx : a &&& b < 2 ^ 63 := Nat.and_lt_two_pow _ (by omega)
  have h1 : (BitVec.ofInt 64 (a : Int)).toNat = a := by
    rw [BitVec.ofInt_natCast, BitVec.toNat_ofNat]; exact Nat.mod_eq_of_lt (by omega)
  have h2 : (BitVec.ofInt 64 (b : Int)).toNat = b := by
    rw [BitVec.ofInt_natCast, BitVec.toNat_ofNat]; exact Nat.mod_eq_of_lt (by omega)
  show IntKind.i64.wrap ((BitVec.ofInt 64 (a : Int) &&& BitVec.ofInt 64 (b : Int)).toNat : Int) = _
  rw [BitVec.toNat_and, h1, h2, IntKind.wrap_i64]
  omega
end Go.Proofs.YtfgooclnohnkmaaDoor
