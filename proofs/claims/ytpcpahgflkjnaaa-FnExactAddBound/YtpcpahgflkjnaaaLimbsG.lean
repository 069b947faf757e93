/- Proved: the contract of the model's division of limbs by limbs, bit by bit. -/
import Derived.Test.YtpcpahgflkjnaaaLimbsF
import Derived.Test.YtpcpahgflkjnaaaMtwoe
namespace Go.Proofs.Ytpcpahgflkjnaaa
open Go.ChangeShapes Go.WideShapes Go.ChangeAt Go.RowKit
open M2
set_option linter.unusedVariables false
set_option linter.unusedSimpArgs false
theorem and_i64_natW (a b : Nat) (ha : a ≤ 9223372036854775807) (hb : b ≤ 9223372036854775807) : bits .and .i64 (a : Int) (b : Int) = ((a &&& b : Nat) : Int) := by
  have hx : a &&& b < 2 ^ 63 := Nat.and_lt_two_pow _ (by omega)
  have h1 : (BitVec.ofInt 64 (a : Int)).toNat = a := by
    rw [BitVec.ofInt_natCast, BitVec.toNat_ofNat]; exact Nat.mod_eq_of_lt (by omega)
  have h2 : (BitVec.ofInt 64 (b : Int)).toNat = b := by
    rw [BitVec.ofInt_natCast, BitVec.toNat_ofNat]; exact Nat.mod_eq_of_lt (by omega)
  show IntKind.i64.wrap ((BitVec.ofInt 64 (a : Int) &&& BitVec.ofInt 64 (b : Int)).toNat : Int) = _
  rw [BitVec.toNat_and, h1, h2, IntKind.wrap_i64]
  omega
theorem and_bit (x s : Nat) (hx : x ≤ 9223372036854775807) : bits BinOp.and IntKind.i64 ((x : Int) / 2 ^ s) 1 = ((x / 2 ^ s % 2 : Nat) : Int) := by
  have e : (x : Int) / 2 ^ s = ((x / 2 ^ s : Nat) : Int) := by simp
  have h := and_i64_natW (x / 2 ^ s) 1 (Nat.le_trans (Nat.div_le_self _ _) hx) (by omega)
  rw [e]
  have e2 : (x / 2 ^ s) &&& 1 = x / 2 ^ s % 2 := Nat.and_one_is_mod _
  rw [e2] at h
  exact h
theorem wrap_add (o s : Nat) (h : o + 2 ^ s < LB) : wrap64 ((o : Int) + wrap64 (2 ^ s)) = ((o + 2 ^ s : Nat) : Int) := by
  unfold LB at h
  have e : (2 : Int) ^ s = ((2 ^ s : Nat) : Int) := by simp
  rw [e]
  generalize 2 ^ s = z at *
  unfold wrap64
  omega
end Go.Proofs.Ytpcpahgflkjnaaa
