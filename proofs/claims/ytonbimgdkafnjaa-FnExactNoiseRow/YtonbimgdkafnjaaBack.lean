/- Proved: contracts of BitBack and of the model's l3Back: a number's bits from the last to the first; 0 where an argument is out of its bounds. -/
import Derived.Test.YtonbimgdkafnjaaRows
import Derived.WalkKit
import Derived.ProofKit
import Derived.OpenShut
import Derived.Handy
namespace Go.Proofs.Ytonbimgdkafnjaa
open Go.ChangeShapes Go.WideShapes Go.ChangeAt Go.RowKit
set_option linter.unusedVariables false
theorem vEq {a b : Int} (h : a = b) : Value.int .i64 a = Value.int .i64 b := by rw [h]
def backN : Nat → Nat → Nat → Nat
  | 0, _, o => o
  | s + 1, k, o => backN s (k / 2) (2 * o + k % 2)
theorem pow_le10 {i : Nat} (h : i ≤ 10) : 2 ^ i ≤ 1024 := Nat.pow_le_pow_right (n := 2) (by omega) h
def resB (x p : Int) : Bool := decide (0 ≤ x) && decide (x < p)
theorem residue_any (x p : Int) (w : World) : Calls Try.prog 105 #[.int .i64 x, .int .i64 p] w fun e w' => e = .returned (.bool (resB x p)) ∧ w' = w := by
  by_cases h : 0 ≤ x
  · have hd : decide (x ≥ 0) = true := by simp; omega
    have hd2 : decide (0 ≤ x) = true := by simp; omega
    go_enter Try.func105, Try.ntmps105
    go_wp2_with fail
    go_ret
    exact ⟨by simp [resB, hd2], rfl⟩
  · have hd : decide (x ≥ 0) = false := by simp; omega
    have hd2 : decide (0 ≤ x) = false := by simp; omega
    go_enter Try.func105, Try.ntmps105
    go_wp2_with fail
    go_ret
    exact ⟨by simp [resB, hd2], rfl⟩
theorem wrap_pow (b : Nat) (hb : b ≤ 10) : wrap64 (2 ^ b) = ((2 ^ b : Nat) : Int) := by
  have h := pow_le10 hb
  have e : (2 : Int) ^ b = ((2 ^ b : Nat) : Int) := by simp
  rw [e]
  generalize 2 ^ b = M at *
  simp only [wrap64]
  omega
end Go.Proofs.Ytonbimgdkafnjaa
