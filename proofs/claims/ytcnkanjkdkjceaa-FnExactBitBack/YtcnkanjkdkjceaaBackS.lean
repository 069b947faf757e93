/- Proved: the contract of the model's BitBack: a number's bits from the last to the first; 0 where an argument is out of its bounds. -/
import Derived.Test.YtcnkanjkdkjceaaBack
namespace Go.Proofs.Ytcnkanjkdkjceaa
open Go.ChangeShapes Go.WideShapes Go.ChangeAt Go.RowKit
set_option linter.unusedVariables false
def inQ (x lo hi : Int) : Bool := decide (lo ≤ x) && decide (x ≤ hi)
theorem in_any (x lo hi : Int) (w : World) :
    Calls Try.prog 6 #[.int .i64 x, .int .i64 lo, .int .i64 hi] w fun e w' => e = .returned (.bool (inQ x lo hi)) ∧ w' = w := by
  by_cases h : lo ≤ x
  · have hd2 : decide (lo ≤ x) = true := by simp; omega
    go_enter Try.func6, Try.ntmps6
    go_wp2_with fail
    go_ret
    exact ⟨by simp [inQ, hd2], rfl⟩
  · have hd2 : decide (lo ≤ x) = false := by simp; omega
    go_enter Try.func6, Try.ntmps6
    go_wp2_with fail
    go_ret
    exact ⟨by simp [inQ, hd2], rfl⟩
theorem back_spec_yes (k b : Nat) (w : World) (hb : b ≤ 10) (hk : k < 2 ^ b) :
    Calls Try.prog 4 #[.int .i64 k, .int .i64 b] w fun e w' => e = .returned (.int .i64 (backN b k 0)) ∧ w' = w := by
  have hk1 : k < 1024 := Nat.lt_of_lt_of_le hk (pow_le10 hb)
  obtain ⟨M, hM⟩ : ∃ M, M = 2 ^ b := ⟨_, rfl⟩
  have hw : wrap64 (2 ^ b) = (M : Int) := by rw [hM]; exact wrap_pow b hb
  have hM1 : M ≤ 1024 := by rw [hM]; exact pow_le10 hb
  have hM2 : k < M := by rw [hM]; exact hk
  have c1 := fun W => in_any b 0 10 W
  rw [show inQ b 0 10 = true by simp [inQ]; omega] at c1
  have c2 := fun W => in_any k 0 ((M : Int) - 1) W
  rw [show inQ k 0 ((M : Int) - 1) = true by simp [inQ]; omega] at c2
  have c3 := fun W => back_spec k b W hb hk1
  clear hk hM
  go_enter Try.func4, Try.ntmps4
  go_wp2_with fail
  refine (c1 _).mono ?_
  rintro e w' ⟨rfl, rfl⟩
  go_wp2_with fail
  refine (c2 _).mono ?_
  rintro e w' ⟨rfl, rfl⟩
  go_wp2_with fail
  refine (c3 _).mono ?_
  rintro e w' ⟨rfl, rfl⟩
  go_wp2_with fail
  go_ret
  exact ⟨rfl, rfl⟩
theorem back_spec_no (k b : Int) (w : World) (h : ¬ (0 ≤ b ∧ b ≤ 10 ∧ 0 ≤ k ∧ k < 2 ^ b.toNat)) :
    Calls Try.prog 4 #[.int .i64 k, .int .i64 b] w fun e w' => e = .returned (.int .i64 0) ∧ w' = w := by
  by_cases h1 : 0 ≤ b ∧ b ≤ 10
  · obtain ⟨m, rfl⟩ := Int.eq_ofNat_of_zero_le h1.1
    have hm : m ≤ 10 := by omega
    rw [Int.toNat_natCast] at h
    obtain ⟨M, hM⟩ : ∃ M, M = 2 ^ m := ⟨_, rfl⟩
    have hw : wrap64 (2 ^ m) = (M : Int) := by rw [hM]; exact wrap_pow m hm
    have hM1 : M ≤ 1024 := by rw [hM]; exact pow_le10 hm
    have : ((2 : Int) ^ m) = (M : Int) := by rw [hM]; simp
    rw [this] at h
    have c1 := fun W => in_any m 0 10 W
    rw [show inQ m 0 10 = true by simp [inQ]; omega] at c1
    have c2 := fun W => in_any k 0 ((M : Int) - 1) W
    rw [show inQ k 0 ((M : Int) - 1) = false by simp only [inQ, Bool.and_eq_false_iff, decide_eq_false_iff_not]; omega] at c2
    clear h hM this h1
    go_enter Try.func4, Try.ntmps4
    go_wp2_with fail
    refine (c1 _).mono ?_
    rintro e w' ⟨rfl, rfl⟩
    go_wp2_with fail
    refine (c2 _).mono ?_
    rintro e w' ⟨rfl, rfl⟩
    go_wp2_with fail
    go_ret
    exact ⟨rfl, rfl⟩
  · have c1 := fun W => in_any b 0 10 W
    rw [show inQ b 0 10 = false by simp only [inQ, Bool.and_eq_false_iff, decide_eq_false_iff_not]; omega] at c1
    clear h h1
    go_enter Try.func4, Try.ntmps4
    go_wp2_with fail
    refine (c1 _).mono ?_
    rintro e w' ⟨rfl, rfl⟩
    go_wp2_with fail
    go_ret
    exact ⟨rfl, rfl⟩
end Go.Proofs.Ytcnkanjkdkjceaa
