/- Proved: contracts of ShoupMul, of the program and of the model: both answer the product less a multiple of p, below twice p. -/
import Derived.Test.YtgejgkbpbikadaaRows
import Derived.WalkKit
import Derived.ProofKit
import Derived.OpenShut
import Derived.Handy
import Derived.Test.YtgejgkbpbikadaaBase
import Derived.Test.YtgejgkbpbikadaaShoup
namespace Go.Proofs.Ytgejgkbpbikadaa
open Go.ChangeShapes Go.WideShapes Go.ChangeAt Go.RowKit
open M1
theorem shoup_int (a p x : Int) (hp : 2 ≤ p) (hp' : p ≤ 268435456) (ha : 0 ≤ a) (hap : a < p) (hx : 0 ≤ x) (hx' : x < 4294967296) :
    (0 ≤ a * 4294967296 / p ∧ a * 4294967296 / p < 4294967296) ∧ (0 ≤ a * 4294967296 / p * x ∧ a * 4294967296 / p * x ≤ 18446744073709551615) ∧ (0 ≤ a * x ∧ a * x ≤ 1152921504606846976) ∧ (0 ≤ a * 4294967296 / p * x / 4294967296 * p ∧ a * 4294967296 / p * x / 4294967296 * p ≤ a * x) ∧ a * x < a * 4294967296 / p * x / 4294967296 * p + 2 * p := by
  obtain ⟨a', rfl⟩ := Int.eq_ofNat_of_zero_le ha
  obtain ⟨x', rfl⟩ := Int.eq_ofNat_of_zero_le hx
  obtain ⟨p', rfl⟩ := Int.eq_ofNat_of_zero_le (show 0 ≤ p by omega)
  have h := shoup a' p' x' 4294967296 (by omega) (by omega) (by omega)
  have e1 : ((a' : Int) * 4294967296 / (p' : Int)) = ((a' * 4294967296 / p' : Nat) : Int) := by simp
  have b1 : a' * 4294967296 / p' < 4294967296 := by
    rw [Nat.div_lt_iff_lt_mul (by omega), Nat.mul_comm 4294967296 p']
    exact Nat.mul_lt_mul_of_pos_right (by omega) (by omega)
  rw [e1]
  generalize a' * 4294967296 / p' = pre at *
  have b2 : pre * x' ≤ 4294967295 * 4294967295 := Nat.mul_le_mul (by omega) (by omega)
  have b3 : a' * x' ≤ 268435456 * 4294967296 := Nat.mul_le_mul (by omega) (by omega)
  have e2 : (pre : Int) * (x' : Int) = ((pre * x' : Nat) : Int) := by simp
  have e3 : (a' : Int) * (x' : Int) = ((a' * x' : Nat) : Int) := by simp
  rw [e2, e3]
  generalize pre * x' = px at *
  generalize a' * x' = ax at *
  have e4 : ((px : Int) / 4294967296 * (p' : Int)) = ((px / 4294967296 * p' : Nat) : Int) := by simp
  rw [e4]
  generalize px / 4294967296 * p' = z at *
  omega
theorem shoup_product (pre p a x : Int) (w : World) (h1 : 0 ≤ pre * x) (h2 : pre * x ≤ 18446744073709551615) (h3 : 0 ≤ a * x) (h4 : a * x ≤ 1152921504606846976) (h5 : 0 ≤ pre * x / 4294967296 * p) (h6 : pre * x / 4294967296 * p ≤ a * x) :
    Calls Try.prog 80 #[.agg #[.int .u64 pre, .int .u64 p], .int .u64 a, .int .u64 x] w fun e w' => e = .returned (.int .u64 (a * x - pre * x / 4294967296 * p)) ∧ Grown w w' := by
  go_enter Try.func80, Try.ntmps80
  go_wp2
  go_ret
  exact ⟨rfl, by repeat (first | exact Grown.refl _ | apply Grown.drew | apply Grown.alloc)⟩
theorem impl_ShoupMul_yes (a pre p x : Int) (w : World) (h : shoB a p = true) (hpre : (pre != a * 4294967296 / p) = false) (hx : 0 ≤ x) (hx' : x < 4294967296) :
    Calls Try.prog 18 #[.int .i64 a, .int .i64 pre, .int .i64 p, .int .i64 x] w fun e w' => e = .returned (.tuple #[.int .i64 (a * x - a * 4294967296 / p * x / 4294967296 * p), .bool true]) ∧ Grown w w' := by
  obtain ⟨h1, h2, h3, h4⟩ := shoB_yes h
  obtain ⟨⟨b1, b2⟩, ⟨b3, b4⟩, ⟨b5, b6⟩, ⟨b7, b8⟩, _⟩ := shoup_int a p x h1 h2 h3 h4 hx hx'
  have hpre' : pre = a * 4294967296 / p := by simpa using hpre
  subst hpre'
  have c := fun W => impl_ShoupOf_yes a p W h
  clear h hpre
  generalize a * 4294967296 / p = pr at *
  have d : (pr != pr) = false := by simp
  go_enter Try.func18, Try.ntmps18
  go_wp2_with fail
  refine (c _).mono ?_
  rintro e w' ⟨rfl, rfl⟩
  go_wp2_with (first | (go_at_call 37; go_in) | (go_at_call 38; go_in))
  refine (shoup_product pr p a x _ b3 b4 b5 b6 b7 b8).mono ?_
  rintro e w2 ⟨rfl, hg⟩
  go_wp2_with fail
  go_ret2
  exact ⟨rfl, hg⟩
theorem spec_ShoupMul_yes (a pre p x : Int) (w : World) (h : shoB a p = true) (hpre : (pre != a * 4294967296 / p) = false) (hx : 0 ≤ x) (hx' : x < 4294967296) :
    Calls Try.prog 33 #[.int .i64 a, .int .i64 pre, .int .i64 p, .int .i64 x] w fun e w' => e = .returned (.tuple #[.int .i64 (a * x - a * 4294967296 / p * x / 4294967296 * p), .bool true]) ∧ w' = w := by
  obtain ⟨h1, h2, h3, h4⟩ := shoB_yes h
  obtain ⟨⟨b1, b2⟩, ⟨b3, b4⟩, ⟨b5, b6⟩, ⟨b7, b8⟩, _⟩ := shoup_int a p x h1 h2 h3 h4 hx hx'
  have hpre' : pre = a * 4294967296 / p := by simpa using hpre
  subst hpre'
  have c := fun W => spec_ShoupOf_yes a p W h
  clear h hpre
  generalize a * 4294967296 / p = pr at *
  have d : (pr != pr) = false := by simp
  have d2 : decide (x ≤ 4294967295) = true := by simp; omega
  go_enter Try.func33, Try.ntmps33
  go_wp2_with fail
  refine (c _).mono ?_
  rintro e w' ⟨rfl, rfl⟩
  go_wp2_with (go_at_call 39; go_in)
  go_ret2
  exact ⟨rfl, rfl⟩
theorem ShoupMul_no_cases (a pre p x : Int) (h : ¬ (shoB a p = true ∧ (pre != a * 4294967296 / p) = false ∧ 0 ≤ x ∧ x < 4294967296)) :
    shoB a p = false ∨ (shoB a p = true ∧ (pre != a * 4294967296 / p) = true) ∨ (shoB a p = true ∧ (pre != a * 4294967296 / p) = false ∧ x < 0) ∨ (shoB a p = true ∧ (pre != a * 4294967296 / p) = false ∧ 0 ≤ x ∧ 4294967296 ≤ x) := by
  cases h1 : shoB a p
  · left; rfl
  · right
    cases h2 : (pre != a * 4294967296 / p)
    · right
      rw [h1, h2] at h
      simp at h
      by_cases h3 : x < 0
      · left; exact ⟨rfl, rfl, h3⟩
      · right; exact ⟨rfl, rfl, by omega, h (by omega)⟩
    · left; exact ⟨rfl, rfl⟩
theorem impl_ShoupMul_no (a pre p x : Int) (w : World) (h : ¬ (shoB a p = true ∧ (pre != a * 4294967296 / p) = false ∧ 0 ≤ x ∧ x < 4294967296)) :
    Calls Try.prog 18 #[.int .i64 a, .int .i64 pre, .int .i64 p, .int .i64 x] w fun e w' => e = .returned (.tuple #[.int .i64 0, .bool false]) ∧ w' = w := by
  rcases ShoupMul_no_cases a pre p x h with h1 | ⟨h1, h2⟩ | ⟨h1, h2, h3⟩ | ⟨h1, h2, h3, h4⟩
  · clear h
    go_enter Try.func18, Try.ntmps18
    go_wp2_with (go_at_call 17; refine (impl_ShoupOf_no _ _ _ h1).mono ?_; rintro e w' ⟨rfl, rfl⟩)
    go_ret2
    exact ⟨rfl, rfl⟩
  all_goals
    clear h
    have c := fun W => impl_ShoupOf_yes a p W h1
    generalize a * 4294967296 / p = pr at *
    try (have d : decide (x < 4294967296) = false := by simp; omega)
    go_enter Try.func18, Try.ntmps18
    go_wp2_with fail
    refine (c _).mono ?_
    rintro e w' ⟨rfl, rfl⟩
    go_wp2_with (go_at_call 37; go_in)
    go_ret2
    exact ⟨rfl, rfl⟩
theorem spec_ShoupMul_no (a pre p x : Int) (w : World) (h : ¬ (shoB a p = true ∧ (pre != a * 4294967296 / p) = false ∧ 0 ≤ x ∧ x < 4294967296)) :
    Calls Try.prog 33 #[.int .i64 a, .int .i64 pre, .int .i64 p, .int .i64 x] w fun e w' => e = .returned (.tuple #[.int .i64 0, .bool false]) ∧ w' = w := by
  rcases ShoupMul_no_cases a pre p x h with h1 | ⟨h1, h2⟩ | ⟨h1, h2, h3⟩ | ⟨h1, h2, h3, h4⟩
  · clear h
    go_enter Try.func33, Try.ntmps33
    go_wp2_with (go_at_call 32; refine (spec_ShoupOf_no _ _ _ h1).mono ?_; rintro e w' ⟨rfl, rfl⟩)
    go_ret2
    exact ⟨rfl, rfl⟩
  all_goals
    clear h
    have c := fun W => spec_ShoupOf_yes a p W h1
    generalize a * 4294967296 / p = pr at *
    try (have d : decide (x ≤ 4294967295) = false := by simp; omega)
    try (have hsw : (pr != pre) = true := by simp at h2 ⊢; omega)
    try (have hsw : (pr != pre) = false := by simp at h2 ⊢; omega)
    go_enter Try.func33, Try.ntmps33
    go_wp2_with fail
    refine (c _).mono ?_
    rintro e w' ⟨rfl, rfl⟩
    go_wp2_with (go_at_call 39; go_in)
    go_ret2
    exact ⟨rfl, rfl⟩
end Go.Proofs.Ytgejgkbpbikadaa
