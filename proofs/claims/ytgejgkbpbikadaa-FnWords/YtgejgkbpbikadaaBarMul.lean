/- Proved: contracts of BarrettMul, of the program and of the model: both answer the product modulo an odd modulus, 0 and no where anything is out of bounds. -/
import Derived.Test.YtgejgkbpbikadaaRows
import Derived.WalkKit
import Derived.ProofKit
import Derived.OpenShut
import Derived.Handy
import Derived.Test.YtgejgkbpbikadaaBarPro
namespace Go.Proofs.Ytgejgkbpbikadaa
open Go.ChangeShapes Go.WideShapes Go.ChangeAt Go.RowKit
open M1
/-- at least lo and at most hi -/
def inB (x lo hi : Int) : Bool := decide (lo ≤ x ∧ x ≤ hi)
theorem inB_yes {x lo hi : Int} (h0 : lo ≤ x) (h1 : x ≤ hi) : inB x lo hi = true := by simp [inB]; omega
theorem inB_lo {x lo hi : Int} (h0 : x < lo) : inB x lo hi = false := by simp [inB]; omega
theorem inB_hi {x lo hi : Int} (h0 : hi < x) : inB x lo hi = false := by simp [inB]; omega
theorem inB_out {x lo hi : Int} (h : inB x lo hi = true) : lo ≤ x ∧ x ≤ hi := by simpa [inB] using h
theorem inB_not {x lo hi : Int} (h : inB x lo hi = false) : x < lo ∨ (lo ≤ x ∧ hi < x) := by simp [inB] at h; omega
theorem spec_in (x lo hi : Int) (w : World) :
    Calls Try.prog 39 #[.int .i64 x, .int .i64 lo, .int .i64 hi] w fun e w' => e = .returned (.bool (inB x lo hi)) ∧ w' = w := by
  cases h : inB x lo hi
  · rcases inB_not h with h1 | ⟨h1, h2⟩
    · clear h
      have d : decide (lo ≤ x) = false := by simp; omega
      go_enter Try.func39, Try.ntmps39
      go_wp2
      go_ret
      exact ⟨rfl, rfl⟩
    · clear h
      have d : decide (x ≤ hi) = false := by simp; omega
      go_enter Try.func39, Try.ntmps39
      go_wp2
      go_ret
      exact ⟨rfl, rfl⟩
  · obtain ⟨h1, h2⟩ := inB_out h
    clear h
    have d : decide (x ≤ hi) = true := by simp; omega
    go_enter Try.func39, Try.ntmps39
    go_wp2
    go_ret
    exact ⟨rfl, rfl⟩
theorem impl_isResidue (x p : Int) (w : World) :
    Calls Try.prog 37 #[.int .i64 x, .int .i64 p] w fun e w' => e = .returned (.bool (inB x 0 (p - 1))) ∧ w' = w := by
  cases h : inB x 0 (p - 1)
  · rcases inB_not h with h1 | ⟨h1, h2⟩
    · clear h
      have d : decide (0 ≤ x) = false := by simp; omega
      go_enter Try.func37, Try.ntmps37
      go_wp2
      go_ret
      exact ⟨rfl, rfl⟩
    · clear h
      have d : decide (x < p) = false := by simp; omega
      go_enter Try.func37, Try.ntmps37
      go_wp2
      go_ret
      exact ⟨rfl, rfl⟩
  · obtain ⟨h1, h2⟩ := inB_out h
    clear h
    have d : decide (x < p) = true := by simp; omega
    go_enter Try.func37, Try.ntmps37
    go_wp2
    go_ret
    exact ⟨rfl, rfl⟩
/-- where BarrettMul answers -/
structure BarOk (p s m x y : Int) : Prop where
  odd : oddB p = true
  hs : s = 2 * (Lib.bitLen p.toNat : Int)
  hm : m = 2 ^ (2 * Lib.bitLen p.toNat) / p
  x0 : 0 ≤ x
  xp : x < p
  y0 : 0 ≤ y
  yp : y < p
theorem BarOk.nots {p s m x y : Int} (h : ¬ BarOk p s m x y) : oddB p = false ∨ (oddB p = true ∧ ((s == 2 * (Lib.bitLen p.toNat : Int)) = false ∧ (2 * (Lib.bitLen p.toNat : Int) == s) = false)) ∨ (oddB p = true ∧ s = 2 * (Lib.bitLen p.toNat : Int) ∧ ((m == 2 ^ (2 * Lib.bitLen p.toNat) / p) = false ∧ (2 ^ (2 * Lib.bitLen p.toNat) / p == m) = false))
    ∨ (oddB p = true ∧ s = 2 * (Lib.bitLen p.toNat : Int) ∧ m = 2 ^ (2 * Lib.bitLen p.toNat) / p ∧ (x < 0 ∨ (0 ≤ x ∧ p ≤ x) ∨ (0 ≤ x ∧ x < p ∧ y < 0) ∨ (0 ≤ x ∧ x < p ∧ 0 ≤ y ∧ p ≤ y))) := by
  cases h1 : oddB p
  · exact Or.inl rfl
  · refine Or.inr ?_
    by_cases h2 : s = 2 * (Lib.bitLen p.toNat : Int)
    · refine Or.inr ?_
      by_cases h3 : m = 2 ^ (2 * Lib.bitLen p.toNat) / p
      · refine Or.inr ⟨rfl, h2, h3, ?_⟩
        by_cases hh : 0 ≤ x ∧ x < p ∧ 0 ≤ y ∧ y < p
        · exact absurd ⟨h1, h2, h3, hh.1, hh.2.1, hh.2.2.1, hh.2.2.2⟩ h
        · omega
      · exact Or.inl ⟨rfl, h2, by simpa using h3, by simpa using fun e => h3 e.symm⟩
    · exact Or.inl ⟨rfl, by simpa using h2, by simpa using fun e => h2 e.symm⟩
set_option maxHeartbeats 1000000 in
set_option maxRecDepth 100000 in
theorem impl_BarrettMul_no (p s m x y : Int) (w : World) (h : ¬ BarOk p s m x y) :
    Calls Try.prog 13 #[.agg #[.int .i64 p, .int .i64 s, .int .i64 m], .int .i64 x, .int .i64 y] w fun e w' => e = .returned (.tuple #[.int .i64 0, .bool false]) ∧ Grown w w' := by
  rcases BarOk.nots h with h1 | ⟨h1, h2, h3⟩ | ⟨h1, rfl, h2, h3⟩ | ⟨h1, rfl, rfl, h2⟩
  · clear h
    go_enter Try.func13, Try.ntmps13
    go_wp2_with (first
      | (go_at_call 25; refine (impl_BarrettOf_no _ _ h1).mono ?_; rintro e w' ⟨rfl, rfl⟩))
    go_ret2
    exact ⟨rfl, by repeat (first | exact Grown.refl _ | apply Grown.drew | apply Grown.alloc)⟩
  · clear h
    obtain ⟨q, rfl⟩ := Int.eq_ofNat_of_zero_le (show 0 ≤ p by have := oddB_yes h1; omega)
    rw [Int.toNat_natCast] at h2 h3
    have c := fun W => impl_BarrettOf_yes q W h1
    generalize Lib.bitLen q = L at *
    clear h1
    go_enter Try.func13, Try.ntmps13
    go_wp2_with (first
      | (go_at_call 25; refine (c _).mono ?_; rintro e w' ⟨rfl, rfl⟩))
    go_ret2
    exact ⟨rfl, by repeat (first | exact Grown.refl _ | apply Grown.drew | apply Grown.alloc)⟩
  · clear h
    obtain ⟨q, rfl⟩ := Int.eq_ofNat_of_zero_le (show 0 ≤ p by have := oddB_yes h1; omega)
    rw [Int.toNat_natCast] at h2 h3
    rw [Int.toNat_natCast]
    have c := fun W => impl_BarrettOf_yes q W h1
    generalize Lib.bitLen q = L at *
    clear h1
    go_enter Try.func13, Try.ntmps13
    go_wp2_with (first
      | (go_at_call 25; refine (c _).mono ?_; rintro e w' ⟨rfl, rfl⟩))
    go_ret2
    exact ⟨rfl, by repeat (first | exact Grown.refl _ | apply Grown.drew | apply Grown.alloc)⟩
  · clear h
    obtain ⟨q, rfl⟩ := Int.eq_ofNat_of_zero_le (show 0 ≤ p by have := oddB_yes h1; omega)
    rw [Int.toNat_natCast]
    have c := fun W => impl_BarrettOf_yes q W h1
    have hq2 : (2 : Int) ≤ (q : Int) := (oddB_yes h1).2.1
    have hq3 : (q : Int) < 268435456 := (oddB_yes h1).2.2.1
    generalize Lib.bitLen q = L at *
    clear h1
    rcases h2 with h2 | ⟨h2, h3⟩ | ⟨h2, h3, h4⟩ | ⟨h2, h3, h4, h5⟩
    · have d : inB x 0 ((q : Int) - 1) = false := inB_lo h2
      go_enter Try.func13, Try.ntmps13
      go_wp2_with (first
        | (go_at_call 25; refine (c _).mono ?_; rintro e w' ⟨rfl, rfl⟩) | (go_at_call 37; refine (impl_isResidue _ _ _).mono ?_; rintro e w' ⟨rfl, rfl⟩))
      go_ret2
      exact ⟨rfl, by repeat (first | exact Grown.refl _ | apply Grown.drew | apply Grown.alloc)⟩
    · have d : inB x 0 ((q : Int) - 1) = false := inB_hi (by omega)
      go_enter Try.func13, Try.ntmps13
      go_wp2_with (first
        | (go_at_call 25; refine (c _).mono ?_; rintro e w' ⟨rfl, rfl⟩) | (go_at_call 37; refine (impl_isResidue _ _ _).mono ?_; rintro e w' ⟨rfl, rfl⟩))
      go_ret2
      exact ⟨rfl, by repeat (first | exact Grown.refl _ | apply Grown.drew | apply Grown.alloc)⟩
    · have d : inB x 0 ((q : Int) - 1) = true := inB_yes (by omega) (by omega)
      have dy : inB y 0 ((q : Int) - 1) = false := inB_lo h4
      go_enter Try.func13, Try.ntmps13
      go_wp2_with (first
        | (go_at_call 25; refine (c _).mono ?_; rintro e w' ⟨rfl, rfl⟩) | (go_at_call 37; refine (impl_isResidue _ _ _).mono ?_; rintro e w' ⟨rfl, rfl⟩))
      go_ret2
      exact ⟨rfl, by repeat (first | exact Grown.refl _ | apply Grown.drew | apply Grown.alloc)⟩
    · have d : inB x 0 ((q : Int) - 1) = true := inB_yes (by omega) (by omega)
      have dy : inB y 0 ((q : Int) - 1) = false := inB_hi (by omega)
      go_enter Try.func13, Try.ntmps13
      go_wp2_with (first
        | (go_at_call 25; refine (c _).mono ?_; rintro e w' ⟨rfl, rfl⟩) | (go_at_call 37; refine (impl_isResidue _ _ _).mono ?_; rintro e w' ⟨rfl, rfl⟩))
      go_ret2
      exact ⟨rfl, by repeat (first | exact Grown.refl _ | apply Grown.drew | apply Grown.alloc)⟩
set_option maxHeartbeats 1000000 in
set_option maxRecDepth 100000 in
theorem spec_BarrettMul_no (p s m x y : Int) (w : World) (h : ¬ BarOk p s m x y) :
    Calls Try.prog 14 #[.agg #[.int .i64 p, .int .i64 s, .int .i64 m], .int .i64 x, .int .i64 y] w fun e w' => e = .returned (.tuple #[.int .i64 0, .bool false]) ∧ Grown w w' := by
  rcases BarOk.nots h with h1 | ⟨h1, h2, h3⟩ | ⟨h1, rfl, h2, h3⟩ | ⟨h1, rfl, rfl, h2⟩
  · clear h
    go_enter Try.func14, Try.ntmps14
    go_wp2_with (first
      | (go_at_call 24; refine (spec_BarrettOf_no _ _ h1).mono ?_; rintro e w' ⟨rfl, rfl⟩))
    go_ret2
    exact ⟨rfl, by repeat (first | exact Grown.refl _ | apply Grown.drew | apply Grown.alloc)⟩
  · clear h
    obtain ⟨q, rfl⟩ := Int.eq_ofNat_of_zero_le (show 0 ≤ p by have := oddB_yes h1; omega)
    rw [Int.toNat_natCast] at h2 h3
    have c := fun W => spec_BarrettOf_yes q W h1
    generalize Lib.bitLen q = L at *
    clear h1
    go_enter Try.func14, Try.ntmps14
    go_wp2_with (first
      | (go_at_call 24; refine (c _).mono ?_; rintro e w' ⟨rfl, rfl⟩))
    go_ret2
    exact ⟨rfl, by repeat (first | exact Grown.refl _ | apply Grown.drew | apply Grown.alloc)⟩
  · clear h
    obtain ⟨q, rfl⟩ := Int.eq_ofNat_of_zero_le (show 0 ≤ p by have := oddB_yes h1; omega)
    rw [Int.toNat_natCast] at h2 h3
    rw [Int.toNat_natCast]
    have c := fun W => spec_BarrettOf_yes q W h1
    generalize Lib.bitLen q = L at *
    clear h1
    go_enter Try.func14, Try.ntmps14
    go_wp2_with (first
      | (go_at_call 24; refine (c _).mono ?_; rintro e w' ⟨rfl, rfl⟩))
    go_ret2
    exact ⟨rfl, by repeat (first | exact Grown.refl _ | apply Grown.drew | apply Grown.alloc)⟩
  · clear h
    obtain ⟨q, rfl⟩ := Int.eq_ofNat_of_zero_le (show 0 ≤ p by have := oddB_yes h1; omega)
    rw [Int.toNat_natCast]
    have c := fun W => spec_BarrettOf_yes q W h1
    have hq2 : (2 : Int) ≤ (q : Int) := (oddB_yes h1).2.1
    have hq3 : (q : Int) < 268435456 := (oddB_yes h1).2.2.1
    generalize Lib.bitLen q = L at *
    clear h1
    rcases h2 with h2 | ⟨h2, h3⟩ | ⟨h2, h3, h4⟩ | ⟨h2, h3, h4, h5⟩
    · have d : inB x 0 ((q : Int) - 1) = false := inB_lo h2
      go_enter Try.func14, Try.ntmps14
      go_wp2_with (first
        | (go_at_call 24; refine (c _).mono ?_; rintro e w' ⟨rfl, rfl⟩) | (go_at_call 39; refine (spec_in _ _ _ _).mono ?_; rintro e w' ⟨rfl, rfl⟩))
      go_ret2
      exact ⟨rfl, by repeat (first | exact Grown.refl _ | apply Grown.drew | apply Grown.alloc)⟩
    · have d : inB x 0 ((q : Int) - 1) = false := inB_hi (by omega)
      go_enter Try.func14, Try.ntmps14
      go_wp2_with (first
        | (go_at_call 24; refine (c _).mono ?_; rintro e w' ⟨rfl, rfl⟩) | (go_at_call 39; refine (spec_in _ _ _ _).mono ?_; rintro e w' ⟨rfl, rfl⟩))
      go_ret2
      exact ⟨rfl, by repeat (first | exact Grown.refl _ | apply Grown.drew | apply Grown.alloc)⟩
    · have d : inB x 0 ((q : Int) - 1) = true := inB_yes (by omega) (by omega)
      have dy : inB y 0 ((q : Int) - 1) = false := inB_lo h4
      go_enter Try.func14, Try.ntmps14
      go_wp2_with (first
        | (go_at_call 24; refine (c _).mono ?_; rintro e w' ⟨rfl, rfl⟩) | (go_at_call 39; refine (spec_in _ _ _ _).mono ?_; rintro e w' ⟨rfl, rfl⟩))
      go_ret2
      exact ⟨rfl, by repeat (first | exact Grown.refl _ | apply Grown.drew | apply Grown.alloc)⟩
    · have d : inB x 0 ((q : Int) - 1) = true := inB_yes (by omega) (by omega)
      have dy : inB y 0 ((q : Int) - 1) = false := inB_hi (by omega)
      go_enter Try.func14, Try.ntmps14
      go_wp2_with (first
        | (go_at_call 24; refine (c _).mono ?_; rintro e w' ⟨rfl, rfl⟩) | (go_at_call 39; refine (spec_in _ _ _ _).mono ?_; rintro e w' ⟨rfl, rfl⟩))
      go_ret2
      exact ⟨rfl, by repeat (first | exact Grown.refl _ | apply Grown.drew | apply Grown.alloc)⟩
set_option maxHeartbeats 1000000 in
set_option maxRecDepth 100000 in
theorem spec_BarrettMul_yes (q L x y : Nat) (w : World) (h1 : oddB q = true) (hL : Lib.bitLen q = L) (hx : x < q) (hy : y < q) :
    Calls Try.prog 14 #[.agg (barV q L), .int .i64 x, .int .i64 y] w fun e w' => e = .returned (.tuple #[.int .i64 ((x * y % q : Nat) : Int), .bool true]) ∧ Grown w w' := by
  have c := fun W => spec_BarrettOf_yes q W h1
  have hq2 : (2 : Int) ≤ (q : Int) := (oddB_yes h1).2.1
  have hq3 : (q : Int) < 268435456 := (oddB_yes h1).2.2.1
  rw [hL] at c
  clear h1 hL
  have dx : inB x 0 ((q : Int) - 1) = true := inB_yes (by omega) (by omega)
  have dy : inB y 0 ((q : Int) - 1) = true := inB_yes (by omega) (by omega)
  have b1 : x * y ≤ 268435456 * 268435456 := Nat.mul_le_mul (by omega) (by omega)
  have exy : (x : Int) * (y : Int) = ((x * y : Nat) : Int) := by simp
  generalize x * y = z at *
  go_enter Try.func14, Try.ntmps14
  go_wp2_with (first
    | (go_at_call 24; refine (c _).mono ?_; rintro e w' ⟨rfl, rfl⟩) | (go_at_call 39; refine (spec_in _ _ _ _).mono ?_; rintro e w' ⟨rfl, rfl⟩))
  go_ret2
  exact ⟨by simp, by repeat (first | exact Grown.refl _ | apply Grown.drew | apply Grown.alloc)⟩
set_option maxHeartbeats 1000000 in
set_option maxRecDepth 100000 in
theorem impl_BarrettMul_yes (q L x y : Nat) (w : World) (h1 : oddB q = true) (hL : Lib.bitLen q = L) (hx : x < q) (hy : y < q) :
    Calls Try.prog 13 #[.agg (barV q L), .int .i64 x, .int .i64 y] w fun e w' => e = .returned (.tuple #[.int .i64 ((x * y % q : Nat) : Int), .bool true]) ∧ Grown w w' := by
  have c := fun W => impl_BarrettOf_yes q W h1
  have hq2 : (2 : Int) ≤ (q : Int) := (oddB_yes h1).2.1
  have hq3 : (q : Int) < 268435456 := (oddB_yes h1).2.2.1
  obtain ⟨l1, l2⟩ := bitLen_p q (by omega)
  rw [hL] at c l1 l2
  clear h1 hL
  have dx : inB x 0 ((q : Int) - 1) = true := inB_yes (by omega) (by omega)
  have dy : inB y 0 ((q : Int) - 1) = true := inB_yes (by omega) (by omega)
  have b1 : x * y ≤ 268435456 * 268435456 := Nat.mul_le_mul (by omega) (by omega)
  have b2 : x * y < 2 ^ (2 * L) := by
    rw [Nat.two_mul, Nat.pow_add]
    exact Nat.mul_lt_mul'' (by omega) (by omega)
  have b3 : 2 ^ (2 * L) ≤ 2 ^ 56 := Nat.pow_le_pow_right (by omega) (by omega)
  have b4 : 2 ^ (2 * L) / q ≤ 2 ^ (2 * L) := Nat.div_le_self _ _
  have bp := fun W => barrett_product q L (2 ^ (2 * L) / q) x y (x * y) _ _ W rfl (by omega) (by omega) l1 rfl b2 (by omega) (by omega) rfl rfl
  have e2 : ((2 ^ (2 * L) / q : Nat) : Int) = 2 ^ (2 * L) / (q : Int) := by simp
  rw [e2] at bp
  have m0 : x * y % q < q := Nat.mod_lt _ (by omega)
  generalize x * y % q = z at *
  clear e2 b1 b2 b3 b4
  go_enter Try.func13, Try.ntmps13
  go_wp2_with (first
    | (go_at_call 25; refine (c _).mono ?_; rintro e w' ⟨rfl, rfl⟩) | (go_at_call 37; refine (impl_isResidue _ _ _).mono ?_; rintro e w' ⟨rfl, rfl⟩) | (go_at_call 38; go_in))
  refine (bp _).mono ?_
  rintro e w2 ⟨rfl, hg⟩
  go_wp2_with fail
  go_ret2
  exact ⟨rfl, grown_trans (by repeat (first | exact Grown.refl _ | apply Grown.drew | apply Grown.alloc)) hg⟩
end Go.Proofs.Ytgejgkbpbikadaa
