/- Proved: contracts of BarrettOf, of the program and of the model: both answer the modulus, twice its bits, and that power of 2 divided by it. -/
import Derived.Test.YtgejgkbpbikadaaRows
import Derived.WalkKit
import Derived.ProofKit
import Derived.OpenShut
import Derived.Handy
import Derived.Test.YtgejgkbpbikadaaLen
import Derived.Test.YtgejgkbpbikadaaBase
namespace Go.Proofs.Ytgejgkbpbikadaa
open Go.ChangeShapes Go.WideShapes Go.ChangeAt Go.RowKit
open M1
theorem bitLen_lt : ∀ (k x : Nat), x < 2 ^ k → k ≤ 64 → Lib.bitLen x ≤ k ∧ x < 2 ^ Lib.bitLen x
  | 0, x, h, _ => by
    have : x = 0 := by simpa using h
    subst this; decide
  | k + 1, x, h, hk => by
    by_cases h0 : x = 0
    · subst h0; exact ⟨by have : Lib.bitLen 0 = 0 := by decide
                          omega, by decide⟩
    · have hp : 2 ^ (k + 1) ≤ 2 ^ 64 := Nat.pow_le_pow_right (by omega) hk
      rw [Lib.bitLen_half x h0 (by omega)]
      rw [Nat.pow_succ] at h
      obtain ⟨i1, i2⟩ := bitLen_lt k (x / 2) (by omega) (by omega)
      refine ⟨by omega, ?_⟩
      rw [Nat.pow_add]
      omega
theorem bitLen_p (p : Nat) (h : p < 268435456) : Lib.bitLen p ≤ 28 ∧ p < 2 ^ Lib.bitLen p := bitLen_lt 28 p (by omega) (by omega)
set_option maxHeartbeats 1000000 in
theorem spec_Bits (p : Nat) (w : World) (h : p ≤ 268435456) :
    Calls Try.prog 49 #[.int .i64 p] w fun e w' => e = .returned (.int .i64 (Lib.bitLen p)) ∧ w' = w := by
  obtain ⟨b1, b2⟩ := bitLen_lt 29 p (by omega) (by omega)
  clear b2
  generalize hL : Lib.bitLen p = L at *
  have H0 : Hid (0 + Lib.bitLen p = L) := by show _ = _; omega
  clear hL
  go_enter Try.func49, Try.ntmps49
  go_wp2_with fail
  go_loop [0, 3] (fun n k => ∃ n' k' : Nat, n' ≤ 268435456 ∧ k' ≤ L ∧ Hid (k' + Lib.bitLen n' = L) ∧ n = .int .i64 n' ∧ k = .int .i64 k') (fun n _ => (intOf n).toNat)
  case atStart => exact ⟨p, 0, h, by omega, H0, rfl, rfl⟩
  case round =>
    obtain ⟨n, k, hn, hk, H1, rfl, rfl⟩ := hrel
    clear H0
    by_cases hz : n = 0
    · subst hz
      have e0 : Lib.bitLen 0 = 0 := by decide
      have H2 : Hid (k = L) := by
        have := H1.out
        rw [e0] at this
        exact this
      clear e0
      go_wp2_with fail
      go_ret
      exact ⟨by rw [← H2.out]; rfl, rfl⟩
    · have H3 : Hid (k + 1 + Lib.bitLen (n / 2) = L) := by
        have := H1.out
        rw [Lib.bitLen_half n hz (by omega)] at this
        show _ = _
        omega
      have hk2 : k + 1 ≤ L := by have := H3.out; omega
      go_wp2_with fail
      exact ⟨⟨n / 2, k + 1, by omega, hk2, H3, by go_num, by go_num⟩, by simp [intOf]; omega⟩
/-- an odd modulus -/
def oddB (p : Int) : Bool := decide (2 ≤ p ∧ p ≤ 268435456 ∧ p % 2 = 1)
theorem oddB_yes {p : Int} (h : oddB p = true) : modB p = true ∧ 2 ≤ p ∧ p < 268435456 ∧ p % 2 = 1 := by simp [oddB] at h; simp [modB]; omega
theorem oddB_no {p : Int} (h : oddB p = false) : modB p = false ∨ (modB p = true ∧ 2 ≤ p ∧ p ≤ 268435456 ∧ p % 2 = 0) := by simp [oddB] at h; simp [modB]; omega
theorem impl_isOdd (p : Int) (w : World) :
    Calls Try.prog 40 #[.int .i64 p] w fun e w' => e = .returned (.bool (oddB p)) ∧ w' = w := by
  cases h : oddB p
  · rcases oddB_no h with h1 | ⟨h1, h2, h3, h4⟩
    · clear h
      go_enter Try.func40, Try.ntmps40
      go_wp2_with (go_at_call 42; refine (impl_isModulus _ _).mono ?_; rintro en w' ⟨rfl, rfl⟩)
      go_ret
      exact ⟨rfl, rfl⟩
    · clear h
      have d : (p % 2 == 1) = false := by simp; omega
      go_enter Try.func40, Try.ntmps40
      go_wp2_with (go_at_call 42; refine (impl_isModulus _ _).mono ?_; rintro en w' ⟨rfl, rfl⟩)
      go_ret
      exact ⟨rfl, rfl⟩
  · obtain ⟨h1, h2, h3, h4⟩ := oddB_yes h
    clear h
    have d : (p % 2 == 1) = true := by simp; omega
    go_enter Try.func40, Try.ntmps40
    go_wp2_with (go_at_call 42; refine (impl_isModulus _ _).mono ?_; rintro en w' ⟨rfl, rfl⟩)
    go_ret
    exact ⟨rfl, rfl⟩
theorem impl_BarrettOf_no (p : Int) (w : World) (h : oddB p = false) :
    Calls Try.prog 25 #[.int .i64 p] w fun e w' => e = .returned (.tuple #[.agg #[.int .i64 0, .int .i64 0, .int .i64 0], .bool false]) ∧ w' = w.alloc (.cells #[.int .i64 0, .int .i64 0, .int .i64 0] 24) := by
  go_enter Try.func25, Try.ntmps25
  go_wp2_with (go_at_call 40; refine (impl_isOdd _ _).mono ?_; rintro en w' ⟨rfl, rfl⟩)
  exact bodyPost_ret (v := .tuple #[.agg #[.int .i64 0, .int .i64 0, .int .i64 0], .bool false]) (by simp [results, Try.results25, go_sem]) rfl ⟨rfl, rfl⟩
theorem pow_bd (L : Nat) (h : L ≤ 28) : (0 : Int) < 2 ^ (2 * L) ∧ (2 : Int) ^ (2 * L) ≤ 72057594037927936 := by
  have h1 : (2 : Nat) ^ (2 * L) ≤ 2 ^ 56 := Nat.pow_le_pow_right (by omega) (by omega)
  have h2 : 0 < (2 : Nat) ^ (2 * L) := Nat.two_pow_pos _
  have e : ((2 ^ (2 * L) : Nat) : Int) = (2 : Int) ^ (2 * L) := by simp
  have e2 : (2 : Nat) ^ 56 = 72057594037927936 := by decide
  omega
/-- what BarrettOf answers for an odd modulus -/
abbrev barV (p L : Nat) : Array Value := #[.int .i64 p, .int .i64 (2 * L), .int .i64 (2 ^ (2 * L) / p)]
theorem impl_BarrettOf_yes (p : Nat) (w : World) (h : oddB p = true) :
    Calls Try.prog 25 #[.int .i64 p] w fun e w' => e = .returned (.tuple #[.agg (barV p (Lib.bitLen p)), .bool true]) ∧ w' = w.alloc (.cells (barV p (Lib.bitLen p)) 24) := by
  obtain ⟨h1, h2, h3, h4⟩ := oddB_yes h
  obtain ⟨b1, b2⟩ := bitLen_p p (by omega)
  have c := fun W => bits_Len64_small (p : Int) W (by omega) (by omega)
  rw [Int.toNat_natCast] at c
  generalize Lib.bitLen p = L at *
  obtain ⟨d1, d2⟩ := pow_bd L b1
  have d3 : (0 : Int) ≤ 2 ^ (2 * L) / (p : Int) := Int.ediv_nonneg (by omega) (by omega)
  have d4 : (2 : Int) ^ (2 * L) / (p : Int) ≤ 2 ^ (2 * L) := Int.ediv_le_self _ (by omega)
  go_enter Try.func25, Try.ntmps25
  go_wp2_with (first | (go_at_call 40; refine (impl_isOdd _ _).mono ?_; rintro en w' ⟨rfl, rfl⟩) | (go_at_call 50; refine (c _).mono ?_; rintro en w' ⟨rfl, rfl⟩))
  exact bodyPost_ret (v := .tuple #[.agg (barV p L), .bool true]) (by simp [results, Try.results25, go_sem]) rfl ⟨rfl, rfl⟩
theorem spec_BarrettOf_no (p : Int) (w : World) (h : oddB p = false) :
    Calls Try.prog 24 #[.int .i64 p] w fun e w' => e = .returned (.tuple #[.agg #[.int .i64 0, .int .i64 0, .int .i64 0], .bool false]) ∧ w' = w.alloc (.cells #[.int .i64 0, .int .i64 0, .int .i64 0] 24) := by
  rcases oddB_no h with h1 | ⟨h1, h2, h3, h4⟩
  · clear h
    go_enter Try.func24, Try.ntmps24
    go_wp2_with (go_at_call 45; refine (spec_modulus _ _).mono ?_; rintro en w' ⟨rfl, rfl⟩)
    exact bodyPost_ret (v := .tuple #[.agg #[.int .i64 0, .int .i64 0, .int .i64 0], .bool false]) (by simp [results, Try.results24, go_sem]) rfl ⟨rfl, rfl⟩
  · clear h
    have d : (p % 2 == 0) = true := by simp; omega
    go_enter Try.func24, Try.ntmps24
    go_wp2_with (go_at_call 45; refine (spec_modulus _ _).mono ?_; rintro en w' ⟨rfl, rfl⟩)
    exact bodyPost_ret (v := .tuple #[.agg #[.int .i64 0, .int .i64 0, .int .i64 0], .bool false]) (by simp [results, Try.results24, go_sem]) rfl ⟨rfl, rfl⟩
theorem spec_BarrettOf_yes (p : Nat) (w : World) (h : oddB p = true) :
    Calls Try.prog 24 #[.int .i64 p] w fun e w' => e = .returned (.tuple #[.agg (barV p (Lib.bitLen p)), .bool true]) ∧ w' = w.alloc (.cells (barV p (Lib.bitLen p)) 24) := by
  obtain ⟨h1, h2, h3, h4⟩ := oddB_yes h
  obtain ⟨b1, b2⟩ := bitLen_p p (by omega)
  have c := fun W => spec_Bits p W (by omega)
  generalize Lib.bitLen p = L at *
  obtain ⟨d1, d2⟩ := pow_bd L b1
  have d3 : (0 : Int) ≤ 2 ^ (2 * L) / (p : Int) := Int.ediv_nonneg (by omega) (by omega)
  have d4 : (2 : Int) ^ (2 * L) / (p : Int) ≤ 2 ^ (2 * L) := Int.ediv_le_self _ (by omega)
  have d : ((p : Int) % 2 == 0) = false := by simp; omega
  go_enter Try.func24, Try.ntmps24
  go_wp2_with (first | (go_at_call 45; refine (spec_modulus _ _).mono ?_; rintro en w' ⟨rfl, rfl⟩) | (go_at_call 49; refine (c _).mono ?_; rintro en w' ⟨rfl, rfl⟩))
  exact bodyPost_ret (v := .tuple #[.agg (barV p L), .bool true]) (by simp [results, Try.results24, go_sem]) rfl ⟨rfl, rfl⟩
theorem eqBarrett_same (a b c : Int) (w : World) :
    Calls Try.prog 26 #[.agg #[.int .i64 a, .int .i64 b, .int .i64 c], .agg #[.int .i64 a, .int .i64 b, .int .i64 c]] w fun e w' => e = .returned (.bool true) ∧ Grown w w' := by
  have da : (a != a) = false := by simp
  have db : (b != b) = false := by simp
  have dc : (c != c) = false := by simp
  go_enter Try.func26, Try.ntmps26
  go_wp2
  go_ret
  exact ⟨rfl, by repeat (first | exact Grown.refl _ | apply Grown.drew | apply Grown.alloc)⟩
end Go.Proofs.Ytgejgkbpbikadaa
