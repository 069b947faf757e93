/- Proved: what the model answers: how many bits a whole number has. -/
import Derived.Test.YtfgooclnohnkmaaGreatDoorExpA
import Derived.Test.YtfgooclnohnkmaaGreatDoorLawB
import Derived.Lib.BitFns
namespace Go.Proofs.YtfgooclnohnkmaaGreatDoor
open Go.ChangeShapes Go.WideShapes Go.ChangeAt Go.RowKit
open M2
set_option linter.unusedVariables false
set_option linter.unusedSimpArgs false
theorem bitLen_lt : ∀ (k x : Nat), x < 2 ^ k → k ≤ 64 → Lib.bitLen x ≤ k ∧ x < 2 ^ Lib.bitLen x
  | 0, x, h, _ => by
    have : x = 0 := by simpa using h
    subst this; decide
  | k + 1, x, h, hk => by
    by_cases h0 : x = 0
    · subst h0; exact ⟨by have : Lib.bitLen 0 = 0 := by decide
                          omega, by decide⟩
    · have hp : 2 ^ (k + 1) ≤ 2 ^ 64 := Nat.pow_le_pow_right (by omega) hk
      rw [Lib.bitLen_half x h0 (by omega)]
      rw [Nat.pow_succ] at h
      obtain ⟨i1, i2⟩ := bitLen_lt k (x / 2) (by omega) (by omega)
      refine ⟨by omega, ?_⟩
      rw [Nat.pow_add]
      omega
theorem bitLen_p (p : Nat) (h : p < 268435456) : Lib.bitLen p ≤ 28 ∧ p < 2 ^ Lib.bitLen p := bitLen_lt 28 p (by omega) (by omega)
set_option maxHeartbeats 1000000 in
theorem spec_Bits (p : Nat) (w : World) (h : p ≤ 268435456) :
    Calls Tryz.prog 207 #[.int .i64 p] w fun e w' => e = .returned (.int .i64 (Lib.bitLen p)) ∧ w' = w := by
  obtain ⟨b1, b2⟩ := bitLen_lt 29 p (by omega) (by omega)
  clear b2
  generalize hL : Lib.bitLen p = L at *
  have H0 : Hid (0 + Lib.bitLen p = L) := by show _ = _; omega
  clear hL
  go_enter Tryz.func207, Tryz.ntmps207
  go_wp2_with fail
  go_loop [0, 3] (fun n k => ∃ n' k' : Nat, n' ≤ 268435456 ∧ k' ≤ L ∧ Hid (k' + Lib.bitLen n' = L) ∧ n = .int .i64 n' ∧ k = .int .i64 k') (fun n _ => (intOf n).toNat)
  case atStart => exact ⟨p, 0, h, by omega, H0, rfl, rfl⟩
  case round =>
    obtain ⟨n, k, hn, hk, H1, rfl, rfl⟩ := hrel
    clear H0
    by_cases hz : n = 0
    · subst hz
      have e0 : Lib.bitLen 0 = 0 := by decide
      have H2 : Hid (k = L) := by
        have := H1.out
        rw [e0] at this
        exact this
      clear e0
      go_wp2_with fail
      go_ret
      exact ⟨by rw [← H2.out]; rfl, rfl⟩
    · have H3 : Hid (k + 1 + Lib.bitLen (n / 2) = L) := by
        have := H1.out
        rw [Lib.bitLen_half n hz (by omega)] at this
        show _ = _
        omega
      have hk2 : k + 1 ≤ L := by have := H3.out; omega
      go_wp2_with fail
      exact ⟨⟨n / 2, k + 1, by omega, hk2, H3, by go_num, by go_num⟩, by simp [intOf]; omega⟩
/-- how many bits limbs have -/
def lenB (xs : List Nat) : Nat := if xs.length = 0 then 0 else 28 * (xs.length - 1) + Lib.bitLen (xs.getD (xs.length - 1) 0)
/-- what BitsOf answers -/
def bitsW (n : Bool) (xs : List Int) : Int := if Good n xs then ((lenB (nat xs) : Nat) : Int) else 0
end Go.Proofs.YtfgooclnohnkmaaGreatDoor
