/- Proved: the model's transform: the polynomial's value at each point, by Horner's rule. -/
import Derived.Test.YtfgooclnohnkmaaGreatDoorPoints
namespace Go.Proofs.YtfgooclnohnkmaaGreatDoor
open Go.ChangeShapes Go.WideShapes Go.ChangeAt Go.RowKit
open M1
set_option linter.unusedVariables false
set_option linter.unusedSimpArgs false
/-- Horner's rule, c numbers taken from the last one on -/
def horS (P x : Nat) (xs : List Nat) (N : Nat) : Nat → Nat
  | 0 => 0
  | c + 1 => (horS P x xs N c * x + xs.getD (N - 1 - c) 0) % P
theorem horS_lt (P x : Nat) (xs : List Nat) (N : Nat) (hP : 0 < P) : ∀ c, horS P x xs N c < P
  | 0 => hP
  | c + 1 => Nat.mod_lt _ hP
theorem horS_step (P x : Nat) (xs : List Nat) (N m : Nat) (h : m < N) : horS P x xs N (N - m) = (horS P x xs N (N - (m + 1)) * x + xs.getD m 0) % P := by
  rw [show N - m = (N - (m + 1)) + 1 by omega, horS, show N - 1 - (N - (m + 1)) = m by omega]
def fwdS (P N R : Nat) (xs : List Nat) : List Nat := (List.range N).map (fun k => horS P (R ^ ((ptsN N).getD k 0) % P) xs N N)
theorem fwdS_len (P N R : Nat) (xs : List Nat) : (fwdS P N R xs).length = N := by simp [fwdS]
theorem fwdS_get (P N R : Nat) (xs : List Nat) (k : Nat) (h : k < N) : (fwdS P N R xs).getD k 0 = horS P (R ^ ((ptsN N).getD k 0) % P) xs N N := by simp [fwdS, List.getD, h]
theorem pts_bd' {N : Nat} (h : Sz4 N) (k : Nat) : (ptsN N).getD k 0 < 2 * N + 1 := by
  by_cases hk : k < N
  · rw [ptsN_get N k hk]
    have := back_lt0 h k
    omega
  · have e : (ptsN N).getD k 0 = 0 := by simp [List.getD, List.getElem?_eq_none (show (ptsN N).length ≤ k by rw [ptsN_len]; omega)]
    omega
theorem spec_powN (a e p : Nat) (W : World) (ha : a < p) (he : e ≤ 1000000) (hp : 2 ≤ p) (hp' : p ≤ 268435456) :
    Calls Tryz.prog 187 #[.int .i64 a, .int .i64 e, .int .i64 p] W fun en w' => en = .returned (.int .i64 ((a ^ e % p : Nat) : Int)) ∧ w' = W := by
  have c := spec_pow a e p W ⟨by omega, by omega⟩ ⟨by omega, by omega⟩ ⟨by omega, by omega⟩
  have e1 : ((a : Int) % (p : Int)).toNat = a := by rw [← Int.natCast_emod, Int.toNat_natCast, Nat.mod_eq_of_lt ha]
  rw [e1, Int.toNat_natCast, Int.toNat_natCast] at c
  exact c
end Go.Proofs.YtfgooclnohnkmaaGreatDoor
