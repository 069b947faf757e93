/- Proved: several texts in one: what each proves is said ahead of it. -/
import Derived.Test.YtfcdfielbpdloaaDoorX00
import Derived.Test.YtfcdfielbpdloaaDoorX02
import Derived.Deep.WholeRow
import Derived.Laws.ResultCell
import Derived.Deep.LoopGhost
import Derived.Laws.BitsLemmas
import Derived.Laws.CopyOwn
import Derived.Deep.RegionLaw
import Derived.Test.YtfcdfielbpdloaaDoorX03
import Derived.Test.YtfcdfielbpdloaaDoorX13
import Derived.Test.YtfcdfielbpdloaaDoorSlB
/- Proved: the contract of the program's sizeOfWord. -/
namespace Go.Proofs.YtfcdfielbpdloaaDoor
open Go.ChangeShapes Go.WideShapes Go.ChangeAt Go.RowKit
open M2
set_option linter.unusedVariables false
set_option linter.unusedSimpArgs false

theorem cnt_word {n : Nat} (h : n < 18446744073709551616) : cnt n ≤ 3 := cnt_le (Nat.lt_of_lt_of_le h (by decide))
end Go.Proofs.YtfcdfielbpdloaaDoor
/- Proved: the program's product of all factors, as a size. -/
namespace Go.Proofs.YtfcdfielbpdloaaDoor
open Go.ChangeShapes Go.WideShapes Go.ChangeAt Go.RowKit
open M2
set_option linter.unusedVariables false
set_option linter.unusedSimpArgs false
def prodN (ps : List Nat) : Nat := ps.foldl (fun a p => a * p) 1
theorem prodN_snoc (ps : List Nat) (p : Nat) : prodN (ps ++ [p]) = prodN ps * p := by simp [prodN, List.foldl_append]
theorem prodN_take (ps : List Nat) (k : Nat) (h : k < ps.length) : prodN (ps.take (k + 1)) = prodN (ps.take k) * ps.getD k 0 := by
  rw [← prodN_snoc]
  congr 1
  rw [List.take_add_one]
  congr 1
  simp [List.getD, h]
theorem prodN_le (ps : List Nat) (hb : ∀ p ∈ ps, p ≤ 268435456) : ∀ k, k ≤ ps.length → prodN (ps.take k) ≤ LB ^ k
  | 0, _ => by simp [prodN]
  | k + 1, h => by
    rw [prodN_take ps k (by omega), Nat.pow_succ]
    have h1 := prodN_le ps hb k (by omega)
    have h2 : ps.getD k 0 ≤ LB := by
      have : ps.getD k 0 ∈ ps := by simp [List.getD, show k < ps.length by omega]
      exact hb _ this
    exact Nat.mul_le_mul h1 h2
theorem prodN_cnt (ps : List Nat) (hb : ∀ p ∈ ps, p ≤ 268435456) (k : Nat) (h : k ≤ ps.length) : cnt (prodN (ps.take k)) ≤ k + 1 := by
  refine cnt_le (Nat.lt_of_le_of_lt (prodN_le ps hb k h) ?_)
  rw [Nat.pow_succ]
  have h1 : 0 < LB ^ k := pw k
  have h2 : LB ^ k * 2 ≤ LB ^ k * LB := Nat.mul_le_mul_left _ (by decide)
  omega
end Go.Proofs.YtfcdfielbpdloaaDoor
