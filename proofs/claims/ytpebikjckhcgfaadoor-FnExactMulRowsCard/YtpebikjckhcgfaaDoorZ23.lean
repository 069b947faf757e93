/- Proved: several texts in one: what each proves is said ahead of it. -/
import Derived.Test.YtpebikjckhcgfaaDoorZ22
import Derived.Test.YtpebikjckhcgfaaDoorZ02
import Derived.Deep.RegionHeld3
/- Proved: what the model answers, as functions of the numbers: whether there is a quotient, and the nearest one. -/
namespace Go.Proofs.YtpebikjckhcgfaaDoor
open Go.ChangeShapes Go.WideShapes Go.ChangeAt Go.RowKit
open M2
set_option linter.unusedVariables false
set_option linter.unusedSimpArgs false
theorem StW.at31 (w : World) (x y x' y' x'' y'' : Value) (t t' t'' : TypeId) : StW (((w.alloc (.cells #[x, y] t)).alloc (.cells #[x', y'] t')).alloc (.cells #[x'', y''] t'')) w.heap.size x y t :=
  (heap_alloc_old _ _ (by simp; omega)).trans (StW.at1 w x y x' y' t t')
theorem StW.at32 (w : World) (x y x' y' x'' y'' : Value) (t t' t'' : TypeId) : StW (((w.alloc (.cells #[x, y] t)).alloc (.cells #[x', y'] t')).alloc (.cells #[x'', y''] t'')) (w.heap.size + 1) x' y' t' :=
  (heap_alloc_old _ _ (by simp)).trans (StW.at2 w x y x' y' t t')
theorem StW.at33 (w : World) (x y x' y' x'' y'' : Value) (t t' t'' : TypeId) : StW (((w.alloc (.cells #[x, y] t)).alloc (.cells #[x', y'] t')).alloc (.cells #[x'', y''] t'')) (w.heap.size + 1 + 1) x'' y'' t'' := by
  have h := heap_alloc_new ((w.alloc (.cells #[x, y] t)).alloc (.cells #[x', y'] t')) (.cells #[x'', y''] t'')
  have e : ((w.alloc (.cells #[x, y] t)).alloc (.cells #[x', y'] t')).heap.size = w.heap.size + 1 + 1 := by simp
  rw [e] at h
  exact h
/-- there is a quotient -/
abbrev Dv (n m : Bool) (xs ys : List Int) : Prop := (Good n xs ∧ Good m ys) ∧ m = false ∧ 0 < ys.length
theorem near_len {n : Bool} {xs ys : List Nat} (lx : xs.length ≤ 40) (ly : ys.length ≤ 40) (hx : Lim xs) (hy : Lim ys) (hD : 0 < val ys) : (dg ((2 * sv n xs + (val ys : Int)) / (2 * (val ys : Int)))).length ≤ 1000 := by
  refine Nat.le_trans (dg_len (k := (xs.length + ys.length) + 1) ?_) (by omega)
  have h1 := val_lt hx
  have h2 := val_lt hy
  have h3 : LB ^ xs.length ≤ LB ^ (xs.length + ys.length) := Nat.pow_le_pow_right LB_pos (by omega)
  have h4 : LB ^ ys.length ≤ LB ^ (xs.length + ys.length) := Nat.pow_le_pow_right LB_pos (by omega)
  have h5 : LB ^ (xs.length + ys.length) * 8 ≤ LB ^ (xs.length + ys.length + 1) := by rw [Nat.pow_succ]; exact Nat.mul_le_mul (Nat.le_refl _) (by decide)
  have h6 := sv_abs n xs
  have h7 : 1 ≤ LB ^ (xs.length + ys.length) := Nat.one_le_pow _ _ LB_pos
  generalize hz2 : 2 * sv n xs + (val ys : Int) = z2
  have h8 : z2.natAbs ≤ 2 * val xs + val ys := by omega
  have hp : (0 : Int) < 2 * (val ys : Int) := by omega
  have a1 := Int.emod_nonneg z2 (show 2 * (val ys : Int) ≠ 0 by omega)
  have a2 := Int.emod_lt_of_pos z2 hp
  have a3 := Int.mul_ediv_add_emod z2 (2 * (val ys : Int))
  generalize z2 / (2 * (val ys : Int)) = q at *
  generalize z2 % (2 * (val ys : Int)) = r at *
  have : q.natAbs ≤ z2.natAbs + 1 := by
    rcases Int.lt_trichotomy q 0 with hq | hq | hq
    · have b1 : 2 * (val ys : Int) * (q + 1) ≤ 1 * (q + 1) := Int.mul_le_mul_of_nonpos_right (by omega) (by omega)
      rw [Int.mul_add] at b1
      omega
    · subst hq; omega
    · have b1 : 1 * q ≤ 2 * (val ys : Int) * q := Int.mul_le_mul_of_nonneg_right (by omega) (by omega)
      omega
  omega
/-- what RoundWholes answers -/
def roundW (n m : Bool) (xs ys : List Int) : Bool × List Nat × Bool := if Dv n m xs ys then told ((2 * sv n (nat xs) + (val (nat ys) : Int)) / (2 * (val (nat ys) : Int))) else nought
end Go.Proofs.YtpebikjckhcgfaaDoor
