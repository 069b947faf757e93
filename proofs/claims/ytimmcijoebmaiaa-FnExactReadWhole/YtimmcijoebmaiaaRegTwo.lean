/- Proved: the drawn region of AddWholes in which the sizes of both numbers are made, in whatever order. -/
import Derived.Test.YtimmcijoebmaiaaS10
import Derived.Test.YtimmcijoebmaiaaS00
import Derived.Test.YtimmcijoebmaiaaSzIn
import Derived.Test.YtimmcijoebmaiaaS14
import Derived.Test.YtimmcijoebmaiaaSzOut
import Derived.Deep.RegionHeld3
import Derived.Test.YtimmcijoebmaiaaSzAdd
import Derived.Deep.DeepCutAuto
namespace Go.Proofs.Ytimmcijoebmaiaa
open Go.ChangeShapes Go.WideShapes Go.ChangeAt Go.RowKit
open M2
set_option linter.unusedVariables false
set_option linter.unusedSimpArgs false

theorem cnt_add (a b : Nat) (ha : cnt a ≤ 40) (hb : cnt b ≤ 40) : cnt (a + b) ≤ 41 := by
  refine cnt_le ?_
  have h1 := cnt_lt a
  have h2 := cnt_lt b
  have h3 : LB ^ cnt a ≤ LB ^ 40 := Nat.pow_le_pow_right LB_pos ha
  have h4 : LB ^ cnt b ≤ LB ^ 40 := Nat.pow_le_pow_right LB_pos hb
  have h5 : LB ^ 41 = LB ^ 40 * LB := Nat.pow_succ ..
  have h6 : LB ^ 40 * 2 ≤ LB ^ 40 * LB := Nat.mul_le_mul_left _ (by decide)
  omega
end Go.Proofs.Ytimmcijoebmaiaa
