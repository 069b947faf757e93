/- Proved: several texts in one: what each proves is said ahead of it. -/
import Derived.Test.YtpebikjckhcgfaaGreatDoorZ13
import Derived.Test.YtpebikjckhcgfaaGreatDoorZ20
import Derived.Deep.AppendLies
import Derived.Maps.AppendAt
/- Proved: rows added, as the model makes them. -/
namespace Go.Proofs.YtpebikjckhcgfaaGreatDoor
open Go.ChangeShapes Go.WideShapes Go.ChangeAt Go.RowKit
open M1
set_option linter.unusedVariables false
set_option linter.unusedSimpArgs false
theorem one_sl (a : Option Addr) (n c : Nat) : ∀ u ∈ [Value.slice a n c], u.oneCell' = true := by simp [Value.oneCell']
end Go.Proofs.YtpebikjckhcgfaaGreatDoor
/- Proved: the opposites of rows, as the model makes them. -/
namespace Go.Proofs.YtpebikjckhcgfaaGreatDoor
open Go.ChangeShapes Go.WideShapes Go.ChangeAt Go.RowKit
open M1
set_option linter.unusedVariables false
set_option linter.unusedSimpArgs false
def negF (p x y : Int) : Int := (-x) % p
def subF (p x y : Int) : Int := (x - y) % p
end Go.Proofs.YtpebikjckhcgfaaGreatDoor
/- Proved: rows times a number, as the model makes them. -/
namespace Go.Proofs.YtpebikjckhcgfaaGreatDoor
open Go.ChangeShapes Go.WideShapes Go.ChangeAt Go.RowKit
open M1
set_option linter.unusedVariables false
set_option linter.unusedSimpArgs false
def mulF (m : Int → Int) (p x y : Int) : Int := x * m p % p
end Go.Proofs.YtpebikjckhcgfaaGreatDoor
