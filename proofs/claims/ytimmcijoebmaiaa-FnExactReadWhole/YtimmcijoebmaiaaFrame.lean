/- Proved: a whole number that comes in, opened: a sign, and a row of numbers. -/
import Derived.Test.YtimmcijoebmaiaaS00
import Derived.Lib.SmallJoins
namespace Go.Proofs.Ytimmcijoebmaiaa
open Go.ChangeShapes Go.WideShapes Go.ChangeAt Go.RowKit Go.Joins
set_option linter.unusedVariables false
set_option linter.unusedSimpArgs false
theorem laidOutW : laidOutB Try.prog = true := by kernel_rfl
theorem ownKnobNoneW : ownKnob Try.prog.godebug = none := by kernel_rfl
end Go.Proofs.Ytimmcijoebmaiaa
