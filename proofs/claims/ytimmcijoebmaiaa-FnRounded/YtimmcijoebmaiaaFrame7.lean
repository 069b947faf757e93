/- Proved: a slice of ints that comes in, opened: a row of numbers. -/
import Derived.Test.YtimmcijoebmaiaaR00
import Derived.Lib.SmallJoins
namespace Go.Proofs.Ytimmcijoebmaiaa
open Go.ChangeShapes Go.WideShapes Go.ChangeAt Go.RowKit Go.Joins
set_option linter.unusedVariables false
set_option linter.unusedSimpArgs false
set_option maxRecDepth 100000
theorem laidOut : laidOutB Try.prog = true := by kernel_rfl
theorem ownKnobNone : ownKnob Try.prog.godebug = none := by kernel_rfl
end Go.Proofs.Ytimmcijoebmaiaa
