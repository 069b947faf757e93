/- Proved: a struct of two cells stays where only others are written; no function of the program. -/
import Derived.Test.YtpcpahgflkjnaaaLawB
import Derived.Test.YtpcpahgflkjnaaaChg
namespace Go.Proofs.Ytpcpahgflkjnaaa
open Go.ChangeShapes Go.WideShapes Go.ChangeAt Go.RowKit
set_option linter.unusedVariables false
set_option linter.unusedSimpArgs false
theorem StW.chg {w w' : World} {k : Nat} {x y : Value} {t : TypeId} {lo hi : Nat} (s : StW w k x y t) (c : Chg w w' lo hi) (hk : k < lo ∨ hi ≤ k) : StW w' k x y t := (c.block k s.lt hk).trans s
end Go.Proofs.Ytpcpahgflkjnaaa
