/- Proved: what the model answers, as functions of the numbers: the whole number of a word. -/
import Derived.Test.YtafcffnpobdhgaaExpA
import Derived.Test.YtafcffnpobdhgaaKC
namespace Go.Proofs.Ytafcffnpobdhgaa
open Go.ChangeShapes Go.WideShapes Go.ChangeAt Go.RowKit
open M2
set_option linter.unusedVariables false
set_option linter.unusedSimpArgs false
theorem told_word (z : Int) (h0 : -9223372036854775808 ≤ z) (h1 : z ≤ 9223372036854775807) : (dg z).length ≤ 40 := by
  refine Nat.le_trans (dg_len (k := 3) ?_) (by omega)
  unfold LB
  omega
end Go.Proofs.Ytafcffnpobdhgaa
