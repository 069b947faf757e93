/- Proved: the statement on ProductOf at every list, in a world in which the two tables are laid. -/
import Derived.Test.YtplaaglckbfklaaDoorLawProductOf
namespace Go.Proofs.YtplaaglckbfklaaDoor
open Go.ChangeShapes Go.WideShapes Go.ChangeAt Go.RowKit
open M2
set_option linter.unusedVariables false
theorem ProductOf_any (xs : List Int) (v : Value) (w : World) (hv : Row w v xs) (hl : xs.length ≤ 9223372036854775807) (hx : ∀ x ∈ xs, -9223372036854775808 ≤ x ∧ x ≤ 9223372036854775807) (hP : PrsW w) (hT : TabW w) :
    Calls Tryd.prog 11 #[v] w fun e w' => e = .returned (.bool true) ∧ Old w w' := by
  cases h : basB xs
  · exact law_ProductOf xs v w hv hl hP hT false false [] (by simp)
      (fun _ v W hr hf => spec_ProductOf_no xs v W hr hf hl hx h)
      (fun _ v W h1 h2 hr hf => impl_ProductOf_no xs v W h1 h2 hr hf hl h)
  · obtain ⟨ps, rfl, hb⟩ := basB_yes h
    exact law_ProductOf (toZ ps) v w hv hl hP hT false true (dig (prodN ps)) (Nat.le_trans hb.cnt (by omega))
      (fun _ v W hr hf => spec_ProductOf_yes ps v W hr hf hb h)
      (fun _ v W h1 h2 hr hf => impl_ProductOf_yes ps v W h1 h2 hr hf hb h)
end Go.Proofs.YtplaaglckbfklaaDoor
