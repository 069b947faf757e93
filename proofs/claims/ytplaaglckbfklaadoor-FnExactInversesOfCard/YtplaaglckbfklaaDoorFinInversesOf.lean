/- Proved: the statement on InversesOf at every list, in a world in which the two tables are laid. -/
import Derived.Test.YtplaaglckbfklaaDoorInvD
import Derived.Test.YtplaaglckbfklaaDoorLawInversesOf
namespace Go.Proofs.YtplaaglckbfklaaDoor
open Go.ChangeShapes Go.WideShapes Go.ChangeAt Go.RowKit
set_option linter.unusedVariables false
theorem InversesOf_any (xs : List Int) (v : Value) (w : World) (hv : Row w v xs) (hl : xs.length ≤ 9223372036854775807) (hx : ∀ x ∈ xs, -9223372036854775808 ≤ x ∧ x ≤ 9223372036854775807) (hP : PrsW w) (hT : TabW w) :
    Calls Tryd.prog 16 #[v] w fun e w' => e = .returned (.bool true) ∧ Old w w' := by
  cases h : basB xs
  · exact law_InversesOf xs v w hv hl hP hT false [] (by simp)
      (fun _ v W hr hf => spec_InversesOf_no xs v W hr hf hl hx h)
      (fun _ v W h1 h2 hr hf => impl_InversesOf_no xs v W h1 h2 hr hf hl h)
  · obtain ⟨ps, rfl, hb⟩ := basB_yes h
    exact law_InversesOf (toZ ps) v w hv hl hP hT true (toZ (invL ps)) (by rw [toZ_len, invL_len]; have := hb.len6; omega)
      (fun _ v W hr hf => spec_InversesOf_yes ps v W hr hf hb h)
      (fun _ v W h1 h2 hr hf => impl_InversesOf_yes ps v W h1 h2 hr hf hb h)
end Go.Proofs.YtplaaglckbfklaaDoor
