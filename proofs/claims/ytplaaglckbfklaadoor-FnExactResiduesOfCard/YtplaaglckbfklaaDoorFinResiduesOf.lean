/- Proved: the statement on ResiduesOf at every whole number and list, in a world in which the two tables are laid. -/
import Derived.Test.YtplaaglckbfklaaDoorLawResiduesOf
namespace Go.Proofs.YtplaaglckbfklaaDoor
open Go.ChangeShapes Go.WideShapes Go.ChangeAt Go.RowKit
open M2
set_option linter.unusedVariables false
theorem ResiduesOf_any (n : Bool) (ds xs : List Int) (v u : Value) (w : World) (hv : Row w v ds) (hu : Row w u xs) (hld : ds.length ≤ 9223372036854775807) (hl : xs.length ≤ 9223372036854775807) (hx : ∀ x ∈ xs, -9223372036854775808 ≤ x ∧ x ≤ 9223372036854775807) (hP : PrsW w) (hT : TabW w) :
    Calls Tryd.prog 12 #[.agg #[.bool n, v], u] w fun e w' => e = .returned (.bool true) ∧ Old w w' := by
  by_cases h : Good n ds ∧ basB xs = true
  · obtain ⟨hg, hb2⟩ := h
    obtain ⟨ps, rfl, hb⟩ := basB_yes hb2
    exact law_ResiduesOf n ds (toZ ps) v u w hv hu hld hl hP hT true (resL n ds ps) (by rw [resL_len]; have := hb.len6; omega)
      (fun la v u W h1 h2 hf => spec_ResiduesOf_yes n ds ps v u W h1 h2 hf la hg hb hb2)
      (fun la v u W hp ht h1 h2 hf => impl_ResiduesOf_yes n ds ps v u W hp ht h1 h2 hf la hg hb hb2)
  · exact law_ResiduesOf n ds xs v u w hv hu hld hl hP hT false [] (by simp)
      (fun la v u W h1 h2 hf => spec_ResiduesOf_no n ds xs v u W h1 h2 hf la hl hx h)
      (fun la v u W hp ht h1 h2 hf => impl_ResiduesOf_no n ds xs v u W hp ht h1 h2 hf la hl h)
end Go.Proofs.YtplaaglckbfklaaDoor
