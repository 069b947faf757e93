/- Proved: the statement on ComposeWhole at every two lists, in a world in which the two tables are laid. -/
import Derived.Test.YtejkejfhahmhcaaDoorLawComposeWhole
import Derived.Test.YtejkejfhahmhcaaDoorCompT
namespace Go.Proofs.YtejkejfhahmhcaaDoor
open Go.ChangeShapes Go.WideShapes Go.ChangeAt Go.RowKit
open M2
set_option linter.unusedVariables false
theorem ComposeWhole_any (rs xs : List Int) (v u : Value) (w : World) (hv : Row w v rs) (hu : Row w u xs) (hlr : rs.length ≤ 9223372036854775807) (hl : xs.length ≤ 9223372036854775807) (hx : ∀ x ∈ xs, -9223372036854775808 ≤ x ∧ x ≤ 9223372036854775807) (hP : PrsW w) (hT : TabW w) :
    Calls Tryd.prog 3 #[v, u] w fun e w' => e = .returned (.bool true) ∧ Old w w' := by
  by_cases h : basB xs = true ∧ rsB rs xs = true
  · obtain ⟨h1, h2⟩ := h
    obtain ⟨ps, rfl, hb⟩ := basB_yes h1
    obtain ⟨qs, rfl, hR⟩ := rsB_yes rfl hb h2
    exact law_ComposeWhole (toZ qs) (toZ ps) v u w hv hlr hu hl hP hT false true (dig (coN qs ps)) (Nat.le_trans (coN_cnt hR) (by omega))
      (fun _ _ v u W hr _ hr2 hf => spec_ComposeWhole_yes qs ps v u W hr hr2 hf hR h1 h2)
      (fun _ _ v u W hp ht hr _ hr2 hf => impl_ComposeWhole_yes qs ps v u W hp ht hr hr2 hf hR h1 h2)
  · exact law_ComposeWhole rs xs v u w hv hlr hu hl hP hT false false [] (by simp)
      (fun _ _ v u W hr _ hr2 hf => spec_ComposeWhole_no rs xs v u W hr hr2 hf hl hlr hx h)
      (fun _ _ v u W hp ht hr _ hr2 hf => impl_ComposeWhole_no rs xs v u W hp ht hr hr2 hf hl h)
end Go.Proofs.YtejkejfhahmhcaaDoor
